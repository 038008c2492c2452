import PyProof.Rows.All
import Wide.All
import OpenK.AllK
import Wide.FinOn
import Lean
import PyProof.EqAt
import PyProof.EqKinds
import PyProof.TupleCall
import KE.KDictOf
import PyProof.AttrMissHeap
import KE.KRevIter
import PyProof.DictWalks
import PyProof.MinMaxWalk
import PyProof.SeqI3
import PyProof.WalkInts
import PyProof.ExcInit
import PyProof.InstStoreFacts
import PyProof.DictCompW
import PySem.Challenge.RW_errands_k29_whole_seen
set_option Elab.async false
set_option linter.all false
set_option maxRecDepth 100000
set_option maxHeartbeats 0
open PySem renaming wpAny_bind->a7,wpAny_pure->a9,Value->af,Shared->al,Addr->am,wpAny->au,model->az,starEach->aJ,cellsFrom->bg,Program->bq,wpAny_setState_of->bw,wpAny_mono->bA,compareOp->bC,wpAny_call_entry->bD,boot_len->bF,wpAny_newObj_type->bH,World->bL,Heap->bT,mainGlobals->bX,Expr->bY,rawInt->cr,wpAny_callSpecial?_slot->cu,Around->cy,wpAny_truthy_bool->cK,Stmt->db,wpAny_rule->df,wpAny_holding->dw,mem_of_lookup->dA,wpAny_field->dR,eval->eD,foldedSetIterable->eF,sysModules->fi,FuncData->fz,wpAny_of_eq->fA,wpAny_seqItems->fB,fits_of_scanBound->fP,wpAny_isInstance->gC,wpAny_pyIter_tuple->gI,binaryOp->gJ,cLine->gK,wpAny_setField->gL,letOwnedTupleGo->hW,codeAny_builtin->hZ,behindInMarks->i4,Scope->ij,swapsWith->iq,wpAny_askSetting->ir,setField->iu,strIterType->iI,wpAny_typeNameOfWhole_keyiter->iK,bootBuiltins->iL,backTo->iM,assignEach->iN,wpAny_setField_rec->iP,wpAny_passesOwn->iX,wpAny_standAt->j9,scanBound->jf,wpAny_storeSet_of->jk,sizeLine_eq->jw,codeAny->jL,Builtin->jN,wpAny_attempt->kq,IsPair->kF,pyNext->lF,NameKind->lG,SetTable->lI,firstArgMember->lJ,sliceBounds->mZ,wpAny_execs_nil->nW,pickOrder->pq,wpAny_Call_Name_kw->pB,tupleKind_room_in1->pE,wpAny_pyIter_list->qK,getItem->qL,assign->qR,wpAny_comprehension_free->qV,plainId_quiet->qX,tupleKind->sX,DictEntry->sY,raiseNew->sZ,codeAny_mono->tZ,wpAny_typeOf->t_,newExc->u0,pushCells_keeps->uL,isTrue->vZ,IsPart->v_,newFunctionEnv->wa,relayAll->wc,unsupported->we,isSubtype_stop->wf,IsZip->wg,wpAny_updateSeq_pair->wj,standAt->xc,callerA->xg,swapsWithSole->xZ,swappedStores->x_,wpAny_onRaise->yc,pyIter->yz,BindsTo->Av,concat_meets->Aw,valueAt->Ax,wpAny_pyIter_slot->Az,collect->AB,wpAny_dictEntries->AG,wpAny_eqBool_str->Ch,noFill_tuple_add->Ci,PyData->Co,subscripted->DS,codeAny_of_tree->DX,wpAny_dictEpoch->DZ,Keyword->G5,Paired->Gi,GenState->Gj,atKey->Go,wpAny_runValue->Gp,entryFor_alias->Gq,isSubtype_type->Gr,wpAny_fieldsOf->Gs,field->Gu,assignInOrder->J_,seq_tuple_add->K2,attributeBase->K4,call->K5,wpAny_handled->K8,wpAny_newList->K9,Drawn->LJ,lastMarks->LK,bindL->LM,bindC->LN,seqItems?->LP,sub_set_self->M4,setNext->M5,wpAny_isTrue_Compare1->PJ,builtinLookup_eq_fast->PL,wpAny_isOneOf_keyiter->PN,bindName->PZ,again->P_,bindArgs->Q0,keywordEach->Q1,wpAny_alloc->Q3,Walks->Q4,entryFor->Q7,newTuple->Q8,wpAny_throw->Q9,ZipApart->Qa,wpAny_letGo->Qc,wpAny_pyIter_keyiter->Qk
open PySem.W renaming Frag->a8,kia_one->cL,keepIn->dB,fnOf->gz,nsMap_none_of_in->gM,cellsFrom_some->i6,nsIn->i7,mroIn->io,findIn->my,codeIn->mz,kitOne->qS,mg_of->tG,isNs_of_in->u6,methodObj->uP,kitx_list->uQ,instObj->xE,OpenLaw->xG,lookIn->yA,clsIn->AF,kitx_tuple->Gk,callWith_K->Gm,codeRec_of->Gn,specialIn->Il,kitx_dict->Im,plainGet->K1,takesIn->LL,typeIn->Mb,nsOkIn->Mc,WalkO->PK,subIn->PM
open PySem.Heap renaming get?_push_of_some->ac,lt_size->ar,get?_push_size->ax,SameBut->bG,size_push->cg,get?_update_other->fO,get?_update_self->gm,size_update->yf,IsTuple->G7,ExtBut->Ip,get?_push_ne->Mf
open List renaming mem_cons_of_mem->ai,getElem?_set_ne->aj,mem_cons_self->ak,length_map->ao,map_cons->av,getElem?_set_self->aG,mem_append_right->aL,length_cons->aP,length_append->aR,size_toArray->aT,getElem?_map->aU,mem_cons->aZ,getElem?_append_right->ba,getElem?_eq_getElem->bc,not_mem_nil->bi,mem_map_of_mem->bn,range->bx,find?_cons->bI,length_nil->bJ,getElem?_append_left->bO,mem_append_left->bV,mem_singleton->c6,map_append->c7,map_map->ca,all_eq_true->cf,getElem?_replicate->cn,getElem?_eq_none->cD,append_nil->cS,lookup_cons->cX,length_replicate->c_,map_nil->du,length_singleton->dI,any_cons->ed,extract_eq_drop_take'->el,foldl_cons->eE,length_range->fo,mem_append->fw,nodup_nil->gd,getD_eq_getElem?_getD->gg,take_append_drop->gq,nil_append->gO,append_assoc->gR,mem_map->gS,pairwise_append->gT,map_congr_left->h_,mem_of_getElem?->jb,getElem_mem->jj,any_eq_true->jl,filter_sublist->jr,sublist_append_left->jF,forIn_cons->jM,nodup_cons->jQ,pairwise_cons->jV,getElem?_cons_succ->jW,take_of_length_le->kA,mem_iff_getElem?->lm,pairwise_reverse->lr,mem_reverse->lE,length->lQ,map->lR,filterMap_cons->mx,all_map->mY,filterMap_map->ni,forIn_nil->nj,perm_ext_iff_of_nodup->nu,getElem?_eq_some_iff->oF,pairwise_iff_getElem->oG,reverse_perm->oJ,length_zip->qZ,length_filter_le->se,replicate->tx,reverse_append->uO,all_cons->uT,getElem?_drop->vV,zip_cons_cons->vW,set_cons_zero->vX,set_cons_succ->vY,any_eq_false->xf,any_map->xj,length_filterMap_eq_countP->xJ,length_take->y0,length_drop->y8,ext_getElem->y9,zipIdx_cons->yb,getElem_map->ye,lookup->yB,of_mem_zip->An,mem_filter->Aq,length_eraseIdx_of_lt->Bj,drop_drop->Bl,drop_eq_getElem_cons->Cj,length_erase_of_mem->DV,getElem?_cons_zero->DY,pairwise_singleton->D_,filter_cons_of_pos->E1,reverse_singleton->Ga,length_pos_of_mem->Gc,mem_erase_of_ne->Iv,getElem_of_mem->Ka,getElem?_range->Kb,replicate_succ->Kh,replicate_zero->Ki,lookup_append->LO,map_inj_right->LU,getElem_range->LV,getElem?_take->LW,nodup_append->M3,ext_getElem?->M6,take_add_one->Md,mapM_toArray->Me,isEmpty_cons->Mi,getElem_inj->PH,countP_cons->PP,map_snd_zip->PQ,cons_append->PR,zipIdx_nil->Qb
open Array renaming length_toList->ap,getElem?_toList->aQ,getElem?_eq_getElem->bM,toList_append->cq,getElem?_eq_none->dm,getElem?_eq_some_iff->g6,toList_extract->gN,getElem?_extract->ik,toList_push->iF,getD_eq_getD_getElem?->iJ,size_map->kr,eq_empty_of_size_eq_zero->ll,toList_reverse->tf,all_toList->xK,toList_inj->xL,replicate->yC,toList_setIfInBounds->AE,size_setIfInBounds->Cq,toArray_toList->Gv,append_assoc->JZ,find?_toList->K0,forIn_toList->Ke,size_extract->Kf,toList_zip->Mh
open Nat renaming le_refl->aq,lt_of_lt_of_le->aE,ne_of_lt->aH,lt_irrefl->bN,le_trans->ck,le_of_lt->cm,zero_le->cJ,lt_or_ge->cO,lt_succ_of_lt->er,zero_add->eu,ne_of_gt->fc,lt_trans->fe,lt_succ_self->f_,eq_zero_or_pos->gn,le_succ->ko,lt_succ_of_le->kE,min_eq_left->mB,add_zero->m_,min_le_right->qG,lt_of_le_of_lt->w9,lt_asymm->xH,le_of_lt_succ->xI,le_succ_of_le->xM,mod_lt->Ck,mul_comm->Gw,succ_pos->Gx,lt_of_succ_lt_succ->Gy,min_self->GA,add_lt_add_right->Kc,le_of_not_lt->Q2,le_add_right->Qd,reduceLeDiff->Qn,reduceEqDiff->Qo
open PyProof.Rows renaming wpS_bind->aA,arrOf->aM,wpS_pure->aN,boot_tuple->aV,pendingOf->bK,boot_all->cz,Keyed->cA,wpS_forRange->cV,SortSt->eA,wpS_mono->eG,slot_tuple_getitem->gj,callWith_type1->i5,seqObj->ji,boot_list->jt,boot_sorted->ml,wpS_get->mX,SortKind->n5,wpS_modify->pF,AllBare->qJ,StrsAre->qM,envOfC->qT,wpS_lift->t5,failedOf->wl,assignInOrder_cons->yy,boot_any->yD,boot_str->yE,mem_zip_self->AH,minRun'->Gb,mirror->Gz,subscriptTail->K3,listUpdate_at->Kg,subscriptTail_builtinR->M1,IntsAre->M2,seqEpoch_at->Qm
open PySem.PyData renaming str->aO,eqv->aY,canLayAll0->cc,bool->cU,canLay0->dh,list->dk,int->eK,eqvAll->eU,tuple->fK,depth->qA,depthAll->yg,dict->G9,none->Gd
open Bool renaming and_eq_true->aS,false_ne_true->bf,false_eq_true->bu,not_false->jg,not_true->jE,or_eq_true->jP,and_self->pv,eq_iff_iff->qY,beq_eq_decide_eq->r_,and_false->tF,true_and->uU,noConfusion->yd,false_and->Bh,or_eq_false_iff->Ir,not_eq_true'->Ma
open PySem.Value renaming ref->bt,none->e8,type->iW,str->jU,int->pA,isStrOf->uK,bool->JY
open PySem.Heap.SameBut renaming update->bE
open Option.some renaming inj->bQ,injEq->DU
open PySem.NameKind renaming free->cw,cell->dZ,«local»->qO
open PySem.SetTable renaming sizeAbove->cx,grown->iG,below->iH,fits->nl,bits->nr,turns->qN,layClean->uM,laid->Ao,orStandIn->G6,relaid->K6,fill->M8,road->M9
open PySem.Builtin.SmallTypes renaming nextOf->cC,ownedTupleIsFree->eN,ownedTupleHandOut->nq
open Option renaming map_some->cR,getD_none->hX,getD_some->kS,isSome_map->vU,bind_some->xi,isSome_some->Io
open Ne renaming symm->cY
open PySem.SetTable.layClean renaming free->dJ
open PySem.Obj renaming mapFields->eg,mapSeq->gY,putSet->qW,data_mapFields->M7
open Int renaming toNat_of_nonneg->eC,toNat_natCast->kC,emod_lt_of_pos->nZ,eq_ofNat_of_zero_le->qH,emod_nonneg->s9,reduceLT->GB
open List.Sublist renaming refl->eO
open Or renaming inr->e_,inl->iz
open PySem.Around renaming under_plainId->f9
open PySem.F renaming slot_dict_keyiterator_next->fQ,slot_tuple_iterator_next->jm,args_tuple_add_2->nX,entry_tuple_add->oH,slot_tuple_add->pC,plain_list_iadd->qz,args_dict_keyiterator_next_1->t4,slot_zip_next->tE,entry_dict_keyiterator_next->tH,slot_tuple_lt->tJ,slot_list_append->AC,type_list_append->AD,plainAttrs_list->Bk,args_tuple_iterator_next_1->Cm,slot_dict_iter->Cr,entry_tuple_iterator_next->DT,entry_proto_collect->LQ,plain_proto_collect->LR,slot_enumerate_next->LS
open ForInStep renaming yield->gf
open PySem.AutoSeq1 renaming wpAny_loadPart'->gx
open PySem.Str renaming ofString->gW
open PySem.Builtin.Slice renaming slicePlaces->iy,sliceAdjust->lH,sliceApplied->uR
open PyProof.Rows.F renaming plain_set_update_loop->iA,entry_set_update_loop->pp
open PySem.Builtin.Tuple renaming tupleExact->iO,tupleItemsOf->uS
open Sum renaming inr->iV,inl->xD
open False renaming elim->iY
open True renaming intro->ja
open PySem.Paired renaming length->jq
open PySem.Builtin.Frozenset renaming updateFrom->jO,isAnySet->s_,sizeOf->u4,copyOf->u5,newClass->Q5,oneOther->Qe,addrOf->Qf,slot1->Qg,baseOf->Qh,merge->Qi,unchanged->Qj
open PySem.Builtin.List renaming listExtendWith->kR,listSameRef->xh
open PySem.Builtin.Dict_items renaming ownsTuple->mn
open PySem.Calls renaming call_function_entry->nY,Name_function_global->Au
open List.Perm renaming trans->pz,of_eq->Iu
open List.Pairwise renaming nil->qU
open List.cons renaming inj->sd,injEq->wn
open And renaming intro->uN
open PySem.PassesOwn renaming never->wk
open PyProof.Rows.IsTup renaming new->xF
open PySem.Heap.FunFrames renaming mem->Ap
open Classical renaming propDecidable->Ar
open PySem.pickOrder renaming go->Ay
open PySem.SetTable.below renaming go->AA
open PySem.SeqAt.EqAt renaming int_str->DQ,str_int->DR
open PySem.Shared renaming heap->G8,TypeIs->Q6
open PySem.Value.type renaming inj->Iq
open PySem.Walks renaming list->K7
open Eq renaming refl->Ql
section
namespace L2
open PySem PySem.Spec PyProof.Rows
abbrev gD:=Sum Int Str
def yF:gD->af->Bool
 |.inl k,v=>Value.isInt k v
 |.inr x,v=>uK x v
def XD (w:bL):gD->Int
 |.inl k=>hashInt k
 |.inr x=>hashStr w x
theorem fL:∀ {k:gD}{v:af},yF k v=true->(∃ i t,k=xD i/\v=pA i t)\/(∃ x t,k=iV x/\v=jU x t)
 |.inl i,v,h=>by
  obtain ⟨t,e⟩:=Value.isInt_shape (k:=i) (v:=v) h;exact .inl ⟨i,t,rfl,e⟩
 |.inr x,v,h=>by
  obtain ⟨t,e⟩:=Value.isStrOf_shape (x:=x) (v:=v) h;exact .inr ⟨x,t,rfl,e⟩
theorem Kj (i:Int) (t:Tok):yF (.inl i) (.int i t)=true:=by simp [yF,Value.isInt]
theorem Kk (x:Str) (t:Tok):yF (.inr x) (.str x t)=true:=by simp [yF,uK]
theorem Tw (a b:Int):decide ((xD a:gD)=xD b)=(a==b):=by
 by_cases e:a=b
 ·subst e;simp
 ·have h:¬ (xD a:gD)=xD b:=fun q=>e (Sum.inl.inj q);rw [decide_eq_false h];exact (beq_eq_false_iff_ne.mpr e).symm
theorem Tx (a b:Str):decide ((iV a:gD)=iV b)=decide (a=b):=by
 by_cases e:a=b
 ·subst e;simp
 ·have h:¬ (iV a:gD)=iV b:=fun q=>e (Sum.inr.inj q);rw [decide_eq_false h,decide_eq_false e]
theorem Tz (a:Int) (b:Str):decide ((xD a:gD)=iV b)=false:=decide_eq_false (fun q=>nomatch q)
theorem TC (a:Str) (b:Int):decide ((iV a:gD)=xD b)=false:=decide_eq_false (fun q=>nomatch q)
def gE (prog:bq) (w:bL):PySem.KeyKind prog w gD where
 is:=yF
 hash:=XD w
 inj:=fun v a b ha hb=>by
  rcases fL ha with ⟨i,t,rfl,rfl⟩|⟨x,t,rfl,rfl⟩
  ·rcases fL hb with ⟨j,u,rfl,e⟩|⟨y,u,rfl,e⟩
   ·injection e with e1 _;rw [e1]
   ·exact nomatch e
  ·rcases fL hb with ⟨j,u,rfl,e⟩|⟨y,u,rfl,e⟩
   ·exact nomatch e
   ·injection e with e1 _;rw [e1]
 byValue:=fun k v h=>by
  rcases fL h with ⟨i,t,rfl,rfl⟩|⟨x,t,rfl,rfl⟩<;>rfl
 pyHash:=fun hv h=>by
  rcases fL hv with ⟨i,t,rfl,rfl⟩|⟨x,t,rfl,rfl⟩
  ·exact wpAny_pyHash_int h
  ·exact wpAny_pyHash_str h
 eqBool:=fun hu hv h=>by
  rcases fL hu with ⟨i,t,rfl,rfl⟩|⟨x,t,rfl,rfl⟩
  ·rcases fL hv with ⟨j,u,rfl,rfl⟩|⟨y,u,rfl,rfl⟩
   ·rw [Tw] at h;exact wpAny_eqBool_int h
   ·rw [Tz] at h;exact DQ i t y u _ _ _ _ h
  ·rcases fL hv with ⟨j,u,rfl,rfl⟩|⟨y,u,rfl,rfl⟩
   ·rw [TC] at h;exact DR x t j u _ _ _ _ h
   ·rw [Tx] at h;exact Ch h
 «strs»:=fun k x t v h=>by
  rcases fL h with ⟨i,u,rfl,e⟩|⟨y,u,rfl,e⟩
  ·exact nomatch e
  ·injection e with e1 _
   subst e1
   cases v<;>rfl
theorem E2 (prog:bq) (w:bL) (i:Int) (t:Tok):(gE prog w).is (.inl i) (.int i t)=true:=Kj i t
theorem E3 (prog:bq) (w:bL) (x:Str) (t:Tok):(gE prog w).is (.inr x) (.str x t)=true:=Kk x t
end L2
namespace L2
open PySem PySem.Spec PyProof.Rows
inductive V where
 |non|bl (b:Bool)|int (i:Int)|str (x:Str)|byt (b:Array UInt8)|flt (b:UInt64)|ref (a:am)|ty (n:String)
 deriving DecidableEq
def dv:V->af->Prop
 |.non,u=>u=e8
 |.bl b,u=>u=JY b
 |.int i,u=>∃ t,u=pA i t
 |.str x,u=>∃ t,u=jU x t
 |.byt b,u=>∃ t,u=Value.bytes b t
 |.flt b,u=>∃ t,u=Value.float b t
 |.ref a,u=>u=bt a
 |.ty n,u=>u=iW n
abbrev dC:List V->List af->Prop:=Gi dv
theorem dC.length  (r:dC xs us):xs.length=us.length:=jq r
theorem dC.get  (h:dC xs us):∀ {i:Nat}{x:V},xs[i]?=some x->∃ u,us[i]?=some u/\dv x u:=by
 induction h with
 |nil=>intro i x e;cases e
 |cons r t ih =>
  intro i x e;cases i with
  |zero=>cases e;exact ⟨_,rfl,r⟩
  |succ i=>have q:=ih (i:=i) e;exact q
theorem dC.append  (h:dC xs us) (s:dC ys ws):dC (xs++ys) (us++ws):=by
 induction h with
 |nil=>exact s
 |cons r t ih=>exact .cons r ih
theorem dC.take:∀ {xs:List V}{us:List af} (n:Nat),dC xs us->dC (xs.take n) (us.take n)
 |_,_,0,_=>.nil
 |_,_,_+1,.nil=>.nil
 |_,_,n+1,.cons r t=>.cons r (dC.take n t)
theorem dC.drop:∀ {xs:List V}{us:List af} (n:Nat),dC xs us->dC (xs.drop n) (us.drop n)
 |_,_,0,r=>r
 |_,_,_+1,.nil=>.nil
 |_,_,n+1,.cons _ t=>dC.drop n t
def yG:Option V->Option af->Prop
 |some v,some u=>dv v u
 |none,none=>True
 |_,_=>False
def KV {κ:Type}:List (κ×V)->List (κ×af)->Prop:=Gi fun (p:κ×V) (q:κ×af)=>p.1=q.1/\dv p.2 q.2
def kV:gD->V
 |.inl i=>.int i
 |.inr x=>.str x
inductive HO where
 |lst (xs:List V)
 |tup (xs:List V)
 |dK (kvs:List (gD×V))|dT (kvs:List (List gD×V))
 |set (S:Int->Bool) (n:Nat)
 |ins (C dx:am) (fs:List (Str×V))
 |own (x:am)
 |xd (fs:List (Str×V))
 |met (f x:am)
 |rng (lo hi:Int)
 |frz (o:Obj) (u:HO)
 |tbl (ps:Array af)
 |ext (φ:bT->Prop)
abbrev Hp:=am->Option HO
def upd (H:Hp) (a:am) (o:HO):Hp:=fun b=>if b=a then some o else H b
theorem b9   : upd H a o a=some o:=by unfold upd;rw [if_pos rfl]
theorem bd   (h:b≠a):upd H a o b=H b:=by unfold upd;rw [if_neg h]
theorem Mj {H:Hp}{a b:am}{o u:HO} (h:H a=some o) (h':H b=some u) (d:o≠u):a≠b:=by
 intro e;subst e;rw [h] at h';exact d (bQ h')
theorem bU {H:Hp}{a b:am}{o:HO} (h:H a=some o) (h':H b=none):a≠b:=by
 intro e;subst e;rw [h] at h';cases h'
section
variable (P:bq) (w:bL)
def dz (H:Hp) (h:bT) (a:am):HO->Prop
 |.lst xs=>xs.length<=sizeLine/\∃ (its:List af) (n:Nat),dC xs its/\h.get? a=some { cls:=.type "list",data:=.seq its.toArray n }
 |.tup xs=>xs.length<=sizeLine/\∃ its:List af,dC xs its/\IsTup h a its.toArray
 |.dK kvs=>kvs.length<=sizeLine/\(a==fi)=false/\∃ vs,KV kvs vs/\h.DictOf (gE P w) a vs
 |.dT kvs=>kvs.length<=sizeLine/\(a==fi)=false/\∃ xs:List (List gD×am×af),
   Gi (fun (p:List gD×V) (q:List gD×am×af)=>p.1=q.1/\H q.2.1=some (.tup (p.1.map kV))/\dv p.2 q.2.2) kvs xs /\
   ∃ o es ep,h.get? a=some o/\o.ExactDict/\o.data=.dict es ep/\es.toList=xs.map (entryOfKey (sX (gE P w)))/\(xs.map (·.1)).Nodup
 |.set S n=>h.SetOf (intKind P w) a S n
 |.ins C dx fs=>H dx=some (.own a)/\fs.length<=1000/\dx≠a/\h.get? a=some (xE C dx) /\
   ∃ mA,h.Ns1 dx mA/\(∀ f,yG (fs.lookup f) (mA f))/\PySem.Within mA (fs.map (·.1))
 |.own _=>∃ o,h.get? a=some o
 |.xd fs=>∃ mA,h.Ns1 a mA/\∀ f,yG (fs.lookup f) (mA f)
 |.rng lo hi=>∃ t u v,h.get? a=some { cls:=.type "range",data:=.fields #[.int lo t,.int hi u,.int 1 v] }
 |.frz o u=>h.get? a=some o/\dz H h a u
 |.tbl ps=>h.get? a=some { cls:=.none,data:=.fields ps }
 |.met f x=>h.get? a=some (uP (.ref f) (.ref x))
 |.ext φ=>φ h/\(∃ o,h.get? a=some o)/\∀ h1 h2:bT,φ h1->(∀ o,h1.get? a=some o->h2.get? a=some o)->φ h2
def qP (H:Hp) (h:bT):Prop:=∀ a o,H a=some o->dz P w H h a o
end
section
theorem dz.lt (x:dz P w H h a o):a<h.objs.size:=by
 cases o with
 |lst xs=>obtain ⟨_,_,_,_,e⟩:=x;exact ar e
 |tup xs=>obtain ⟨_,_,_,p⟩:=x;exact p.lt
 |dK kvs=>obtain ⟨_,_,_,_,o,_,_,e,_⟩:=x;exact ar e
 |dT kvs=>obtain ⟨_,_,_,_,o,_,_,e,_⟩:=x;exact ar e
 |set S n=>obtain ⟨o,_,_,_,e,_⟩:=x;exact ar e
 |ins C dx fs=>obtain ⟨_,_,_,e,_⟩:=x;exact ar e
 |own y=>obtain ⟨_,e⟩:=x;exact ar e
 |xd fs=>obtain ⟨_,⟨_,_,_,e,_⟩,_⟩:=x;exact ar e
 |rng lo hi=>obtain ⟨_,_,_,e⟩:=x;exact ar e
 |frz ob u=>obtain ⟨e,_⟩:=x;exact ar e
 |tbl ps=>exact ar (show h.get? a=some _ from x)
 |met f y=>exact ar (show h.get? a=some _ from x)
 |ext φ=>obtain ⟨_,⟨_,e⟩,_⟩:=x;exact ar e
theorem Paired.mapP {α β:Type}{F G:α->β->Prop}{l₁:List α}{l₂:List β} (h:Gi F l₁ l₂) (f:∀ a b,F a b->G a b):Gi G l₁ l₂:=by
 induction h with
 |nil=>exact .nil
 |cons r t ih=>exact .cons (f _ _ r) ih
theorem dz.stay (x:dz P w H h a o) (k:∀ b u,(b=a\/H b=some (.own a))->h.get? b=some u->h'.get? b=some u)
  (ho:∀ b,H b=some (.own a)->H' b=some (.own a)) (ht:∀ b xs,H b=some (.tup xs)->H' b=some (.tup xs)):dz P w H' h' a o:=by
 induction o with
 |lst xs=>obtain ⟨z,its,n,r,e⟩:=x;exact ⟨z,its,n,r,k _ _ (.inl rfl) e⟩
 |tup xs=>obtain ⟨z,its,r,ob,e,c⟩:=x;exact ⟨z,its,r,ob,k _ _ (.inl rfl) e,c⟩
 |dK kvs=>obtain ⟨z,y,vs,r,ob,es,ep,e,c⟩:=x;exact ⟨z,y,vs,r,ob,es,ep,k _ _ (.inl rfl) e,c⟩
 |dT kvs =>
  obtain ⟨z,y,xs,r,ob,es,ep,e,c⟩:=x;exact ⟨z,y,xs,Paired.mapP r fun p q z=>⟨z.1,ht _ _ z.2.1,z.2.2⟩,ob,es,ep,k _ _ (.inl rfl) e,c⟩
 |set S n=>obtain ⟨ob,es,ep,t,e,c⟩:=x;exact ⟨ob,es,ep,t,k _ _ (.inl rfl) e,c⟩
 |ins C dx fs =>
  obtain ⟨d,z,ne,e,mA,⟨od,es,ep,e2,c⟩,r⟩:=x;exact ⟨ho _ d,z,ne,k _ _ (.inl rfl) e,mA,⟨od,es,ep,k _ _ (.inr d) e2,c⟩,r⟩
 |own y=>obtain ⟨ob,e⟩:=x;exact ⟨ob,k _ _ (.inl rfl) e⟩
 |xd fs=>obtain ⟨mA,⟨od,es,ep,e,c⟩,r⟩:=x;exact ⟨mA,⟨od,es,ep,k _ _ (.inl rfl) e,c⟩,r⟩
 |rng lo hi=>obtain ⟨t,u,v,e⟩:=x;exact ⟨t,u,v,k _ _ (.inl rfl) e⟩
 |frz ob u ih=>obtain ⟨e,q⟩:=x;exact ⟨k _ _ (.inl rfl) e,ih q⟩
 |tbl ps =>
  have e:h.get? a=some { cls:=.none,data:=.fields ps }:=x;show h'.get? a=some { cls:=.none,data:=.fields ps };exact k a _ (.inl rfl) e
 |met f y =>
  have e:h.get? a=some (uP (.ref f) (.ref y)):=x;show h'.get? a=some (uP (.ref f) (.ref y));exact k a _ (.inl rfl) e
 |ext φ=>obtain ⟨p,⟨o,e⟩,st⟩:=x;exact ⟨st _ _ p fun o q=>k _ _ (.inl rfl) q,⟨o,k _ _ (.inl rfl) e⟩,st⟩
theorem qP.lt (x:qP P w H h) (e:H a=some o):a<h.objs.size:=(x a o e).lt
theorem qP.fresh (x:qP P w H h) (e:h.objs.size<=a):H a=none:=by
 cases q:H a with
 |none=>rfl
 |some u=>exact absurd (aE (x.lt q) e) (bN _)
theorem qP.kept (x:qP P w H h) (k:∀ b u,h.get? b=some u->h'.get? b=some u):qP P w H h':=fun a o e =>
 (x a o e).stay (fun b u _ q=>k b u q) (fun _ q=>q) fun _ _ q=>q
theorem qP.laid (x:qP P w H h) (k:∀ b u,h.get? b=some u->h'.get? b=some u) (hp:h.objs.size<=a) (new:dz P w (upd H a o) h' a o):qP P w (upd H a o) h':=fun b u e=>by
 have hn:=x.fresh hp;by_cases hb:b=a
 ·subst hb;rw [b9] at e;cases e;exact new
 ·rw [bd hb] at e;exact (x b u e).stay (fun c v _ q=>k c v q) (fun c q=>by rw [bd (bU q hn)];exact q) fun c xs q=>by rw [bd (bU q hn)];exact q
end
def Rd (H:Hp) (a:am) (u:HO):Prop:=H a=some u\/∃ o,H a=some (.frz o u)
theorem Rd.of   (h:H a=some u):Rd H a u:=.inl h
theorem Rd.ok      (r:Rd H a u) (x:qP P w H h):dz P w H h a u:=by
 rcases r with r|⟨o,r⟩
 ·exact x a u r
 ·obtain ⟨_,q⟩:=x a _ r;exact q
def Vr:Option HO->Prop
 |some (.lst _)=>True
 |some (.dK _)=>True
 |some (.dT _)=>True
 |some (.set _ _)=>True
 |some (.ins _ _ _)=>True
 |some (.ext _)=>True
 |_=>False
section
theorem qP.write (ok:qP P w H h) (mu:Vr (H x)) (he:e=x\/H e=some (.own x)) (k:∀ b u,b≠e->h.get? b=some u->h'.get? b=some u) (heo:∃ u,h'.get? e=some u)
  (new:dz P w (upd H x o') h' x o'):qP P w (upd H x o') h':=fun b u q=>by
 have nown:∀ c y,H c=some (.own y)->c≠x:=fun c y r z=>by subst z;rw [r] at mu;exact mu
 have ntup:∀ c xs,H c=some (.tup xs)->c≠x:=fun c xs r z=>by subst z;rw [r] at mu;exact mu
 by_cases hb:b=x
 ·subst hb;rw [b9] at q;cases q;exact new
 ·rw [bd hb] at q;by_cases hbe:b=e
  ·have q':H b=some (.own x):=by
    rcases he with z|z
    ·exact absurd (hbe.trans z) hb
    ·rw [hbe];exact z
   rw [q] at q';cases q';obtain ⟨v,hv⟩:=heo;exact ⟨v,by rw [hbe];exact hv⟩
  ·refine (ok b u q).stay (fun c v hc r=>k c v ?_ r) (fun c r=>by rw [bd (nown c b r)];exact r) fun c xs r=>by rw [bd (ntup c xs r)];exact r
   rcases hc with rfl|hc
   ·exact hbe
   ·rintro rfl;rcases he with z|z
    ·exact nown c b hc z
    ·rw [hc] at z;cases z;exact hb rfl
end
structure Un (fs ex:List am) (H H':Hp) (h h':bT):Prop where
 keep:∀ b o,h.get? b=some o->H b=none->b∉fs->b∉ex->h'.get? b=some o
 slot:∀ b o,h.get? b=some o->H b=none->b∈fs->b∉ex->∃ sl,h'.get? b=some { o with slots:=sl }
 free:∀ b o,h.get? b=some o->H b=none->b∉ex->H' b=none
 there:∀ b o,h.get? b=some o->b∉ex->∃ o',h'.get? b=some o'
 tups:∀ b xs,H b=some (.tup xs)->H' b=some (.tup xs)
 frzs:∀ b o u,H b=some (.frz o u)->H' b=some (.frz o u)
 tbls:∀ b ps,H b=some (.tbl ps)->∃ more,H' b=some (.tbl (ps++more))
section
theorem Un.any (u:Un fs ex H H1 h h1)  (q:h.get? b=some ob) (n:H b=none) (hx:b∉ex):∃ sl,h1.get? b=some { ob with slots:=sl }:=by
 by_cases hb:b∈fs
 ·exact u.slot b ob q n hb hx
 ·exact ⟨ob.slots,u.keep b ob q n hb hx⟩
theorem Un.kept (k:∀ b u,h.get? b=some u->h'.get? b=some u):Un fs ex H H h h' :=
 ⟨fun b ob q _ _ _=>k b ob q,fun b ob q _ _ _=>⟨ob.slots,k b ob q⟩,fun _ _ _ n _=>n,fun b ob q _=>⟨ob,k b ob q⟩,fun _ _ q=>q,fun _ _ _ q=>q,fun _ ps q=>⟨#[],by rw [q];simp⟩⟩
theorem Un.refl:Un fs ex H H h h:=Un.kept fun _ _ q=>q
theorem Un.laid (k:∀ b u,h.get? b=some u->h'.get? b=some u) (hp:h.objs.size<=a) (hn:H a=none):Un fs ex H (upd H a o) h h' where
 keep:=fun b u q _ _ _=>k b u q
 slot:=fun b u q _ _ _=>⟨u.slots,k b u q⟩
 free:=fun b u q n _=>by rw [bd (aH (aE (ar q) hp))];exact n
 there:=fun b u q _=>⟨u,k b u q⟩
 tups:=fun b xs q=>by rw [bd (bU q hn)];exact q
 frzs:=fun b u xs q=>by rw [bd (bU q hn)];exact q
 tbls:=fun b ps q=>⟨#[],by rw [bd (bU q hn),q];simp⟩
theorem Un.write (mu:Vr (H x)) (he:e=x\/H e=some (.own x)) (k:∀ b u,b≠e->h.get? b=some u->h'.get? b=some u) (heo:∃ u,h'.get? e=some u):Un fs ex H (upd H x o) h h':=by
 have hx:∀ b,H b=none->b≠x:=fun b n z=>by subst z;rw [n] at mu;exact mu
 have hb:∀ b,H b=none->b≠e:=fun b n z=>by
  subst z;rcases he with r|r
  ·exact hx b n r
  ·rw [n] at r;cases r
 have hm:∀ b u,H b=some u->¬ Vr (some u)->b≠x:=fun b u q nm z=>by subst z;rw [q] at mu;exact nm mu
 refine ⟨fun b u q n _ _=>k b u (hb b n) q,fun b u q n _ _=>⟨u.slots,k b u (hb b n) q⟩,fun b u q n _=>by rw [bd (hx b n)];exact n,fun b u q _=>?_,
  fun b xs q=>by rw [bd (hm b _ q fun z=>z)];exact q,fun b u xs q=>by rw [bd (hm b _ q fun z=>z)];exact q,fun b ps q=>⟨#[],by rw [bd (hm b _ q fun z=>z),q];simp⟩⟩
 by_cases hbe:b=e
 ·subst hbe;exact heo
 ·exact ⟨u,k b u hbe q⟩
end
def Xo (h:bT) (H:Hp):List am:=(bx h.objs.size).filter fun a=>(H a).isSome
def Cs (h:bT) (H:Hp):bT:=PySem.W.hideAll h (Xo h H)
theorem Kl (h:bT) (H:Hp):(Cs h H).objs.size=h.objs.size:=PySem.W.hideAll_size _ _
theorem Mk    (e:h.get? b=some o) (n:H b=none):(Cs h H).get? b=some o :=
 PySem.W.hideAll_get _ e fun hm=>by
  have q:(H b).isSome=true:=(List.mem_filter.mp hm).2;rw [n] at q;simp at q
theorem Qp    (e:(Cs h H).get? b=some o):h.get? b=some o/\H b=none:=by
 have e':h.get? b=some o:=PySem.W.of_hideAll (Xo h H) e;refine ⟨e',?_⟩;cases q:H b with
 |none=>rfl
 |some x =>
  have hm:b∈Xo h H:=List.mem_filter.mpr ⟨List.mem_range.mpr (ar e'),by simp [q]⟩;have z:(Cs h H).get? b=none:=PySem.W.hideAll_none (Xo h H) hm;rw [z] at e;cases e
def Qq (g h:bT) (L:am):List (am×Obj):=(bx h.objs.size).filterMap fun a=>if a=L\/(g.get? a).isSome=true then none else (h.get? a).map fun o=>(a,o)
def cp (g h:bT) (L d:am):List (am×Obj):=(Qq g h L).filter fun p=>decide (p.1≠d)
end L2
namespace L2
open PySem PySem.Spec PyProof.Rows
structure Mod (K:a8) (mg:Str->Option af) (base:bT):Prop where
 kin:K.In base
 glob:base.Ns bX mg
 blt:∃ mb,base.Ns builtinsNs mb/\∀ x:Str,x≠"__name__"->mb x=iL x
 nolimit:base.NoLimit
structure Cx where
 prog:bq
 w:bL
 K:a8
 mg:Str->Option af
 base:bT
 A:cy
 N:List Str
 s₀:al
 H₀:Hp
 env:Env
 outer:List Env
 stack:List Env
 ex:List am
 fn:Str->Bool
 calm:Bool
 pn:List (am×Obj)
 xe:af->al->Prop
def yh (l:List Env):List am:=l.filterMap (·.frame)
abbrev Cx.fs (X:Cx):List am:=yh X.outer
def Ml (sc:ij) (x:Str):Prop:=sc.names.lookup x=some .local\/sc.names.lookup x=some .cell\/sc.names.lookup x=some .free
def S7 (sc:ij) (x:Str):Prop:=sc.names.lookup x=some .local\/sc.names.lookup x=some .cell
def XE (env:Env) (h:bT) (m:Str->Option af) (x:Str) (u:af):Prop :=
 (env.kindOf x=some .local/\m x=some u)\/((env.kindOf x=some .cell\/env.kindOf x=some .free)/\∃ c,env.cells.lookup x=some c/\h.IsCell c (some u))
structure Cx.Ok (X:Cx):Prop where
 mod:Mod X.K X.mg X.base
 kind:X.env.scope.kind=.function
 glob:X.env.globals=bX
 blt:X.env.builtins=builtinsNs
 above:X.s₀.heap.objs.size<=X.env.locals
 inj:∀ x y c,X.env.cells.lookup x=some c->X.env.cells.lookup y=some c->x=y
 has:∀ x,(X.env.kindOf x=some .cell\/X.env.kindOf x=some .free)->∃ c,X.env.cells.lookup x=some c
 cab:∀ x c,X.fn x=true->X.env.cells.lookup x=some c->X.s₀.heap.objs.size<=c
 hd:X.calm=true->X.A.handled=none
 frames:X.A.frames=some X.stack
 stk:X.stack=X.outer\/(X.stack=X.env::X.outer/\X.env.frame=some X.env.locals)
 exf:∀ b∈X.ex,b≠X.env.locals/\∀ x c,X.env.cells.lookup x=some c->c≠b
 bs:∀ b o,X.base.get? b=some o->X.s₀.heap.get? b=some o/\X.H₀ b=none
 bsz:X.base.objs.size<=X.s₀.heap.objs.size
 noex:∀ b o,X.base.get? b=some o->b∉X.ex
 exfs:∀ b∈X.ex,b∉X.fs
 funs:X.s₀.heap.FunFrames X.base X.outer
 frf:∀ b∈X.fs,X.H₀ b=none
structure bP (X:Cx) (pins:List (am×Obj)) (σ:List (Option V)) (H:Hp) (s:al):Prop where
 ok:X.Ok
 os:s.os=X.s₀.os
 bare:qJ s.gens
 base:Un X.fs X.ex X.H₀ H X.s₀.heap s.heap
 loc:∃ m,s.heap.Ns X.env.locals m/\∀ (i:Nat) (x:Str) (v:V),X.N[i]?=some x->σ[i]?=some (some v)->Ml X.env.scope x->∃ u,dv v u/\XE X.env s.heap m x u
 cell:∀ x c,X.env.cells.lookup x=some c->∃ v,s.heap.IsCell c v
 free:H X.env.locals=none
 freeC:∀ x c,X.env.cells.lookup x=some c->H c=none
 pin:∀ p∈X.pn++pins,s.heap.get? p.1=some p.2/\H p.1=none/\p.1≠X.env.locals/\p.1∉X.fs/\∀ v,p.2.data≠.cell v
 hok:qP X.prog X.w H s.heap
 len:σ.length=X.N.length
section
variable {X:Cx}{pins:List (am×Obj)}{σ:List (Option V)}{H H':Hp}{s:al}{h':bT}
theorem Cx.Ok.nofr (ok:X.Ok)  (e:X.base.get? b=some o):b∉X.fs:=fun hb=>by
 have:=(ok.funs.mem hb).1;rw [e] at this;cases this
theorem bP.bs (I:bP X pins σ H s):∀ b o,X.base.get? b=some o->s.heap.get? b=some o/\H b=none:=fun b o e =>
 ⟨I.base.keep b o (I.ok.bs b o e).1 (I.ok.bs b o e).2 (I.ok.nofr e) (I.ok.noex b o e),I.base.free b o (I.ok.bs b o e).1 (I.ok.bs b o e).2 (I.ok.noex b o e)⟩
theorem bP.bk (I:bP X pins σ H s):∀ b o,X.base.get? b=some o->s.heap.get? b=some o:=fun b o e=>(I.bs b o e).1
theorem bP.mod (I:bP X pins σ H s):Mod X.K X.mg X.base:=I.ok.mod
theorem bP.kIn (I:bP X pins σ H s):X.K.In s.heap:=I.ok.mod.kin.keeps I.bk
theorem bP.fr (I:bP X pins σ H s):∃ m,Fr X.base X.env.locals s.heap m :=
 let ⟨m,hn,_⟩:=I.loc
 ⟨m,hn,I.bk,ck I.ok.bsz I.ok.above⟩
theorem bP.lt (I:bP X pins σ H s):X.env.locals<s.heap.objs.size:=let ⟨_,hn,_⟩:=I.loc;hn.lt
theorem bP.sz (I:bP X pins σ H s):X.s₀.heap.objs.size<=s.heap.objs.size:=ck I.ok.above (cm I.lt)
theorem bP.nofs (I:bP X pins σ H s) (h:s.heap.objs.size<=a):a∉X.fs:=fun hb=>by
 obtain ⟨_,o,ho,_⟩:=I.ok.funs.mem hb;exact absurd (aE (ar ho) (ck I.sz h)) (bN _)
theorem bP.cne (I:bP X pins σ H s):∀ x c,X.env.cells.lookup x=some c->c≠X.env.locals:=fun x c e z=>by
 obtain ⟨v,o,ho,hd⟩:=I.cell x c e;obtain ⟨m,⟨o',es,ep,ho',hd',_⟩,_⟩:=I.loc;rw [z,ho'] at ho;cases ho;rw [hd'] at hd;cases hd
theorem bP.funs (I:bP X pins σ H s):s.heap.FunFrames X.base X.outer:=by
 have all:∀ (l:List Env),(∀ b∈yh l,b∈X.fs)->X.s₀.heap.FunFrames X.base l->s.heap.FunFrames X.base l:=by
  intro l;induction l with
  |nil=>intro _ _;trivial
  |cons env r ih =>
   intro hs hl;obtain ⟨hk,⟨L,o,hf,hn,ho,hd⟩,hr⟩:=hl;have hL:L∈X.fs:=hs L (by unfold yh;rw [mx,hf];exact ak);obtain ⟨sl,e⟩:=I.base.slot L o ho (I.ok.frf L hL) hL fun z=>I.ok.exfs L z hL;exact ⟨hk,⟨L,_,hf,hn,e,hd⟩,ih (fun b hb=>hs b (by unfold yh;rw [mx,hf];exact ai _ hb)) hr⟩
 exact all X.outer (fun _ hb=>hb) I.ok.funs
theorem bP.stack (I:bP X pins σ H s):s.heap.FunFrames X.base X.stack:=by
 rcases I.ok.stk with e|⟨e,hf⟩
 ·rw [e];exact I.funs
 ·rw [e];obtain ⟨m,hn,_⟩:=I.loc;refine .cons (by rw [I.ok.kind];decide) hf hn ?_ I.funs;exact Heap.get?_none_of_le (ck I.ok.bsz I.ok.above)
theorem bP.stkSub (I:bP X pins σ H s):∀ b∈yh X.stack,b∈X.env.locals::X.fs:=fun b hb=>by
 rcases I.ok.stk with e|⟨e,hf⟩
 ·rw [e] at hb;exact ai _ hb
 ·rw [e] at hb;unfold yh at hb;rw [mx,hf] at hb;exact hb
theorem bP.stkFree (I:bP X pins σ H s):∀ b∈yh X.stack,H b=none:=fun b hb=>by
 rcases List.mem_cons.mp (I.stkSub b hb) with e|hb
 ·rw [e];exact I.free
 ·obtain ⟨_,o,ho,_⟩:=I.ok.funs.mem hb;exact I.base.free b o ho (I.ok.frf b hb) fun z=>I.ok.exfs b z hb
theorem bP.step {g':Array Gj}{t':Nat}{d':LJ}{ch:List am} (I:bP X pins σ H s)
  (hch:∀ b∈ch,(b∈X.ex\/X.s₀.heap.objs.size<=b)/\b≠X.env.locals/\(∀ x c,X.env.cells.lookup x=some c->c≠b)/\∀ p∈X.pn++pins,p.1≠b)
  (keep:∀ b o,b≠X.env.locals->b∉X.fs->b∉ch->s.heap.get? b=some o->H b=none->h'.get? b=some o)
  (slot:∀ b o,b≠X.env.locals->b∈X.fs->b∉ch->s.heap.get? b=some o->H b=none->∃ sl,h'.get? b=some { o with slots:=sl }) (free:∀ b o,b∉ch->s.heap.get? b=some o->H b=none->H' b=none)
  (there:∀ b o,b∉ch->s.heap.get? b=some o->∃ o',h'.get? b=some o')
  (tups:∀ b xs,H b=some (.tup xs)->H' b=some (.tup xs)) (frzs:∀ b o u,H b=some (.frz o u)->H' b=some (.frz o u)) (tbls:∀ b ps,H b=some (.tbl ps)->∃ more,H' b=some (.tbl (ps++more)))
  (ns:∀ m,s.heap.Ns X.env.locals m->h'.Ns X.env.locals m) (hok:qP X.prog X.w H' h') (hg:qJ g') :
  bP X pins σ H' { s with heap:=h',gens:=g',drawn:=d',toks:=t' }:=by
 have neL:∀ b o,X.s₀.heap.get? b=some o->b≠X.env.locals:=fun b o e=>aH (aE (ar e) I.ok.above);have neC:∀ b o,X.s₀.heap.get? b=some o->b∉X.ex->b∉ch:=fun b o e hx hb=>by
  rcases (hch b hb).1 with z|z
  ·exact hx z
  ·exact absurd (aE (ar e) z) (bN _)
 have cellK:∀ x c,X.env.cells.lookup x=some c->∀ v,s.heap.IsCell c v->h'.IsCell c v:=fun x c e v h_0=>by
  obtain ⟨o,ho,hd⟩:=h_0;have nch:c∉ch:=fun z=>(hch c z).2.2.1 x c e rfl;by_cases hc:c∈X.fs
  ·obtain ⟨sl,q⟩:=slot c o (I.cne x c e) hc nch ho (I.freeC x c e);exact ⟨_,q,hd⟩
  ·exact ⟨o,keep c o (I.cne x c e) hc nch ho (I.freeC x c e),hd⟩
 refine ⟨I.ok,I.os,hg,⟨fun b o e n hb hx=>?_,fun b o e n hb hx=>?_,fun b o e n hx=>?_,fun b o e hx=>?_,fun b xs e=>tups b xs (I.base.tups b xs e),fun b o xs e=>frzs b o xs (I.base.frzs b o xs e),fun b ps e=>?_⟩,?_,fun x c e=>?_,?_,fun x c e=>?_,fun p hp=>?_,hok,I.len⟩
 ·exact keep b o (neL b o e) hb (neC b o e hx) (I.base.keep b o e n hb hx) (I.base.free b o e n hx)
 ·obtain ⟨sl,e1⟩:=I.base.slot b o e n hb hx;obtain ⟨sl',e2⟩:=slot b _ (neL b o e) hb (neC b o e hx) e1 (I.base.free b o e n hx);exact ⟨sl',e2⟩
 ·obtain ⟨o',e1⟩:=I.base.there b o e hx;exact free b o' (neC b o e hx) e1 (I.base.free b o e n hx)
 ·obtain ⟨o',e1⟩:=I.base.there b o e hx;exact there b o' (neC b o e hx) e1
 ·obtain ⟨m1,e1⟩:=I.base.tbls b ps e;obtain ⟨m2,e2⟩:=tbls b _ e1;exact ⟨m1++m2,by rw [e2,JZ]⟩
 ·obtain ⟨m,hn,hl⟩:=I.loc;refine ⟨m,ns m hn,fun i x v e1 e2 e3=>?_⟩;obtain ⟨u,r,l⟩:=hl i x v e1 e2 e3;refine ⟨u,r,?_⟩;rcases l with l|⟨k,c,e,z⟩
  ·exact .inl l
  ·exact .inr ⟨k,c,e,cellK x c e _ z⟩
 ·obtain ⟨v,z⟩:=I.cell x c e;exact ⟨v,cellK x c e v z⟩
 ·obtain ⟨m,⟨o,_,_,ho,_⟩,_⟩:=I.loc;exact free _ o (fun z=>(hch _ z).2.1 rfl) ho I.free
 ·obtain ⟨v,o,ho,hd⟩:=I.cell x c e;exact free c o (fun z=>(hch c z).2.2.1 x c e rfl) ho (I.freeC x c e)
 ·obtain ⟨e,n,ne,nf,d⟩:=I.pin p hp;have nch:p.1∉ch:=fun z=>(hch p.1 z).2.2.2 p hp rfl;exact ⟨keep p.1 p.2 ne nf nch e n,free p.1 p.2 nch e n,ne,nf,d⟩
theorem bP.un {t':Nat} (I:bP X pins σ H s) (u:Un X.fs [] H H' s.heap h') (hok:qP X.prog X.w H' h'):bP X pins σ H' { s with heap:=h',toks:=t' }:=by
 obtain ⟨m,⟨o,es,ep,ho,r⟩,_⟩:=id I.loc;obtain ⟨sl,hL⟩:=u.any ho I.free (by simp);exact I.step (g':=s.gens) (d':=s.drawn) (ch:=[]) (fun _ z=>nomatch z) (fun b o _ hb _ e n=>u.keep b o e n hb (by simp)) (fun b o _ hb _ e n=>u.slot b o e n hb (by simp)) (fun b o _ e n=>u.free b o e n (by simp)) (fun b o _ e=>u.there b o e (by simp)) u.tups u.frzs u.tbls (fun m' hm=>by
  obtain ⟨o',es',ep',ho',r'⟩:=hm;rw [ho] at ho';cases ho';exact ⟨_,es',ep',hL,r'⟩) hok I.bare
theorem bP.call {g':Array Gj}{t':Nat}{d':LJ}{ch:List am} (I:bP X pins σ H s) (u:Un (yh X.stack) ch H H' s.heap h') (hok:qP X.prog X.w H' h') (hg:qJ g')
  (hch:∀ b∈ch,(b∈X.ex\/X.s₀.heap.objs.size<=b)/\b≠X.env.locals/\(∀ x c,X.env.cells.lookup x=some c->c≠b)/\∀ p∈X.pn++pins,p.1≠b) :
  bP X pins σ H' { s with heap:=h',gens:=g',drawn:=d',toks:=t' }:=by
 obtain ⟨m,⟨o,es,ep,ho,r⟩,_⟩:=id I.loc;obtain ⟨sl,hL⟩:=u.any ho I.free fun z=>(hch _ z).2.1 rfl;exact I.step (ch:=ch) hch (fun b o hL hb hc e n=>u.keep b o e n (fun z=>(List.mem_cons.mp (I.stkSub b z)).elim hL hb) hc) (fun b o _ _ hc e n=>u.any e n hc) (fun b o hc e n=>u.free b o e n hc) (fun b o hc e=>u.there b o e hc) u.tups u.frzs u.tbls (fun m' hm=>by
  obtain ⟨o',es',ep',ho',r'⟩:=hm;rw [ho] at ho';cases ho';exact ⟨_,es',ep',hL,r'⟩) hok hg
theorem bP.turned {t':Nat}{it:am} (I:bP X pins σ H s) (k:∀ b o,b≠it->s.heap.get? b=some o->h'.get? b=some o) (hn:H it=none) (hL:it≠X.env.locals)
  (h1:it∈X.ex\/X.s₀.heap.objs.size<=it) (h2:∀ x c,X.env.cells.lookup x=some c->c≠it) (h3:∀ p∈X.pn++pins,p.1≠it):bP X pins σ H { s with heap:=h',toks:=t' }:=by
 have nit:∀ b u,H b=some u->b≠it:=fun b u e z=>by rw [z,hn] at e;cases e
 refine I.step (g':=s.gens) (d':=s.drawn) (ch:=[it]) (fun b hb=>?_) (fun b o _ _ hc e _=>k b o (fun z=>hc (by simp [z])) e) (fun b o _ _ hc e _=>⟨o.slots,k b o (fun z=>hc (by simp [z])) e⟩) (fun _ _ _ _ n=>n)
  (fun b o hc e=>⟨o,k b o (fun z=>hc (by simp [z])) e⟩) (fun _ _ e=>e) (fun _ _ _ e=>e) (fun b ps e=>⟨#[],by rw [e];simp⟩) (fun m hm=>?_) (fun b u e=>?_) I.bare
 ·have e:b=it:=by simpa using hb
  subst e;exact ⟨h1,hL,h2,h3⟩
 ·obtain ⟨o,es,ep,ho,r⟩:=hm;exact ⟨o,es,ep,k _ o (cY hL) ho,r⟩
 ·refine (I.hok b u e).stay (fun c v hc q=>k c v ?_ q) (fun _ q=>q) fun _ _ q=>q;rcases hc with z|z
  ·rw [z];exact nit b u e
  ·exact nit c _ z
theorem bP.tok (I:bP X pins σ H s) (t:Nat):bP X pins σ H { s with toks:=t }:=I.un (h':=s.heap) (t':=t) Un.refl I.hok
theorem bP.kept (I:bP X pins σ H s) (k:∀ b u,s.heap.get? b=some u->h'.get? b=some u):bP X pins σ H { s with heap:=h',toks:=t' }:=I.un (Un.kept k) (I.hok.kept k)
theorem bP.laid   (I:bP X pins σ H s) (k:∀ b u,s.heap.get? b=some u->h'.get? b=some u) (hp:s.heap.objs.size<=a) (new:dz X.prog X.w (upd H a o) h' a o) :
  bP X pins σ (upd H a o) { s with heap:=h',toks:=t' }:=I.un (Un.laid k hp (I.hok.fresh hp)) (I.hok.laid k hp new)
theorem bP.write   (I:bP X pins σ H s) (mu:Vr (H x)) (he:e=x\/H e=some (.own x)) (k:∀ b u,b≠e->s.heap.get? b=some u->h'.get? b=some u) (heo:∃ u,h'.get? e=some u)
  (new:dz X.prog X.w (upd H x o) h' x o):bP X pins σ (upd H x o) { s with heap:=h',toks:=t' }:=I.un (Un.write mu he k heo) (I.hok.write mu he k heo new)
theorem bP.weak (I:bP X pins σ H s) (hl:σ'.length=σ.length) (w:∀ (i:Nat) v,σ'[i]?=some (some v)->σ[i]?=some (some v)):bP X pins σ' H s :=
 ⟨I.ok,I.os,I.bare,I.base,let ⟨m,hn,hl'⟩:=I.loc;⟨m,hn,fun i x v e1 e2 e3=>hl' i x v e1 (w i v e2) e3⟩,I.cell,I.free,I.freeC,I.pin,I.hok,hl.trans I.len⟩
theorem bP.pins_of (I:bP X pins σ H s) (h:∀ p∈pins',s.heap.get? p.1=some p.2/\H p.1=none/\p.1≠X.env.locals/\p.1∉X.fs/\∀ v,p.2.data≠.cell v):bP X pins' σ H s :=
 ⟨I.ok,I.os,I.bare,I.base,I.loc,I.cell,I.free,I.freeC,fun p hp=>(List.mem_append.mp hp).elim (fun z=>I.pin p (bV _ z)) (h p),I.hok,I.len⟩
theorem E4 {N:List Str} (hN:N.Nodup) {i j:Nat}{x:Str} (a:N[i]?=some x) (b:N[j]?=some x):i=j:=by
 obtain ⟨h1,e1⟩:=List.getElem?_eq_some_iff.mp a;obtain ⟨h2,e2⟩:=List.getElem?_eq_some_iff.mp b;exact (PH hN).mp (e1.trans e2.symm)
theorem Bm {M:Model}{A:cy}{E:af->al->Prop}{i:Nat}{x:Str}{v:V}{u:af}{Q:Unit->al->Prop} (I:bP X pins σ H s) (hN:X.N.Nodup) (hi:X.N[i]?=some x) (hx:S7 X.env.scope x) (r:dv v u)
  (h:∀ s',bP X pins (σ.set i (some v)) H s'->(∃ a,bG a s.heap s'.heap/\(a=X.env.locals\/X.env.cells.lookup x=some a))->Q () s') (hf:X.fn x=true\/X.env.scope.names.lookup x=some .local:=by first|exact .inl rfl|exact .inr rfl|assumption):au M A (storeName X.env x u) Q E s:=by
 obtain ⟨m,hn,hl⟩:=id I.loc;have hcls:(X.env.scope.kind == .class||(X.env.scope.kind == .module&&X.env.locals != X.env.globals))=false:=by rw [I.ok.kind];rfl
 have hiσ:i<σ.length:=by rw [I.len];exact (List.getElem?_eq_some_iff.mp hi).1
 have cne:=I.cne;have tracked:∀ {a:am}{h':bT},(∃ o,s.heap.get? a=some o/\H a=none)->bG a s.heap h'->qP X.prog X.w H h':=fun {a h'} ha hs b ob e=>by
  obtain ⟨_,_,hfree⟩:=ha;refine (I.hok b ob e).stay (fun c w' hc q=>(hs.2 c ?_).trans q) (fun _ q=>q) fun _ _ q=>q;rintro rfl;rcases hc with rfl|hc
  ·rw [hfree] at e;cases e
  ·rw [hfree] at hc;cases hc
 rcases hx with hk|hk
 ·refine wpAny_storeName_local hk hn (fun h' hn' hs=>?_) hcls;obtain ⟨oL,_,_,hoL,_⟩:=id hn;refine h _ ⟨I.ok,I.os,I.bare,⟨fun b o e n hb hx=>?_,fun b o e n hb hx=>?_,I.base.free,fun b o e hx=>?_,I.base.tups,I.base.frzs,I.base.tbls⟩,⟨_,hn',fun j y v' e1 e2 e3=>?_⟩,fun y c e=>?_,I.free,I.freeC,fun p hp=>?_,tracked ⟨oL,hoL,I.free⟩ hs,by simpa using I.len⟩ ⟨_,hs,.inl rfl⟩
  ·exact (hs.2 b (aH (aE (ar e) I.ok.above))).trans (I.base.keep b o e n hb hx)
  ·obtain ⟨sl,e1⟩:=I.base.slot b o e n hb hx;exact ⟨sl,(hs.2 b (aH (aE (ar e) I.ok.above))).trans e1⟩
  ·obtain ⟨o',e1⟩:=I.base.there b o e hx;exact ⟨o',(hs.2 b (aH (aE (ar e) I.ok.above))).trans e1⟩
  ·by_cases hj:j=i
   ·subst hj;rw [hi] at e1;cases e1;rw [aG hiσ] at e2;cases e2;exact ⟨u,r,.inl ⟨hk,by simp⟩⟩
   ·rw [aj (cY hj)] at e2;obtain ⟨u',r',q⟩:=hl j y v' e1 e2 e3;refine ⟨u',r',?_⟩;rcases q with ⟨k,e⟩|⟨k,c,e,z⟩
    ·refine .inl ⟨k,?_⟩;have:y≠x:=fun e=>hj (E4 hN e1 (e ▸ hi))
     simp [this,e]
    ·exact .inr ⟨k,c,e,z.sameBut hs (cne y c e)⟩
  ·obtain ⟨w',z⟩:=I.cell y c e;exact ⟨w',z.sameBut hs (cne y c e)⟩
  ·obtain ⟨e,n,ne,nf,d⟩:=I.pin p hp;exact ⟨(hs.2 p.1 ne).trans e,n,ne,nf,d⟩
 ·have hfn:X.fn x=true:=by
   rcases hf with z|z
   ·exact z
   ·rw [z] at hk;cases hk
  obtain ⟨c,hc⟩:=I.ok.has x (.inl hk);obtain ⟨w',z⟩:=I.cell x c hc;refine wpAny_storeName_cell I.ok.kind hk hc z (fun h' hc' hs=>?_);obtain ⟨oc,hoc,hocd⟩:=id z;refine h { s with heap:=h' } ⟨I.ok,I.os,I.bare,⟨fun b o e n hb hx=>?_,fun b o e n hb hx=>?_,I.base.free,fun b o e hx=>?_,I.base.tups,I.base.frzs,I.base.tbls⟩,⟨m,hn.sameBut hs (cY (cne x c hc)),fun j y v' e1 e2 e3=>?_⟩,fun y c' e=>?_,I.free,I.freeC,fun p hp=>?_,tracked ⟨oc,hoc,I.freeC x c hc⟩ hs,by simpa using I.len⟩ ⟨c,hs,.inr hc⟩
  ·exact (hs.2 b (aH (aE (ar e) (I.ok.cab x c hfn hc)))).trans (I.base.keep b o e n hb hx)
  ·obtain ⟨sl,e1⟩:=I.base.slot b o e n hb hx;exact ⟨sl,(hs.2 b (aH (aE (ar e) (I.ok.cab x c hfn hc)))).trans e1⟩
  ·obtain ⟨o',e1⟩:=I.base.there b o e hx;exact ⟨o',(hs.2 b (aH (aE (ar e) (I.ok.cab x c hfn hc)))).trans e1⟩
  ·by_cases hj:j=i
   ·subst hj;rw [hi] at e1;cases e1;rw [aG hiσ] at e2;cases e2;exact ⟨u,r,.inr ⟨.inl hk,c,hc,hc'⟩⟩
   ·rw [aj (cY hj)] at e2;obtain ⟨u',r',q⟩:=hl j y v' e1 e2 e3;refine ⟨u',r',?_⟩;rcases q with q|⟨k,c',e,z'⟩
    ·exact .inl q
    ·refine .inr ⟨k,c',e,z'.sameBut hs ?_⟩;rintro rfl;exact hj (E4 hN e1 (I.ok.inj _ _ _ e hc ▸ hi))
  ·by_cases hcc:c'=c
   ·subst hcc;exact ⟨_,hc'⟩
   ·obtain ⟨w2,z2⟩:=I.cell y c' e;exact ⟨w2,z2.sameBut hs hcc⟩
  ·obtain ⟨e,n,ne,nf,d⟩:=I.pin p hp;refine ⟨(hs.2 p.1 ?_).trans e,n,ne,nf,d⟩;intro q;rw [q,hoc] at e;have q':oc=p.2:=bQ e;exact d w' (by rw [<- q'];exact hocd)
theorem uV        (I:bP X pins σ H s) (hN:X.N.Nodup) (hi:X.N[i]?=some x) (hx:S7 X.env.scope x) (r:dv v u)
  (h:∀ s',bP X pins (σ.set i (some v)) H s'->Q () s') (hf:X.fn x=true\/X.env.scope.names.lookup x=some .local:=by first|exact .inl rfl|exact .inr rfl|assumption):au M A (storeName X.env x u) Q E s :=
 Bm I hN hi hx r (fun s' I' _=>h s' I') hf
theorem bP.call'  (I:bP X pins σ H s) (ho:s'.os=s.os) (u:Un (yh X.stack) ch H H' s.heap s'.heap) (hok:qP X.prog X.w H' s'.heap) (hg:qJ s'.gens)
  (hch:∀ b∈ch,(b∈X.ex\/X.s₀.heap.objs.size<=b)/\b≠X.env.locals/\(∀ x c,X.env.cells.lookup x=some c->c≠b)/\∀ p∈X.pn++pins,p.1≠b):bP X pins σ H' s':=by
 obtain ⟨h',g',d',t',o'⟩:=s';have e:o'=s.os:=ho;subst e;exact I.call (g':=g') (t':=t') (d':=d') u hok hg hch
end
abbrev XK:=af->Option am->Hp->Prop
abbrev St:=List (Option V)
abbrev VK:=V->Hp->Prop
abbrev TE:=St->Hp->VK->Prop
abbrev TT:=St->Hp->(Bool->Hp->Prop)->Prop
abbrev TA:=St->Hp->(List V->Hp->Prop)->Prop
structure E5 where
 nx:St->Hp->Prop
 rt:VK
 bk:St->Hp->Prop:=fun _ _=>False
 ct:St->Hp->Prop:=fun _ _=>False
abbrev TS:=E5->St->Hp->Prop
inductive EP (X:Cx) (pins:List (am×Obj)) (σ:St) (Q:VK) (u:af) (s':al):Prop
 |mk (v H':_) (h0:bP X pins σ H' s') (h1:dv v u) (h2:Q v H'):EP X pins σ Q u s'
inductive TP (X:Cx) (pins:List (am×Obj)) (σ:St) (Q:Bool->Hp->Prop) (b:Bool) (s':al):Prop
 |mk (H':_) (h0:bP X pins σ H' s') (h1:Q b H'):TP X pins σ Q b s'
inductive AP (X:Cx) (pins:List (am×Obj)) (σ:St) (Q:List V->Hp->Prop) (us:List af) (s':al):Prop
 |mk (vs H':_) (h0:bP X pins σ H' s') (h1:dC vs us) (h2:Q vs H'):AP X pins σ Q us s'
inductive SN (X:Cx) (pins:List (am×Obj)) (k:St->Hp->Prop) (s':al):Prop
 |mk (σ':St) (H':Hp) (I:bP X pins σ' H' s') (q:k σ' H'):SN X pins k s'
inductive SV (X:Cx) (pins:List (am×Obj)) (k:V->Hp->Prop) (u:af) (s':al):Prop
 |mk (v:V) (σ':St) (H':Hp) (I:bP X pins σ' H' s') (r:dv v u) (q:k v H'):SV X pins k u s'
def SP (X:Cx) (pins:List (am×Obj)) (D:E5) (f:Flow) (s':al):Prop :=
 match f with
 |.next=>SN X pins D.nx s'
 |.brk=>SN X pins D.bk s'
 |.cont=>SN X pins D.ct s'
 |.ret u=>SV X pins D.rt u s'
def PE (X:Cx) (e:bY) (t:TE):Prop :=
 ∀ (pins:List (am×Obj)) (s:al) (σ:St) (H:Hp) (Q:VK),bP X pins σ H s->t σ H Q->au (az X.prog X.w) X.A (eD e X.env) (EP X pins σ Q) X.xe s
def PT (X:Cx) (e:bY) (t:TT):Prop :=
 ∀ (pins:List (am×Obj)) (s:al) (σ:St) (H:Hp) (Q:Bool->Hp->Prop),bP X pins σ H s->t σ H Q->au (az X.prog X.w) X.A (vZ e X.env (eD e X.env)) (TP X pins σ Q) X.xe s
def PW (X:Cx) (e:bY) (t:TT):Prop :=
 ∀ (whole:Sem af) (pins:List (am×Obj)) (s:al) (σ:St) (H:Hp) (Q:Bool->Hp->Prop),bP X pins σ H s->t σ H Q->au (az X.prog X.w) X.A (vZ e X.env whole) (TP X pins σ Q) X.xe s
theorem PW.pt   (h:PW X e t):PT X e t:=h _
def PA (X:Cx) (es:List bY) (t:TA):Prop :=
 ∀ (pos:Pos) (pins:List (am×Obj)) (s:al) (σ:St) (H:Hp) (Q:List V->Hp->Prop),bP X pins σ H s->t σ H Q->au (az X.prog X.w) X.A (spliced (iM pos (aJ es X.env))) (AP X pins σ Q) X.xe s
def PS (X:Cx) (st:db) (t:TS):Prop :=
 ∀ (pins:List (am×Obj)) (s:al) (σ:St) (H:Hp) (D:E5),bP X pins σ H s->t D σ H->au (az X.prog X.w) X.A (exec st X.env) (SP X pins D) X.xe s
def E6 (X:Cx) (st:List db) (t:TS):Prop :=
 ∀ (pins:List (am×Obj)) (s:al) (σ:St) (H:Hp) (D:E5),bP X pins σ H s->t D σ H->au (az X.prog X.w) X.A (execs st X.env) (SP X pins D) X.xe s
theorem fR {α:Type}{t:Sem α}{Q Q':α->al->Prop}{M:Model}{A:cy}{E:af->al->Prop}{s:al} (h:au M A t Q E s) (hQ:∀ a s,Q a s->Q' a s):au M A t Q' E s:=bA h hQ fun _ _ x=>x
end L2
namespace L2
open PySem PySem.Spec PyProof.Rows
section
variable {X:Cx}
inductive S8 (i:Nat) (σ:St) (H:Hp) (Q:VK):Prop
 |mk (v:_) (h0:σ[i]?=some (some v)) (h1:Q v H):S8 i σ H Q
def Vs (i:Nat):TE:=S8 i
def tC (v:V):TE:=fun _ H Q=>Q v H
theorem q_   (hN:X.N[i]?=some x) (hv:Ml X.env.scope x) (hd:(x==("__debug__" : Str))=false:=by decide) (hcd:(x==("__classdict__" : Str))=false:=by decide):PE X (.Name x pos) (Vs i):=by
 intro pins s σ H Q I h;obtain ⟨v,e,h⟩:=h;obtain ⟨m,hn,hl⟩:=I.loc;obtain ⟨u,r,l⟩:=hl i x v hN e hv;have fin:EP X pins σ Q u s:=⟨v,H,I,r,h⟩;rcases l with ⟨hk,hm⟩|⟨hk,c,hc,hcell⟩
 ·exact wpAny_Name (wpAny_loadName_local I.ok.kind hk hn hm fin) hd
 ·rcases hk with hk|hk
  ·exact wpAny_Name (wpAny_loadName_cell I.ok.kind hk hc hcell fin) hd
  ·exact wpAny_Name (wpAny_loadName_free I.ok.kind hk hc hcell fin hcd) hd
theorem TD {i j pos}:PE X (.Constant (.int i) j pos) (tC (.int i)):=fun _ _ _ H _ I h=>wpAny_Constant_int ⟨.int i,H,I.tok _,⟨_,rfl⟩,h⟩
theorem Vt {b j pos}:PE X (.Constant (.bool b) j pos) (tC (.bl b)):=fun _ _ _ H _ I h=>Constant_bool ⟨.bl b,H,I,rfl,h⟩
theorem TF {j pos}:PE X (.Constant .none j pos) (tC .non):=fun _ _ _ H _ I h=>Constant_none ⟨.non,H,I,rfl,h⟩
theorem TH {x j pos}:PE X (.Constant (.str x) j pos) (tC (.str x)):=fun _ _ _ H _ I h=>Calls.Constant_str ⟨.str x,H,I.tok _,⟨_,rfl⟩,h⟩
def Gl (X:Cx) (x:Str):Prop:=X.env.kindOf x=some .globalImplicit
theorem Iw         (I:bP X pins σ H s) (hg:Gl X x) (hm:X.mg x=some u) (h:Q u s)
  (hd:(x==("__debug__" : Str))=false:=by decide):au (az X.prog X.w) X.A (eD (.Name x pos) X.env) Q E s :=
 Au I.ok.kind hg (Calls.loadGlobal_global (by rw [I.ok.glob];exact I.mod.glob.keeps I.bk) hm h) hd
theorem wo         (I:bP X pins σ H s) (hg:Gl X x) (hm:X.mg x=none) (hv:iL x=some u) (h:Q u s)
  (hn:x≠"__name__":=by decide) (hd:(x==("__debug__" : Str))=false:=by decide):au (az X.prog X.w) X.A (eD (.Name x pos) X.env) Q E s:=by
 obtain ⟨mb,h1,h2⟩:=I.mod.blt;exact Au I.ok.kind hg (Calls.loadGlobal_builtin (by rw [I.ok.glob];exact I.mod.glob.keeps I.bk) hm (by rw [I.ok.blt];exact h1.keeps I.bk) ((h2 x hn).trans hv) h) hd
theorem Ix    (hg:Gl X x) (hm:X.mg x=some u) (r:dv v u) (hd:(x==("__debug__" : Str))=false:=by decide):PE X (.Name x pos) (tC v) :=
 fun _ _ _ H _ I h=>Iw I hg hm ⟨v,H,I,r,h⟩ hd
theorem Qr    (hg:Gl X x) (hm:X.mg x=none) (hv:iL x=some u) (r:dv v u) (hn:x≠"__name__":=by decide) (hd:(x==("__debug__" : Str))=false:=by decide):PE X (.Name x pos) (tC v) :=
 fun _ _ _ H _ I h=>wo I hg hm hv ⟨v,H,I,r,h⟩ hn hd
variable {a b:bY}{ta tb:TE}{pos:Pos}
def PC (X:Cx) (op:CmpOp) (a b:bY) (t:TE):Prop :=
 ∀ (pins:List (am×Obj)) (s:al) (σ:St) (H:Hp) (Q:VK),bP X pins σ H s->t σ H Q ->
  au (az X.prog X.w) X.A (eD a X.env) (fun v s₁=>au (az X.prog X.w) X.A (eD b X.env) (fun u s₂=>au (az X.prog X.w) X.A (bC op v u) (EP X pins σ Q) X.xe s₂) X.xe s₁) X.xe s
theorem Mm (b:bY) (h:op≠.In) (h2:op≠.NotIn):i4 op b=false:=by
 have e1:(op==CmpOp.In)=false:=by cases op<;>first|rfl|exact absurd rfl h
 have e2:(op==CmpOp.NotIn)=false:=by cases op<;>first|rfl|exact absurd rfl h2
 cases b<;>simp [i4,e1,e2]
def tB (t:TE):TT:=fun σ H Q=>t σ H fun x H1=>∃ c,x=.bl c/\Q c H1
theorem XF  (h:PC X op a b t) (h1:i4 op b=false:=by first|exact Mm _ (by decide) (by decide)|rfl):PT X (.Compare a [op] [b] pos) (tB t):=by
 intro pins s σ H Q I hw;refine PJ (fR (h pins s σ H _ I hw) fun v s1 h1=>fR h1 fun u s2 h2=>fR h2 fun c s3 ⟨x,H1,I1,r1,q1⟩=>?_) h1;obtain ⟨d,rfl,q⟩:=q1;cases r1;exact cK ⟨H1,I1,q⟩
theorem TJ  (h:PE X e t) (he:∀ whole,vZ e X.env whole=(do let v <- whole;xc e.pos;holding [v] (truthy v)):=by intro _;rfl):PT X e (tB t):=by
 intro pins s σ H Q I hw;refine isTrue_plain (fR (h pins s σ H _ I hw) fun v s1 ⟨x,H1,I1,r1,q1⟩=>?_) (he _);obtain ⟨d,rfl,q⟩:=q1;cases r1;exact cK ⟨H1,I1,q⟩
variable {tA tB':TT}{cp:List bY}
def XG (t u:TT):TT:=fun σ H Q=>t σ H fun c H1=>if c=true then u σ H1 Q else Q false H1
def Zh (t u:TT):TT:=fun σ H Q=>t σ H fun c H1=>if c=true then Q true H1 else u σ H1 Q
def XH (t:TT):TT:=fun σ H Q=>t σ H fun c H1=>Q (!c) H1
theorem Qs (ha:PT X a tA):PW X (.BoolOp .And [a] pos) tA:=by
 intro wh pins s σ H Q I h;refine isTrue_and (fR (ha pins s σ H Q I h) fun c s1 e=>?_);cases c with
 |true=>exact isTrue_and_nil e
 |false=>exact e
theorem TK (ha:PT X a tA):PW X (.BoolOp .Or [a] pos) tA:=by
 intro wh pins s σ H Q I h;refine isTrue_or (fR (ha pins s σ H Q I h) fun c s1 e=>?_);cases c with
 |false=>exact isTrue_or_nil e
 |true=>exact e
theorem TL (ha:PT X a tA) (hb:PW X (.BoolOp .And (b::cp) pos) tB'):PW X (.BoolOp .And (a::b::cp) pos) (XG tA tB'):=by
 intro wh pins s σ H Q I h;refine isTrue_and (fR (ha pins s σ H _ I h) fun c s1 ⟨H1,I1,q1⟩=>?_);cases c with
 |true=>exact hb wh pins s1 σ H1 Q I1 q1
 |false=>exact ⟨H1,I1,q1⟩
theorem Vu (ha:PT X a tA) (hb:PW X (.BoolOp .Or (b::cp) pos) tB'):PW X (.BoolOp .Or (a::b::cp) pos) (Zh tA tB'):=by
 intro wh pins s σ H Q I h;refine isTrue_or (fR (ha pins s σ H _ I h) fun c s1 ⟨H1,I1,q1⟩=>?_);cases c with
 |true=>exact ⟨H1,I1,q1⟩
 |false=>exact hb wh pins s1 σ H1 Q I1 q1
theorem TM (ha:PT X a tA):PT X (.UnaryOp .Not a pos) (XH tA):=by
 intro pins s σ H Q I h;exact isTrue_not (fR (ha pins s σ H (fun c H1=>Q (!c) H1) I h) fun _ _ x=>by obtain ⟨a,b,c⟩:=x;exact ⟨a,b,c⟩)
def Vv (ta tb:TE):TE:=fun σ H Q=>ta σ H fun x H1=>∃ c,x=.bl c/\if c=true then tb σ H1 Q else Q (.bl false) H1
def XI (ta tb:TE):TE:=fun σ H Q=>ta σ H fun x H1=>∃ c,x=.bl c/\if c=true then Q (.bl true) H1 else tb σ H1 Q
def Vw (ta:TE):TE:=fun σ H Q=>ta σ H fun x H1=>∃ c,x=.bl c/\Q (.bl (!c)) H1
theorem TQ {op} (h:PE X a t):PE X (.BoolOp op [a] pos) t:=fun pins s σ H Q I hw=>BoolOp_one (h pins s σ H Q I hw)
theorem TU (ha:PE X a ta) (hb:PE X (.BoolOp .And (b::cp) pos) tb):PE X (.BoolOp .And (a::b::cp) pos) (Vv ta tb):=by
 intro pins s σ H Q I h;refine BoolOp_and (fR (ha pins s σ H _ I h) fun v s1 ⟨x,H1,I1,r1,q1⟩=>?_);obtain ⟨c,rfl,q1⟩:=q1;cases r1;refine cK ?_;cases c with
 |true=>exact hb pins s1 σ H1 Q I1 q1
 |false=>exact ⟨.bl false,H1,I1,rfl,q1⟩
theorem Vx (ha:PE X a ta) (hb:PE X (.BoolOp .Or (b::cp) pos) tb):PE X (.BoolOp .Or (a::b::cp) pos) (XI ta tb):=by
 intro pins s σ H Q I h;refine BoolOp_or (fR (ha pins s σ H _ I h) fun v s1 ⟨x,H1,I1,r1,q1⟩=>?_);obtain ⟨c,rfl,q1⟩:=q1;cases r1;refine cK ?_;cases c with
 |false=>exact hb pins s1 σ H1 Q I1 q1
 |true=>exact ⟨.bl true,H1,I1,rfl,q1⟩
theorem TV (ha:PE X a ta):PE X (.UnaryOp .Not a pos) (Vw ta):=by
 intro pins s σ H Q I h;refine UnaryOp_ (fR (ha pins s σ H _ I h) fun v s1 ⟨x,H1,I1,r1,q1⟩=>?_);obtain ⟨c,rfl,q1⟩:=q1;cases r1;exact not_of (cK ⟨.bl (!c),H1,I1,rfl,q1⟩)
def Zi (t:TT) (ta tb:TE):TE:=fun σ H Q=>t σ H fun c H1=>if c=true then ta σ H1 Q else tb σ H1 Q
theorem Mn (hc:PT X c tA) (ha:PE X a ta) (hb:PE X b tb):PE X (.IfExp c a b pos) (Zi tA ta tb):=by
 intro pins s σ H Q I h;refine wpAny_IfExp (fR (hc pins s σ H _ I h) fun d s1 ⟨H1,I1,q1⟩=>?_);cases d with
 |true=>exact ha pins s1 σ H1 Q I1 q1
 |false=>exact hb pins s1 σ H1 Q I1 q1
end
end L2
namespace L2
open PySem PySem.Spec PyProof.Rows
inductive YK (K:a8) (a:am) (xs:List V):Prop
 |mk (o:Obj) (its:Array af) (n:Nat) (h0:K.lookup a=some o) (h1:o.cls=.type "list") (h2:o.dict=none) (h3:o.data=.seq its n) (h4:its.size<=sizeLine) (h5:dC xs its.toList):YK K a xs
def qB (K:a8) (H:Hp) (a:am) (xs:List V):Prop :=
 Rd H a (.lst xs)\/YK K a xs
inductive YL (K:a8) (a:am) (xs:List V):Prop
 |mk (o:Obj) (its:Array af) (n:Nat) (h0:K.lookup a=some o) (h1:o.cls=.type "tuple") (h3:o.data=.seq its n) (h4:its.size<=sizeLine) (h5:dC xs its.toList):YL K a xs
def lu (K:a8) (H:Hp) (a:am) (xs:List V):Prop :=
 Rd H a (.tup xs)\/YL K a xs
def XJ:af->Option V
 |.none=>some .non
 |.bool b=>some (.bl b)
 |.int i _=>some (.int i)
 |.str x _=>some (.str x)
 |.bytes b _=>some (.byt b)
 |.float b _=>some (.flt b)
 |.ref a=>some (.ref a)
 |.type n=>some (.ty n)
 |_=>none
theorem dv.abs  (r:dv x u):XJ u=some x:=by
 cases x with
 |non=>cases r;rfl
 |bl _=>cases r;rfl
 |int _=>obtain ⟨t,rfl⟩:=r;rfl
 |str _=>obtain ⟨t,rfl⟩:=r;rfl
 |byt _=>obtain ⟨t,rfl⟩:=r;rfl
 |flt _=>obtain ⟨t,rfl⟩:=r;rfl
 |ref _=>cases r;rfl
 |ty _=>cases r;rfl
theorem dv.inj  (r:dv x u) (q:dv y u):x=y:=bQ (r.abs.symm.trans q.abs)
theorem dC.inj  (h:dC xs us):∀ {ys:List V},dC ys us->xs=ys:=by
 induction h with
 |nil=>intro ys k;cases k;rfl
 |cons r t ih=>intro ys k;cases k with|cons r' t'=>rw [r.inj r',ih t']
section
theorem qB.of {K:a8} (h:H a=some (.lst xs)):qB K H a xs:=.inl (.inl h)
theorem lu.of {K:a8} (h:H a=some (.tup xs)):lu K H a xs:=.inl (.inl h)
inductive YM (h:bT) (a:am) (xs:List V):Prop
 |mk (its:List af) (r:dC xs its) (p:PlainL h a its.toArray) (z:xs.length<=sizeLine):YM h a xs
inductive YN (h:bT) (a:am) (xs:List V):Prop
 |mk (its:List af) (r:dC xs its) (p:IsTup h a its.toArray) (z:xs.length<=sizeLine):YN h a xs
inductive YO (h:bT) (l:am) (xs:List V):Prop
 |mk (z:xs.length<=sizeLine) (its:List af) (n:Nat) (r:dC xs its) (hl:xs.length=its.length) (e:h.get? l=some { cls:=.type "list",data:=.seq its.toArray n }):YO h l xs
theorem bP.list (I:bP X pins σ H s) (h:qB X.K H a xs):YM s.heap a xs:=by
 rcases h with h|⟨o,its,n,hk,hc,hd,hs,hz,r⟩
 ·obtain ⟨z,its,n,r,e⟩:=h.ok I.hok;exact ⟨its,r,⟨_,n,e,rfl,rfl,rfl⟩,z⟩
 ·refine ⟨its.toList,r,⟨o,n,I.kIn a o hk,hc,hd,by simpa using hs⟩,?_⟩;have e:=r.length;simp only [ap] at e;omega
theorem bP.tuple (I:bP X pins σ H s) (h:lu X.K H a xs):YN s.heap a xs:=by
 rcases h with h|⟨o,its,n,hk,hc,hs,hz,r⟩
 ·obtain ⟨z,its,r,p⟩:=h.ok I.hok;exact ⟨its,r,p,z⟩
 ·refine ⟨its.toList,r,⟨o,I.kIn a o hk,hc,n,by simpa using hs⟩,?_⟩;have e:=r.length;simp only [ap] at e;omega
theorem bP.list_inj (I:bP X pins σ H s) (h:qB X.K H a xs) (h':qB X.K H a ys):xs=ys:=by
 obtain ⟨its,r,⟨o,n,e,_,_,d⟩,_⟩:=I.list h;obtain ⟨its',r',⟨o',n',e',_,_,d'⟩,_⟩:=I.list h';rw [e] at e';cases e';rw [d] at d';injection d' with d1 _;have:its=its':=by simpa using congrArg Array.toList d1
 subst this;exact r.inj r'
theorem bP.tuple_inj (I:bP X pins σ H s) (h:lu X.K H a xs) (h':lu X.K H a ys):xs=ys:=by
 obtain ⟨its,r,⟨o,e,_,n,d⟩,_⟩:=I.tuple h;obtain ⟨its',r',⟨o',e',_,n',d'⟩,_⟩:=I.tuple h';rw [e] at e';cases e';rw [d] at d';injection d' with d1 _;have:its=its':=by simpa using congrArg Array.toList d1
 subst this;exact r.inj r'
end
abbrev Cx.wish (X:Cx) (E:af->al->Prop):Cx:={ X with xe:=E }
abbrev Cx.nox (X:Cx):Cx:=X.wish fun _ _=>False
theorem Cx.Ok.wish {X:Cx} (ok:X.Ok) (E:af->al->Prop):(X.wish E).Ok :=
 ⟨ok.mod,ok.kind,ok.glob,ok.blt,ok.above,ok.inj,ok.has,ok.cab,ok.hd,ok.frames,ok.stk,ok.exf,ok.bs,ok.bsz,ok.noex,ok.exfs,ok.funs,ok.frf⟩
theorem Cx.Ok.unwish {X:Cx}{E:af->al->Prop} (ok:(X.wish E).Ok):X.Ok :=
 ⟨ok.mod,ok.kind,ok.glob,ok.blt,ok.above,ok.inj,ok.has,ok.cab,ok.hd,ok.frames,ok.stk,ok.exf,ok.bs,ok.bsz,ok.noex,ok.exfs,ok.funs,ok.frf⟩
section
theorem bP.wish (I:bP X pins σ H s) (E:af->al->Prop):bP (X.wish E) pins σ H s:=⟨I.ok.wish E,I.os,I.bare,I.base,I.loc,I.cell,I.free,I.freeC,I.pin,I.hok,I.len⟩
theorem bP.unwish (I:bP (X.wish E) pins σ H s):bP X pins σ H s:=⟨I.ok.unwish,I.os,I.bare,I.base,I.loc,I.cell,I.free,I.freeC,I.pin,I.hok,I.len⟩
theorem SP.unwish   (h:SP (X.wish E) pins D f s'):SP X pins D f s':=by
 cases f with
 |next=>obtain ⟨σ',H',I,q⟩:=h;exact ⟨σ',H',I.unwish,q⟩
 |brk=>obtain ⟨σ',H',I,q⟩:=h;exact ⟨σ',H',I.unwish,q⟩
 |cont=>obtain ⟨σ',H',I,q⟩:=h;exact ⟨σ',H',I.unwish,q⟩
 |ret u=>obtain ⟨v,σ',H',I,r,q⟩:=h;exact ⟨v,σ',H',I.unwish,r,q⟩
end
section
variable {X:Cx}{st:db}{cp:List db}{t u:TS}{e:bY}{te:TE}{pos:Pos}
def Vy:TS:=fun D σ H=>D.nx σ H
def XM (t u:TS):TS:=fun D σ H=>t { D with nx:=u D } σ H
theorem Qt:E6 X [] Vy:=fun _ _ σ H _ I h=>nW ⟨σ,H,I,h⟩
theorem r6 (h1:PS X st t) (h2:E6 X cp u):E6 X (st::cp) (XM t u):=by
 intro pins s σ H D I h;refine wpAny_execs_cons (fR (h1 pins s σ H { D with nx:=u D } I h) fun f s1 q=>?_);cases f with
 |next =>
  obtain ⟨σ',H',I',q⟩:=q;exact h2 pins s1 σ' H' D I' q
 |ret v=>exact q
 |brk=>exact q
 |cont=>exact q
theorem Ct (h1:PS X st t):E6 X [st] t:=by
 intro pins s σ H D I h;refine wpAny_execs_cons (fR (h1 pins s σ H D I h) fun f s1 q=>?_);cases f with
 |next=>exact nW q
 |ret v=>exact q
 |brk=>exact q
 |cont=>exact q
theorem bP.quiet    (I:bP X pins σ H s):interactive X.env=false:=by simp [interactive,I.ok.kind]
def Vz (te:TE):TS:=fun D σ H=>te σ H fun _ H1=>D.nx σ H1
theorem Cu (he:PE X e te) (hs:iq e none pos.line X.env=pure false:=by rfl):PS X (.Expr e pos) (Vz te):=by
 intro pins s σ H D I h;exact wpAny_Expr_any (fR (he pins s σ H _ I h) fun v s1 h_7=>by obtain ⟨x,H1,I1,r1,q1⟩:=h_7;exact ⟨σ,H1,I1,q1⟩) I.quiet hs
def XN (te:TE):TS:=fun D σ H=>te σ H D.rt
theorem Mo (he:PE X e te):PS X (.Return (some e) pos) (XN te):=by
 intro pins s σ H D I h;exact wpAny_Return_some (fR (he pins s σ H _ I h) fun v s1 h_8=>by obtain ⟨x,H1,I1,r1,q1⟩:=h_8;exact ⟨x,σ,H1,I1,r1,q1⟩)
def XO (c:TT) (t u:TS):TS:=fun D σ H=>c σ H fun b H1=>if b=true then t D σ H1 else u D σ H1
theorem VA   (hc:PT X c tc) (ha:E6 X a t) (hb:E6 X b u):PS X (.If c a b pos) (XO tc t u):=by
 intro pins s σ H D I h;refine wpAny_If (fR (hc pins s σ H _ I h) fun d s1 ⟨H1,I1,q1⟩=>?_);cases d with
 |true=>exact ha pins s1 σ H1 D I1 q1
 |false=>exact hb pins s1 σ H1 D I1 q1
def TW:TS:=fun _ _ _=>False
theorem sf:E6 X sts TW:=fun _ _ _ _ _ _ h=>h.elim
end
abbrev TG:=V->St->Hp->(St->Hp->Prop)->Prop
abbrev Qu:=List V->St->Hp->(St->Hp->Prop)->Prop
def PG (X:Cx) (target:bY) (t:TG):Prop :=
 ∀ (pins:List (am×Obj)) (s:al) (σ:St) (H:Hp) (v:V) (u:af) (Q:St->Hp->Prop),bP X pins σ H s->dv v u->t v σ H Q ->
  au (az X.prog X.w) X.A (qR target X.env u) (fun _ s'=>SN X pins Q s') X.xe s
def S9 (X:Cx) (ts:List bY) (t:Qu):Prop :=
 ∀ (pins:List (am×Obj)) (s:al) (σ:St) (H:Hp) (vs:List V) (us:List af) (Q:St->Hp->Prop),bP X pins σ H s->dC vs us->t vs σ H Q ->
  au (az X.prog X.w) X.A (J_ ((iN ts X.env).map (·.2)) us) (fun _ s'=>SN X pins Q s') X.xe s
section
def xk (i:Nat):TG:=fun v σ H Q=>Q (σ.set i (some v)) H
theorem cB  (hN:X.N.Nodup) (hi:X.N[i]?=some x) (hx:S7 X.env.scope x) (hf:X.fn x=true\/X.env.scope.names.lookup x=some .local:=by first|exact .inl rfl|exact .inr rfl|assumption):PG X (.Name x pos) (xk i):=by
 intro pins s σ H v u Q I r h;exact wpAny_assign_Name (uV I hN hi hx r (fun s' I'=>⟨_,H,I',h⟩) hf)
def aI:Qu:=fun vs σ H Q=>vs=[]/\Q σ H
inductive Mp (t:TG) (u:Qu) (vs:List V) (σ:St) (H:Hp) (Q:St->Hp->Prop):Prop
 |mk (v r:_) (h0:vs=v::r) (h1:t v σ H fun σ' H'=>u r σ' H' Q):Mp t u vs σ H Q
def ae (t:TG) (u:Qu):Qu:=Mp t u
theorem Cv:S9 X [] aI:=by
 intro pins s σ H vs us Q I r h;obtain ⟨e,h⟩:=h;subst e;cases r;exact assignInOrder_nil ⟨σ,H,I,h⟩
theorem r9    (h1:PG X e t) (h2:S9 X es u)
  (hs:(iN (e::es) X.env).map (·.2)=qR e X.env::(iN es X.env).map (·.2):=by rfl):S9 X (e::es) (ae t u):=by
 intro pins s σ H vs us Q I r h;obtain ⟨v,vr,e1,h⟩:=h;subst e1;cases r with
 |cons r rr =>
  rw [hs];refine yy (fR (h1 pins s σ H _ _ _ I r h) fun _ s1 ⟨σ1,H1,I1,q1⟩=>?_);exact h2 pins s1 σ1 H1 _ _ Q I1 rr q1
inductive Sc (K:a8) (n:Nat) (t:Qu) (v:V) (σ:St) (H:Hp) (Q:St->Hp->Prop):Prop
 |mk (a xs:_) (h0:v=.ref a) (h1:lu K H a xs) (h2:xs.length=n) (h3:t xs σ H Q):Sc K n t v σ H Q
def TX (K:a8) (n:Nat) (t:Qu):TG:=Sc K n t
theorem GC    (hc:X.calm=true) (h:S9 X es t)
  (hn:(iN es X.env).length=n:=by rfl) (hst:(iN es X.env).findIdx? (·.1)=none:=by rfl):PG X (.Tuple es k pos) (TX X.K n t):=by
 intro pins s σ H v u Q I r hw;obtain ⟨a,xs,e1,hq,hl,hw⟩:=hw;subst e1;cases r;obtain ⟨its,rv,ht,hz⟩:=I.tuple hq;refine assign_Tuple_tuple (I.ok.hd hc) ht (by simp [hn,<- hl,rv.length]) hst fun h' hx=>?_;have I1:bP X pins σ H { s with heap:=h' }:=I.kept (t':=s.toks) fun b o e=>hx b o (aH (ar e)) e;exact h pins _ σ H xs _ Q I1 (by simpa using rv) hw
def VB (te:TE) (g:TG):TS:=fun D σ H=>te σ H fun x H1=>g x σ H1 D.nx
theorem Mq   (he:PE X e te) (hg:PG X tg g) (hs:xZ [tg] e pos.line X.env=pure false:=by rfl) (hw:x_ [tg] e X.env=pure none:=by rfl)
  (h1:(iN [tg] X.env).map (·.2)=[qR tg X.env]:=by rfl):PS X (.Assign [tg] e pos) (VB te g):=by
 intro pins s σ H D I h;refine wpAny_Assign_stores (fR (he pins s σ H _ I h) fun v s1 ⟨x,H1,I1,r1,q1⟩=>?_) hs hw;rw [h1];exact fR (hg pins s1 σ H1 x v _ I1 r1 q1) fun _ s2 q=>q
theorem GD     (hN:X.N.Nodup) (hi:X.N[i]?=some x) (hx:S7 X.env.scope x) (he:PE X e te) (hs:iq e (some (.Name x pos')) pos.line X.env=pure false:=by rfl) (hf:X.fn x=true\/X.env.scope.names.lookup x=some .local:=by first|exact .inl rfl|exact .inr rfl|assumption) :
  PS X (.Assign [.Name x pos'] e pos) (VB te (xk i)):=by
 intro pins s σ H D I h;refine wpAny_Assign_Name (fR (he pins s σ H _ I h) fun v s1 ⟨y,H1,I1,r1,q1⟩=>?_) hs;exact uV I1 hN hi hx r1 (fun s2 I2=>⟨_,H1,I2,q1⟩) hf
def XQ (i j:Nat) (ta:TA):TS:=fun D σ H=>ta σ H fun vs H1=>∃ v w,vs=[v,w]/\D.nx ((σ.set i (some v)).set j (some w)) H1
theorem TY     {kt k2 pt2} (hc:X.calm=true) (hN:X.N.Nodup) (hi:X.N[i]?=some x) (hj:X.N[j]?=some y) (hij:i≠j)
  (hx:X.env.scope.names.lookup x=some .local) (hy:X.env.scope.names.lookup y=some .local) (ha:PA X [a,b] ta)
  (hw:x_ [.Tuple [.Name x px,.Name y py] kt pt] (.Tuple [a,b] k2 pt2) X.env=pure (some [x,y]))
  (hs:xZ [.Tuple [.Name x px,.Name y py] kt pt] (.Tuple [a,b] k2 pt2) pos.line X.env=pure false:=by rfl) :
  PS X (.Assign [.Tuple [.Name x px,.Name y py] kt pt] (.Tuple [a,b] k2 pt2) pos) (XQ i j ta):=by
 intro pins s σ H D I h;rw [exec_Assign_arm];refine a7 (j9 ?_);rw [hs];refine a7 (a9 ?_);rw [if_neg (by decide)];refine a7 (Tuple_ (fR (ha _ pins s σ H _ I h) fun us s1 ⟨vs,H1,I1,r1,q1⟩=>?_));obtain ⟨v,w,e1,q1⟩:=q1;subst e1;obtain ⟨u1,u2,rfl,rv,rw'⟩:∃ u1 u2,us=[u1,u2]/\dv v u1/\dv w u2:=by
  cases r1 with
  |cons p q =>
   cases q with
   |cons p' q' =>
    cases q';exact ⟨_,_,rfl,p,p'⟩
 refine bH ?_ (by show 2<=sizeLine;decide);have I2:bP X pins σ H1 { s1 with heap:=s1.heap.push { cls:=.type "tuple",data:=.seq [u1,u2].toArray } }:=I1.kept (t':=s1.toks) fun b o e=>ac _ e;rw [hw];refine a7 (a9 ?_);show au (az X.prog X.w) X.A (do rule "assign.swapped-stores";let items <- unpackItems (.ref s1.heap.objs.size) 2 none;J_ [fun v=>PZ X.env y v,fun v=>PZ X.env x v] items.reverse;pure Flow.next) _ _ _;refine a7 (df (a7 (unpackItems_tuple (items:=#[u1,u2]) (I.ok.hd hc) (xF s1.heap _) fun h' hx'=>?_)));have I3:=I2.kept (h':=h') (t':=s1.toks) fun b o e=>hx' b o (aH (ar e)) e;show au _ _ (J_ [fun v=>PZ X.env y v,fun v=>PZ X.env x v] [u2,u1] >>= fun _=>pure Flow.next) _ _ _;refine a7 (yy (wpAny_bindName (uV I3 hN hj (.inl hy) rw' (fun s2 I4=>?_) (.inr hy))));refine yy (wpAny_bindName (uV I4 hN hi (.inl hx) rv (fun s3 I5=>assignInOrder_nil (a9 ?_)) (.inr hx)));rw [List.set_comm _ _ (cY hij)] at I5;exact ⟨_,H1,I5,q1⟩
end
section
def TZ (c:TT) (tb:TS):TS:=fun D σ H=>∃ W:Nat->St->Hp->Prop,(∃ m,W m σ H)/\∀ m σ H,W m σ H ->
 c σ H fun b H1=>if b=true then ∃ N:St->Hp->Prop,(∀ σ' H',N σ' H'->∃ m',m'<m/\W m' σ' H')/\tb { D with nx:=N,ct:=N,bk:=D.nx } σ H1 else D.nx σ H1
theorem Mr    (hp:PassesOwn (az X.prog X.w) X.A X.env X.xe) (hc:PT X c tc) (hb:E6 X body tb):PS X (.While c body [] pos) (TZ tc tb):=by
 intro pins s σ H D I h;obtain ⟨W,⟨m0,w0⟩,turn⟩:=h;refine wpAny_While (codeAny_whileLoop (fun n s'=>∃ σ' H',bP X pins σ' H' s'/\W n σ' H') ?_ m0 ⟨σ,H,I,w0⟩);rintro n s1 ⟨σ1,H1,I1,w1⟩;refine iX hp (fR (hc pins s1 σ1 H1 _ I1 (turn n σ1 H1 w1)) fun b s2 ⟨H2,I2,q2⟩=>?_);cases b with
 |true =>
  obtain ⟨N,hN,q2⟩:=q2;rw [if_pos rfl];refine iX hp (fR (hb pins s2 σ1 H2 _ I2 q2) fun f s3 q3=>?_);cases f with
  |next =>
   obtain ⟨σ3,H3,I3,n3⟩:=q3;obtain ⟨m',hm,w3⟩:=hN σ3 H3 n3;exact ⟨m',hm,σ3,H3,I3,w3⟩
  |cont =>
   obtain ⟨σ3,H3,I3,n3⟩:=q3;obtain ⟨m',hm,w3⟩:=hN σ3 H3 n3;exact ⟨m',hm,σ3,H3,I3,w3⟩
  |brk=>exact q3
  |ret v=>exact q3
 |false =>
  rw [if_neg bf];exact nW ⟨σ1,H2,I2,q2⟩
end
structure It where
 go:Nat->Hp->Prop
 yld:Nat->Hp->V->Hp->Prop
 stop:Nat->Hp->Prop
structure rc (X:Cx) (pins:List (am×Obj)) (H:Hp) (b:am):Prop where
 f0:H b=none
 f1:b≠X.env.locals
 f2:b∉X.fs
 f3:b∈X.ex\/X.s₀.heap.objs.size<=b
 f4:∀ x c,X.env.cells.lookup x=some c->c≠b
 f5:∀ p∈X.pn++pins,p.1≠b
theorem bP.fpOk      (I:bP X pins σ H s) (hb:s.heap.objs.size<=b) (hn:H' b=none):rc X pins H' b:=by
 refine ⟨hn,fc (aE I.lt hb),I.nofs hb,.inr (ck I.sz hb),fun x c e z=>?_,fun p hp z=>?_⟩
 ·obtain ⟨v,q⟩:=I.cell x c e;exact absurd (aE q.lt (by rw [z];exact hb)) (bN _)
 ·exact absurd (aE (ar (I.pin p hp).1) (by rw [z];exact hb)) (bN _)
structure AI (P:bq) (w:bL) (K:a8) (tg:bY) (J:It) (fp:List am) (it:am) (tn:Nat->bT->Prop):Prop where
 mem:it∈fp
 obj:∀ i h,tn i h->∀ b∈fp,∃ o,h.get? b=some o/\∀ v,o.data≠.cell v
 keep:∀ i h h',tn i h->(∀ b∈fp,∀ o,h.get? b=some o->h'.get? b=some o)->tn i h'
 item:∀ (X:Cx),X.prog=P->X.w=w->X.K=K->X.calm=true->∀ (i:Nat) (pins:List (am×Obj)) (s:al) (σ:St) (H:Hp) (E:af->al->Prop),bP X pins σ H s->(∀ b∈fp,rc X pins H b)->tn i s.heap->J.go i H ->
  au (az P w) X.A (lF (.ref it)) (fun r s1=>∃ u,r=some u /\
   au (az P w) X.A (hW tg (.ref it) u) (fun _ s2=>∃ x H',bP X pins σ H' s2/\dv x u/\J.yld i H x H'/\tn (i+1) s2.heap/\∀ b∈fp,H' b=none) E s1) E s
 done:∀ (X:Cx),X.prog=P->X.w=w->X.K=K->X.calm=true->∀ (i:Nat) (pins:List (am×Obj)) (s:al) (σ:St) (H:Hp) (E:af->al->Prop),bP X pins σ H s->(∀ b∈fp,rc X pins H b)->tn i s.heap->J.stop i H ->
  au (az P w) X.A (lF (.ref it)) (fun r s1=>r=none/\bP X pins σ H s1) E s
 self:∀ (A:cy) (i:Nat) (s:al) (Q:af->al->Prop) (E:af->al->Prop),tn i s.heap->Q (.ref it) s->au (az P w) A (yz (.ref it)) Q E s
abbrev TI:=St->Hp->(It->Hp->Prop)->Prop
inductive XR (X:Cx) (pins:List (am×Obj)) (σ:St) (tg:bY) (R:It->Hp->Prop) (itv:af) (s2:al):Prop
 |mk (it:am) (fp:List am) (tn:Nat->bT->Prop) (J:It) (H':Hp) (h0:itv=.ref it) (I:bP X pins σ H' s2) (T:AI X.prog X.w X.K tg J fp it tn) (t0:tn 0 s2.heap) (f:∀ b∈fp,rc X pins H' b) (q:R J H'):XR X pins σ tg R itv s2
inductive XS (X:Cx) (pins:List (am×Obj)) (tn:Nat->bT->Prop) (fp:List am) (W:Nat->Nat->St->Hp->Prop) (n:Nat) (s':al):Prop
 |mk (i:Nat) (σ':St) (H':Hp) (I:bP X pins σ' H' s') (t:tn i s'.heap) (f:∀ b∈fp,H' b=none) (q:W i n σ' H'):XS X pins tn fp W n s'
def PI (X:Cx) (tg iter:bY) (wi:TI):Prop :=
 ∀ (pins:List (am×Obj)) (s:al) (σ:St) (H:Hp) (R:It->Hp->Prop),bP X pins σ H s->wi σ H R ->
  au (az X.prog X.w) X.A (eD iter X.env) (fun v s1=>au (az X.prog X.w) X.A (yz v) (XR X pins σ tg R) X.xe s1) X.xe s
theorem Iy           (ho : s.heap.get? it = some o) (hc : o.cls = .type n) (hd : o.data = .fields vs)
    (hn : ["enumerate", "zip", "dict_itemiterator", "dict_reverseitemiterator", "odict_iterator", "itertools.zip_longest", "itertools.pairwise"].contains n = false) (hQ : Q () s) : au M A (hW tg (.ref it) u) Q E s := by
  unfold hW;cases tg <;> first
    | exact a9 hQ
    | (cases u <;> first
        | exact a9 hQ
        | (refine a7 (wpAny_load ho ?_)
           rw [hc, hd];show au M A (if (["enumerate", "zip", "dict_itemiterator", "dict_reverseitemiterator", "odict_iterator", "itertools.zip_longest", "itertools.pairwise"].contains n && vs[0]? == some (cr _)) = true then _ else _) Q E s;rw [if_neg (by intro h; rw [hn, Bh] at h; cases h)];exact a9 hQ))
def XT (K:a8) (a:am):It :=
 ⟨fun i H=>∃ xs x,qB K H a xs/\xs[i]?=some x,fun i H x H'=>H'=H/\∀ xs,qB K H a xs->xs[i]?=some x,fun i H=>∃ xs,qB K H a xs/\xs.length<=i⟩
def XU (K:a8) (a:am):It :=
 ⟨fun i H=>∃ xs x,lu K H a xs/\xs[i]?=some x,fun i H x H'=>H'=H/\∀ xs,lu K H a xs->xs[i]?=some x,fun i H=>∃ xs,lu K H a xs/\xs.length<=i⟩
def Xp (lo:Int) (n:Nat):It:=⟨fun i _=>i<n,fun i H x H'=>H'=H/\x=.int (lo+i),fun i _=>n<=i⟩
theorem Km {P:bq}{w:bL}{K:a8}{tg:bY} (a it:am):AI P w K tg (XT K a) [it] it (fun i h=>h.IsListIter it a i) where
 mem:=by simp
 obj:=fun i h st b hb=>by
  have e:b=it:=by simpa using hb
  subst e;obtain ⟨o,e,c,d⟩:=st;exact ⟨o,e,fun v z=>by rw [d] at z;cases z⟩
 keep:=fun i h h' st k=>st.at fun o e=>k it (by simp) o e
 item:=by
  intro X hP hw hK hc i pins s σ H E I hf st hg;subst hP hw hK;obtain ⟨xs,x,hq,hx⟩:=hg;obtain ⟨its,rv,p,hz⟩:=I.list hq;obtain ⟨u,hu,ru⟩:=rv.get hx;obtain ⟨f0,f1,f2,f3,f4,f5⟩:=hf it (by simp);refine wpAny_pyNext_list_item st p.isList (x:=u) (by simpa using hu) fun h' st' sb=>?_;have I1:bP X pins σ H { s with heap:=h' }:=I.turned (t':=s.toks) (fun b o hb e=>(sb.2 b hb).trans e) f0 f1 f3 f4 f5;obtain ⟨o,e,c,d⟩:=id st';exact ⟨u,rfl,Iy (s:={ s with heap:=h' }) e c d (by decide) ⟨x,H,I1,ru,⟨rfl,fun ys hy=>by rw [I.list_inj hy hq];exact hx⟩,st',fun b hb=>(hf b hb).1⟩⟩
 done:=by
  intro X hP hw hK hc i pins s σ H E I hf st hg;subst hP hw hK;obtain ⟨xs,hq,hx⟩:=hg;obtain ⟨its,rv,p,hz⟩:=I.list hq;obtain ⟨f0,f1,f2,f3,f4,f5⟩:=hf it (by simp);have hl:=rv.length;exact wpAny_pyNext_list_end (I.ok.hd hc) st p.isList (by simp;omega) fun h' eb=>⟨rfl,I.turned (t':=s.toks) (fun b o hb e=>eb b o hb e) f0 f1 f3 f4 f5⟩
 self:=fun _ _ _ _ _ st h=>wpAny_pyIter_listiter st h
theorem GE {P:bq}{w:bL}{K:a8}{tg:bY} (a it:am):AI P w K tg (XU K a) [it] it (fun i h=>h.IsTupleIter it a i) where
 mem:=by simp
 obj:=fun i h st b hb=>by
  have e:b=it:=by simpa using hb
  subst e;obtain ⟨o,e,c,d⟩:=st;exact ⟨o,e,fun v z=>by rw [d] at z;cases z⟩
 keep:=fun i h h' st k=>st.at fun o e=>k it (by simp) o e
 item:=by
  intro X hP hw hK hc i pins s σ H E I hf st hg;subst hP hw hK;obtain ⟨xs,x,hq,hx⟩:=hg;obtain ⟨its,rv,p,hz⟩:=I.tuple hq;obtain ⟨u,hu,ru⟩:=rv.get hx;obtain ⟨f0,f1,f2,f3,f4,f5⟩:=hf it (by simp);refine wpAny_pyNext_tuple_item st (show s.heap.IsTuple a its.toArray from p) (x:=u) (by simpa using hu) fun h' st' sb=>?_;have I1:bP X pins σ H { s with heap:=h' }:=I.turned (t':=s.toks) (fun b o hb e=>(sb.2 b hb).trans e) f0 f1 f3 f4 f5;obtain ⟨o,e,c,d⟩:=id st';exact ⟨u,rfl,Iy (s:={ s with heap:=h' }) e c d (by decide) ⟨x,H,I1,ru,⟨rfl,fun ys hy=>by rw [I.tuple_inj hy hq];exact hx⟩,st',fun b hb=>(hf b hb).1⟩⟩
 done:=by
  intro X hP hw hK hc i pins s σ H E I hf st hg;subst hP hw hK;obtain ⟨xs,hq,hx⟩:=hg;obtain ⟨its,rv,p,hz⟩:=I.tuple hq;obtain ⟨f0,f1,f2,f3,f4,f5⟩:=hf it (by simp);have hl:=rv.length;exact wpAny_pyNext_tuple_end (I.ok.hd hc) st (show s.heap.IsTuple a its.toArray from p) (by simp;omega) fun h' eb=>⟨rfl,I.turned (t':=s.toks) (fun b o hb e=>eb b o hb e) f0 f1 f3 f4 f5⟩
 self:=fun _ _ _ _ _ st h=>wpAny_pyIter_tupleiter st h
theorem GF {P:bq}{w:bL}{K:a8}{tg:bY} (it:am) (lo:Int) (n:Nat):AI P w K tg (Xp lo n) [it] it (fun i h=>IsRangeIter h it (lo+(i:Nat)*1) ((n:Int)-(i:Nat)) 1) where
 mem:=by simp
 obj:=fun i h st b hb=>by
  have e:b=it:=by simpa using hb
  subst e;exact ⟨_,st,fun v z=>by
   have z':Data.fields _=Data.cell v:=z;cases z'⟩
 keep:=fun i h h' st k=>k it (by simp) _ st
 item:=by
  intro X hP hw hK hc i pins s σ H E I hf st hg;subst hP hw hK;obtain ⟨f0,f1,f2,f3,f4,f5⟩:=hf it (by simp);have W:=Walks.range (prog:=X.prog) (w:=X.w) (I.ok.hd hc) it lo 1 n;refine W.item i s _ _ hg st fun v h' tk hv st' kk=>?_;obtain ⟨t,rfl⟩:=hv;have I1:bP X pins σ H { s with heap:=h',toks:=tk }:=I.turned (fun b o hb e=>kk b o (by simpa using hb) e) f0 f1 f3 f4 f5;refine ⟨_,rfl,Iy (s:={ s with heap:=h',toks:=tk }) (n:="range_iterator") st' rfl rfl (by decide) ⟨.int (lo+i),H,I1,⟨t,?_⟩,⟨rfl,rfl⟩,st',fun b hb=>(hf b hb).1⟩⟩;rw [Int.mul_one]
 done:=by
  intro X hP hw hK hc i pins s σ H E I hf st hg;subst hP hw hK;obtain ⟨f0,f1,f2,f3,f4,f5⟩:=hf it (by simp);exact wpAny_pyNext_range_end (I.ok.hd hc) st (by have:n<=i:=hg;omega) fun h' eb=>⟨rfl,I.turned (t':=s.toks) (fun b o hb e=>eb b o hb e) f0 f1 f3 f4 f5⟩
 self:=fun _ _ _ _ _ st h=>wpAny_pyIter_rangeiter st h
end L2
namespace L2
open PySem PySem.Spec PyProof.Rows
section
def VC (K:a8) (tl:TE):TI:=fun σ H R=>tl σ H fun x H1=>∃ a,x=.ref a/\(∃ xs,qB K H1 a xs)/\R (XT K a) H1
def XV (K:a8) (tl:TE):TI:=fun σ H R=>tl σ H fun x H1=>∃ a,x=.ref a/\(∃ xs,lu K H1 a xs)/\R (XU K a) H1
theorem uW {l:bY}{tl:TE} (hl:PE X l tl):PI X tg l (VC X.K tl):=by
 intro pins s σ H R I h;refine fR (hl pins s σ H _ I h) fun v s1 h_16=>?_;obtain ⟨x,H1,I1,r1,q1⟩:=h_16;obtain ⟨a,e,⟨xs,hq⟩,q⟩:=q1;subst e;cases r1;obtain ⟨its,rv,p,hz⟩:=I1.list hq;refine qK p.isList ?_;refine ⟨s1.heap.objs.size,[s1.heap.objs.size],_,_,H1,rfl,I1.kept (t':=s1.toks) fun b o e=>ac _ e,Km a _,⟨_,ax _ rfl,rfl,rfl⟩,fun b hb=>?_,q⟩;have e:b=s1.heap.objs.size:=by simpa using hb
 subst e;exact I1.fpOk (aq _) (I1.hok.fresh (aq _))
theorem Ms {l:bY}{tl:TE} (hl:PE X l tl):PI X tg l (XV X.K tl):=by
 intro pins s σ H R I h;refine fR (hl pins s σ H _ I h) fun v s1 h_17=>?_;obtain ⟨x,H1,I1,r1,q1⟩:=h_17;obtain ⟨a,e,⟨xs,hq⟩,q⟩:=q1;subst e;cases r1;obtain ⟨its,rv,p,hz⟩:=I1.tuple hq;refine gI (show s1.heap.IsTuple a its.toArray from p) ?_;refine ⟨s1.heap.objs.size,[s1.heap.objs.size],_,_,H1,rfl,I1.kept (t':=s1.toks) fun b o e=>ac _ e,GE a _,⟨_,ax _ rfl,rfl,rfl⟩,fun b hb=>?_,q⟩;have e:b=s1.heap.objs.size:=by simpa using hb
 subst e;exact I1.fpOk (aq _) (I1.hok.fresh (aq _))
theorem Mt {pins:List (am×Obj)}{σ:St}{H:Hp}{s:al}{R:It->Hp->Prop}{E:af->al->Prop}{lo hi:Int}{t u v:Tok}{tk:Nat} (I:bP X pins σ H s) (h1:-(2 ^ 62)<=lo) (h2:lo<2 ^ 62) (h3:-(2 ^ 62)<=hi) (h4:hi<2 ^ 62)
  (q:R (Xp lo (hi-lo).toNat) H):au (az X.prog X.w) X.A (yz (.ref s.heap.objs.size)) (XR X pins σ tg R) E { s with heap:=s.heap.push { cls:=.type "range",data:=.fields #[.int lo t,.int hi u,.int 1 v] },toks:=tk }:=by
 refine wpAny_pyIter_range (IsRange.new ..) (small_one h1 h2 h3 h4) ?_;have I1:bP X pins σ H { s with heap:=s.heap.push { cls:=.type "range",data:=.fields #[.int lo t,.int hi u,.int 1 v] },toks:=tk }:=I.kept fun b o e=>ac _ e;refine ⟨(s.heap.push { cls:=.type "range",data:=.fields #[.int lo t,.int hi u,.int 1 v] }).objs.size,[(s.heap.push { cls:=.type "range",data:=.fields #[.int lo t,.int hi u,.int 1 v] }).objs.size],_,_,H,rfl,
  I1.kept (t':=tk) fun b o e=>ac _ e,GF _ lo (hi-lo).toNat,?_,fun b hb=>?_,q⟩
 ·have e1:lo+((0:Nat):Int)*1=lo:=by simp
  have e2:(((hi-lo).toNat:Nat):Int)-((0:Nat):Int)=Builtin.Range.rangeSize lo hi 1:=by rw [rangeSize_one];split<;>omega
  show IsRangeIter _ _ (lo+((0:Nat):Int)*1) ((((hi-lo).toNat:Nat):Int)-((0:Nat):Int)) 1;rw [e1,e2];exact ax _ rfl
 ·have e:b=(s.heap.push { cls:=.type "range",data:=.fields #[.int lo t,.int hi u,.int 1 v] }).objs.size:=by simpa using hb
  subst e;exact I1.fpOk (aq _) (I1.hok.fresh (aq _))
def VD (ta:TA):TI:=fun σ H R=>ta σ H fun vs H1=>∃ j:Int,vs=[.int j]/\-(2 ^ 62)<=j/\j<2 ^ 62/\R (Xp 0 j.toNat) H1
theorem Kn {a:bY}{ta:TA}{p pos:Pos} (hg:Gl X "range") (hm:X.mg "range"=none) (ha:PA X [a] ta) (hs:aJ [a] X.env=[(false,eD a X.env)]:=by rfl):PI X tg (.Call (.Name "range" p) [a] [] pos) (VD ta):=by
 intro pins s σ H R I h;refine Call_ (wo I hg hm boot_range (i5 (fR (ha pos pins s σ H _ I h) fun us s1 ⟨vs,H1,I1,r1,q1⟩=>?_) hs rfl));obtain ⟨j,e,q1,q2,q⟩:=q1;subst e;cases r1 with
 |cons r rr =>
  cases rr;obtain ⟨t,rfl⟩:=r;exact call_range_1 (Mt I1 (by omega) (by omega) q1 q2 (by simpa using q))
inductive XX (g:TG) (tb:TS) (D:E5) (σ:St) (J:It) (H1:Hp):Prop
 |mk (W:Nat->Nat->St->Hp->Prop) (w0:∃ m,W 0 m σ H1) (turn:∀ i m σ H,W i m σ H ->
 (J.stop i H/\D.nx σ H)\/(J.go i H/\∃ N:St->Hp->Prop,(∀ σ' H',N σ' H'->∃ m',m'<m/\W (i+1) m' σ' H')/\∀ x H',J.yld i H x H'->g x σ H' fun σ2 H2=>tb { D with nx:=N,ct:=N,bk:=D.nx } σ2 H2)):XX g tb D σ J H1
def XY (wi:TI) (g:TG) (tb:TS):TS:=fun D σ H=>wi σ H (XX g tb D σ)
def wp (fp:List am) (h:bT):List (am×Obj):=fp.filterMap fun b=>(h.get? b).map fun o=>(b,o)
theorem kG    (hb:b∈fp) (e:h.get? b=some o):(b,o)∈wp fp h:=List.mem_filterMap.mpr ⟨b,hb,by rw [e];rfl⟩
theorem Ko   (hp:p∈wp fp h):p.1∈fp/\h.get? p.1=some p.2:=by
 obtain ⟨b,hb,e⟩:=List.mem_filterMap.mp hp;cases q:h.get? b with
 |none=>rw [q] at e;cases e
 |some o =>
  rw [q] at e;have e':(b,o)=p:=bQ e;subst e';exact ⟨hb,q⟩
theorem bP.pinned     (I:bP X pins σ H s) (hf:∀ b∈fp,rc X pins H b) (ho:∀ b∈fp,∃ o,s.heap.get? b=some o/\∀ v,o.data≠.cell v):bP X (pins++wp fp s.heap) σ H s :=
 I.pins_of fun p hp=>(List.mem_append.mp hp).elim (fun z=>I.pin p (aL _ z)) fun z=>by
  obtain ⟨hb,e⟩:=Ko z;obtain ⟨f0,f1,f2,_⟩:=hf p.1 hb;obtain ⟨o,e',d⟩:=ho p.1 hb;rw [e] at e';cases e';exact ⟨e,f0,f1,f2,d⟩
theorem bP.unpinned    (I:bP X (pins++pl) σ H s):bP X pins σ H s:=I.pins_of fun p hp=>I.pin p (aL _ (bV _ hp))
theorem Mu      (hp:PassesOwn (az X.prog X.w) X.A X.env X.xe) (hc:X.calm=true) (hi:PI X tg iter wi) (hg:PG X tg g) (hb:E6 X body tb)
  (hs:∀ x,eF iter X.env x=pure x:=by intro _;rfl):PS X (.For tg iter body [] pos) (XY wi g tb):=by
 intro pins s σ H D I h
 refine wpAny_For (fR (hi pins s σ H _ I h) fun v s1 h1=>fR h1 fun itv s2 h2=>?_) hs
 obtain ⟨it,fp,tn,J,H2,e,I2,T,st2,f2,W,⟨m0,w0⟩,turn⟩:=h2
 subst e
 have stat:∀ {H':Hp},(∀ b∈fp,H' b=none)->∀ b∈fp,rc X pins H' b:=fun hn b hb=>⟨hn b hb,(f2 b hb).f1,(f2 b hb).f2,(f2 b hb).f3,(f2 b hb).f4,(f2 b hb).f5⟩
 refine codeAny_forLoop_any (XS X pins tn fp W) ?_ m0 ⟨0,σ,H2,I2,st2,fun b hb=>(f2 b hb).1,w0⟩
 rintro n s3 ⟨i,σ3,H3,I3,st3,fr3,w3⟩
 rcases turn i n σ3 H3 w3 with ⟨stop,qn⟩|⟨go,N,hN,step⟩
 ·refine iX hp (fR (T.done X rfl rfl rfl hc i pins s3 σ3 H3 X.xe I3 (stat fr3) st3 stop) fun r s4 ⟨hr,I4⟩=>?_)
  subst hr
  exact nW ⟨σ3,H3,I4,qn⟩
 ·refine iX hp (fR (T.item X rfl rfl rfl hc i pins s3 σ3 H3 X.xe I3 (stat fr3) st3 go) fun r s4 ⟨u,hr,h4⟩=>?_)
  subst hr
  refine iX hp (fR h4 fun _ s5 ⟨x,H5,I5,r5,y5,st5,fr5⟩=>?_)
  have I5':=I5.pinned (stat fr5) (T.obj _ _ st5)
  refine iX hp (fR (hg _ s5 σ3 H5 x u _ I5' r5 (step x H5 y5)) fun _ s6 ⟨σ6,H6,I6,q6⟩=>?_)
  refine iX hp (fR (hb _ s6 σ6 H6 _ I6 q6) fun f s7 q7=>?_)
  have P_:∀ {σ7:St}{H7:Hp},bP X (pins++wp fp s5.heap) σ7 H7 s7->N σ7 H7->∃ m,m<n/\XS X pins tn fp W m s7:=fun {σ7 H7} I7 n7=>by
   obtain ⟨m',hm,w7⟩:=hN σ7 H7 n7
   refine ⟨m',hm,i+1,σ7,H7,I7.unpinned,T.keep _ _ _ st5 fun b hb o e=>(I7.pin (b,o) (aL _ (aL _ (kG hb e)))).1,fun b hb=>?_,w7⟩
   obtain ⟨o,e,d⟩:=T.obj _ _ st5 b hb
   exact (I7.pin (b,o) (aL _ (aL _ (kG hb e)))).2.1
  cases f with
  |next=>obtain ⟨σ7,H7,I7,n7⟩:=q7;exact P_ I7 n7
  |cont=>obtain ⟨σ7,H7,I7,n7⟩:=q7;exact P_ I7 n7
  |brk=>obtain ⟨σ7,H7,I7,q7⟩:=q7;exact ⟨σ7,H7,I7.unpinned,q7⟩
  |ret v=>obtain ⟨x7,σ7,H7,I7,r7,q7⟩:=q7;exact ⟨x7,σ7,H7,I7.unpinned,r7,q7⟩
end
end L2
namespace L2
open PySem PySem.Spec PyProof.Rows
abbrev R2:=V->V->Hp->VK->Prop
def qQ (X:Cx) (f:af->af->Sem af) (r:R2):Prop :=
 ∀ (pins:List (am×Obj)) (s:al) (σ:St) (H:Hp) (x y:V) (v u:af) (Q:VK),bP X pins σ H s->dv x v->dv y u->r x y H Q ->
  au (az X.prog X.w) X.A (f v u) (EP X pins σ Q) X.xe s
def XZ (X:Cx) (f:af->Sem af) (r:V->Hp->VK->Prop):Prop :=
 ∀ (pins:List (am×Obj)) (s:al) (σ:St) (H:Hp) (x:V) (v:af) (Q:VK),bP X pins σ H s->dv x v->r x H Q ->
  au (az X.prog X.w) X.A (f v) (EP X pins σ Q) X.xe s
def jX (X:Cx) (f:af) (r:List V->Hp->VK->Prop):Prop :=
 ∀ (pins:List (am×Obj)) (s:al) (σ:St) (H:Hp) (xs:List V) (us:List af) (Q:VK),bP X pins σ H s->dC xs us->r xs H Q ->
  au (az X.prog X.w) X.A (call f us) (EP X pins σ Q) X.xe s
def X_ (X:Cx) (r:V->Hp->(Bool->Hp->Prop)->Prop):Prop :=
 ∀ (pins:List (am×Obj)) (s:al) (σ:St) (H:Hp) (x:V) (v:af) (Q:Bool->Hp->Prop),bP X pins σ H s->dv x v->r x H Q ->
  au (az X.prog X.w) X.A (truthy v) (TP X pins σ Q) X.xe s
def VE (r:R2) (ta tb:TE):TE:=fun σ H Q=>ta σ H fun x H1=>tb σ H1 fun y H2=>r x y H2 Q
def Zj (r:V->Hp->VK->Prop) (ta:TE):TE:=fun σ H Q=>ta σ H fun x H1=>r x H1 Q
inductive YQ (C:Int->Int->Prop) (g:Int->Int->V) (x:V) (y:V) (H:Hp) (Q:VK):Prop
 |mk (i j:_) (h0:x=.int i) (h1:y=.int j) (h2:C i j) (h3:Q (g i j) H):YQ C g x y H Q
def rI (C:Int->Int->Prop) (g:Int->Int->V):R2:=YQ C g
inductive VF (g:Int->Int->V) (x:V) (y:V) (H:Hp) (Q:VK):Prop
 |mk (i j:_) (h0:x=.int i) (h1:y=.int j) (h2:Q (g i j) H):VF g x y H Q
def T_ (g:Int->Int->V):R2:=VF g
inductive YR (g:Int->V) (x:V) (H:Hp) (Q:VK):Prop
 |mk (i:_) (h0:x=.int i) (h1:Q (g i) H):YR g x H Q
def rU (g:Int->V):V->Hp->VK->Prop:=YR g
section
theorem U0 (ha:PE X a ta) (hb:PE X b tb) {pins:List (am×Obj)}{s:al}{σ:St}{H:Hp}{R:V->V->Hp->Prop} (I:bP X pins σ H s)
  (h:ta σ H fun x H1=>tb σ H1 fun y H2=>R x y H2) {Q:af->al->Prop}{f:af->af->Sem af}
  (hf:∀ v u s2 x y H2,bP X pins σ H2 s2->dv x v->dv y u->R x y H2->au (az X.prog X.w) X.A (f v u) Q X.xe s2) :
  au (az X.prog X.w) X.A (eD a X.env) (fun v s₁=>au (az X.prog X.w) X.A (eD b X.env) (fun u s₂=>au (az X.prog X.w) X.A (f v u) Q X.xe s₂) X.xe s₁) X.xe s:=by
 refine fR (ha pins s σ H _ I h) fun v s1 h_19=>?_;obtain ⟨x,H1,I1,r1,q1⟩:=h_19;refine fR (hb pins s1 σ H1 _ I1 q1) fun u s2 h_20=>?_;obtain ⟨y,H2,I2,r2,q2⟩:=h_20;exact hf v u s2 x y H2 I2 r1 r2 q2
theorem Sd {op:Operator}{r:R2} (ho:qQ X (gJ op) r) (ha:PE X a ta) (hb:PE X b tb):PE X (.BinOp a op b pos) (VE r ta tb):=by
 intro pins s σ H Q I h;exact wpAny_BinOp (U0 ha hb I h fun v u s2 x y H2 I2 rx ry q=>ho pins s2 σ H2 x y v u Q I2 rx ry q)
theorem VG  (ho:XZ X (unaryOp op) r) (ha:PE X a ta):PE X (.UnaryOp op a pos) (Zj r ta):=by
 intro pins s σ H Q I h;exact UnaryOp_ (fR (ha pins s σ H _ I h) fun v s1 h_21=>by obtain ⟨x,H1,I1,r1,q1⟩:=h_21;exact ho pins s1 σ H1 x v Q I1 r1 q1)
theorem Y0 {f:af->af->Sem af}{C:Int->Int->Prop}{g:Int->Int->Int}
  (rule:∀ (i j:Int) (t u:Tok) (s:al) (Q:af->al->Prop) (E:af->al->Prop),C i j->Q (.int (g i j) s.toks) { s with toks:=s.toks+1 }->au (az X.prog X.w) X.A (f (.int i t) (.int j u)) Q E s) :
  qQ X f (rI C fun i j=>.int (g i j)):=by
 intro pins s σ H x y v u Q I rx ry h;obtain ⟨i,j,rfl,rfl,hc,q⟩:=h;obtain ⟨t,rfl⟩:=rx;obtain ⟨t',rfl⟩:=ry;exact rule i j t t' s _ _ hc ⟨.int (g i j),H,I.tok _,⟨_,rfl⟩,q⟩
theorem Y1 {f:af->af->Sem af}{g:Int->Int->Int}
  (rule:∀ (i j:Int) (t u:Tok) (s:al) (Q:af->al->Prop) (E:af->al->Prop),Q (.int (g i j) s.toks) { s with toks:=s.toks+1 }->au (az X.prog X.w) X.A (f (.int i t) (.int j u)) Q E s) :
  qQ X f (T_ fun i j=>.int (g i j)):=by
 intro pins s σ H x y v u Q I rx ry h;obtain ⟨i,j,rfl,rfl,q⟩:=h;obtain ⟨t,rfl⟩:=rx;obtain ⟨t',rfl⟩:=ry;exact rule i j t t' s _ _ ⟨.int (g i j),H,I.tok _,⟨_,rfl⟩,q⟩
theorem U1 {f:af->af->Sem af}{g:Int->Int->Bool}
  (rule:∀ (i j:Int) (t u:Tok) (s:al) (Q:af->al->Prop) (E:af->al->Prop),Q (.bool (g i j)) s->au (az X.prog X.w) X.A (f (.int i t) (.int j u)) Q E s) :
  qQ X f (T_ fun i j=>.bl (g i j)):=by
 intro pins s σ H x y v u Q I rx ry h;obtain ⟨i,j,rfl,rfl,q⟩:=h;obtain ⟨t,rfl⟩:=rx;obtain ⟨t',rfl⟩:=ry;exact rule i j t t' s _ _ ⟨.bl (g i j),H,I,rfl,q⟩
def Y2 (i j:Int):Prop:=0<j/\j<1073741824
def U2 (i j:Int):Prop:=(-(2 ^ 64)<i/\i<2 ^ 64)\/(-(2 ^ 64)<j/\j<2 ^ 64)
theorem U2.ok (h:U2 i j):IntMulOk i j:=by
 rcases h with ⟨h1,h2⟩|⟨h1,h2⟩
 ·exact .of_left (intBits_le_64 h1 h2)
 ·exact .of_right (intBits_le_64 h1 h2)
theorem U3:qQ X (gJ .Add) (T_ fun i j=>.int (i+j)):=Y1 fun _ _ _ _ _ _ _ q=>add_int q
theorem U4:qQ X (gJ .Mult) (rI U2 fun i j=>.int (i*j)):=Y0 fun _ _ _ _ _ _ _ hc q=>mul_int q hc.ok
theorem Qv:qQ X (gJ .FloorDiv) (rI Y2 fun i j=>.int (i / j)):=Y0 fun i j _ _ _ _ _ hc q=>by
 have h1:(0:Int)<j:=hc.1;have h2:j<1073741824:=hc.2;exact floordiv_int (by omega) (by rw [Int.fdiv_eq_ediv_of_nonneg i (by omega)];exact q) (.inl (PyProof.noPylong_small (by omega)))
theorem U5:qQ X (gJ .Mod) (rI (fun _ j=>0<j) fun i j=>.int (i % j)):=Y0 fun i j _ _ _ _ _ hc q=>by
 have h1:(0:Int)<j:=hc;exact mod_int' (by omega) (by rw [Int.fmod_eq_emod_of_nonneg i (by omega)];exact q)
theorem Zk {f:af->Sem af}{g:Int->Int}
  (rule:∀ (i:Int) (t:Tok) (s:al) (Q:af->al->Prop) (E:af->al->Prop),Q (.int (g i) s.toks) { s with toks:=s.toks+1 }->au (az X.prog X.w) X.A (f (.int i t)) Q E s) :
  XZ X f (rU fun i=>.int (g i)):=by
 intro pins s σ H x v Q I rx h;obtain ⟨i,rfl,q⟩:=h;obtain ⟨t,rfl⟩:=rx;exact rule i t s _ _ ⟨.int (g i),H,I.tok _,⟨_,rfl⟩,q⟩
theorem U6:XZ X (unaryOp .USub) (rU fun i=>.int (-i)):=Zk fun _ _ _ _ _ q=>neg_int q
end
section
theorem Cy      (I:bP X pins σ H s) (q:Q (.bl k) H) (e:k=k'):EP X pins σ Q (.bool k') s:=by
 subst e;exact ⟨.bl k,H,I,rfl,q⟩
theorem VH:qQ X (bC .Lt) (T_ fun i j=>.bl (decide (i<j))):=U1 fun _ _ _ _ _ _ _ q=>lt_int q
theorem VI:qQ X (bC .LtE) (T_ fun i j=>.bl (decide (i<=j))):=U1 fun _ _ _ _ _ _ _ q=>le_int q
theorem VJ:qQ X (bC .Gt) (T_ fun i j=>.bl (decide (j<i))):=U1 fun _ _ _ _ _ _ _ q=>gt_int q
theorem Kq:qQ X (bC .Lt) (fun x y H Q=>∃ i j,x=.str i/\y=.str j/\Q (.bl (decide (i.cps.toList<j.cps.toList))) H):=by
 intro pins s σ H x y v u Q I rx ry h;obtain ⟨i,j,rfl,rfl,q⟩:=h;obtain ⟨t,rfl⟩:=rx;obtain ⟨t',rfl⟩:=ry;exact lt_str (Cy I q rfl)
theorem U7:qQ X (bC .Is) (fun x y H Q=>y=.non/\Q (.bl (decide (x=.non))) H):=by
 intro pins s σ H x y v u Q I rx ry h;obtain ⟨rfl,q⟩:=h;cases ry;refine is_none_gen (Cy I q ?_);cases x<;>first
  |(cases rx;rfl)
  |(obtain ⟨t,rfl⟩:=rx;rfl)
theorem Qw:qQ X (bC .IsNot) (fun x y H Q=>y=.non/\Q (.bl (!decide (x=.non))) H):=by
 intro pins s σ H x y v u Q I rx ry h;obtain ⟨rfl,q⟩:=h;cases ry;refine isnot_none_gen (Cy I q ?_);cases x<;>first
  |(cases rx;rfl)
  |(obtain ⟨t,rfl⟩:=rx;rfl)
theorem Mv (b:bY) (h:op≠.In:=by decide) (h2:op≠.NotIn:=by decide):i4 op b=false:=by
 have e1:(op==CmpOp.In)=false:=by cases op<;>first|rfl|exact absurd rfl h
 have e2:(op==CmpOp.NotIn)=false:=by cases op<;>first|rfl|exact absurd rfl h2
 cases b<;>simp [i4,e1,e2]
theorem Qx  (ho:qQ X (bC op) r) (ha:PE X a ta) (hb:PE X b tb) (hm:i4 op b=false):PE X (.Compare a [op] [b] pos) (VE r ta tb):=by
 intro pins s σ H Q I h;exact wpAny_Compare1 (U0 ha hb I h fun v u s2 x y H2 I2 rx ry q=>ho pins s2 σ H2 x y v u Q I2 rx ry q) hm
def Se (t:TE):TT:=fun σ H Q=>t σ H fun x H'=>∃ k,x=.bl k/\Q k H'
theorem Qy  (ho:qQ X (bC op) r) (ha:PE X a ta) (hb:PE X b tb) (hm:i4 op b=false):PT X (.Compare a [op] [b] pos) (Se (VE r ta tb)):=by
 intro pins s σ H Q I h;refine PJ (fR (ha pins s σ H _ I h) fun v s1 ⟨x,H1,I1,r1,q1⟩=>fR (hb pins s1 σ H1 _ I1 q1) fun u s2 ⟨y,H2,I2,r2,q2⟩ =>
  fR (ho pins s2 σ H2 x y v u _ I2 r1 r2 q2) fun c s3 ⟨z,H3,I3,r3,k,e,q3⟩=>?_) hm
 subst e;cases r3;exact cK ⟨H3,I3,q3⟩
def GG (r r':R2) (ta tb tc:TE):TE:=fun σ H Q=>ta σ H fun x H1=>tb σ H1 fun y H2=>r x y H2 fun z H3=>∃ k,z=.bl k /\
 (if k=true then tc σ H3 fun w' H4=>r' y w' H4 Q else Q (.bl false) H3)
theorem Mw  (ho:qQ X (bC op) r) (ho':qQ X (bC op') r') (ha:PE X a ta) (hb:PE X b tb) (hc:PE X c tc)
  (hm:LK [op,op'] [b,c]=false:=by with_unfolding_all rfl):PE X (.Compare a [op,op'] [b,c] pos) (GG r r' ta tb tc):=by
 intro pins s σ H Q I h;refine Compare_chain (fR (ha pins s σ H _ I h) fun v s1 ⟨x,H1,I1,r1,q1⟩=>chain_link (fR (hb pins s1 σ H1 _ I1 q1) fun u s2 ⟨y,H2,I2,r2,q2⟩ =>
  fR (ho pins s2 σ H2 x y v u _ I2 r1 r2 q2) fun d s3 ⟨z,H3,I3,r3,k,e,q3⟩=>?_)) hm
 subst e;cases r3;refine cK ?_;cases k with
 |false=>exact ite_ff ⟨.bl false,H3,I3,rfl,q3⟩
 |true=>exact ite_tt (chain_last (fR (hc pins s3 σ H3 _ I3 q3) fun w' s4 h_22=>by obtain ⟨z',H4,I4,r4,q4⟩:=h_22;exact ho' pins s4 σ H4 y z' u w' Q I4 r2 r4 q4))
theorem Mx  (ho:qQ X (bC op) r) (ho':qQ X (bC op') r') (ha:PE X a ta) (hb:PE X b tb) (hc:PE X c tc)
  (hm:LK [op,op'] [b,c]=false:=by with_unfolding_all rfl):PT X (.Compare a [op,op'] [b,c] pos) (Se (GG r r' ta tb tc)):=by
 intro pins s σ H Q I h;refine isTrue_chain (fR (ha pins s σ H _ I h) fun v s1 ⟨x,H1,I1,r1,q1⟩=>test_link (fR (hb pins s1 σ H1 _ I1 q1) fun u s2 ⟨y,H2,I2,r2,q2⟩ =>
  fR (ho pins s2 σ H2 x y v u _ I2 r1 r2 q2) fun d s3 ⟨z,H3,I3,r3,k,e,q3⟩=>?_)) hm
 subst e;cases r3;refine cK ?_;cases k with
 |false =>
  obtain ⟨k',e',q'⟩:=q3;cases e';exact ite_ff ⟨H3,I3,q'⟩
 |true =>
  refine ite_tt (test_last (fR (hc pins s3 σ H3 _ I3 q3) fun w' s4 ⟨z',H4,I4,r4,q4⟩=>fR (ho' pins s4 σ H4 y z' u w' _ I4 r2 r4 q4) fun d' s5 ⟨z2,H5,I5,r5,k2,e2,q5⟩=>?_));subst e2;cases r5;exact cK ⟨H5,I5,q5⟩
def VL (K:a8) (x:V) (H:Hp) (k:Bool):Prop :=
 match x with
 |.non=>k=false
 |.bl b=>k=b
 |.int i=>k=(i != 0)
 |.str y=>y.length<=sizeLine/\k=((y.length:Int) != 0)
 |.byt y=>y.size<=sizeLine/\k=((y.size:Int) != 0)
 |.ref p=>(∃ xs,qB K H p xs/\k=!xs.isEmpty)\/(∃ xs,lu K H p xs/\k=!xs.isEmpty)\/∃ kvs,H p=some (.dK kvs)/\k=!kvs.isEmpty
 |_=>False
theorem GH {κ:Type}{kvs:List (κ×V)}{vs:List (κ×af)} (r:KV kvs vs):(!vs.isEmpty)=!kvs.isEmpty:=by
 cases r<;>rfl
theorem yH  (r:dC xs its):(!its.toArray.isEmpty)=!xs.isEmpty:=by
 cases r<;>simp
theorem wq:(sizeLine:Nat)<2 ^ 63:=by rw [jw];decide
theorem U8:X_ X (fun x H Q=>∃ k,VL X.K x H k/\Q k H):=by
 intro pins s σ H x v Q I rx h;obtain ⟨k,e,q⟩:=h;have hl:=wq;have hs:sizeLine=16777216:=jw;cases x with
 |non =>
  cases rx;have e':k=false:=e;subst e';exact truthy_none ⟨H,I,q⟩
 |bl b =>
  cases rx;have e':k=b:=e;subst e';exact cK ⟨H,I,q⟩
 |int i =>
  obtain ⟨t,rfl⟩:=rx;have e':k=(i != 0):=e;subst e';exact PySem.P.truthy_int ⟨H,I,q⟩
 |str y =>
  obtain ⟨t,rfl⟩:=rx;obtain ⟨hy,e'⟩:y.length<=sizeLine/\k=((y.length:Int) != 0):=e;subst e';exact PySem.P.truthy_str (by omega) ⟨H,I.tok _,q⟩
 |byt y =>
  obtain ⟨t,rfl⟩:=rx;obtain ⟨hy,e'⟩:y.size<=sizeLine/\k=((y.size:Int) != 0):=e;subst e';exact PySem.W.truthy_bytes (by omega) ⟨H,I.tok _,q⟩
 |ref p =>
  cases rx;have e':(∃ xs,qB X.K H p xs/\k=!xs.isEmpty)\/(∃ xs,lu X.K H p xs/\k=!xs.isEmpty)\/∃ kvs,H p=some (.dK kvs)/\k=!kvs.isEmpty:=e;rcases e' with ⟨xs,hx,e'⟩|⟨xs,hx,e'⟩|⟨kvs,hx,e'⟩
  ·subst e';obtain ⟨its,r,pl,hz⟩:=I.list hx;have hlen:=r.length;exact wpAny_truthy_list pl.isList (by simp only [aT];omega) ⟨H,I.tok _,by rw [yH r];exact q⟩
  ·subst e';obtain ⟨its,r,pl,hz⟩:=I.tuple hx;have hlen:=r.length;exact truthy_tuple pl (by simp only [aT];omega) ⟨H,I.tok _,by rw [yH r];exact q⟩
  ·subst e';obtain ⟨hz,hS,vs,r,m⟩:kvs.length<=sizeLine/\(p==fi)=false/\∃ vs,KV kvs vs/\s.heap.DictOf (gE X.prog X.w) p vs:=I.hok p _ hx;have hlen:kvs.length=vs.length:=jq r;exact wpAny_truthy_dict hS m (by omega) ⟨H,I.tok _,by rw [GH r];exact q⟩
 |_=>exact (show False from e).elim
theorem My (ha:PE X a ta) (he:∀ whole,vZ a X.env whole=(do let v <- whole;xc a.pos;holding [v] (truthy v))) :
  PT X a (fun σ H Q=>ta σ H fun x H'=>∃ k,VL X.K x H' k/\Q k H'):=by
 intro pins s σ H Q I h;exact isTrue_plain (fR (ha pins s σ H _ I h) fun v s1 h_23=>by obtain ⟨x,H1,I1,r1,q1⟩:=h_23;exact U8 pins s1 σ H1 x v Q I1 r1 q1) (he _)
theorem GI:qQ X (gJ .Add) (fun x y H Q=>∃ i j,x=.str i/\y=.str j/\i.length+j.length<=sizeLine/\Q (.str (i++j)) H):=by
 intro pins s σ H x y v u Q I rx ry h;obtain ⟨i,j,rfl,rfl,hz,q⟩:=h;obtain ⟨t,rfl⟩:=rx;obtain ⟨t',rfl⟩:=ry;exact add_str (fun t' tk=>⟨.str (i++j),H,I.tok _,⟨_,rfl⟩,q⟩) hz
theorem lS  (r:dC [x] us):∃ u,us=[u]/\dv x u:=by
 cases r with
 |cons r1 r2=>cases r2;exact ⟨_,rfl,r1⟩
theorem Sf  (r:dC [x,y] us):∃ u w',us=[u,w']/\dv x u/\dv y w':=by
 cases r with
 |cons r1 r2 =>
  cases r2 with
  |cons r3 r4=>cases r4;exact ⟨_,_,rfl,r1,r3⟩
end
end L2
namespace L2
open PySem PySem.Spec PyProof.Rows
structure U9 (h:bT) (x dx C:am) (mA:Str->Option af):Prop where
 obj:h.get? x=some (xE C dx)
 ns:h.Ns1 dx mA
 ne:dx≠x
theorem Kr {h:bT}{dx:am}{mA:Str->Option af} (n:h.Ns1 dx mA):∃ od,h.get? dx=some od/\∀ name,yA name od=some (mA name):=by
 obtain ⟨o,es,ep,ho,hd,hk,_,hm⟩:=n;refine ⟨o,ho,fun name=>?_⟩;have e:=hm name;unfold nsFind findBy at e;rw [<- K0] at e;unfold yA;rw [hd];dsimp only;split
 ·rename_i y q
  rw [q] at e;exact congrArg some e
 ·rename_i q
  rw [q] at e;have a:es.toList.any (·.refKey)=false:=by
   rw [xf];intro y hy;obtain ⟨z,t,hkey⟩:=hk y (Array.mem_toList_iff.mp hy);simp [DictEntry.refKey,hkey]
  have a':¬ es.toList.any (·.refKey)=true:=by rw [a];exact bf
  rw [if_neg a'];exact congrArg some e
theorem U9.look   (I:U9 h x dx C mA):∃ od,PySem.W.InstAt h x (xE C dx) C (some od)/\∀ name,yA name od=some (mA name) :=
 let ⟨od,ho,hl⟩:=Kr I.ns
 ⟨od,⟨I.obj,rfl,rfl,ho⟩,hl⟩
section
variable {prog:bq}{w:bL}{A:cy}{E:af->al->Prop}{s:al}{K:a8}{x dx C f:am}{mA:Str->Option af}{name:Str}{v:af}
end
theorem yG.some_of  (r:yG (some v) o):∃ u,o=some u/\dv v u:=by
 cases o with
 |none=>exact (show False from r).elim
 |some u=>exact ⟨u,rfl,r⟩
section
theorem Qz (hok:qP P w H h) (e:H a=some (.ins C dx fs)):∃ mA,U9 h a dx C mA/\(∀ f,yG (fs.lookup f) (mA f))/\PySem.Within mA (fs.map (·.1))/\fs.length<=1000/\H dx=some (.own a):=by
 obtain ⟨d,z,ne,ob,mA,n,r,q⟩:=(show dz P w H h a (.ins C dx fs) from hok a _ e);exact ⟨mA,⟨ob,n,ne⟩,r,q,z,d⟩
end
structure Y3 (K:a8) (C:am):Prop where
 pg:K1 K C Str.empty=true
 hd:PySem.W.hasDictIn K C=true
 po:PySem.W.plainOver K C=true
 sa:my K (.ref C) "__setattr__"=some (some (.builtin "object.__setattr__"))
theorem Y3.get {K:a8}{C:am} (c:Y3 K C) (f:Str):K1 K C f=true:=c.pg
section
end
section
end
section
inductive xN (K:a8) (H:Hp):V->af->Prop where
 |non:xN K H .non (.type "NoneType")
 |bl (x:Bool):xN K H (.bl x) (.type "bool")
 |int (i:Int):xN K H (.int i) (.type "int")
 |str (x:Str):xN K H (.str x) (.type "str")
 |flt (x:UInt64):xN K H (.flt x) (.type "float")
 |lst {a:am}{xs:List V} (e:H a=some (.lst xs)):xN K H (.ref a) (.type "list")
 |frz {a:am}{o:Obj}{xs:List V} (e:H a=some (.frz o (.lst xs))):xN K H (.ref a) (.type "list")
 |tup {a:am}{xs:List V} (e:H a=some (.tup xs)):xN K H (.ref a) (.type "tuple")
 |dK {a:am}{kvs:List (gD×V)} (e:H a=some (.dK kvs)):xN K H (.ref a) (.type "dict")
 |dT {a:am}{kvs:List (List gD×V)} (e:H a=some (.dT kvs)):xN K H (.ref a) (.type "dict")
 |ins {a C dx:am}{fs:List (Str×V)} (e:H a=some (.ins C dx fs)) (cl:Y3 K C) (ha:my K (.ref C) "__class__"=some (some (.builtin "object.__class__")))
   (hn:Il K (.builtin "object.__class__") "__get__"=some (some (.builtin "getset_descriptor.__get__"))) (htk:LL K (.builtin "object.__class__")=some true)
   (hm:io K C (.type "object")=some true):xN K H (.ref a) (.ref C)
theorem sg  (I:bP X pins σ H s) (rx:dv x u) (ty:xN X.K H x t) (e:qS X.K t c=some b) (h:∀ tk,Q (.bool b) { s with toks:=tk }) :
  au (az X.prog X.w) A (call (.builtin "isinstance") [u,c]) Q E s:=by
 cases ty with
 |non=>cases (show u=e8 from rx);exact cL PySem.W.kitx_none I.kIn ja e (fun z=>nomatch z) h
 |bl y=>cases (show u=JY y from rx);exact cL PySem.W.kitx_bool I.kIn ja e (fun z=>nomatch z) h
 |int i=>obtain ⟨t,q⟩:=(show ∃ t,u=pA i t from rx);cases q;exact cL PySem.W.kitx_int I.kIn ja e (fun z=>nomatch z) h
 |str y=>obtain ⟨t,q⟩:=(show ∃ t,u=jU y t from rx);cases q;exact cL PySem.W.kitx_str I.kIn ja e (fun z=>nomatch z) h
 |flt y=>obtain ⟨t,q⟩:=(show ∃ t,u=Value.float y t from rx);cases q;exact cL PySem.W.kitx_float I.kIn ja e (fun z=>nomatch z) h
 | @lst a xs ea =>
  cases (show u=bt a from rx);obtain ⟨_,_,n,_,h1⟩:=(show dz X.prog X.w H s.heap a (.lst xs) from I.hok a _ ea);exact cL uQ I.kIn ⟨_,h1,rfl⟩ e (fun z=>nomatch z) h
 | @frz a ob xs ea =>
  cases (show u=bt a from rx);obtain ⟨_,_,_,n,_,h1⟩:=(show dz X.prog X.w H s.heap a (.frz ob (.lst xs)) from I.hok a _ ea);exact cL uQ I.kIn ⟨_,h1,rfl⟩ e (fun z=>nomatch z) h
 | @tup a xs ea =>
  cases (show u=bt a from rx);obtain ⟨_,_,_,p⟩:=(show dz X.prog X.w H s.heap a (.tup xs) from I.hok a _ ea);obtain ⟨o,h1,h2,_⟩:=p;exact cL Gk I.kIn ⟨o,h1,h2⟩ e (fun z=>nomatch z) h
 | @dK a kvs ea =>
  cases (show u=bt a from rx);obtain ⟨_,_,vs,_,p⟩:=(show dz X.prog X.w H s.heap a (.dK kvs) from I.hok a _ ea);obtain ⟨o,es,ep,h1,h2,_⟩:=p;exact cL Im I.kIn ⟨o,h1,h2.1⟩ e (fun z=>nomatch z) h
 | @dT a kvs ea =>
  cases (show u=bt a from rx);obtain ⟨_,_,xs,_,o,es,ep,h1,h2,_⟩:=(show dz X.prog X.w H s.heap a (.dT kvs) from I.hok a _ ea);exact cL Im I.kIn ⟨o,h1,h2.1⟩ e (fun z=>nomatch z) h
 | @ins a C dx fs ea cl ha hn htk hm =>
  cases (show u=bt a from rx);obtain ⟨mA,O,_⟩:=Qz I.hok ea;obtain ⟨od,J,_⟩:=O.look;exact cL (PySem.W.kitx_own (cl.get _) cl.hd ha hn htk hm) I.kIn J e (fun z=>nomatch z) h
end
end L2
namespace L2
open PySem PySem.Spec PyProof.Rows
structure jR (k:Nat) (A:cy):Prop where
 hd:A.handled=none
 dp:A.depth+3*k+5<recursionLimit
 un:A.units+16*k+200<gK
theorem jR.mono  (r:jR k A) (h:j<=k):jR j A:=⟨r.hd,by have:=r.dp;omega,by have:=r.un;omega⟩
theorem jR.deeper  (r:jR (k+1) A) (env:Env):jR k (A.deeper env) :=
 ⟨r.hd,by have:=r.dp;show A.depth+1+3*k+5<_;omega,by have:=r.un;show A.units+3+16*k+200<_;omega⟩
theorem jR.depth  (r:jR k A):A.depth<recursionLimit:=by have:=r.dp;omega
theorem jR.units  (r:jR k A):A.units+64<gK:=by have:=r.un;omega
def Ua:TA:=fun _ H Q=>Q [] H
def Mz (ta:TE) (tr:TA):TA:=fun σ H Q=>ta σ H fun x H1=>tr σ H1 fun xs H2=>Q (x::xs) H2
section
theorem kH:PA X [] Ua:=fun _ _ _ _ H Q I h=>Calls.spliced_nil ⟨[],H,I,.nil,h⟩
theorem iB (ha:PE X e te) (hr:PA X es t) (hs:aJ (e::es) X.env=(false,eD e X.env)::aJ es X.env:=by rfl):PA X (e::es) (Mz te t):=by
 intro pos pins s σ H Q I h;rw [hs];show au _ _ (spliced ((false,eD e X.env)::iM pos (aJ es X.env))) _ _ s;refine Calls.spliced_cons (fR (ha pins s σ H _ I h) fun u s1 ⟨x,H1,I1,r1,q1⟩=>?_);exact fR (hr pos pins s1 σ H1 _ I1 q1) fun us s2 h_25=>by obtain ⟨xs,H2,I2,r2,q2⟩:=h_25;exact ⟨x::xs,H2,I2,.cons r1 r2,q2⟩
def Y4 (t:TA):TE:=fun σ H Q=>t σ H fun xs H1=>xs.length<=sizeLine/\∀ p,H1 p=none->Q (.ref p) (upd H1 p (.tup xs))
def Y5 (t:TA):TE:=fun σ H Q=>t σ H fun xs H1=>xs.length<=sizeLine/\∀ p,H1 p=none->Q (.ref p) (upd H1 p (.lst xs))
theorem Ub {x1} (h:PA X es t):PE X (.Tuple es x1 pos) (Y4 t):=by
 intro pins s σ H Q I hq;refine wpAny_Tuple_spliced (fR (h pos pins s σ H _ I hq) fun us s1 ⟨xs,H1,I1,r,z,q⟩=>⟨by rw [<- r.length];exact z,?_⟩);have hf:H1 s1.heap.objs.size=none:=I1.hok.fresh (aq _);refine ⟨.ref s1.heap.objs.size,upd H1 s1.heap.objs.size (.tup xs),I1.laid (t':=s1.toks) (fun b u e=>ac _ e) (aq _) ?_,rfl,q _ hf⟩;exact ⟨z,us,r,⟨_,ax _ rfl,rfl,_,rfl⟩⟩
theorem u7 (h:PA X es t):PE X (.List es pos) (Y5 t):=by
 intro pins s σ H Q I hq;refine wpAny_List_spliced (fR (h pos pins s σ H _ I hq) fun us s1 ⟨xs,H1,I1,r,z,q⟩=>⟨by rw [<- r.length];exact z,?_⟩);have hf:H1 s1.heap.objs.size=none:=I1.hok.fresh (aq _);refine ⟨.ref s1.heap.objs.size,upd H1 s1.heap.objs.size (.lst xs),I1.laid (t':=s1.toks) (fun b u e=>ac _ e) (aq _) ?_,rfl,q _ hf⟩;exact ⟨z,us,0,r,ax _ rfl⟩
end
abbrev Sp:=List V->Hp->VK->XK->Prop
abbrev LX:=List Env->Hp->al->XK->af->al->Prop
structure QA (P:bq) (w:bL) (K:a8) (mg:Str->Option af) (base:bT) (A:cy) (outer:List Env) (s:al) (H:Hp):Prop where
 frames:A.frames=some outer
 mod:Mod K mg base
 bs:∀ b o,base.get? b=some o->s.heap.get? b=some o/\H b=none
 bsz:base.objs.size<=s.heap.objs.size
 funs:s.heap.FunFrames base outer
 frf:∀ b∈yh outer,H b=none
 hok:qP P w H s.heap
 bare:qJ s.gens
inductive CE (outer:List Env) (P:bq) (w:bL) (H:Hp) (s:al) (Q:VK) (u:af) (s':al):Prop
 |mk (v H':_) (h0:s'.os=s.os) (h1:qJ s'.gens) (h2:Un (yh outer) [] H H' s.heap s'.heap) (h3:qP P w H' s'.heap) (h4:dv v u) (h5:Q v H'):CE outer P w H s Q u s'
def CR (CX:LX) (outer:List Env) (P:bq) (w:bL) (H:Hp) (s:al) (Q:VK) (E:XK) (r:Result) (s':al):Prop :=
 match r with
 |.ok (.ret u)=>CE outer P w H s Q u s'
 |.ok _=>False
 |.error e=>CX outer H s E e s'
structure pG (P:bq) (w:bL) (K:a8) (mg:Str->Option af) (base:bT) (CX:LX) (k:Nat) (f:am) (fd:fz) (ps:List Str) (sp:Sp):Prop where
 len:∀ vs H Q E,sp vs H Q E->vs.length=ps.length
 run:∀ (A:cy) (outer:List Env) (s:al) (H:Hp) (args:Args) (us:List af) (vs:List V) (Q:VK) (E:XK),jR k A->QA P w K mg base A outer s H->Av s fd args (ps.zip us)->dC vs us->sp vs H Q E ->
  jL (az P w) A (.call (.ref f) args) (CR CX outer P w H s Q E) s
theorem pG.imp {P:bq}{w:bL}{K:a8}{mg:Str->Option af}{base:bT}{CX:LX}{k:Nat}{f:am}{fd:fz}{ps:List Str}{sp sp':Sp} (F:pG P w K mg base CX k f fd ps sp)
  (h:∀ vs H Q E,sp' vs H Q E->sp vs H Q E):pG P w K mg base CX k f fd ps sp' :=
 ⟨fun vs H Q E q=>F.len vs H Q E (h _ _ _ _ q),fun A outer s H args us vs Q E hr he hb hv hs=>F.run A outer s H args us vs Q E hr he hb hv (h _ _ _ _ hs)⟩
section
theorem bP.env0 (I:bP X pins σ H s):QA X.prog X.w X.K X.mg X.base X.A X.stack s H :=
 ⟨I.ok.frames,I.ok.mod,I.bs,ck I.ok.bsz I.sz,I.stack,I.stkFree,I.hok,I.bare⟩
theorem bP.after  (I:bP X pins σ H s) (h:CE X.stack X.prog X.w H s Q u s'):EP X pins σ Q u s':=by
 obtain ⟨v,H',os,bare,un,hok,r,q⟩:=h;obtain ⟨hh,g,d,t,os'⟩:=s';obtain rfl:os'=s.os:=os;exact ⟨v,H',I.call (h':=hh) (g':=g) (d':=d) (t':=t) (ch:=[]) un hok bare (fun b z=>absurd z (by simp)),r,q⟩
end
def MA (sp:Sp) (dvs:List V) (E:XK) (t:TA):TE:=fun σ H Q=>t σ H fun vs H1=>sp (vs++dvs) H1 Q E
def jG (K:a8) (fd:fz) (ps:List Str) (ds:List af):Prop :=
 ∀ (s:al) (us:List af),K.In s.heap->(us++ds).length=ps.length->Av s fd ⟨us,[]⟩ (ps.zip (us++ds))
theorem jG.all {K:a8}{fd:fz}{ps:List Str} (h:∀ us:List af,us.length=ps.length->Q0 fd ⟨us,[]⟩=pure (ps.zip us)):jG K fd ps []:=fun s us _ hl=>by
 rw [cS] at hl ⊢;exact .of_eq (h us hl)
def mC (CX:LX) (X:Cx) (E:XK):Prop:=∀ (pins:List (am×Obj)) (σ:St) (H:Hp) (s:al) (e:af) (s':al),bP X pins σ H s->CX X.stack H s E e s'->X.xe e s'
section
theorem MB       (F:pG X.prog X.w X.K X.mg X.base CX k f fd ps sp) (hr:jR k X.A) (hb:jG X.K fd ps ds) (hd:dC dvs ds) (hx:mC CX X E)
  (I:bP X pins σ H s) (r:dC vs us) (h:sp (vs++dvs) H Q E):au (az X.prog X.w) X.A (call (.ref f) us) (EP X pins σ Q) X.xe s:=by
 have r2:dC (vs++dvs) (us++ds):=r.append hd;have hl:(us++ds).length=ps.length:=by rw [<- r2.length];exact F.len _ _ _ _ h
 refine wpAny_call (tZ (F.run X.A X.stack s H ⟨us,[]⟩ (us++ds) (vs++dvs) Q E hr I.env0 (hb s us I.kIn hl) r2 h) fun r s' hq=>?_);cases r with
 |error e=>exact hx pins σ H s e s' I hq
 |ok fl =>
  cases fl with
  |ret u=>exact I.after hq
  |next=>exact iY hq
  |brk=>exact iY hq
  |cont=>exact iY hq
theorem Iz (F:pG X.prog X.w X.K X.mg X.base CX k f fd ps sp) (hr:jR k X.A) (hg:Gl X x) (hm:X.mg x=some (.ref f)) (hk:dB X.K (.ref f)=true) (hb:jG X.K fd ps ds) (hd:dC dvs ds) (hx:mC CX X E)
  (ha:PA X (e::es) t) (hdb:(x==("__debug__" : Str))=false:=by decide) (he:aJ (e::es) X.env=(false,eD e X.env)::aJ es X.env:=by rfl) (hpl:(iM pos (aJ es X.env)).any (·.1)=false:=by rfl) :
  PE X (.Call (.Name x p) (e::es) [] pos) (MA sp dvs E t):=by
 intro pins s σ H Q I h;refine pB (Iw I hg hm ?_ hdb);refine Gm (h₀:=X.base) I.ok.mod.kin hk (fR (ha pos pins s σ H _ I h) fun us s1 ⟨vs,H1,I1,r,q⟩=>⟨I1.kIn,?_⟩) he hpl;exact MB F hr hb hd hx I1 r q
end
section
end
structure br (N P:List Str) (sc:ij):Prop where
 kind:sc.kind=.function
 co:sc.isCoroutine=false
 gen:sc.isGenerator=false
 nd:N.Nodup
 pre:N.take P.length=P
 par:∀ x∈P,sc.names.lookup x=some .local\/sc.names.lookup x=some .cell
 nofree:∀ y∈sc.names,y.2≠.free
theorem Bn {kindOf:Str->Option lG}{x:Str}:∀ {binds:List (Str×af)}{m:Str->Option af},(∀ v,(x,v)∉binds)->LM kindOf binds m x=m x
 |[],_,_=>rfl
 |(n,v)::r,m,h=>by
  unfold LM;rw [Bn fun w hw=>h w (ai _ hw)];split
  ·have:x≠n:=by rintro rfl;exact h v ak
   simp [this]
  ·rfl
theorem Bo {kindOf:Str->Option lG}{x:Str}:∀ {binds:List (Str×af)}{m:Str->Option af},(∀ v,(x,v)∉binds)->LN kindOf binds m x=m x
 |[],_,_=>rfl
 |(n,v)::r,m,h=>by
  unfold LN;rw [Bo fun w hw=>h w (ai _ hw)];split
  ·rfl
  ·have:x≠n:=by rintro rfl;exact h v ak
   simp [this]
theorem Bp {kindOf:Str->Option lG}{x:Str}{v:af}:∀ {P:List Str}{vs:List af}{i:Nat}{m:Str->Option af},P.Nodup->P[i]?=some x->vs[i]?=some v->kindOf x=some .local ->
  LM kindOf (P.zip vs) m x=some v
 |[],_,_,_,_,h,_,_=>by simp at h
 |_::_,[],_,_,_,_,h,_=>by simp at h
 |p::P,w::vs,0,m,nd,h1,h2,hk=>by
  simp at h1 h2;subst h1;subst h2;show LM kindOf ((p,w)::P.zip vs) m p=_;unfold LM;rw [Bn fun v hv=>(List.nodup_cons.mp nd).1 (An hv).1,if_pos hk];simp
 |p::P,w::vs,i+1,m,nd,h1,h2,hk=>by
  show LM kindOf ((p,w)::P.zip vs) m x=_;unfold LM;exact Bp (i:=i) (List.nodup_cons.mp nd).2 (by simpa using h1) (by simpa using h2) hk
theorem Br {kindOf:Str->Option lG}{x:Str}{v:af}:∀ {P:List Str}{vs:List af}{i:Nat}{m:Str->Option af},P.Nodup->P[i]?=some x->vs[i]?=some v->kindOf x≠some .local ->
  LN kindOf (P.zip vs) m x=some v
 |[],_,_,_,_,h,_,_=>by simp at h
 |_::_,[],_,_,_,_,h,_=>by simp at h
 |p::P,w::vs,0,m,nd,h1,h2,hk=>by
  simp at h1 h2;subst h1;subst h2;show LN kindOf ((p,w)::P.zip vs) m p=_;unfold LN;rw [Bo fun v hv=>(List.nodup_cons.mp nd).1 (An hv).1,if_neg hk];simp
 |p::P,w::vs,i+1,m,nd,h1,h2,hk=>by
  show LN kindOf ((p,w)::P.zip vs) m x=_;unfold LN;exact Br (i:=i) (List.nodup_cons.mp nd).2 (by simpa using h1) (by simpa using h2) hk
def start (N:List Str) (vs:List V):St:=vs.map some++tx (N.length-vs.length) none
def uX (CX:LX) (P:bq) (w:bL) (K:a8) (mg:Str->Option af) (base:bT) (N:List Str) (qual:Str) (scope:ij) (f:am) (cd:af) (A:cy) (outer:List Env) (s:al) (H:Hp) (E:XK):Cx where
 prog:=P
 w:=w
 K:=K
 mg:=mg
 base:=base
 A:=A.deeper (qT qual scope s.heap.objs.size f cd)
 N:=N
 s₀:=s
 H₀:=H
 env:=qT qual scope s.heap.objs.size f cd
 outer:=outer
 stack:=qT qual scope s.heap.objs.size f cd::outer
 ex:=[]
 calm:=true
 fn:=fun _=>true
 pn:=[]
 xe:=fun e s'=>au (az P w) (A.deeper (qT qual scope s.heap.objs.size f cd)) (leaving (qT qual scope s.heap.objs.size f cd) e) (fun _ s''=>CX outer H s E e s'') (fun e' s''=>CX outer H s E e' s'') s'
theorem E7 {sc:ij}{n:Nat}{x:Str} (h:sc.names.lookup x=some .cell):∃ c,(bg n sc.names []).lookup x=some c:=by
 have q:=i6 sc.names n [] (.inl h);exact Option.isSome_iff_exists.mp q
theorem Ks {CX:LX}{P:bq}{w:bL}{K:a8}{mg:Str->Option af}{base:bT}{N ps:List Str}{qual:Str}{scope:ij}{f:am}{cd:af}{A:cy}{outer:List Env}{s s1:al}{H:Hp}{E:XK}{us:List af}{vs:List V}
  (S:br N ps scope) (hd:A.handled=none) (e0:QA P w K mg base A outer s H) (hl:vs.length=ps.length) (r:dC vs us)
  (x:InCallC s s.heap.objs.size (LM (qT qual scope s.heap.objs.size f cd).kindOf (ps.zip us) fun _=>none) (bg (s.heap.objs.size+1) scope.names []) (LN (qT qual scope s.heap.objs.size f cd).kindOf (ps.zip us) fun _=>none) s1) :
  bP (uX CX P w K mg base N qual scope f cd A outer s H E) [] (start N vs) H s1:=by
 have hpl:ps.length<=N.length:=by have:=congrArg lQ S.pre;rw [y0] at this;omega
 obtain ⟨h1,tk,rfl,hk⟩:=x.done;have noA:∀ b:am,b∉(uX CX P w K mg base N qual scope f cd A outer s H E).ex:=fun b z=>absurd (show b∈([] : List am) from z) (by simp);refine ⟨⟨e0.mod,S.kind,rfl,rfl,aq _,fun y z c h1 h2=>?_,fun y hy=>?_,fun y c _ h=>?_,fun _=>hd,Around.frames_deeper e0.frames,.inr ⟨rfl,rfl⟩,fun b z=>absurd z (noA b),e0.bs,e0.bsz,fun b _ _=>noA b,fun b z=>absurd z (noA b),e0.funs,e0.frf⟩,
  rfl,e0.bare,Un.kept hk,⟨_,x.toInCall.ns,fun i y v h1 h2 h3=>?_⟩,fun y c h=>⟨_,x.cell y c h⟩,e0.hok.fresh (aq _),fun y c h=>?_,fun p hp=>absurd (show p∈([] : List (am×Obj)) from hp) (by simp),e0.hok.kept hk,?_⟩
 ·exact name_of_addr x.apart (dA h1) (dA h2)
 ·have hy:scope.names.lookup y=some .cell\/scope.names.lookup y=some .free:=hy;rcases hy with hy|hy
  ·exact E7 hy
  ·exact absurd rfl (S.nofree _ (dA hy))
 ·exact cm (x.above y c (dA h))
 ·have hi:i<vs.length:=by
   unfold start at h2;by_cases hi:i<vs.length
   ·exact hi
   ·rw [ba (by simpa using hi)] at h2;rw [cn] at h2;split at h2<;>cases h2
  have ha:vs[i]?=some v:=by
   unfold start at h2;rw [bO (by simpa using hi),aU] at h2;cases e:vs[i]? with
   |none=>rw [e] at h2;cases h2
   |some a=>rw [e] at h2;cases h2;rfl
  obtain ⟨u,hu,rv⟩:=r.get ha;have hp:ps[i]?=some y:=by
   rw [<- S.pre,List.getElem?_take_of_lt (by omega)];exact h1
  have ndP:ps.Nodup:=by rw [<- S.pre];exact S.nd.sublist (List.take_sublist _ _)
  refine ⟨u,rv,?_⟩;rcases S.par y (jb hp) with k|k
  ·exact .inl ⟨k,Bp ndP hp hu k⟩
  ·obtain ⟨c,e⟩:=E7 (n:=s.heap.objs.size+1) k;refine .inr ⟨.inl k,c,e,?_⟩;have q:=x.cell y c e;rw [Br ndP hp hu (by show scope.names.lookup y≠_;rw [k];decide)] at q;exact q
 ·exact e0.hok.fresh (cm (x.above y c (dA h)))
 ·unfold start;show _=N.length;rw [aR,ao,c_];omega
theorem Sg {CX:LX}{P:bq}{w:bL}{K:a8}{mg:Str->Option af}{base:bT}{k:Nat}{f:am}{name qual:Str}{params:Arguments}{body:List db}{scope:ij}{dV kV doc pm cdv ct oc:af}{an od:Option am}
  {osl:Array (Option af)}{N ps:List Str}{sp:Sp} (lk:K.lookup f=some ⟨oc,od,.func (gz name qual params body scope dV kV doc pm an cdv ct),osl⟩) (hcd:mz K cdv qual=true) (S:br N ps scope)
  (len:∀ vs H Q E,sp vs H Q E->vs.length=ps.length)
  (hbody:∀ (A:cy) (outer:List Env) (s:al) (H:Hp) (vs:List V) (Q:VK) (E:XK),jR k (A.deeper (qT qual scope s.heap.objs.size f cdv))->sp vs H Q E ->
   ∃ t,E6 (uX CX P w K mg base N qual scope f cdv A outer s H E) body t/\t { nx:=fun _ H'=>Q .non H',rt:=Q } (start N vs) H) :
  pG P w K mg base CX (k+1) f (gz name qual params body scope dV kV doc pm an cdv ct) ps sp:=by
 refine ⟨len,fun A outer s H args us vs Q E hr e0 hb r hsp=>?_⟩;have hl:=len _ _ _ _ hsp;have KX:K.In s.heap:=e0.mod.kin.keeps fun b o e=>(e0.bs b o e).1;have lim:s.heap.NoLimit:=e0.mod.nolimit.keeps fun b o e=>(e0.bs b o e).1;have hkind:∀ y∈ps.zip us,scope.names.lookup y.1=some .local\/(scope.names.lookup y.1=some .cell/\((bg (s.heap.objs.size+1) scope.names []).lookup y.1).isSome=true):=fun ⟨n,v⟩ hy=>by
  rcases S.par n (An hy).1 with q|q
  ·exact .inl q
  ·exact .inr ⟨q,i6 _ _ _ (.inl q)⟩
 refine codeAny_call_function hr.depth (KX _ _ lk) rfl S.co S.gen rfl (Gn KX hcd) (hb _ _ _ _ ?_);refine wpAny_newFunctionEnv_cells S.kind hkind fun env he s1 x=>?_;subst he;refine ⟨lim.keeps x.toInCall.keep,codeAny_func ?_⟩;obtain ⟨t,ht,hq⟩:=hbody A outer s H vs Q E (hr.deeper _) hsp;have I:bP (uX CX P w K mg base N qual scope f cdv A outer s H E) [] (start N vs) H s1:=Ks S hr.hd e0 hl r x;refine bA (ht [] s1 (start N vs) H _ I hq) (fun fl s' hs=>?_) fun e s' hs=>hs;have fin:∀ {σ':St}{H':Hp}{v:V}{u:af},bP (uX CX P w K mg base N qual scope f cdv A outer s H E) [] σ' H' s'->dv v u->Q v H'->CE outer P w H s Q u s' :=
  fun {σ' H' v u} J rv q=>⟨v,H',J.os,J.bare,J.base,J.hok,rv,q⟩
 cases fl with
 |ret u =>
  obtain ⟨v,σ',H',J,rv,q⟩:=hs;exact fin J rv q
 |next =>
  obtain ⟨σ',H',J,q⟩:=hs;exact fin (v:=V.non) (u:=e8) J rfl q
 |brk =>
  obtain ⟨_,_,_,q⟩:=hs;exact iY q
 |cont =>
  obtain ⟨_,_,_,q⟩:=hs;exact iY q
end L2
namespace L2
open PySem PySem.Spec PyProof.Rows
section
variable {X:Cx}{x:Str}{p pos:Pos}{e:bY}{es:List bY}{t:TA}{id T:String}{r:List V->Hp->VK->Prop}
def VM (r:List V->Hp->VK->Prop) (t:TA):TE:=fun σ H Q=>t σ H fun vs H1=>r vs H1 Q
theorem uY (hc:jX X (.builtin id) r) (hg:Gl X x) (hm:X.mg x=none) (hv:iL x=some (.builtin id)) (ha:PA X (e::es) t) (hn:x≠"__name__":=by decide) (hdb:(x==("__debug__" : Str))=false:=by decide)
  (he:aJ (e::es) X.env=(false,eD e X.env)::aJ es X.env:=by rfl) (hpl:(iM pos (aJ es X.env)).any (·.1)=false:=by rfl):PE X (.Call (.Name x p) (e::es) [] pos) (VM r t):=by
 intro pins s σ H Q I h;refine pB (wo I hg hm hv ?_ hn hdb);exact PyProof.Rows.callWith_builtin1 (fR (ha pos pins s σ H _ I h) fun us s1 h_27=>by obtain ⟨vs,H1,I1,r1,q1⟩:=h_27;exact hc pins s1 σ H1 vs us Q I1 r1 q1) he hpl
theorem Bt (hc:jX X (.type T) r) (hg:Gl X x) (hm:X.mg x=none) (hv:iL x=some (.type T)) (ha:PA X (e::es) t) (hn:x≠"__name__":=by decide) (hdb:(x==("__debug__" : Str))=false:=by decide)
  (he:aJ (e::es) X.env=(false,eD e X.env)::aJ es X.env:=by rfl) (hpl:(iM pos (aJ es X.env)).any (·.1)=false:=by rfl):PE X (.Call (.Name x p) (e::es) [] pos) (VM r t):=by
 intro pins s σ H Q I h;refine pB (wo I hg hm hv ?_ hn hdb);exact i5 (fR (ha pos pins s σ H _ I h) fun us s1 h_28=>by obtain ⟨vs,H1,I1,r1,q1⟩:=h_28;exact hc pins s1 σ H1 vs us Q I1 r1 q1) he hpl
end
end L2
namespace HT
open PySem PyProof.Rows
section
open PySem.SeqAt
open PySem.AutoSeq1 (wpAny_loadPart')
open PySem.MeetsSeq PySem.MeetsSeq2 PySem.MeetsSeq3
end
section
theorem QB   (ht:IsTup s.heap t vs.toArray) (hb:IsTup s.heap b ws.toArray) (hv:vs≠[])
  (h1:ws=[]->Q (.ref t) s) (h2:ws≠[]->Q (.ref s.heap.objs.size) { s with heap:=s.heap.push { cls:=.type "tuple",data:=.seq (vs++ws).toArray } })
  (hsz:vs.length+ws.length<=sizeLine):au (az prog w) A (gJ .Add (.ref t) (.ref b)) Q E s:=by
 obtain ⟨⟨cls,dd,data,sl⟩,ho,hc,n,hd⟩:=id ht;obtain ⟨⟨cls2,dd2,data2,sl2⟩,ho2,hc2,n2,hd2⟩:=id hb;simp only at hc hd hc2 hd2;subst hc hd hc2 hd2;have e:vs.toArray++ws.toArray=(vs++ws).toArray:=by simp
 by_cases hw:ws=[]
 ·exact Aw ⟨_,ho,rfl⟩ ⟨_,ho2,rfl⟩ Ci K2 pC oH (nX _ _)
   (tuple_addW1 t b vs.toArray ws.toArray n n2 dd dd2 sl sl2 (by simpa using hv) (by simp [hw])) ⟨ho,ho2,h1 hw⟩
 ·refine Aw ⟨_,ho,rfl⟩ ⟨_,ho2,rfl⟩ Ci K2 pC oH (nX _ _)
   (tuple_addW2 t b vs.toArray ws.toArray n n2 dd dd2 sl sl2 (by simpa using hv) (by simpa using hw) (by rw [aT,aT];exact hsz)) ⟨ho,ho2,?_⟩
  rw [e];exact h2 hw
def jh (n d:Nat):Option Int->Nat
 |none=>d
 |some v=>if v<0 then (v+(n:Int)).toNat else min v.toNat n
theorem E8 (n d:Nat):jh n d none=d:=rfl
theorem IA (n d k:Nat):jh n d (some (k:Int))=min k n:=by
 show (if (k:Int)<0 then ((k:Int)+(n:Int)).toNat else min (k:Int).toNat n)=min k n;rw [if_neg (by omega),kC]
theorem Uc (n d:Nat) (hd:d<=n) (o:Option Int):jh n d o<=n:=by
 cases o with
 |none=>exact hd
 |some v =>
  show (if v<0 then (v+(n:Int)).toNat else min v.toNat n)<=n;by_cases hv:v<0
  ·rw [if_pos hv];omega
  ·rw [if_neg hv];exact qG _ _
theorem IB (v:Int) (n d:Nat):(if v<0 then max (v+(n:Int)) 0 else min v (n:Int))=((jh n d (some v):Nat):Int):=by
 show (if v<0 then max (v+(n:Int)) 0 else min v (n:Int))=(((if v<0 then (v+(n:Int)).toNat else min v.toNat n):Nat):Int);by_cases hv:v<0
 ·simp only [if_pos hv];omega
 ·simp only [if_neg hv];omega
theorem GJ (lo hi:Option Int) (n:Nat):lH lo hi 1 (n:Int)=(((jh n 0 lo:Nat):Int),((jh n n hi:Nat):Int)):=by
 have h1:¬ ((1:Int)<0):=by omega
 unfold lH;simp only [h1,if_false];refine Prod.ext ?_ ?_
 ·cases lo with
  |none=>rfl
  |some v=>exact IB v n 0
 ·cases hi with
  |none=>rfl
  |some v=>exact IB v n n
theorem GK (i j:Nat):iy (i:Int) (j:Int) 1=j-i:=by
 unfold iy;have h1:(1:Int) > 0:=by omega
 simp only [h1,if_true,Int.ediv_one];split<;>omega
theorem yI   (p:v_ v o) (h:Q o s):au (az prog w) A (Builtin.Slice.slicePartIndex v) Q E s:=by
 cases p with
 |none=>exact slicePart_none h
 |int i t=>exact slicePart_int h
theorem oK {sl:am}{vl vu:af}{lo hi:Option Int}{n:Nat}{Q:Int×Int×Nat->al->Prop} (hs:s.heap.IsSliceOf sl vl vu .none) (pl:v_ vl lo) (pu:v_ vu hi)
  (h:Q (((jh n 0 lo:Nat):Int),1,jh n n hi-jh n 0 lo) s):au (az prog w) A (uR (.ref sl) (pure (n:Int))) Q E s:=by
 obtain ⟨os,hos,hcs,hds⟩:=id hs;unfold uR Builtin.Slice.sliceFields;refine a7 (a7 (dR hos hds (x:=vl) rfl (a7 (dR hos hds (x:=vu) rfl (a7 (dR hos hds (x:=.none) rfl (a9 ?_)))))));refine a7 (slicePart_none ?_);show au _ _ (if ((1:Int)==0)=true then _ else _) _ _ s;rw [if_neg (by decide)];refine a7 (yI pl (a7 (yI pu (a7 (a9 ?_)))));show au _ _ (match lH lo hi 1 (n:Int) with|(lo,hi)=>pure (lo,(1:Int),iy lo hi 1)) _ _ s;rw [GJ lo hi n];show au _ _ (pure (((jh n 0 lo:Nat):Int),(1:Int),iy ((jh n 0 lo:Nat):Int) ((jh n n hi:Nat):Int) 1)) _ _ s;rw [GK];exact a9 h
theorem MC (xs:Array af) (i k:Nat):((bx k).filterMap fun (m:Nat)=>xs[((i:Int)+(m:Int)*1).toNat]?).toArray=((xs.toList.drop i).take k).toArray:=by
 have e:(fun (m:Nat)=>xs[((i:Int)+(m:Int)*1).toNat]?)=fun m=>xs[i+m]?:=by
  funext m;have:((i:Int)+(m:Int)*1).toNat=i+m:=by omega
  rw [this]
 rw [e];have:=pick_run xs i k;rw [ni] at this;have e2:((fun x=>xs[x]?)∘fun x=>i+x)=fun m=>xs[i+m]?:=rfl;rw [e2] at this;rw [this]
theorem uZ {t sl:am}{items:Array af}{vl vu:af}{lo hi:Option Int}{Q:af->al->Prop} (ht:IsTup s.heap t items) (hs:s.heap.IsSliceOf sl vl vu .none) (pl:v_ vl lo) (pu:v_ vu hi)
  (hw:¬ (jh items.size 0 lo=0/\jh items.size items.size hi=items.size))
  (h:Q (.ref s.heap.objs.size) { s with heap:=s.heap.push { cls:=.type "tuple",data:=.seq ((items.toList.drop (jh items.size 0 lo)).take (jh items.size items.size hi-jh items.size 0 lo)).toArray } })
  (hsz:items.size<=sizeLine):au (az prog w) A (qL (.ref t) (.ref sl)) Q E s:=by
 have htake:sizeOk (.seq ((items.toList.drop (jh items.size 0 lo)).take (jh items.size items.size hi-jh items.size 0 lo)).toArray):=by
  show ((items.toList.drop (jh items.size 0 lo)).take (jh items.size items.size hi-jh items.size 0 lo)).toArray.size<=sizeLine;rw [aT,y0,y8,ap];omega
 have hj:jh items.size items.size hi<=items.size:=Uc _ _ (aq _) hi;obtain ⟨os,hos,hcs,hds⟩:=id hs;have hTs:s.TypeIs (.ref sl) "slice":=⟨os,hos,hcs⟩;unfold qL;try with_reducible refine dw ?_
 first|refine a7 (a9 ?_)|skip
 refine a7 (wpAny_sequenceKey ht.typeIs (by decide) ?_);refine a7 (cu (name:=gW "__getitem__") ht.typeIs gj
  (bD gj ht.typeIs entry_tuple_getitem ?_ (args_tuple_getitem _ _)))
 show au _ _ (uS (.ref t) >>= _) _ _ s;refine a7 (tupleItemsOf_ ht ?_);refine a7 (t_ hTs ?_);rw [if_pos (by decide)];refine a7 (oK hs pl pu ?_);have hno:¬ ((((jh items.size 0 lo:Nat):Int)==0&&(1:Int)==1&&(jh items.size items.size hi-jh items.size 0 lo)==items.size)=true):=by
  intro q;rw [aS,aS] at q;have q1:((jh items.size 0 lo:Nat):Int)=0:=eq_of_beq q.1.1;have q2:jh items.size items.size hi-jh items.size 0 lo=items.size:=eq_of_beq q.2;exact hw ⟨by omega,by omega⟩
 show au _ _ (if (((jh items.size 0 lo:Nat):Int)==0&&(1:Int)==1&&(jh items.size items.size hi-jh items.size 0 lo)==items.size)=true then _ else _) _ _ s;rw [if_neg hno,MC];first
  |exact a7 (m:=iO _) (bH (a9 ⟨_,rfl,a9 h⟩) htake)
  |exact a7 (m:=iO _) (bH (a7 (a9 (a9 ⟨_,rfl,a9 h⟩))) htake)
  |exact a7 (a7 (m:=iO _) (bH (a9 (a9 ⟨_,rfl,a9 h⟩)) htake))
  |exact a7 (a7 (m:=iO _) (bH (a9 ⟨_,rfl,a9 h⟩) htake))
end
end HT
namespace L2
open PySem PySem.Spec PyProof.Rows
abbrev TO:=St->Hp->(Option Int->Hp->Prop)->Prop
def PO (X:Cx) (e:Option bY) (t:TO):Prop :=
 ∀ (pins:List (am×Obj)) (s:al) (σ:St) (H:Hp) (Q:Option Int->Hp->Prop),bP X pins σ H s->t σ H Q ->
  au (az X.prog X.w) X.A (evalPart e X.env) (fun u s'=>∃ o H',bP X pins σ H' s'/\v_ u o/\Q o H') X.xe s
def QC:TO:=fun _ H Q=>Q none H
def VN (t:TE):TO:=fun σ H Q=>t σ H fun x H1=>∃ i,x=.int i/\Q (some i) H1
section
variable {X:Cx}{e:bY}{te:TE}{lo hi:Option bY}{tl th:TO}{pos p2:Pos}
theorem QD:PO X none QC:=by
 intro pins s σ H Q I h;rw [evalPart_none];exact a9 ⟨none,H,I,.none,h⟩
theorem QE (h:PE X e te):PO X (some e) (VN te):=by
 intro pins s σ H Q I hw;rw [evalPart_some];refine fR (h pins s σ H _ I hw) fun u s1 h_29=>?_;obtain ⟨x,H1,I1,r1,q1⟩:=h_29;obtain ⟨i,rfl,q⟩:=q1;obtain ⟨t,rfl⟩:=r1;exact ⟨some i,H1,I1,.int i t,q⟩
def VO (X:Cx) (r:V->Option Int->Option Int->Hp->VK->Prop):Prop :=
 ∀ (pins:List (am×Obj)) (s:al) (σ:St) (H:Hp) (x:V) (v vl vu:af) (lo hi:Option Int) (sl:am) (Q:VK),bP X pins σ H s->dv x v->s.heap.IsSliceOf sl vl vu .none->v_ vl lo->v_ vu hi->r x lo hi H Q ->
  ∃ T id,typeLookup (.type T) "__getitem__"=pure (some (.builtin id))/\s.TypeIs v T/\au (az X.prog X.w) X.A (qL v (.ref sl)) (EP X pins σ Q) X.xe s
def Zl (r:V->Option Int->Option Int->Hp->VK->Prop) (te:TE) (tl th:TO):TE:=fun σ H Q=>te σ H fun x H1=>tl σ H1 fun l H2=>th σ H2 fun u H3=>r x l u H3 Q
theorem MD (hr:VO X r) (he:PE X e te) (hl:PO X lo tl) (hu:PO X hi th):PE X (.Subscript e (.Slice lo hi none p2) pos) (Zl r te tl th):=by
 intro pins s σ H Q I h;refine Subscript_ (fR (he pins s σ H _ I h) fun v s1 ⟨x,H1,I1,r1,q1⟩=>?_);refine wpAny_Slice (fR (hl pins s1 σ H1 _ I1 q1) fun vl s2 ⟨l,H2,I2,pl,q2⟩=>fR (hu pins s2 σ H2 _ I2 q2) fun vu s3 ⟨u,H3,I3,pu,q3⟩=>?_);rw [evalPart_none];refine a9 ?_;have I4:bP X pins σ H3 { s3 with heap:=s3.heap.push { cls:=.type "slice",data:=.fields #[vl,vu,.none] } }:=I3.kept (t':=s3.toks) fun b ob q=>ac _ q;obtain ⟨T,id,hT,ht,hg⟩:=hr pins { s3 with heap:=s3.heap.push { cls:=.type "slice",data:=.fields #[vl,vu,.none] } } σ H3 x v vl vu l u s3.heap.objs.size Q I4 r1 (Heap.IsSliceOf.new ..) pl pu q3;show au (az X.prog X.w) X.A (K3 e (.Slice lo hi none p2) v (.ref s3.heap.objs.size)) (EP X pins σ Q) X.xe { s3 with heap:=s3.heap.push { cls:=.type "slice",data:=.fields #[vl,vu,.none] } };exact tail_any (ops:=[.ref s3.heap.objs.size,v]) ht hT hg (by with_unfolding_all rfl)
def E9 (xs:List V) (lo hi:Option Int):List V:=(xs.drop (HT.jh xs.length 0 lo)).take (HT.jh xs.length xs.length hi-HT.jh xs.length 0 lo)
theorem xl (xs:List V) (lo hi:Option Int):(E9 xs lo hi).length<=xs.length:=by
 unfold E9;rw [y0,y8];omega
def Y6 (K:a8):V->Option Int->Option Int->Hp->VK->Prop:=fun x lo hi H Q=>∃ a xs,x=.ref a/\lu K H a xs /\
 ¬ (HT.jh xs.length 0 lo=0/\HT.jh xs.length xs.length hi=xs.length)/\∀ p,H p=none->Q (.ref p) (upd H p (.tup (E9 xs lo hi)))
theorem Ud:VO X (Y6 X.K):=by
 intro pins s σ H x v vl vu lo hi sl Q I rx hs pl pu h;obtain ⟨a,xs,rfl,hx,hw,q⟩:=h;cases rx;obtain ⟨its,r,ht,hz⟩:=I.tuple hx;have hlen:its.toArray.size=xs.length:=by rw [aT];exact r.length.symm
 refine ⟨"tuple",_,PyProof.Rows.slot_tuple_getitem.lookup,ht.typeIs,?_⟩;refine HT.uZ ht hs pl pu (by rw [hlen];exact hw) ?_ (by rw [hlen];exact hz);rw [hlen];refine ⟨.ref s.heap.objs.size,_,I.laid (t':=s.toks) (o:=.tup (E9 xs lo hi)) (fun b ob q=>ac _ q) (aq _) ?_,rfl,q _ (I.hok.fresh (aq _))⟩;exact ⟨ck (xl xs lo hi) hz,_,(r.drop (HT.jh xs.length 0 lo)).take (HT.jh xs.length xs.length hi-HT.jh xs.length 0 lo),xF _ _⟩
inductive ME (K:a8) (x:V) (y:V) (H:Hp) (Q:VK):Prop
 |mk (a b xs ys:_) (h0:x=.ref a) (h1:y=.ref b) (h2:lu K H a xs) (h3:lu K H b ys) (h4:xs≠[]) (h5:xs.length+ys.length<=sizeLine) (h6:(ys=[]->Q (.ref a) H)) (h7:(ys≠[]->∀ p,H p=none->Q (.ref p) (upd H p (.tup (xs++ys))))):ME K x y H Q
def VP (K:a8):R2:=ME K
theorem dC.nil_iff  (r:dC xs us):us=[]↔xs=[]:=by
 cases r with
 |nil=>simp
 |cons _ _=>simp
theorem QF:qQ X (gJ .Add) (VP X.K):=by
 intro pins s σ H x y v u Q I rx ry h;obtain ⟨a,b,xs,ys,rfl,rfl,ha,hb,hx,hz,q1,q2⟩:=h;cases rx;cases ry;obtain ⟨its,r1,p1,_⟩:=I.tuple ha;obtain ⟨its2,r2,p2,_⟩:=I.tuple hb;refine HT.QB p1 p2 (fun z=>hx (r1.nil_iff.mp z)) (fun z=>⟨.ref a,H,I,rfl,q1 (r2.nil_iff.mp z)⟩) (fun z=>?_) (by rw [<- r1.length,<- r2.length];exact hz);refine ⟨.ref s.heap.objs.size,_,I.laid (t':=s.toks) (o:=.tup (xs++ys)) (fun b ob q=>ac _ q) (aq _) ?_,rfl,q2 (fun w=>z (r2.nil_iff.mpr w)) _ (I.hok.fresh (aq _))⟩;exact ⟨by rw [aR];exact hz,_,r1.append r2,xF _ _⟩
end
end L2
namespace L2
open PySem PySem.Spec PyProof.Rows
def Sh (n:Nat) (i:Int):Option Nat:=if 0<=i then (if i<n then some i.toNat else none) else if -(n:Int)<=i then some (i+n).toNat else none
def DW {α:Type} (xs:List α) (i:Int):Option α:=(Sh xs.length i).bind fun j=>xs[j]?
theorem QG   (h:Sh n i=some j):seqIndex? i n=some j/\j<n/\-(n:Int)<=i/\i<n:=by
 unfold Sh at h;by_cases h0:0<=i
 ·rw [if_pos h0] at h;by_cases h1:i<n
  ·rw [if_pos h1] at h;have e:i.toNat=j:=bQ h;exact ⟨by rw [seqIndex_of h0 h1,e],by omega,by omega,h1⟩
  ·rw [if_neg h1] at h;cases h
 ·rw [if_neg h0] at h;by_cases h1:-(n:Int)<=i
  ·rw [if_pos h1] at h;have e:(i+n).toNat=j:=bQ h;exact ⟨by rw [seqIndex_neg (by omega) h1,e],by omega,h1,by omega⟩
  ·rw [if_neg h1] at h;cases h
theorem Cz {α:Type}{xs:List α}{i:Int}{v:α} (h:DW xs i=some v):∃ j,seqIndex? i xs.length=some j/\xs[j]?=some v/\j<xs.length/\-(xs.length:Int)<=i/\i<xs.length:=by
 unfold DW at h;cases e:Sh xs.length i with
 |none=>rw [e] at h;cases h
 |some j =>
  rw [e] at h;obtain ⟨h1,h2,h3,h4⟩:=QG e;exact ⟨j,h1,h,h2,h3,h4⟩
theorem si {α:Type}{xs:List α}{j:Nat}{v:α} (h:xs[j]?=some v):DW xs (j:Int)=some v:=by
 have hj:j<xs.length:=(List.getElem?_eq_some_iff.mp h).1;have e:Sh xs.length (j:Int)=some j:=by
  unfold Sh;rw [if_pos (by omega),if_pos (by omega)];simp
 unfold DW;rw [e];exact h
def u_ (b:bY):Prop:=∀ o i,DS b false o i=operate [o,i] (qL o i)
def VQ (X:Cx) (r:R2):Prop :=
 ∀ (value slice:bY) (pins:List (am×Obj)) (s:al) (σ:St) (H:Hp) (x y:V) (v u:af) (Q:VK),bP X pins σ H s->dv x v->dv y u->r x y H Q ->
  DS slice false v u=operate [v,u] (qL v u)->au (az X.prog X.w) X.A (K3 value slice v u) (EP X pins σ Q) X.xe s
def Zm (X:Cx) (id:String) (r:V->List V->Hp->VK->Prop):Prop :=
 ∀ (pins:List (am×Obj)) (s:al) (σ:St) (H:Hp) (x:V) (xs:List V) (v:af) (us:List af) (Q:VK),bP X pins σ H s->dv x v->dC xs us->r x xs H Q ->
  au (az X.prog X.w) X.A (call (.builtin id) (v::us)) (EP X pins σ Q) X.xe s
section
variable {X:Cx}{a b:bY}{ta tb:TE}{pos:Pos}
theorem Si (hr:VQ X r) (ha:PE X a ta) (hb:PE X b tb) (hs:u_ b):PE X (.Subscript a b pos) (VE r ta tb):=by
 intro pins s σ H Q I h;exact Subscript_ (U0 ha hb I h fun v u s2 x y H2 I2 rx ry q=>hr a b pins s2 σ H2 x y v u Q I2 rx ry q (hs _ _))
inductive Sj (K:a8) (x:V) (y:V) (H:Hp) (Q:VK):Prop
 |mk (p xs i v:_) (h0:x=.ref p) (h1:y=.int i) (h2:qB K H p xs) (h3:DW xs i=some v) (h4:Q v H):Sj K x y H Q
def VR (K:a8):R2:=Sj K
inductive Sk (K:a8) (x:V) (y:V) (H:Hp) (Q:VK):Prop
 |mk (p xs i v:_) (h0:x=.ref p) (h1:y=.int i) (h2:lu K H p xs) (h3:DW xs i=some v) (h4:Q v H):Sk K x y H Q
def Y7 (K:a8):R2:=Sk K
inductive Sn (x:V) (y:V) (H:Hp) (Q:VK):Prop
 |mk (z i c:_) (h0:x=.str z) (h1:y=.int i) (h2:z.length<=sizeLine) (h3:DW z.cps.toList i=some c) (h4:Q (.str ⟨#[c]⟩) H):Sn  x y H Q
def Y8:R2:=Sn
theorem sj:VQ X (VR X.K):=by
 intro value slice pins s σ H x y v u Q I rx ry h hs;obtain ⟨p,xs,i,z,rfl,rfl,hq,he,q⟩:=h;cases rx;obtain ⟨t,rfl⟩:=ry;obtain ⟨its,r,pl,hz⟩:=I.list hq;obtain ⟨j,h1,h2,h3,h4,h5⟩:=Cz he;obtain ⟨w,ew,rw'⟩:=r.get h2;have hl:=r.length;have hn:=wq;have fin:EP X pins σ Q w s:=⟨z,H,I,rw',q⟩;by_cases h0:0<=i
 ·have hj:i.toNat=j:=by
   rw [seqIndex_of h0 h5] at h1;exact bQ h1
  exact item_listR pl.isList h0 (by omega) (by rw [hj];simpa using ew) fin hs
 ·have hj:(i+(its.toArray.size:Int)).toNat=j:=by
   rw [seqIndex_neg (by omega) h4] at h1;rw [aT,<- hl];exact bQ h1
  exact M1 (x:=w) pl.isList.typeIs slot_list_getitem.lookup
   (wpAny_getItem_list_neg (Q:=fun r s'=>r=w/\EP X pins σ Q r s') pl.isList (by omega) (by rw [aT]<;>omega) (by omega) (by rw [hj];simpa using ew) ⟨rfl,fin⟩) hs
theorem Ue:VQ X (Y7 X.K):=by
 intro value slice pins s σ H x y v u Q I rx ry h hs;obtain ⟨p,xs,i,z,rfl,rfl,hq,he,q⟩:=h;cases rx;obtain ⟨t,rfl⟩:=ry;obtain ⟨its,r,pl,hz⟩:=I.tuple hq;obtain ⟨j,h1,h2,h3,h4,h5⟩:=Cz he;obtain ⟨w,ew,rw'⟩:=r.get h2;have hl:=r.length;have hn:=wq;have fin:EP X pins σ Q w s:=⟨z,H,I,rw',q⟩;exact M1 (x:=w) pl.typeIs slot_tuple_getitem.lookup
  (getItem_tuple (j:=j) (Q:=fun r s'=>r=w/\EP X pins σ Q r s') pl (by omega) (by omega) (by rw [aT,<- hl];exact h1) (by simpa using ew) ⟨rfl,fin⟩) hs
theorem Uf:VQ X Y8:=by
 intro value slice pins s σ H x y v u Q I rx ry h hs;obtain ⟨z,i,c,rfl,rfl,hz,he,q⟩:=h;obtain ⟨t,rfl⟩:=rx;obtain ⟨t',rfl⟩:=ry;obtain ⟨j,h1,h2,h3,h4,h5⟩:=Cz he;have hl:z.cps.toList.length=z.length:=by simp [Str.length]
 rw [hl] at h1 h4 h5;have hn:=wq;exact tail_any (typeIs_str s z t) slot_str_getitem.lookup (getItem_str (c:=c) (by
  have e1:decide (i < -(2 ^ 63:Int))=false:=decide_eq_false (by omega);have e2:decide (i ≥ 2 ^ 63)=false:=decide_eq_false (by omega);rw [e1,e2,Bool.or_false]) (by rw [h1];simpa using h2) ⟨.str ⟨#[c]⟩,H,I.tok _,⟨_,rfl⟩,q⟩) hs
theorem CA (lo hi:Option Int) (n:Nat):(mZ lo hi none n).1=((HT.jh n 0 lo:Nat):Int)/\(mZ lo hi none n).2.1=((HT.jh n n hi:Nat):Int)/\(mZ lo hi none n).2.2=1:=by
 refine ⟨?_,?_,rfl⟩
 ·cases lo with
  |none=>simp [mZ,HT.jh]
  |some i =>
   simp only [mZ,HT.jh,hX,show (1:Int) > 0 by decide,if_true];by_cases h:i<0
   ·simp only [h,if_true]<;>omega
   ·simp only [h,if_false]<;>omega
 ·cases hi with
  |none=>simp [mZ,HT.jh]
  |some i =>
   simp only [mZ,HT.jh,hX,show (1:Int) > 0 by decide,if_true];by_cases h:i<0
   ·simp only [h,if_true]<;>omega
   ·simp only [h,if_false]<;>omega
theorem AJ (its:List af) (lo hi:Option Int):slicePick its.toArray lo hi none=((its.drop (HT.jh its.length 0 lo)).take (HT.jh its.length its.length hi-HT.jh its.length 0 lo)).toArray:=by
 obtain ⟨h1,h2,h3⟩:=CA lo hi its.toArray.size;unfold slicePick;rw [h1,h2,h3];simp only [sliceRange_one,pick_run,aT]<;>rfl
def Y9 (K:a8):V->Option Int->Option Int->Hp->VK->Prop:=fun x lo hi H Q=>∃ a xs,x=.ref a/\qB K H a xs/\∀ p,H p=none->Q (.ref p) (upd H p (.lst (E9 xs lo hi)))
theorem QH:VO X (Y9 X.K):=by
 intro pins s σ H x v vl vu lo hi sl Q I rx hs pl pu h;obtain ⟨a,xs,rfl,hx,q⟩:=h;cases rx;obtain ⟨its,r,ht,hz⟩:=I.list hx;have hlen:=r.length;refine ⟨"list",_,slot_list_getitem.lookup,ht.isList.typeIs,?_⟩;refine wpAny_getItem_list_slice ht.isList hs pl pu .none (by simp) ?_ (by rw [aT]<;>omega);rw [AJ,<- hlen];refine ⟨.ref s.heap.objs.size,_,I.laid (t':=s.toks) (o:=.lst (E9 xs lo hi)) (fun b ob q=>ac _ q) (aq _) ?_,rfl,q _ (I.hok.fresh (aq _))⟩;exact ⟨ck (xl xs lo hi) hz,_,0,(r.drop (HT.jh xs.length 0 lo)).take (HT.jh xs.length xs.length hi-HT.jh xs.length 0 lo),ax _ rfl⟩
def re:V->Bool
 |.non=>true
 |.bl _=>true
 |.int _=>true
 |.str _=>true
 |_=>false
def QI:V->V->Bool
 |.non,.non=>true
 |.bl a,.bl b=>a==b
 |.bl a,.int b=>(if a then 1 else 0)==b
 |.int a,.bl b=>a==(if b then 1 else 0)
 |.int a,.int b=>a==b
 |.str a,.str b=>a==b
 |_,_=>false
theorem Ug    (ry:dv y u) (rx:dv x v) (fy:re y=true) (fx:re x=true):SeqAt.EqAt A s u v (QI y x):=by
 cases y with
 |non =>
  cases ry;cases x with
  |non=>cases rx;exact SeqAt.EqAt.same _
  |bl b=>cases rx;exact SeqAt.EqAt.none_bool b
  |int b=>obtain ⟨t,rfl⟩:=rx;exact SeqAt.EqAt.none_int b t
  |str b=>obtain ⟨t,rfl⟩:=rx;exact SeqAt.EqAt.none_str b t
  |_=>exact absurd (show false=true from fx) bf
 |bl a =>
  cases ry;cases x with
  |non=>cases rx;exact SeqAt.EqAt.bool_none a
  |bl b=>cases rx;exact SeqAt.EqAt.bool_bool a b
  |int b=>obtain ⟨t,rfl⟩:=rx;exact SeqAt.EqAt.bool_int a b t
  |str b=>obtain ⟨t,rfl⟩:=rx;exact SeqAt.EqAt.bool_str a b t
  |_=>exact absurd (show false=true from fx) bf
 |int a =>
  obtain ⟨t',rfl⟩:=ry;cases x with
  |non=>cases rx;exact SeqAt.EqAt.int_none a t'
  |bl b=>cases rx;exact SeqAt.EqAt.int_bool a t' b
  |int b=>obtain ⟨t,rfl⟩:=rx;exact SeqAt.EqAt.int_int a t' b t
  |str b=>obtain ⟨t,rfl⟩:=rx;exact DQ a t' b t
  |_=>exact absurd (show false=true from fx) bf
 |str a =>
  obtain ⟨t',rfl⟩:=ry;cases x with
  |non=>cases rx;exact SeqAt.EqAt.str_none a t'
  |bl b=>cases rx;exact SeqAt.EqAt.str_bool a t' b
  |int b=>obtain ⟨t,rfl⟩:=rx;exact DR a t' b t
  |str b=>obtain ⟨t,rfl⟩:=rx;exact SeqAt.EqAt.str_str a t' b t
  |_=>exact absurd (show false=true from fx) bf
 |_=>exact absurd (show false=true from fy) bf
def GL (x:V) (u:af):Bool:=match u with
 |.none=>QI .non x
 |.bool b=>QI (.bl b) x
 |.int i _=>QI (.int i) x
 |.str z _=>QI (.str z) x
 |_=>false
theorem MF  (r:dv y u) (f:re y=true):GL x u=QI y x:=by
 cases y with
 |non=>cases r;rfl
 |bl b=>cases r;rfl
 |int i=>obtain ⟨t,rfl⟩:=r;rfl
 |str z=>obtain ⟨t,rfl⟩:=r;rfl
 |_=>exact absurd (show false=true from f) bf
theorem v5:∀ {xs:List V}{us:List af},dC xs us->xs.all re=true->us.any (GL x)=xs.any fun y=>QI y x
 |_,_,.nil,_=>rfl
 |y::xs,u::us,.cons r t,f=>by
  rw [uT,aS] at f;rw [ed,ed,MF r f.1,v5 t f.2]
theorem rf    (rx:dv x v) (fx:re x=true):∀ {xs:List V}{us:List af},dC xs us->xs.all re=true->∀ u∈us,SeqAt.EqAt A s u v (GL x u)
 |_,_,.nil,_=>fun u hu=>by cases hu
 |y::xs,u::us,.cons r t,f=>fun u' hu=>by
  rw [uT,aS] at f;rcases List.mem_cons.mp hu with rfl|hu
  ·rw [MF r f.1];exact Ug r rx f.1 fx
  ·exact rf rx fx t f.2 u' hu
def Xq (x:V) (xs:List V):Bool:=xs.any fun y=>QI y x
inductive VS (K:a8) (neg:Bool) (x:V) (y:V) (H:Hp) (Q:VK):Prop
 |mk (p xs:_) (h0:y=.ref p) (h1:(qB K H p xs\/lu K H p xs)) (h2:re x=true) (h3:xs.all re=true) (h4:Q (.bl (if neg then !Xq x xs else Xq x xs)) H):VS K neg x y H Q
def Ya (K:a8) (neg:Bool):R2:=VS K neg
theorem Kt:qQ X (bC .In) (Ya X.K false):=by
 intro pins s σ H x y v u Q I rx ry h;obtain ⟨p,xs,rfl,hq,fx,fs,q⟩:=h;cases ry;rcases hq with hq|hq
 ·obtain ⟨its,r,pl,hz⟩:=I.list hq;refine SeqAt.in_listAt (GL x) pl.isList (fun w hw=>rf rx fx r fs w (by simpa using hw)) ⟨.bl _,H,I,rfl,?_⟩;rw [show its.toArray.any (GL x)=its.any (GL x) by simp,v5 r fs];exact q
 ·obtain ⟨its,r,pl,hz⟩:=I.tuple hq;refine SeqAt.in_tupleAt (GL x) pl (fun w hw=>rf rx fx r fs w (by simpa using hw)) ⟨.bl _,H,I,rfl,?_⟩;rw [show its.toArray.any (GL x)=its.any (GL x) by simp,v5 r fs];exact q
theorem CB:qQ X (bC .NotIn) (Ya X.K true):=by
 intro pins s σ H x y v u Q I rx ry h;obtain ⟨p,xs,rfl,hq,fx,fs,q⟩:=h;cases ry;rcases hq with hq|hq
 ·obtain ⟨its,r,pl,hz⟩:=I.list hq;refine SeqAt.notIn_listAt (GL x) pl.isList (fun w hw=>rf rx fx r fs w (by simpa using hw)) ⟨.bl _,H,I,rfl,?_⟩;rw [show its.toArray.any (GL x)=its.any (GL x) by simp,v5 r fs];exact q
 ·obtain ⟨its,r,pl,hz⟩:=I.tuple hq;refine SeqAt.notIn_tupleAt (GL x) pl (fun w hw=>rf rx fx r fs w (by simpa using hw)) ⟨.bl _,H,I,rfl,?_⟩;rw [show its.toArray.any (GL x)=its.any (GL x) by simp,v5 r fs];exact q
theorem v6:jX X (.builtin "len") (fun xs H Q=>∃ p ys,xs=[.ref p]/\(qB X.K H p ys\/lu X.K H p ys)/\Q (.int ys.length) H):=by
 intro pins s σ H xs us Q I r h;obtain ⟨p,ys,rfl,hq,q⟩:=h;obtain ⟨u,rfl,rx⟩:=lS r;cases rx;have hn:=wq;rcases hq with hq|hq
 ·obtain ⟨its,r',pl,hz⟩:=I.list hq;have hlen:=r'.length;exact Calls.call_len_list pl.isList (by simp only [aT]<;>omega) ⟨.int ys.length,H,I.tok _,⟨s.toks+1,by rw [aT,hlen]⟩,q⟩
 ·obtain ⟨its,r',pl,hz⟩:=I.tuple hq;have hlen:=r'.length;exact len_tuple pl (by simp only [aT]<;>omega) ⟨.int ys.length,H,I.tok _,⟨s.toks+1,by rw [aT,hlen]⟩,q⟩
theorem CC:jX X (.builtin "len") (fun xs H Q=>∃ z,xs=[.str z]/\z.length<=sizeLine/\Q (.int z.length) H):=by
 intro pins s σ H xs us Q I r h;obtain ⟨z,rfl,hz,q⟩:=h;obtain ⟨u,rfl,t,rfl⟩:=lS r;have hn:=wq;exact len_str (by omega) ⟨.int z.length,H,I.tok _,⟨_,rfl⟩,q⟩
theorem v7:jX X (.type "list") (fun xs H Q=>∃ p ys,xs=[.ref p]/\(qB X.K H p ys\/lu X.K H p ys)/\∀ l,H l=none->Q (.ref l) (upd H l (.lst ys))):=by
 intro pins s σ H xs us Q I r h;obtain ⟨p,ys,rfl,hq,q⟩:=h;obtain ⟨u,rfl,rx⟩:=lS r;cases rx;have fin:∀ (its:List af),dC ys its->ys.length<=sizeLine->∀ (h':bT) (c':Nat),(∀ b o',s.heap.get? b=some o'->h'.get? b=some o') ->
   h'.get? s.heap.objs.size=some { cls:=.type "list",dict:=none,data:=.seq its.toArray c',slots:=#[] }->EP X pins σ Q (.ref s.heap.objs.size) { s with heap:=h' }:=fun its r' hz h' c' kp e =>
  ⟨.ref s.heap.objs.size,_,I.laid (t':=s.toks) kp (aq _) (show dz X.prog X.w _ h' _ (.lst ys) from ⟨hz,its,c',r',e⟩),rfl,q _ (I.hok.fresh (aq _))⟩
 rcases hq with hq|hq
 ·obtain ⟨its,r',pl,hz⟩:=I.list hq;have hlen:=r'.length;obtain ⟨o,ho,hc,n,hd⟩:=pl.isList;exact call_list_seq p (.inl rfl) ho hc hd (fun h' c' kp e=>fin its r' hz h' c' kp e) (by simp only [aT]<;>omega)
 ·obtain ⟨its,r',pl,hz⟩:=I.tuple hq;have hlen:=r'.length;obtain ⟨o,ho,hc,n,hd⟩:=pl;exact call_list_seq p (.inr rfl) ho hc hd (fun h' c' kp e=>fin its r' hz h' c' kp e) (by simp only [aT]<;>omega)
theorem tK:jX X (.type "tuple") (fun xs H Q=>∃ p ys,xs=[.ref p]/\((qB X.K H p ys/\∀ l,H l=none->Q (.ref l) (upd H l (.tup ys)))\/(lu X.K H p ys/\Q (.ref p) H))):=by
 intro pins s σ H xs us Q I r h;obtain ⟨p,ys,rfl,h⟩:=h;obtain ⟨u,rfl,rx⟩:=lS r;cases rx;rcases h with ⟨hq,q⟩|⟨hq,q⟩
 ·obtain ⟨its,r',pl,hz⟩:=I.list hq;have hlen:=r'.length;refine call_tuple_list pl.isList (fun h' kp=>?_) (by simp only [aT]<;>omega);have I1:bP X pins σ H { s with heap:=h' }:=I.kept (t':=s.toks) kp;have I2:bP X pins σ (upd H h'.objs.size (.tup ys)) { s with heap:=h'.push { cls:=.type "tuple",data:=.seq its.toArray } } :=
   I1.laid (t':=s.toks) (fun b o e=>ac _ e) (aq _) (show dz X.prog X.w _ _ _ (.tup ys) from ⟨hz,its,r',xF _ _⟩)
  exact ⟨.ref h'.objs.size,_,I2,rfl,q _ (I1.hok.fresh (aq _))⟩
 ·obtain ⟨its,r',pl,hz⟩:=I.tuple hq;exact call_tuple_same pl ⟨.ref p,H,I,rfl,q⟩
def YS (K:a8) (T:String) (x:V) (H:Hp):Prop:=match x with
 |.str _=>T="str"
 |.int _=>T="int"
 |.ref p=>(T="list"/\∃ xs,qB K H p xs)\/(T="tuple"/\∃ o,K.lookup p=some o/\o.cls=.type "tuple"/\o.dict=none) \/
   (T="dict"/\((∃ kvs,H p=some (.dK kvs))\/∃ kvs,H p=some (.dT kvs)))\/(T="set"/\∃ S n,H p=some (.set S n))
 |_=>False
theorem Uh       (I:bP X pins σ H s) (r:dv x v) (ty:YS X.K T x H) :
  s.TypeIs v T/\∀ a,v=.ref a->∃ ob,s.heap.get? a=some ob/\ob.dict=none:=by
 cases x with
 |str z =>
  obtain ⟨t,rfl⟩:=r;cases (show T="str" from ty);exact ⟨typeIs_str s z t,fun _ e=>nomatch e⟩
 |int i =>
  obtain ⟨t,rfl⟩:=r;cases (show T="int" from ty);exact ⟨typeIs_int s i t,fun _ e=>nomatch e⟩
 |ref p =>
  cases r;rcases ty with ⟨rfl,xs,hq⟩|⟨rfl,o,hk,hc,hd⟩|⟨rfl,hk⟩|⟨rfl,S,n,hk⟩
  ·obtain ⟨its,_,pl,_⟩:=I.list hq;refine ⟨pl.isList.typeIs,fun a e=>?_⟩;cases e;obtain ⟨o,n,e,c,hd,_⟩:=pl;exact ⟨o,e,hd⟩
  ·refine ⟨⟨o,I.kIn p o hk,hc⟩,fun a e=>?_⟩;cases e;exact ⟨o,I.kIn _ o hk,hd⟩
  ·have z:∃ o,s.heap.get? p=some o/\o.ExactDict:=by
    rcases hk with ⟨kvs,hk⟩|⟨kvs,hk⟩
    ·obtain ⟨_,_,_,_,o,_,_,e,ex,_⟩:=I.hok p _ hk;exact ⟨o,e,ex⟩
    ·obtain ⟨_,_,_,_,o,_,_,e,ex,_⟩:=I.hok p _ hk;exact ⟨o,e,ex⟩
   obtain ⟨o,e,ex⟩:=z;refine ⟨⟨o,e,ex.1⟩,fun a e2=>?_⟩;cases e2;exact ⟨o,e,ex.2.1⟩
  ·obtain ⟨o,_,_,_,e,ex,_⟩:=I.hok p _ hk;refine ⟨⟨o,e,ex.1⟩,fun a e2=>?_⟩;cases e2;exact ⟨o,e,ex.2.1⟩
 |_=>exact iY ty
def Zn (K:a8) (T:String) (r:V->List V->Hp->VK->Prop) (to:TE) (t:TA):TE:=fun σ H Q=>to σ H fun x H1=>YS K T x H1/\t σ H1 fun xs H2=>r x xs H2 Q
variable {o e:bY}{es:List bY}{to:TE}{t:TA}{name:Str}{apos cpos:Pos}{T id:String}{r:V->List V->Hp->VK->Prop}
theorem So (pa:PlainAttrs T) (slot:Slot T name id) (hty:typeOf (.builtin id)=pure (.type "method_descriptor")) (hm:Zm X id r) (ho:PE X o to) (ha:PA X (e::es) t)
  (hbase:K4 o name X.env (eD o X.env)=eD o X.env:=by rfl)
  (hfew:((iM cpos (aJ (e::es) X.env)).all (fun x=>!x.1)&&(backToKw cpos (Q1 [] X.env)).all (fun x=>x.1.isSome)
   && decide ((e::es).length+([] : List G5).length+(if ([] : List G5).isEmpty then 0 else 1)<30))=true:=by rfl)
  (hline:(apos.endLine==cpos.line)=true:=by rfl) (hs:aJ (e::es) X.env=(false,eD e X.env)::aJ es X.env:=by rfl) (hplain:(iM cpos (aJ es X.env)).any (·.1)=false:=by rfl) :
  PE X (.Call (.Attribute o name apos) (e::es) [] cpos) (Zn X.K T r to t):=by
 intro pins s σ H Q I h;refine wpAny_Call_method_late hbase hfew hline rfl (fR (ho pins s σ H _ I h) fun v s1 ⟨x,H1,I1,r1,ty,q1⟩=>?_);obtain ⟨h1,h2⟩:=Uh I1 r1 ty;refine ⟨T,id,pa,slot,hty,h1,h2,?_⟩;have hA:=ha cpos pins s1 σ H1 _ I1 q1;rw [hs] at hA ⊢;refine Calls.callWith_builtin (by show (false||(iM cpos (aJ es X.env)).any (·.1))=false;rw [hplain]<;>rfl) (Calls.evalArgs_plain ?_);exact fR hA fun us s2 h_30=>by obtain ⟨vs,H2,I2,r2,q2⟩:=h_30;exact hm pins s2 σ H2 x vs v us Q I2 r1 r2 q2
end
end L2
namespace L2
open PySem PySem.Spec PyProof.Rows
def Zo (X:Cx) (id:String) (r:V->List V->Hp->VK->Prop):Prop :=
 ∀ (pins:List (am×Obj)) (s:al) (σ:St) (H:Hp) (x:V) (xs:List V) (v:af) (us:List af) (Q:VK),bP X pins σ H s->dv x v->dC xs us->r x xs H Q ->
  au (az X.prog X.w) X.A (call (.builtin id) (v::us)) (EP X pins σ Q) X.xe s
theorem dC.one  (h:dC [x] us):∃ u,us=[u]/\dv x u:=by
 cases h with|cons r t=>cases t;exact ⟨_,rfl,r⟩
section
theorem bP.lset {its its':List af}{n:Nat}{f:Array af->Array af}{t':Nat} (I:bP X pins σ H s) (hH:H l=some (.lst xs))
  (e:s.heap.get? l=some { cls:=.type "list",data:=.seq its.toArray n }) (hf:f its.toArray=its'.toArray) (hv:dC ys its') (hz:ys.length<=sizeLine) :
  bP X pins σ (upd H l (.lst ys)) { s with heap:=s.heap.update l (gY f),toks:=t' }:=by
 have q:=PySem.IsL.update e f;rw [hf] at q;refine I.write (x:=l) (e:=l) (by rw [hH];exact trivial) (.inl rfl) (fun b' u hb hu=>(fO s.heap (gY f) (cY hb)).trans hu) ⟨_,q⟩ ?_;exact ⟨hz,its',_,hv,q⟩
theorem bP.lnew  (I:bP X pins σ H s) (hv:dC ys its) (hz:ys.length<=sizeLine) :
  bP X pins σ (upd H s.heap.objs.size (.lst ys)) { s with heap:=s.heap.push { cls:=.type "list",data:=.seq its.toArray },toks:=t' } :=
 I.laid (fun _ _ q=>ac _ q) (aq _) ⟨hz,its,0,hv,ax _ rfl⟩
theorem bP.fresh (I:bP X pins σ H s):H s.heap.objs.size=none:=I.hok.fresh (aq _)
theorem bP.lstM (I:bP X pins σ H s) (hH:H l=some (.lst xs)):YO s.heap l xs:=by
 obtain ⟨z,its,n,r,e⟩:=I.hok l _ hH;exact ⟨z,its,n,r,r.length,e⟩
end
section
inductive Ea (x:V) (vs:List V) (H:Hp) (Q:VK):Prop
 |mk (l xs y:_) (h0:x=.ref l) (h1:vs=[y]) (h2:H l=some (.lst xs)) (h3:xs.length<sizeLine) (h4:Q .non (upd H l (.lst (xs++[y])))):Ea  x vs H Q
def QJ:V->List V->Hp->VK->Prop:=Ea
theorem Bu:Zo X "list.append" QJ:=by
 intro pins s σ H x vs v us Q I rx rv h;obtain ⟨l,xs,y,rfl,rfl,hH,hz,q⟩:=h;cases rx;obtain ⟨u,rfl,ru⟩:=rv.one;obtain ⟨z,its,n,r,hl,e⟩:=I.lstM hH;refine call_meets F.slot_list_append ⟨_,e,rfl⟩ F.entry_list_append (F.args_list_append_2 _ _) (PySem.list_append l its.toArray n u (by rw [aT];omega)) ⟨e,?_⟩;refine ⟨.non,_,I.lset (its':=its++[u]) hH e (by simp) (r.append (.cons ru .nil)) ?_,rfl,q⟩;rw [aR,dI];omega
end
section
end
section
end
end L2
namespace Att
open PySem PySem.W PySem.Calls PyProof.Rows
theorem xO  : ∀ (ns:List Int) (vs:List af),WellAll P h vs (ns.map WData.int)->M2 vs ns:=by
 intro ns;induction ns with
 |nil =>
  intro vs w;rw [du] at w;cases w;exact .nil
 |cons n ns ih =>
  intro vs w;rw [av] at w;cases w with
  |cons a b =>
   cases a;exact .cons _ _ (ih _ b)
theorem Ku {l:OpenLaw}{n:Nat} (hn:l.most=some n) {P:Params}{h:bT}{args:List WData}{vals:List af}
  (hpre:l.row.toRowW.claim.pre args=true) (hwl:WellAll P h vals args) :
  ∃ a vs ns,vals=[bt a]/\args=[WData.list (ns.map WData.int)]/\h.get? a=some { cls:=.type "list",data:=.seq vs.toArray }/\M2 vs ns/\ns.length<=n:=by
 have hsh:WShape.hasAll [] args [.list .int]=true:=(pre_splitW hpre).1;have hc:l.pre.holds [] { args:=args }=true:=(pre_splitW hpre).2;obtain ⟨d,r,rfl,h1,h2⟩:=hasAllW_cons hsh;obtain rfl:=hasAllW_nil h2;obtain ⟨xs,rfl,h3⟩:=hasW_list h1;obtain ⟨ns,rfl⟩:=items_int h3;have hlen:ns.length<=n:=by
  unfold OpenLaw.pre at hc;have h4:(WTm.not (.lt (.lit (.int (n:Int))) (.len (.arg 0)))).holds [] { args:=[.list (ns.map .int)] }=true:=by
   have h4:=(holds_andW hc).1;rw [hn] at h4;exact h4
  have h5:=condW_of h4 (w_not (w_lt w_lit (w_len_list (w_arg rfl))));rw [ao] at h5;refine Q2 fun q=>?_;have q':(n:Int)<((ns.length:Nat):Int):=by omega
  first
   |(rw [decide_eq_true q'] at h5;exact absurd h5 (by decide))
   |(simp at h5;omega)
 cases hwl with
 |cons w1 w2 =>
  cases w2;cases w1 with
  |list ho hall=>exact ⟨_,_,ns,rfl,rfl,ho,xO ns _ hall,hlen⟩
theorem Kv (l:OpenLaw) (args:List WData):l.row.toRowW.claim.post args (.bool true) args=true :=
 postW_of (r:=l.row.toRowW) (X:=(true==true))
  (show WShape.has [] (.bool true) .bool=true by first|rfl|decide|simp [WShape.has,WShape.arms,WShape.armsAll])
  (show (WTm.eq .res (.lit (.bool true))).value [] { args:=args,res:=some (.bool true),after:=args }=some (.bool (true==true)) from w_eq_bool (w_res rfl) w_lit) rfl
theorem attach_call {l:OpenLaw}{n:Nat}{q:bq}{loose:List Str}{XP:(Str->Option af)->bT->Prop}{YP:bL->bT->Prop}{d:DefRec}
  (hn:l.most=some n) (hdf:d.params.defaults=[])
  (call:∀ (w:bL) (s₀ s₁:al) (mg mb:Str->Option af) (fa:am) (o:Obj) (pm cd doc:af) (a:am) (vs:List af) (ns:List Int),
   Ground q loose [] XP w s₀ mg mb s₁.heap->YP w s₁.heap ->
   s₁.heap.get? fa=some o->o.data=.func (docDef d.name d.params d.body d.scope pm cd doc)->s₁.heap.CodeRec cd d.name->mg d.name=some (.ref fa) ->
   s₁.heap.get? a=some { cls:=.type "list",data:=.seq vs.toArray }->M2 vs ns->ns.length<=n->s₁.gens=#[] ->
   jL (az l.prog w) xg (.call (.ref fa) ⟨[.ref a],[]⟩) (fun r s'=>r=.ok (.ret (.bool true))/\OldK s₁.heap s'.heap/\s'.os=s₁.os/\qJ s'.gens) s₁) :
  WalkO q loose XP YP l.row.toRowW d [] (fun f vs=>K5 f vs):=by
 intro w s₀ s₁ mg mb G Y fa o pm cd doc dV kV ho hd hcd hD hmg hg args vals as hpre hlay hrd hwl hlo;obtain rfl:dV=.none:=Dflts.none hD hdf;obtain rfl:kV=.none:=Dflts.noKw hD;obtain ⟨a,vs,ns,rfl,rfl,hobj,hints,hlen⟩:=Ku hn hpre hwl;refine enter_call (tZ (call w s₀ s₁ mg mb fa o pm cd doc a vs ns G Y ho (fd_plain hd) hcd hmg hobj hints hlen hg) fun r s' hq=>?_);obtain ⟨rfl,h2,h3,h4⟩:=hq;exact ⟨.inl ⟨.bool true,.bool true,[],rfl,fun _=>rfl,.bool true,Kv l _,fun _=>⟨qU,fun _ hm=>(nomatch hm)⟩⟩,h2,h3,h4⟩
section
variable {prog:bq}{w:bL}{A:cy}{E:af->al->Prop}{s:al}{K:Frag}
def Yb (h:bT) (L d:am):List (am×Obj):=(bx h.objs.size).filterMap fun a=>if a=L\/a=d then none else (h.get? a).map fun o=>(a,o)
end
end Att
namespace L2
open PySem PySem.Spec PyProof.Rows
theorem Kw  (h:M2 vs ns):dC (ns.map V.int) vs:=by
 induction h with
 |nil=>exact .nil
 |cons n t h ih=>exact .cons ⟨t,rfl⟩ ih
def Ui (H:Hp):Prop:=∀ b,H b=none\/∃ o xs,H b=some (.frz o (.lst xs))
theorem MG {P:bq}{w:bL}{K:a8}{mg mb:Str->Option af}{CX:LX}{k:Nat}{fa a:am}{fd:fz}{x:Str}{sp:Sp}{s₁:al}{vs:List af}{ns:List Int}
  (KX:K.In s₁.heap) (hns:s₁.heap.Ns bX mg) (hb:s₁.heap.Ns builtinsNs mb) (hbb:∀ x:Str,x≠"__name__"->mb x=iL x) (hlim:s₁.heap.NoLimit) (hg:s₁.gens=#[])
  (ha:s₁.heap.get? a=some { cls:=.type "list",data:=.seq vs.toArray }) (hi:M2 vs ns) (hl:ns.length<=sizeLine) (hr:jR k xg)
  (F:∀ base:bT,K.In base->base.Ns bX mg->pG P w K mg base CX k fa fd [x] sp) (hbind:∀ (s:al) (u:af),Av s fd ⟨[u],[]⟩ [(x,u)])
  (hsp:∀ H:Hp,Ui H->qB K H a (ns.map V.int)->sp [.ref a] H (fun v _=>v=.bl true) fun _ _ _=>False)
  (hCX:∀ H e s',CX [] H s₁ (fun _ _ _=>False) e s'->False) :
  jL (az P w) xg (.call (.ref fa) ⟨[.ref a],[]⟩) (fun r s'=>r=.ok (.ret (.bool true))/\OldK s₁.heap s'.heap/\s'.os=s₁.os/\qJ s'.gens) s₁:=by
 have rv:=Kw hi
 have lenV:=hi.length
 have core:∀ H:Hp,Ui H->qB K H a (ns.map V.int)->qP P w H s₁.heap->(∀ b,H b≠none->b=a)->(H a≠none->K.lookup a=none) ->
   jL (az P w) xg (.call (.ref fa) ⟨[.ref a],[]⟩) (fun r s'=>r=.ok (.ret (.bool true))/\OldK s₁.heap s'.heap/\s'.os=s₁.os/\qJ s'.gens) s₁:=by
  intro H hO hS hok hA hK
  have base_of:∀ {b:am}{o:Obj},s₁.heap.get? b=some o->H b=none->(Cs s₁.heap H).get? b=some o:=fun e n=>Mk e n
  have noA:∀ {b:am}{o:Obj}{es:Array sY}{ep:Nat},s₁.heap.get? b=some o->o.data=.dict es ep->H b=none:=fun {b o es ep} e d=>by
   cases q:H b with
   |none=>rfl
   |some u =>
    have e':b=a:=hA b (by rw [q];simp)
    subst e'
    rw [ha] at e;cases e
    have d':Data.seq vs.toArray _=Data.dict es ep:=d
    cases d'
  have nsK:∀ {b:am}{m:Str->Option af},s₁.heap.Ns b m->(Cs s₁.heap H).Ns b m:=fun {b m} ⟨o,es,ep,e,d,r⟩=>⟨o,es,ep,base_of e (noA e d),d,r⟩
  have hKb:K.In (Cs s₁.heap H):=fun b o e=>base_of (KX b o e) (by
   cases q:H b with
   |none=>rfl
   |some u =>
    have e':b=a:=hA b (by rw [q];simp)
    subst e'
    rw [hK (by rw [q];simp)] at e;cases e)
  have hM:Mod K mg (Cs s₁.heap H):=⟨hKb,nsK hns,⟨mb,nsK hb,hbb⟩,let ⟨mc,h1,h2⟩:=hlim;⟨mc,nsK h1,h2⟩⟩
  have e0:QA P w K mg (Cs s₁.heap H) xg [] s₁ H:=⟨rfl,hM,fun b o e=>Qp e,Nat.le_of_eq (Kl _ _),trivial,fun b hb=>absurd (show b∈([] : List am) from hb) (by simp),hok,.of_eq hg⟩
  refine tZ ((F _ hKb (nsK hns)).run xg [] s₁ H ⟨[.ref a],[]⟩ [.ref a] [.ref a] _ _ hr e0 (hbind s₁ (.ref a)) (.cons rfl .nil) (hsp H hO hS)) fun r s' h=>?_
  cases r with
  |error e=>exact (hCX H e s' h).elim
  |ok fl =>
   cases fl with
   |next=>exact iY h
   |brk=>exact iY h
   |cont=>exact iY h
   |ret u =>
    obtain ⟨v,H',os,bare,un,hok',r',q⟩:=h
    have q':v=.bl true:=q
    subst q'
    obtain rfl:u=JY true:=r'
    refine ⟨rfl,OldK.of_keep fun b o e=>?_,os,bare⟩
    cases q:H b with
    |none=>exact un.keep b o e q (by intro z;exact absurd (show b∈([] : List am) from z) (by simp)) (by simp)
    |some u =>
     rcases hO b with z|⟨ob,xs,z⟩
     ·rw [q] at z;cases z
     ·have z2:=un.frzs b ob _ z
      obtain ⟨e1,_⟩:=hok b _ z
      obtain ⟨e2,_⟩:=hok' b _ z2
      rw [e] at e1;cases e1
      exact e2
 cases hk:K.lookup a with
 |some o =>
  have e:=KX a o hk
  rw [ha] at e
  cases e
  refine core (fun _=>none) (fun _=>.inl rfl) (.inr ⟨_,vs.toArray,_,hk,rfl,rfl,rfl,by rw [aT,lenV];exact hl,by simpa using rv⟩) (fun b u z=>by have z':(none:Option HO)=some u:=z;cases z') (fun b z=>absurd rfl z) fun z=>absurd rfl z
 |none =>
  refine core (fun b=>if b=a then some (.frz { cls:=.type "list",data:=.seq vs.toArray } (.lst (ns.map V.int))) else none) (fun b=>?_) (.inl (.inr ⟨{ cls:=.type "list",data:=.seq vs.toArray },if_pos rfl⟩)) (fun b u z=>?_) (fun b z=>?_) fun _=>hk
  ·by_cases hb:b=a
   ·exact .inr ⟨_,_,if_pos hb⟩
   ·exact .inl (if_neg hb)
  ·by_cases hb:b=a
   ·have z':=(if_pos hb).symm.trans z
    cases z'
    subst hb
    exact ⟨ha,by rw [ao];exact hl,vs,_,rv,ha⟩
   ·have z':=(if_neg hb).symm.trans z
    cases z'
  ·by_cases hb:b=a
   ·exact hb
   ·exact absurd (if_neg hb) z
end L2
namespace L2
open PySem PySem.Spec PyProof.Rows
abbrev Zx {K:a8}{h:bT} (_:K.In h):a8:=K
theorem QK {l:xG}{n k:Nat}{q:bq}{loose:List Str}{XP:(Str->Option af)->bT->Prop}{YP:bL->bT->Prop}{d:DefRec}{K:Params->a8}{CX:bL->LX}{sp:bL->Sp}{x:Str}
  (hn:l.most=some n) (hn2:n<=sizeLine) (hdf:d.params.defaults=[]) (hr:jR k xg)
  (hY:∀ (w:bL) (h:bT),YP w h->(K w.params).In h)
  (F:∀ (w:bL) (mg:Str->Option af) (fa:am) (h:bT),(K w.params).In h->h.Ns bX mg->mg d.name=some (.ref fa) ->
   ∃ fd:fz,(∀ (s:al) (u:af),Av s fd ⟨[u],[]⟩ [(x,u)]) /\
    ∀ base:bT,(K w.params).In base->base.Ns bX mg->pG l.prog w (K w.params) mg base (CX w) k fa fd [x] (sp w))
  (hsp:∀ (w:bL) (H:Hp) (a:am) (ns:List Int),ns.length<=n->Ui H->qB (K w.params) H a (ns.map V.int)->sp w [.ref a] H (fun v _=>v=.bl true) fun _ _ _=>False)
  (hCX:∀ (w:bL) (H:Hp) (s:al) (e:af) (s':al),CX w [] H s (fun _ _ _=>False) e s'->False) :
  PK q loose XP YP l.row.toRowW d [] (fun f vs=>K5 f vs):=by
 refine Att.attach_call hn hdf fun w s₀ s₁ mg mb fa o pm cd doc a vs ns G Y ho hd hcd hmg hobj hints hlen hg=>?_;have KX:=hY w _ Y;obtain ⟨fd,hb,hF⟩:=F w mg fa _ KX G.T.g hmg;exact MG KX G.T.g G.T.b G.T.builtins G.T.nolimit hg hobj hints (ck hlen hn2) hr hF hb (fun H hO hS=>hsp w H a ns hlen hO hS) fun H e s'=>hCX w H s₁ e s'
end L2
namespace L2
open PySem PySem.Spec PyProof.Rows
def kU (s:db):Arguments:=match s with
 |.FunctionDef _ a _ _ _ _ _ _ _ _=>a
 |_=>{ posonlyargs:=[],args:=[],vararg:=none,kwonlyargs:=[],kw_defaults:=[],kwarg:=none,defaults:=[] }
def i8 (s:db):List db:=match s with
 |.FunctionDef _ _ b _ _ _ _ _ _ _=>b
 |_=>[]
def aw (s:db):ij:=match s with
 |.FunctionDef _ _ _ _ _ _ sc _ _ _=>sc
 |_=>{ kind:=.function,names:=[],isGenerator:=false,isCoroutine:=false }
abbrev E0:XK:=fun _ _ _=>False
structure IC (K:a8) (x qual:Str) (st:db) (f:am) (fd:fz):Prop where
 ex:∃ (oc:af) (od:Option am) (kV doc pm:af) (an:Option am) (cdv ct:af) (osl:Array (Option af)),
  fd=gz x qual (kU st) (i8 st) (aw st) .none kV doc pm an cdv ct/\K.lookup f=some ⟨oc,od,.func fd,osl⟩/\mz K cdv qual=true
 kp:dB K (.ref f)=true
section
variable {P:bq}{w:bL}{K:a8}{mg:Str->Option af}{base:bT}
theorem IC.binds {x qual:Str}{st:db}{f:am}{fd:fz}{ps:List Str} (F:IC K x qual st f fd)
  (h:∀ (kV doc pm:af) (an:Option am) (cdv ct:af) (us:List af),us.length=ps.length->Q0 (gz x qual (kU st) (i8 st) (aw st) .none kV doc pm an cdv ct) ⟨us,[]⟩=pure (ps.zip us)):jG K fd ps []:=by
 obtain ⟨oc,od,kV,doc,pm,an,cdv,ct,osl,rfl,lk,hcd⟩:=F.ex;exact .all (h kV doc pm an cdv ct)
theorem MH {x qual:Str}{st:db}{f:am}{oc:af}{od an:Option am}{osl:Array (Option af)}{kV doc pm cdv ct:af} (l:K.lookup f=some ⟨oc,od,.func (gz x qual (kU st) (i8 st) (aw st) .none kV doc pm an cdv ct),osl⟩)
  (c:mz K cdv qual=true) (k:dB K (.ref f)=true):IC K x qual st f (gz x qual (kU st) (i8 st) (aw st) .none kV doc pm an cdv ct):=⟨⟨oc,od,kV,doc,pm,an,cdv,ct,osl,rfl,l,c⟩,k⟩
end
theorem iC  (hr:jR k A):A.units+1<gK:=w9 (Nat.add_le_add_left (by decide:1<=64) _) hr.units
theorem eI (h:n<=1000):n<sizeLine:=w9 h (by decide)
section
end
theorem AK {A B:Prop} (h:B):if false=true then A else B:=by
 rw [if_neg bf];exact h
theorem AL {A B:Prop} (h:A):if true=true then A else B:=by
 rw [if_pos rfl];exact h
def dD (H H':Hp):Prop:=∀ b o,H b=some o->H' b=some o
theorem dD.refl (H:Hp):dD H H:=fun _ _ h=>h
theorem dD.trans (a:dD H H1) (b:dD H1 H2):dD H H2:=fun c o h=>b c o (a c o h)
theorem dD.free (e:dD H H') (h:H' l=Option.none):H l=Option.none:=by
 cases q:H l with
 |none=>rfl
 |some o =>
  rw [e l o q] at h;cases h
theorem dD.seq {K:a8}{H H':Hp}{a:am}{xs:List V} (e:dD H H') (h:qB K H a xs):qB K H' a xs:=by
 rcases h with (h|⟨o,h⟩)|h
 ·exact .inl (.inl (e _ _ h))
 ·exact .inl (.inr ⟨o,e _ _ h⟩)
 ·exact .inr h
end L2
end
section
namespace L2
open PySem PySem.Spec PyProof.Rows
section
variable {κ:Type} [DecidableEq κ]
def oM (kvs:List (κ×V)) (k:κ):Option V:=(kvs.find? fun kv=>decide (kv.1=k)).map (·.2)
def n6 (kvs:List (κ×V)) (k:κ) (v:V):List (κ×V) :=
 if (kvs.any fun kv=>decide (kv.1=k))=true then kvs.map (fun kv=>if kv.1=k then (kv.1,v) else kv) else kvs++[(k,v)]
def MI (kvs:List (κ×V)) (k:κ):List (κ×V):=kvs.filter fun kv=>decide (kv.1≠k)
theorem yJ {p:κ×V}{r:List (κ×V)}{k:κ} (e:p.1=k):oM (p::r) k=some p.2:=by simp [oM,bI,e]
theorem yK {p:κ×V}{r:List (κ×V)}{k:κ} (e:¬ p.1=k):oM (p::r) k=oM r k:=by simp [oM,bI,e]
theorem Eb (k:κ):∀ kvs:List (κ×V),(kvs.any fun kv=>decide (kv.1=k))=(oM kvs k).isSome
 |[]=>rfl
 |p::r=>by
  rw [ed];by_cases e:p.1=k
  ·simp only [yJ e,decide_eq_true e,Bool.true_or,Io]
  ·rw [yK e,decide_eq_false e,Bool.false_or];exact Eb k r
theorem rg (kvs:List (κ×V)) (k:κ) (v:V):(n6 kvs k v).length<=kvs.length+1:=by
 unfold n6;split
 ·rw [ao];omega
 ·rw [aR,aP,bJ];omega
theorem yG.isSome_eq  (r:yG o u):o.isSome=u.isSome:=by
 cases o with
 |none=>cases u with
  |none=>rfl
  |some _=>exact (show False from r).elim
 |some _=>cases u with
  |none=>exact (show False from r).elim
  |some _=>rfl
theorem KV.val {kvs:List (κ×V)}{vs:List (κ×af)} (r:KV kvs vs) (k:κ):yG (oM kvs k) (Ax vs k):=by
 unfold KV at r;induction r with
 |nil=>exact ja
 | @cons p q ps qs h t ih =>
  obtain ⟨h1,h2⟩:=h;by_cases e:p.1=k
  ·have e':q.1=k:=h1.symm.trans e;have b:Ax (q::qs) k=some q.2:=by simp [Ax,bI,e']
   rw [yJ e,b];exact h2
  ·have e':¬ q.1=k:=fun z=>e (h1.trans z);have b:Ax (q::qs) k=Ax qs k:=by simp [Ax,bI,e']
   rw [yK e,b];exact ih
theorem KV.any  (r:KV kvs vs) (k:κ):(kvs.any fun kv=>decide (kv.1=k))=vs.any fun kv=>decide (kv.1=k):=by
 unfold KV at r;induction r with
 |nil=>rfl
 |cons h t ih=>rw [ed,ed,ih,h.1]
theorem KV.repl  (r:KV kvs vs) (k:κ)  (ry:dv y u) :
  KV (kvs.map fun kv=>if kv.1=k then (kv.1,y) else kv) (vs.map fun kv=>if kv.1=k then (kv.1,u) else kv):=by
 unfold KV at r ⊢;induction r with
 |nil=>exact .nil
 | @cons p q ps qs h t ih =>
  rw [av,av];refine .cons ?_ ih;obtain ⟨h1,h2⟩:=h;by_cases e:p.1=k
  ·rw [if_pos e,if_pos (h1.symm.trans e)];exact ⟨h1,ry⟩
  ·rw [if_neg e,if_neg (fun z=>e (h1.trans z))];exact ⟨h1,h2⟩
theorem KV.put  (r:KV kvs vs) (k:κ)  (ry:dv y u):KV (n6 kvs k y) (stored vs k u):=by
 unfold n6 stored;rw [r.any k];by_cases e:(vs.any fun kv=>decide (kv.1=k))=true
 ·rw [if_pos e,if_pos e];exact r.repl k ry
 ·rw [if_neg e,if_neg e];exact Paired.snoc r ⟨rfl,ry⟩
theorem KV.length  (r:KV kvs vs):kvs.length=vs.length:=jq r
end
theorem Ec    (r:dv (kV k) u):(gE P w).is k u=true:=by
 cases k with
 |inl i=>obtain ⟨t,e⟩:=(show ∃ t,u=pA i t from r);subst e;exact E2 P w i t
 |inr x=>obtain ⟨t,e⟩:=(show ∃ t,u=jU x t from r);subst e;exact E3 P w x t
theorem Bv  : ∀ {ks:List gD}{us:List af},dC (ks.map kV) us->ItemsAre (gE P w) ks us
 |[],_,r=>by rw [du] at r;cases r;exact .nil
 |k::ks,_,r=>by
  rw [av] at r;cases r with
  |cons h t=>exact .cons (Ec h) (Bv t)
abbrev KT (H:Hp):List (List gD×V)->List (List gD×am×af)->Prop:=Gi fun p q=>p.1=q.1/\H q.2.1=some (.tup (p.1.map kV))/\dv p.2 q.2.2
theorem KT.val {H:Hp}{kvs:List (List gD×V)}{xs:List (List gD×am×af)} (r:KT H kvs xs) (k:List gD):yG (oM kvs k) ((Go xs k).map (·.2)):=by
 induction r with
 |nil=>exact ja
 | @cons p q ps qs h t ih =>
  obtain ⟨h1,_,h2⟩:=h;by_cases e:p.1=k
  ·have e':q.1=k:=h1.symm.trans e;have b:Go (q::qs) k=some q.2:=by simp [Go,bI,e']
   rw [yJ e,b];exact h2
  ·have e':¬ q.1=k:=fun z=>e (h1.trans z);have b:Go (q::qs) k=Go qs k:=by simp [Go,bI,e']
   rw [yK e,b];exact ih
theorem KT.repl   (r:KT H kvs xs) (k:List gD)  (ry:dv y u) :
  KT H (kvs.map fun kv=>if kv.1=k then (kv.1,y) else kv) (xs.map (putAt k u)):=by
 induction r with
 |nil=>exact .nil
 | @cons p q ps qs h t ih =>
  rw [av,av];refine .cons ?_ ih;obtain ⟨h1,h2,h3⟩:=h;unfold putAt;by_cases e:p.1=k
  ·rw [if_pos e,if_pos (h1.symm.trans e)];exact ⟨h1,h2,ry⟩
  ·rw [if_neg e,if_neg (fun z=>e (h1.trans z))];exact ⟨h1,h2,h3⟩
theorem KT.put   (r:KT H kvs xs) (k:List gD)   (hb:H b=some (.tup (k.map kV))) (ry:dv y u) :
  KT H (n6 kvs k y) (storedH xs k b u):=by
 have e:(kvs.any fun kv=>decide (kv.1=k))=(Go xs k).isSome:=by
  rw [Eb,(r.val k).isSome_eq,vU]
 unfold n6 storedH;rw [e];by_cases q:(Go xs k).isSome=true
 ·rw [if_pos q,if_pos q];exact r.repl k ry
 ·rw [if_neg q,if_neg q];exact Paired.snoc r ⟨rfl,hb,ry⟩
theorem KT.keeps   (r:KT H kvs xs) (ht:∀ b ys,H b=some (.tup ys)->H' b=some (.tup ys)):KT H' kvs xs :=
 Paired.mapP r fun _ _ z=>⟨z.1,ht _ _ z.2.1,z.2.2⟩
section
theorem Sq (ok:qP P w H h) (e:Rd H a u):dz P w H h a u:=e.ok ok
theorem Ed (ok:qP P w H h) (e:Rd H a (.dK kvs)):kvs.length<=sizeLine/\(a==fi)=false/\∃ vs,KV kvs vs/\h.DictOf (gE P w) a vs :=
 show dz P w H h a (.dK kvs) from Sq ok e
theorem VT (ok:qP P w H h) (e:H a=some (.dK kvs)):kvs.length<=sizeLine/\(a==fi)=false/\∃ vs,KV kvs vs/\h.DictOf (gE P w) a vs:=Ed ok (.inl e)
theorem wt (ok:qP P w H h) (e:H a=some (.tup (ks.map kV))):(sX (gE P w)).is h ks a:=by
 obtain ⟨_,its,r,o,h1,h2,n,h3⟩:=(show dz P w H h a (.tup (ks.map kV)) from ok a _ e);exact ⟨o,its.toArray,n,h1,h2,h3,by simpa using Bv r⟩
theorem Ee (ok:qP P w H h) (e:Rd H a (.dT kvs)):kvs.length<=sizeLine/\(a==fi)=false /\
  ∃ xs,KT H kvs xs/\h.DictOfH (sX (gE P w)) a xs:=by
 obtain ⟨z,y,xs,r,o,es,ep,h1,h2,h3,h4,h5⟩:=(show dz P w H h a (.dT kvs) from Sq ok e);refine ⟨z,y,xs,r,o,es,ep,h1,h2,h3,h4,fun x hx=>?_,h5⟩;have all:∀ {l:List (List gD×V)}{m:List (List gD×am×af)},KT H l m->∀ x∈m,(sX (gE P w)).is h x.1 x.2.1:=by
  intro l m q;induction q with
  |nil=>intro x hx;exact nomatch hx
  | @cons p q ps qs hq t ih =>
   intro x hx;rcases List.mem_cons.mp hx with e|hx
   ·subst e;exact wt ok (by rw [<- hq.1];exact hq.2.1)
   ·exact ih x hx
 exact all r x hx
theorem Sr (ok:qP P w H h) (e:H a=some (.dT kvs)):kvs.length<=sizeLine/\(a==fi)=false /\
  ∃ xs,KT H kvs xs/\h.DictOfH (sX (gE P w)) a xs:=Ee ok (.inl e)
end
def xP (H:Hp) (a:am) (y:V) (r:Option V):Prop :=
 (∃ kvs k,Rd H a (.dK kvs)/\y=kV k/\r=oM kvs k)\/∃ kvs k b,Rd H a (.dT kvs)/\y=.ref b/\H b=some (.tup (k.map kV))/\r=oM kvs k
def Ef (H:Hp) (a:am) (y v:V) (H':Hp):Prop :=
 (∃ kvs k,H a=some (.dK kvs)/\y=kV k/\kvs.length<sizeLine/\H'=upd H a (.dK (n6 kvs k v))) \/
 ∃ kvs k b,H a=some (.dT kvs)/\y=.ref b/\H b=some (.tup (k.map kV))/\kvs.length<sizeLine/\H'=upd H a (.dT (n6 kvs k v))
theorem xP.k {H:Hp}{a:am}{kvs:List (gD×V)}{k:gD} (e:H a=some (.dK kvs)):xP H a (kV k) (oM kvs k):=.inl ⟨kvs,k,.inl e,rfl,rfl⟩
theorem xP.t {H:Hp}{a b:am}{kvs:List (List gD×V)}{k:List gD} (e:H a=some (.dT kvs)) (eb:H b=some (.tup (k.map kV))):xP H a (.ref b) (oM kvs k):=.inr ⟨kvs,k,b,.inl e,rfl,eb,rfl⟩
theorem Ef.k {H:Hp}{a:am}{kvs:List (gD×V)}{k:gD}{v:V} (e:H a=some (.dK kvs)) (hl:kvs.length<sizeLine):Ef H a (kV k) v (upd H a (.dK (n6 kvs k v))):=.inl ⟨kvs,k,e,rfl,hl,rfl⟩
theorem Ef.t {H:Hp}{a b:am}{kvs:List (List gD×V)}{k:List gD}{v:V} (e:H a=some (.dT kvs)) (eb:H b=some (.tup (k.map kV))) (hl:kvs.length<sizeLine) :
  Ef H a (.ref b) v (upd H a (.dT (n6 kvs k v))):=.inr ⟨kvs,k,b,e,rfl,eb,hl,rfl⟩
section
theorem bP.big (I:bP X pins σ H s):fi<s.heap.objs.size:=by
 have h:bX<s.heap.objs.size:=(I.mod.glob.keeps I.bk).lt;exact fe (by decide) h
theorem Kx (hu:A.units+1<gK) (I:bP X pins σ H s) (g:xP H a y (some v)) (ry:dv y u) (h:∀ w' s',bP X pins σ H s'->dv v w'->Q w' s') :
  au (az X.prog X.w) A (qL (.ref a) u) Q E s:=by
 rcases g with ⟨kvs,k,e,ey,l⟩|⟨kvs,k,b,e,ey,eb,l⟩
 ·subst ey;obtain ⟨z,hd,vs,rel,dd⟩:=Ed I.hok e;obtain ⟨w',hw,rw'⟩:=yG.some_of (v:=v) (o:=Ax vs k) (by rw [l];exact rel.val k);exact wpAny_getItem_of (Ec ry) dd.mapOf hw (h w' _ (I.tok _) rw')
 ·subst ey;cases (show u=bt b from ry);obtain ⟨z,hd,xs,rel,dd⟩:=Ee I.hok e;obtain ⟨w',hw,rw'⟩:=yG.some_of (v:=v) (o:=(Go xs k).map (·.2)) (by rw [l];exact rel.val k);obtain ⟨p,hp,hp2⟩:=Option.map_eq_some_iff.mp hw;refine wpAny_getItem_heap (pE hu) (wt I.hok eb) dd hp ?_;rw [hp2];exact h w' _ (I.tok _) rw'
theorem d_in (hu:A.units+1<gK) (I:bP X pins σ H s) (g:xP H a y o) (ry:dv y u) (h:∀ s',bP X pins σ H s'->Q (.bool o.isSome) s') :
  au (az X.prog X.w) A (bC .In u (.ref a)) Q E s:=by
 rcases g with ⟨kvs,k,e,ey,l⟩|⟨kvs,k,b,e,ey,eb,l⟩
 ·subst ey;obtain ⟨z,hd,vs,rel,dd⟩:=Ed I.hok e;refine wpAny_in_of (Ec ry) hd dd.mapOf ?_;rw [<- (rel.val k).isSome_eq,<- l];exact h _ (I.tok _)
 ·subst ey;cases (show u=bt b from ry);obtain ⟨z,hd,xs,rel,dd⟩:=Ee I.hok e;refine wpAny_in_heap (pE hu) (wt I.hok eb) hd dd ?_;have q:=(rel.val k).isSome_eq;rw [vU] at q;rw [<- q,<- l];exact h _ (I.tok _)
theorem QL (hu:A.units+1<gK) (I:bP X pins σ H s) (g:xP H a y o) (ry:dv y u) (h:∀ s',bP X pins σ H s'->Q (.bool (!o.isSome)) s') :
  au (az X.prog X.w) A (bC .NotIn u (.ref a)) Q E s:=by
 rcases g with ⟨kvs,k,e,ey,l⟩|⟨kvs,k,b,e,ey,eb,l⟩
 ·subst ey;obtain ⟨z,hd,vs,rel,dd⟩:=Ed I.hok e;refine wpAny_notIn_of (Ec ry) hd dd.mapOf ?_;rw [<- (rel.val k).isSome_eq,<- l];exact h _ (I.tok _)
 ·subst ey;cases (show u=bt b from ry);obtain ⟨z,hd,xs,rel,dd⟩:=Ee I.hok e;refine wpAny_notIn_heap (pE hu) (wt I.hok eb) hd dd ?_;have q:=(rel.val k).isSome_eq;rw [vU] at q;rw [<- q,<- l];exact h _ (I.tok _)
theorem CD   (I:bP X pins σ H s) (mu:Vr (H a)) (hs:bG a s.heap h') (he:∃ q,h'.get? a=some q) (new:dz X.prog X.w (upd H a ob) h' a ob) :
  bP X pins σ (upd H a ob) { s with heap:=h',toks:=t' } :=
 I.write (x:=a) (e:=a) mu (.inl rfl) (fun b q hb z=>(hs.2 b hb).trans z) he new
theorem Uj      (z:kvs.length<=sizeLine) (hd:(a==fi)=false) (rel:KV kvs vs) (dd:h'.DictOf (gE P w) a vs) :
  dz P w H' h' a (.dK kvs):=⟨z,hd,vs,rel,dd⟩
theorem Ky  (hu:A.units+1<gK) (I:bP X pins σ H s) (g:Ef H a y v H') (ry:dv y u) (rv:dv v r) (h:∀ s',bP X pins σ H' s'->Q () s') :
  au (az X.prog X.w) A (setItem (.ref a) u r) Q E s:=by
 rcases g with ⟨kvs,k,e,ey,l,eH⟩|⟨kvs,k,b,e,ey,eb,l,eH⟩
 ·subst ey eH;obtain ⟨z,hd,vs,rel,dd⟩:=VT I.hok e;have hz:vs.length<=sizeLine:=by rw [<- rel.length];exact z
  have hl:(n6 kvs k v).length<=sizeLine:=by have:=rg kvs k v;omega
  refine wpAny_setItem_pairs (hsz:=hz) (Ec ry) dd fun h' dd' hs=>h _ ?_;have he:∃ q,h'.get? a=some q:=let ⟨q,_,_,hq,_⟩:=dd';⟨q,hq⟩
  exact CD I (by rw [e];exact ja) hs he (Uj hl hd (rel.put k rv) dd')
 ·subst ey eH;cases (show u=bt b from ry);obtain ⟨z,hd,xs,rel,dd⟩:=Sr I.hok e;have hz:xs.length<=sizeLine:=by rw [<- jq rel];exact z
  have hl:(n6 kvs k v).length<=sizeLine:=by have:=rg kvs k v;omega
  refine wpAny_setItem_heap (hsz:=hz) (pE hu) (wt I.hok eb) dd fun h' dd' hs=>h _ ?_;obtain ⟨q,es,ep,hq,h2,h3,h4,_,h5⟩:=dd';refine CD I (by rw [e];exact ja) hs ⟨q,hq⟩ ⟨hl,hd,_,(rel.put k eb rv).keeps fun c ys ec=>?_,q,es,ep,hq,h2,h3,h4,h5⟩;rw [bd (Mj ec e (fun z=>nomatch z))];exact ec
end
section
end
def VU (i:bY):Prop:=∀ ov iv,DS i false ov iv=operate [ov,iv] (qL ov iv)
theorem QM {prog:bq}{w:bL}{A:cy}{E:af->al->Prop}{s:al}{env:Env}{value slice:bY}{pos:Pos}{T id:String}{Q:af->al->Prop}
  (hl:typeLookup (.type T) "__getitem__"=pure (some (.builtin id))) (hs:VU slice)
  (h:au (az prog w) A (eD value env) (fun o s₁=>au (az prog w) A (eD slice env) (fun i s₂=>s₂.TypeIs o T/\au (az prog w) A (qL o i) Q E s₂) E s₁) E s) :
  au (az prog w) A (eD (.Subscript value slice pos) env) Q E s:=by
 refine Subscript_ (bA h (fun o s₁ h₁=>bA h₁ (fun i s₂ h₂=>?_) fun _ _ x=>x) fun _ _ x=>x);obtain ⟨hT,h₂⟩:=h₂;unfold K3;refine a7 ?_;rw [getitemInPython_of_ne hT.not_modules];refine a7 (wpAny_specialOf hT hl ?_);have fin:au (az prog w) A (DS slice false o i) (fun r s₃=>au (az prog w) A (letTemporaryGo value o r >>= fun _=>pure r) Q E s₃) E s₂:=by
  rw [hs o i];exact wpAny_operating (bA h₂ (fun r s₃ h₃=>a7 (wpAny_letTemporaryGo (a9 h₃))) fun _ _ x=>x)
 first
  |exact a9 (a7 fin)
  |exact a7 (a9 (a7 fin))
  |exact a7 fin
theorem Eg        (I:bP X pins σ H s) (g:xP H a y o):s.TypeIs (.ref a) "dict":=by
 rcases g with ⟨kvs,k,e,_,_⟩|⟨kvs,k,b,e,_,_,_⟩
 ·obtain ⟨_,_,vs,_,dd⟩:=Ed I.hok e;exact dd.typeIs
 ·obtain ⟨_,_,xs,_,dd⟩:=Ee I.hok e;exact dd.typeIs
def VV (td ty:TE):TE:=fun σ H Q=>td σ H fun x H1=>ty σ H1 fun y H2=>∃ a v,x=.ref a/\xP H2 a y (some v)/\Q v H2
def Su (td ty tv:TE):TS:=fun D σ H=>tv σ H fun v H1=>td σ H1 fun x H2=>ty σ H2 fun y H3=>∃ a H4,x=.ref a/\Ef H3 a y v H4/\D.nx σ H4
section
theorem ID (hu:X.A.units+1<gK) (ho:PE X o td) (hi:PE X i ty) (hs:VU i):PE X (.Subscript o i pos) (VV td ty):=by
 intro pins s σ H Q I h;refine QM PySem.F.slot_dict_getitem.lookup hs (fR (ho pins s σ H _ I h) fun u s1 ⟨x,H1,I1,rx,q1⟩=>fR (hi pins s1 σ H1 _ I1 q1) fun iv s2 ⟨y,H2,I2,ry,a,v,ex,g,q2⟩=>?_);subst ex;obtain rfl:u=bt a:=rx;exact ⟨Eg I2 g,Kx hu I2 g ry fun w' s3 I3 rw'=>⟨v,H2,I3,rw',q2⟩⟩
theorem IE (hu:X.A.units+1<gK) (ho:PE X o td) (hi:PE X i ty) (hv:PE X value tv) (hs:iq value (some (.Subscript o i pos')) pos.line X.env=pure false) :
  PS X (.Assign [.Subscript o i pos'] value pos) (Su td ty tv):=by
 intro pins s σ H D I h;refine wpAny_Assign_Subscript (fR (hv pins s σ H _ I h) fun r s1 ⟨v,H1,I1,rv,q1⟩=>fR (ho pins s1 σ H1 _ I1 q1) fun u s2 ⟨x,H2,I2,rx,q2⟩=>fR (hi pins s2 σ H2 _ I2 q2) fun iv s3 ⟨y,H3,I3,ry,a,H4,ex,g,q3⟩=>?_) hs;subst ex;obtain rfl:u=bt a:=rx;exact Ky hu I3 g ry rv fun s4 I4=>⟨σ,H4,I4,q3⟩
end
theorem MJ   (h:bT) (hb:fi<h.objs.size):dz P w H (h.push { cls:=.type "dict",data:=.dict #[] }) h.objs.size (.dK []) :=
 ⟨cJ _,beq_eq_false_iff_ne.mpr (cY (aH hb)),[],.nil,Heap.DictOf.new h⟩
theorem MK   (h:bT) (hb:fi<h.objs.size):dz P w H (h.push { cls:=.type "dict",data:=.dict #[] }) h.objs.size (.dT []) :=
 ⟨cJ _,beq_eq_false_iff_ne.mpr (cY (aH hb)),[],.nil,_,#[],0,ax _ rfl,⟨rfl,rfl,rfl⟩,rfl,rfl,gd⟩
def Uk:TE:=fun _ H Q=>∀ p,H p=none->Q (.ref p) (upd H p (.dK []))
section
theorem ML:PE X (.Dict [] [] pos) Uk:=fun pins s σ H Q I h =>
 wpAny_Dict_empty ⟨.ref s.heap.objs.size,_,I.laid (a:=s.heap.objs.size) (o:=.dK []) (t':=s.toks) (fun _ _ q=>ac _ q) (aq _) (MJ s.heap I.big),rfl,h _ (I.hok.fresh (aq _))⟩
end
section
end
section
end
section
end
section
end
end L2
namespace L2
open PySem PySem.Spec PyProof.Rows
section
end
section
variable {κ:Type} [DecidableEq κ]
theorem CF:∀ {l:List κ}{k:κ},l.Nodup->¬ k∈l->(l++[k]).Nodup
 |[],k,_,_=>by simp
 |a::r,k,h,hk=>by
  obtain ⟨h1,h2⟩:=List.nodup_cons.mp h;show (a::(r++[k])).Nodup;refine List.nodup_cons.mpr ⟨fun m=>?_,CF h2 fun m=>hk (List.mem_cons.mpr (e_ m))⟩;rcases List.mem_append.mp m with q|q
  ·exact h1 q
  ·exact hk (List.mem_cons.mpr (iz (List.mem_singleton.mp q).symm))
end
end L2
end
namespace L2
open PySem PySem.Spec PyProof.Rows
section
section
theorem CG      (I:Nat->al->Prop)
  (turn:∀ n s,I n s->au (az prog w) A (lF it) (fun r s₁=>match r with
   |none=>R (.ok .next) s₁
   |some v=>au (az prog w) A (hW target it v) (fun _ s₁'=>au (az prog w) A (qR target env v) (fun _ s₂ =>
     au (az prog w) A (forIn ifs true fun c r=>if r=true then do let ok <- vZ c env (eD c env);pure (gf ok) else pure (gf r)) (fun ok s₃ =>
      if ok=true then au (az prog w) A (eD elt env) (fun x s₄ =>
       au (az prog w) A (call (.builtin "list.append") [acc,x]) (fun _ s₅=>∃ m,m<n/\I m s₅) (fun _ _=>False) s₄) (fun _ _=>False) s₃
      else ∃ m,m<n/\I m s₃) (fun _ _=>False) s₂) (fun _ _=>False) s₁') (fun _ _=>False) s₁) (fun _ _=>False) s)
  (n:Nat) (h:I n s) :
  jL (az prog w) A (.compLoop (.ListComp elt [⟨target,iter,ifs,0⟩] scope pos) 0 it acc env) R s:=by
 refine codeAny_loop rfl I (fun n s hI=>?_) n h;show au _ A ((compTurn (.ListComp elt [⟨target,iter,ifs,0⟩] scope pos) 0 it acc env).onRaise (fun x=>do noteFrame x env;theTreesLotGoes x)) _ _ s;refine wpAny_noted ?_;rw [compTurn_list];have nf:∀ {α:Type}{t:Sem α}{Q:α->al->Prop}{E':af->al->Prop}{s:al},au (az prog w) A t Q (fun _ _=>False) s->au (az prog w) A t Q E' s :=
  fun h=>bA h (fun _ _ q=>q) fun _ _ f=>f.elim
 refine a7 (j9 (a7 (nf (bA (turn n s hI) (fun r s₁ h₁=>?_) fun _ _ h'=>h'))));cases r with
 |none=>exact a9 h₁
 |some v =>
  refine a7 (nf (bA h₁ (fun _ s₁' h₁'=>?_) fun _ _ h'=>h'));refine a7 (nf (bA h₁' (fun _ s₂ h₂=>a7 (nf (bA h₂ (fun ok s₃ h₃=>?_) fun _ _ h'=>h'))) fun _ _ h'=>h'));cases ok with
  |false=>exact a9 ⟨rfl,h₃⟩
  |true =>
   exact a7 (a7 (nf (bA h₃ (fun x s₄ h₄=>a7 (nf (bA h₄ (fun _ s₅ h₅=>a9 (a9 ⟨rfl,h₅⟩)) fun _ _ h'=>h'))) fun _ _ h'=>h')))
end
theorem GM (names : List (Str × lG)) : ∀ (cs : List (Str × am)), (∀ y ∈ names, y.2 = .free -> ∃ c, env.cells.lookup y.1 = some c) ->
    (∀ x c, cs.lookup x = some c -> env.cells.lookup x = some c) ->
    ∃ cl, (forIn names cs fun (x : Str × lG) (cs : List (Str × am)) => match x with
        | (name, kind) => if (kind == cw) = true then do let a <- cellOf env name; pure (gf ((name, a) :: cs)) else pure (gf cs) : Sem (List (Str × am))) = pure cl /\
      (∀ x c, cl.lookup x = some c -> env.cells.lookup x = some c) /\ (∀ y ∈ names, y.2 = .free -> ∃ c, cl.lookup y.1 = some c) /\ (∀ x c, cs.lookup x = some c -> ∃ c', cl.lookup x = some c') := by
  induction names with
  | nil => intro cs _ h2; exact ⟨cs, rfl, h2, fun _ h => absurd h (by simp), fun x c h => ⟨c, h⟩⟩
  | cons nk r ih =>
    obtain ⟨n, k⟩ := nk;intro cs h1 h2;by_cases hk : k = .free
    · subst hk;obtain ⟨a, ha⟩ := h1 (n, .free) ak rfl;have h2' : ∀ x c, ((n, a) :: cs).lookup x = some c -> env.cells.lookup x = some c := fun x c h => by
        rw [cX] at h;cases e : x == n with
        | true => rw [e] at h; have : x = n := by simpa using e
                  subst this; cases h; exact ha
        | false => rw [e] at h; exact h2 x c h
      obtain ⟨cl, e1, e2, e3, e4⟩ := ih ((n, a) :: cs) (fun y hy => h1 y (ai _ hy)) h2';refine ⟨cl, ?_, e2, fun y hy hf => ?_, fun x c h => ?_⟩
      · rw [jM];have hc : cellOf env n = pure a := by unfold cellOf; rw [ha]
        simp only [beq_self_eq_true, if_true, hc];exact e1
      · rcases List.mem_cons.mp hy with rfl | hy
        · exact e4 n a (by simp)
        · exact e3 y hy hf
      · cases e : x == n with
        | true => exact e4 x a (by rw [cX, e])
        | false => exact e4 x c (by rw [cX, e]; exact h)
    · obtain ⟨cl, e1, e2, e3, e4⟩ := ih cs (fun y hy => h1 y (ai _ hy)) h2;refine ⟨cl, ?_, e2, fun y hy hf => ?_, e4⟩
      · rw [jM];have hk' : (k == cw) = false := by simpa using hk
        simp only [hk', bu, if_false];exact e1
      · rcases List.mem_cons.mp hy with rfl | hy
        · exact absurd hf hk
        · exact e3 y hy hf
theorem u9  (h:∀ y∈scope.names,y.2=.free->∃ c,env.cells.lookup y.1=some c):∃ cl,closureFor scope env=pure cl /\
  (∀ x c,cl.lookup x=some c->env.cells.lookup x=some c)/\(∀ y∈scope.names,y.2=.free->∃ c,cl.lookup y.1=some c):=by
 obtain ⟨cl,e1,e2,e3,_⟩:=GM (env:=env) scope.names [] h (fun x c h=>by simp at h);refine ⟨cl,?_,e2,e3⟩;simp only [closureFor];rw [show (forIn scope.names ([] : List (Str×am)) fun x r=>_)=(pure cl:Sem (List (Str×am))) from e1];rfl
end
section
def cW (X:Cx) (N':List Str) (scope:ij) (cl:List (Str×am)) (C:am) (s₀:al) (H₀:Hp) (ex:List am) (pn:List (am×Obj)):Cx :=
 { X with N:=N',s₀:=s₀,H₀:=H₀,env:=compEnvC scope cl C X.env,outer:=X.stack,stack:=X.stack,ex:=ex,fn:=fun y=>scope.names.lookup y==some .cell,pn:=pn,xe:=fun _ _=>False }
def PU (X:Cx) (ifs:List bY) (t:TT):Prop :=
 ∀ (pins:List (am×Obj)) (s:al) (σ:St) (H:Hp) (Q:Bool->Hp->Prop),bP X pins σ H s->t σ H Q ->
  au (az X.prog X.w) X.A (forIn ifs true fun c r=>if r=true then do let ok <- vZ c X.env (eD c X.env);pure (gf ok) else pure (gf r)) (TP X pins σ Q) X.xe s
def Yc:TT:=fun _ H Q=>Q true H
theorem QN:PU X [] Yc:=fun pins s σ H Q I h=>wpAny_tests_nil ⟨H,I,h⟩
theorem QO   (h:PT X c t):PU X [c] t:=fun pins s σ H Q I hw=>wpAny_tests_one (h pins s σ H Q I hw)
structure n_ (X:Cx) (scope:ij) (N':List Str) (nt:Nat) (ix:List Nat):Prop where
 kind:scope.kind=.function
 cel:∀ y∈scope.names,y.2=.cell->scope.names.lookup y.1=some .cell
 loc:∀ y∈scope.names,y.2=.local->scope.names.lookup y.1=some .local
 free:∀ y∈scope.names,y.2=.free->X.env.scope.names.lookup y.1=some .cell\/X.env.scope.names.lookup y.1=some .free
 cap:∀ k i,ix[k]?=some i->∃ x,X.N[i]?=some x/\N'[nt+k]?=some x/\scope.names.lookup x=some .free
 len:N'.length=nt+ix.length
def jS (nt:Nat) (ix:List Nat) (σ:St):St:=tx nt none++ix.map fun i=>(σ[i]?).join
theorem tj {env:Env}{x:Str}{names:List (Str×lG)}:names.lookup x=some .free ->
  (names.map fun (n,k)=>if (k==cw&&env.scope.kind == .function&&env.kindOf n==some .cell) then (n,dZ) else (n,k)).lookup x=some .free \/
  (names.map fun (n,k)=>if (k==cw&&env.scope.kind == .function&&env.kindOf n==some .cell) then (n,dZ) else (n,k)).lookup x=some .cell:=by
 induction names with
 |nil=>intro h;simp at h
 |cons nk r ih =>
  obtain ⟨n,k⟩:=nk;intro h;show yB x ((if (k==cw&&env.scope.kind == .function&&env.kindOf n==some .cell)=true then (n,dZ) else (n,k))::_)=_ \/
   yB x ((if (k==cw&&env.scope.kind == .function&&env.kindOf n==some .cell)=true then (n,dZ) else (n,k))::_)=_
  cases hx:x==n with
  |true =>
   simp only [cX,hx] at h;cases h;by_cases hc:(cw==cw&&env.scope.kind == .function&&env.kindOf n==some .cell)=true
   ·rw [if_pos hc];right;simp [cX,hx]
   ·rw [if_neg hc];left;simp [cX,hx]
  |false =>
   simp only [cX,hx] at h;by_cases hc:(k==cw&&env.scope.kind == .function&&env.kindOf n==some .cell)=true
   ·rw [if_pos hc];simp only [cX,hx];exact ih h
   ·rw [if_neg hc];simp only [cX,hx];exact ih h
theorem v8 {env:Env}{x:Str}{names:List (Str×lG)} :
  ((names.map fun (n,k)=>if (k==cw&&env.scope.kind == .function&&env.kindOf n==some .cell) then (n,dZ) else (n,k)).lookup x=some .free \/
  (names.map fun (n,k)=>if (k==cw&&env.scope.kind == .function&&env.kindOf n==some .cell) then (n,dZ) else (n,k)).lookup x=some .cell) ->
  (x,cw)∈names\/(x,dZ)∈names:=by
 induction names with
 |nil=>intro h;simp at h
 |cons nk r ih =>
  obtain ⟨n,k⟩:=nk;intro h;have h:yB x ((if (k==cw&&env.scope.kind == .function&&env.kindOf n==some .cell)=true then (n,dZ) else (n,k))::_)=_ \/
   yB x ((if (k==cw&&env.scope.kind == .function&&env.kindOf n==some .cell)=true then (n,dZ) else (n,k))::_)=_:=h
  cases hx:x==n with
  |true =>
   have e:x=n:=by simpa using hx
   subst e;by_cases hc:(k==cw&&env.scope.kind == .function&&env.kindOf x==some .cell)=true
   ·have:k=.free:=by simp at hc;exact hc.1.1
    subst this;left;exact ak
   ·rw [if_neg hc] at h;simp only [cX,hx] at h;rcases h with h|h
    ·cases h;left;exact ak
    ·cases h;right;exact ak
  |false =>
   have h':=ih (by
    by_cases hc:(k==cw&&env.scope.kind == .function&&env.kindOf n==some .cell)=true
    ·rw [if_pos hc] at h;simp only [cX,hx] at h;exact h
    ·rw [if_neg hc] at h;simp only [cX,hx] at h;exact h)
   rcases h' with h' | h'
   ·left;exact ai _ h'
   ·right;exact ai _ h'
inductive Sv (nt:Nat) (ix:List Nat) (g:TG) (tt:TT) (te:TE) (σ:St) (Q:VK) (J:It) (H1:Hp):Prop
 |mk (W:Nat->Nat->List V->Hp->Prop) (w0:∃ m,W 0 m [] H1) (turn:∀ i m acc H,W i m acc H ->
 (J.stop i H/\∀ p,H p=none->Q (.ref p) (upd H p (.lst acc))) \/
 (J.go i H/\acc.length<sizeLine/\∀ x H',J.yld i H x H'->g x (jS nt ix σ) H' fun σ2 H2=>tt σ2 H2 fun b H3 =>
  if b=true then te σ2 H3 fun y H4=>∃ m',m'<m/\W (i+1) m' (acc++[y]) H4 else ∃ m',m'<m/\W (i+1) m' acc H3)):Sv nt ix g tt te σ Q J H1
def MM (nt:Nat) (ix:List Nat) (wi:TI) (g:TG) (tt:TT) (te:TE):TE:=fun σ H Q=>wi σ H (Sv nt ix g tt te σ Q)
theorem jn:∀ (names:List (Str×lG)) (n:Nat) (acc:List (Str×am)),bg n names acc=bg n names []++acc
 |[],_,_=>rfl
 |(y,k)::r,n,acc=>by
  unfold bg;split
  ·rw [jn r (n+1) ((y,n)::acc),jn r (n+1) [(y,n)],gR];rfl
  ·exact jn r n acc
theorem o0  : ∀ (names:List (Str×lG)) (n:Nat) (acc:List (Str×am)),(x,c)∈bg n names acc->(x,dZ)∈names\/(x,c)∈acc
 |[],_,_,h=>.inr h
 |(y,k)::r,n,acc,h=>by
  unfold bg at h;split at h
  ·rename_i hk
   have hk:k=.cell:=by simpa using hk
   rcases o0 r _ _ h with z|z
   ·exact .inl (ai _ z)
   ·rcases List.mem_cons.mp z with z|z
    ·cases z;subst hk;exact .inl ak
    ·exact .inr z
  ·exact (o0 r _ _ h).imp (ai _) id
theorem lv     (h:(bg n names cl).lookup x=some c) :
  (x,c)∈bg n names []\/((bg n names []).lookup x=none/\cl.lookup x=some c):=by
 rw [jn,LO] at h;cases e:(bg n names []).lookup x with
 |some d=>rw [e] at h;cases h;exact .inl (dA e)
 |none=>rw [e] at h;exact .inr ⟨rfl,h⟩
theorem IF {M:Model}{A:cy}{E:af->al->Prop}{s:al}{scope:ij}{globals:am}{cl:List (Str×am)}{qual:Str}{func:Option am}{code:af}{outer:Env}{builtins:am}{Q:Env->al->Prop}
  (hQ:∀ h₁,h₁=pushCells (s.heap.push { cls:=.type "dict",data:=.dict #[] }) scope.names->Q (newEnv scope s.heap.objs.size globals (bg (s.heap.objs.size+1) scope.names cl) qual func code (some outer) builtins) { s with heap:=h₁ }) :
  au M A (wa scope globals cl [] qual func code (some outer) builtins) Q E s:=by
 simp only [wa,Io,if_true];refine a7 (Q3 ?_);refine a7 (wpAny_layCells _ (fun name kind cells=>by cases hkc:kind==dZ<;>simp [hkc]) _ _ _ _ ?_);rw [show ({ s with heap:=s.heap.push { cls:=.type "dict",data:=.dict #[] } }:al).heap.objs.size=s.heap.objs.size+1 from cg ..];refine a7 ?_;rw [nj];exact a9 (a9 (hQ _ rfl))
theorem Bw (h:bT) (names:List (Str×lG)):CellsOk (pushCells (h.push { cls:=.type "dict",data:=.dict #[] }) names) (h.objs.size+1) (bg (h.objs.size+1) names []):=by
 have ok:=cellsFrom_ok names (h.push { cls:=.type "dict",data:=.dict #[] }) (h.objs.size+1) [] ⟨fun _ _ hm=>(nomatch hm),qU⟩ (by rw [cg];exact aq _);rw [cg] at ok;exact ok
section
theorem Eh {scope:ij}{N':List Str}{nt:Nat}{ix:List Nat}{cl:List (Str×am)}{C:am}{fp:List am}{h₁:bT}{t':Nat}{m:Str->Option af}
  (S:n_ X scope N' nt ix) (I:bP X pins σ H s) (c1:∀ x c,cl.lookup x=some c->X.env.cells.lookup x=some c) (c2:∀ y∈scope.names,y.2=.free->∃ c,cl.lookup y.1=some c)
  (hf:∀ b∈fp,rc X pins H b) (ff:∀ b∈fp,b<s.heap.objs.size) (hC:s.heap.objs.size<=C) (hns:h₁.Ns C m) (old:∀ b o,s.heap.get? b=some o->h₁.get? b=some o) (ok:CellsOk h₁ (C+1) (bg (C+1) scope.names [])) :
  bP (cW X N' scope (bg (C+1) scope.names cl) C s H fp (X.pn++pins)) [] (jS nt ix σ) H { s with heap:=h₁,toks:=t' }:=by
 have cellOld:∀ {c v},s.heap.IsCell c v->h₁.IsCell c v:=fun {c v} ⟨o,ho,hd⟩=>⟨o,old _ _ ho,hd⟩;have up:∀ {x c},(x,c)∈bg (C+1) scope.names []->s.heap.objs.size<c:=fun {x c} h=>aE (kE hC) (ok.empty x c h).2;have low:∀ {x c},cl.lookup x=some c->c<s.heap.objs.size:=fun {x c} h=>by
  obtain ⟨v,q⟩:=I.cell x c (c1 x c h);exact q.lt
 refine ⟨⟨I.ok.mod,S.kind,I.ok.glob,I.ok.blt,hC,fun x y c h1 h2=>?_,fun x hx=>?_,fun x c h h2=>?_,I.ok.hd,I.ok.frames,.inl rfl,fun b hb=>⟨?_,fun x c h=>?_⟩,I.bs,ck I.ok.bsz I.sz,fun b o h hb=>?_,fun b hb z=>?_,I.stack,I.stkFree⟩,
  rfl,I.bare,Un.kept old,⟨m,hns,fun i x v h1 h2 h3=>?_⟩,fun x c h=>?_,I.hok.fresh hC,fun x c h=>?_,fun p hp=>?_,I.hok.kept old,?_⟩
 ·rcases lv h1 with a|⟨_,a⟩<;>rcases lv h2 with b|⟨_,b⟩
  ·exact name_of_addr ok.apart a b
  ·exact absurd (up a) (xH (low b))
  ·exact absurd (up b) (xH (low a))
  ·exact I.ok.inj x y c (c1 x c a) (c1 y c b)
 ·have hx':(x,cw)∈scope.names\/(x,dZ)∈scope.names:=v8 (env:=X.env) (hx.elim .inr .inl);have hs:((bg (C+1) scope.names cl).lookup x).isSome=true:=by
   rcases hx' with z|z
   ·obtain ⟨c,e⟩:=c2 _ z rfl;exact i6 _ _ _ (.inr (by rw [e];rfl))
   ·exact i6 _ _ _ (.inl (S.cel _ z rfl))
  exact Option.isSome_iff_exists.mp hs
 ·rcases lv h2 with a|⟨a,_⟩
  ·exact cm (up a)
  ·have:=i6 (x:=x) scope.names (C+1) [] (.inl (by simpa [cW] using h));rw [a] at this;cases this
 ·exact aH (aE (ff b hb) hC)
 ·rcases lv h with a|⟨_,a⟩
  ·exact fc (fe (ff b hb) (up a))
  ·exact (hf b hb).f4 x c (c1 x c a)
 ·rcases (hf b hb).f3 with z|z
  ·exact I.ok.noex b o h z
  ·exact absurd (aE (ar h) (ck I.ok.bsz z)) (bN _)
 ·rcases List.mem_cons.mp (I.stkSub b z) with e|e
  ·exact (hf b hb).f1 e
  ·exact (hf b hb).f2 e
 ·have hnt:nt<=i:=by
   refine Q2 fun hlt=>?_;have h2':(jS nt ix σ)[i]?=some (some v):=h2;unfold jS at h2';rw [bO (by simpa using hlt),cn,if_pos hlt] at h2';cases h2'
  have h2':(jS nt ix σ)[i]?=some (some v):=h2;unfold jS at h2';rw [ba (by simpa using hnt),c_,aU] at h2';cases e:ix[i-nt]? with
  |none=>rw [e] at h2';cases h2'
  |some j =>
   rw [e] at h2';have hj:σ[j]?=some (some v):=by
    have q:(σ[j]?).join=some v:=bQ h2';cases e3:σ[j]? with
    |none=>rw [e3] at q;cases q
    |some o=>rw [e3] at q;cases o with
     |none=>cases q
     |some v'=>cases q;rfl
   obtain ⟨x',n1,n2,fr⟩:=S.cap _ _ e;rw [Nat.add_sub_cancel' hnt] at n2;have h1':N'[i]?=some x:=h1;rw [h1'] at n2;cases n2;obtain ⟨mm,hn,hl⟩:=I.loc;have hfree:=S.free (x,.free) (dA fr) rfl;obtain ⟨u,r,l⟩:=hl j x v n1 hj (hfree.elim (fun z=>.inr (.inl z)) fun z=>.inr (.inr z));refine ⟨u,r,?_⟩;rcases l with ⟨k,_⟩|⟨k,c,hc,hcell⟩
   ·have k:X.env.scope.names.lookup x=some .local:=k;rcases hfree with z|z<;>(rw [z] at k;cases k)
   ·obtain ⟨c',hc'⟩:=c2 _ (dA fr) rfl;have:=c1 x c' hc';rw [hc] at this;cases this;have hno:(bg (C+1) scope.names []).lookup x=none:=by
     cases e:(bg (C+1) scope.names []).lookup x with
     |none=>rfl
     |some d =>
      rcases o0 _ _ _ (dA e) with z|z
      ·have q:=S.cel _ z rfl;rw [fr] at q;cases q
      ·cases z
    refine .inr ⟨?_,c,by show (bg (C+1) scope.names cl).lookup x=some c;rw [jn,LO,hno];exact hc',cellOld hcell⟩;rcases tj (env:=X.env) fr with z|z
    ·exact .inr z
    ·exact .inl z
 ·rcases lv h with a|⟨_,a⟩
  ·exact ⟨none,(ok.empty x c a).1⟩
  ·obtain ⟨v,q⟩:=I.cell x c (c1 x c a);exact ⟨v,cellOld q⟩
 ·rcases lv h with a|⟨_,a⟩
  ·exact I.hok.fresh (cm (up a))
  ·exact I.freeC x c (c1 x c a)
 ·have hp:p∈X.pn++pins:=(List.mem_append.mp hp).elim id fun z=>absurd z (by simp);obtain ⟨e,n,ne,nf,d⟩:=I.pin p hp;refine ⟨old _ _ e,n,aH (aE (ar e) hC),fun z=>?_,d⟩;rcases List.mem_cons.mp (I.stkSub p.1 z) with e|e
  ·exact ne e
  ·exact nf e
 ·show (jS nt ix σ).length=N'.length;rw [S.len];simp [jS]
end
end
section
theorem Un.grow   (u:Un fs ex H H1 h h1)  (sb:bG C h1 h2) (hC:h.objs.size<=C) (hD:h.objs.size<=D) (hn:H1 D=none):Un fs ex H (upd H1 D o) h h2 where
 keep:=fun b ob q n hb hx=>(sb.2 b (aH (aE (ar q) hC))).trans (u.keep b ob q n hb hx)
 slot:=fun b ob q n hb hx=>by
  obtain ⟨sl,e⟩:=u.slot b ob q n hb hx;exact ⟨sl,(sb.2 b (aH (aE (ar q) hC))).trans e⟩
 free:=fun b ob q n hx=>by rw [bd (aH (aE (ar q) hD))];exact u.free b ob q n hx
 there:=fun b ob q hx=>by
  obtain ⟨o',e⟩:=u.there b ob q hx;exact ⟨o',(sb.2 b (aH (aE (ar q) hC))).trans e⟩
 tups:=fun b xs q=>by have z:=u.tups b xs q;rw [bd (bU z hn)];exact z
 frzs:=fun b ob xs q=>by have z:=u.frzs b ob xs q;rw [bd (bU z hn)];exact z
 tbls:=fun b ps q=>by
  obtain ⟨m,z⟩:=u.tbls b ps q;exact ⟨m,by rw [bd (bU z hn)];exact z⟩
theorem Ei     (k:qP P w H h) (hC:H C=none) (sb:bG C h h'):qP P w H h':=fun b ob e=>by
 refine (k b ob e).stay (fun c w' hc q=>(sb.2 c ?_).trans q) (fun _ q=>q) fun _ _ q=>q;rintro rfl;rcases hc with rfl|hc
 ·rw [hC] at e;cases e
 ·rw [hC] at hc;cases hc
theorem wu      (k:qP P w H h) (hD:H D=none) (new:dz P w (upd H D o) h D o):qP P w (upd H D o) h:=fun b ob e=>by
 by_cases hb:b=D
 ·subst hb;rw [b9] at e;cases e;exact new
 ·rw [bd hb] at e;exact (k b ob e).stay (fun c w' hc q=>q) (fun c q=>by rw [bd (bU q hD)];exact q) fun c x q=>by rw [bd (bU q hD)];exact q
theorem nf {M:Model}{A:cy}{α:Type}{t:Sem α}{Q:α->al->Prop}{E':af->al->Prop}{s:al} (h:au M A t Q (fun _ _=>False) s):au M A t Q E' s :=
 bA h (fun _ _ q=>q) fun _ _ f=>f.elim
theorem bP.pin1      (I:bP X [] σ H s) (e:s.heap.get? D=some o) (n:H D=none) (ne:D≠X.env.locals) (nf:D∉X.fs) (d:∀ v,o.data≠.cell v):bP X [(D,o)] σ H s :=
 I.pins_of fun p hp=>by
  have:p=(D,o):=by simpa using hp
  subst this;exact ⟨e,n,ne,nf,d⟩
def Sw (nt:Nat) (g:TG):Prop:=∀ x σ0 H (Q:St->Hp->Prop),g x σ0 H Q->g x σ0 H (fun σ2 H2=>Q σ2 H2/\σ2.length=σ0.length/\∀ j,nt<=j->σ2[j]?=σ0[j]?)
theorem MN (h:i<nt):Sw nt (xk i):=fun x σ0 H Q q=>⟨q,by simp,fun j hj=>aj (by omega)⟩
theorem QP {nt i k n:Nat}{K:a8} (h:i<nt) (h':k<nt):Sw nt (TX K n (ae (xk i) (ae (xk k) aI))):=by
 rintro x σ0 H Q ⟨a,xs,rfl,sq,hl,v,r,rfl,v',r',rfl,rfl,q⟩;exact ⟨a,_,rfl,sq,hl,v,_,rfl,v',_,rfl,rfl,q,by simp,fun j hj=>by rw [aj (by omega),aj (by omega)]⟩
inductive YT (X:Cx) (pins:List (am×Obj)) (N':List Str) (scope:ij) (cl:List (Str×am)) (C:am) (s2:al) (H2:Hp) (fp:List am) (nt:Nat) (ix:List Nat) (σ:St) (tn:Nat->bT->Prop) (W:Nat->Nat->List V->Hp->Prop) (n:Nat) (s':al):Prop
 |mk (i:Nat) (acc:List V) (its:List af) (nn:Nat) (H':Hp) (I:bP (cW X N' scope cl C s2 H2 fp (X.pn++pins)) [(s2.heap.objs.size,{ cls:=.type "list",data:=.seq its.toArray nn })] (jS nt ix σ) H' s') (v:dC acc its) (l:acc.length<=sizeLine) (t:tn i s'.heap) (f:∀ b∈fp,H' b=none) (w:W i n acc H'):YT X pins N' scope cl C s2 H2 fp nt ix σ tn W n s'
theorem yL {X:Cx}{elt tg iter:bY}{ifs:List bY}{scope:ij}{pos:Pos}{g:TG}{tt:TT}{te:TE}{N':List Str}{nt:Nat}{ix:List Nat}
  (hc:X.calm=true) (S:n_ X scope N' nt ix) (lo:Sw nt g)
  (hb:∀ cl C s₀ H₀ ex pn,PG (cW X N' scope cl C s₀ H₀ ex pn) tg g/\PU (cW X N' scope cl C s₀ H₀ ex pn) ifs tt/\PE (cW X N' scope cl C s₀ H₀ ex pn) elt te)
  {cl:List (Str×am)} (c1:∀ x c,cl.lookup x=some c->X.env.cells.lookup x=some c) (c2:∀ y∈scope.names,y.2=.free->∃ c,cl.lookup y.1=some c)
  {pins:List (am×Obj)}{σ:St}{H2:Hp}{s2:al}{it:am}{fp:List am}{tn:Nat->bT->Prop}{J:It}{Q:VK}{E:af->al->Prop}
  (I2:bP X pins σ H2 s2) (T:AI X.prog X.w X.K tg J fp it tn) (st2:tn 0 s2.heap) (f2:∀ b∈fp,rc X pins H2 b)
  {W:Nat->Nat->List V->Hp->Prop} (w0:∃ m,W 0 m [] H2)
  (turn:∀ i m acc H,W i m acc H->(J.stop i H/\∀ p,H p=none->Q (.ref p) (upd H p (.lst acc))) \/
   (J.go i H/\acc.length<sizeLine/\∀ x H',J.yld i H x H'->g x (jS nt ix σ) H' fun σ2 H2=>tt σ2 H2 fun b H3 =>
    if b=true then te σ2 H3 fun y H4=>∃ m',m'<m/\W (i+1) m' (acc++[y]) H4 else ∃ m',m'<m/\W (i+1) m' acc H3))
  {RR:af->am->Result->al->Prop}
  (hRR:∀ D C m s' (acc:List V) H',H' D=none->rc X pins (upd H' D (.lst acc)) C->Q (.ref D) (upd H' D (.lst acc))->s'.heap.Ns C m->(∀ h',bG C s'.heap h'->bP X pins σ (upd H' D (.lst acc)) { s' with heap:=h' })->RR (.ref D) C (.ok .next) s') :
  au (az X.prog X.w) X.A (newList []) (fun acc s₃=>au (az X.prog X.w) X.A (wa scope X.env.globals cl [] X.env.qual none .none (some X.env)) (fun cenv s₄ =>
   jL (az X.prog X.w) X.A (.compStart (.ListComp elt [⟨tg,iter,ifs,0⟩] scope pos) 0 (.ref it) acc { cenv with scope:=relabel scope X.env }) (RR acc cenv.locals) s₄) E s₃) E s2:=by
 refine bH (IF fun h₁ hh₁=>?_);dsimp only at hh₁ ⊢;generalize hG2:s2.heap.push { cls:=.type "list",dict:=none,data:=.seq ([] : List af).toArray }=G2 at hh₁ ⊢;have hC:G2.objs.size=s2.heap.objs.size+1:=by rw [<- hG2,cg]
 have hDC:s2.heap.objs.size≠G2.objs.size:=by rw [hC];exact aH (f_ _)
 have hCle:s2.heap.objs.size<=G2.objs.size:=by rw [hC];exact ko _
 have below:∀ b,b<s2.heap.objs.size->b≠G2.objs.size:=fun b hb=>by rw [hC];exact aH (er hb)
 have kp:∀ b o,G2.get? b=some o->h₁.get? b=some o:=fun b o e=>by rw [hh₁];exact uL _ _ b o (ac _ e)
 have hns₁:h₁.Ns G2.objs.size (fun _=>none):=by rw [hh₁];exact (Heap.Ns.new G2 (.type "dict")).keeps (uL _ _)
 have ok₁:CellsOk h₁ (G2.objs.size+1) (bg (G2.objs.size+1) scope.names []):=by rw [hh₁];exact Bw G2 scope.names
 have cne:∀ x c,(bg (G2.objs.size+1) scope.names cl).lookup x=some c->X.env.cells.lookup x=some c\/s2.heap.objs.size<c:=fun x c e=>by
  rcases lv e with a|⟨_,a⟩
  ·exact .inr (aE (kE hCle) (ok₁.empty x c a).2)
  ·exact .inl (c1 x c a)
 have old:∀ b o,s2.heap.get? b=some o->h₁.get? b=some o:=fun b o e=>kp b o (hG2 ▸ ac _ e);have hacc:h₁.get? s2.heap.objs.size=some { cls:=.type "list",dict:=none,data:=.seq ([] : List af).toArray }:=kp _ _ (hG2 ▸ ax _ rfl);have ff:∀ b∈fp,b<s2.heap.objs.size:=fun b hb=>by
  obtain ⟨o,e,_⟩:=T.obj _ _ st2 b hb;exact ar e
 have I3:bP (cW X N' scope (bg (G2.objs.size+1) scope.names cl) G2.objs.size s2 H2 fp (X.pn++pins)) [] (jS nt ix σ) H2 { s2 with heap:=h₁,toks:=s2.toks }:=Eh S I2 c1 c2 f2 ff hCle hns₁ old ok₁;obtain ⟨pg,pt,pe⟩:=hb (bg (G2.objs.size+1) scope.names cl) G2.objs.size s2 H2 fp (X.pn++pins);have hDfs:s2.heap.objs.size∉yh X.stack:=fun z=>by
  rcases List.mem_cons.mp (I2.stkSub _ z) with e|e
  ·exact absurd I2.lt (by rw [<- e];exact bN _)
  ·exact I2.nofs (aq _) e
 have nod:∀ (its:List af) (n:Nat) v,({ cls:=.type "list",data:=.seq its.toArray n }:Obj).data≠.cell v:=fun _ _ _ z=>nomatch z;have st1:tn 0 h₁:=T.keep _ _ _ st2 fun b _ o e=>old b o e;have hDf:s2.heap.objs.size∉fp:=fun z=>absurd (ff _ z) (bN _);have stat:∀ {H':Hp}{pl:List (am×Obj)},(∀ p∈pl,p.1∉fp)->(∀ b∈fp,H' b=none)->∀ b∈fp,rc (cW X N' scope (bg (G2.objs.size+1) scope.names cl) G2.objs.size s2 H2 fp (X.pn++pins)) pl H' b:=fun hpl hn b hb=>by
  obtain ⟨f0,f1,f2',f3,f4,f5⟩:=f2 b hb;refine ⟨hn b hb,below b (ff b hb),fun z=>?_,.inl hb,fun x c e=>(cne x c e).elim (f4 x c) fun q z=>xH q (by rw [z];exact ff b hb),fun p hp z=>?_⟩
  ·rcases List.mem_cons.mp (I2.stkSub _ z) with e|e
   ·exact f1 e
   ·exact f2' e
  ·rcases List.mem_append.mp hp with q|q
   ·exact f5 p q z
   ·exact hpl p q (z ▸ hb)
 obtain ⟨m0,w0⟩:=w0;have loop:jL (az X.prog X.w) X.A (.compLoop (.ListComp elt [⟨tg,iter,ifs,0⟩] scope pos) 0 (.ref it) (.ref s2.heap.objs.size) (compEnvC scope (bg (G2.objs.size+1) scope.names cl) G2.objs.size X.env))
    (RR (.ref s2.heap.objs.size) G2.objs.size) { s2 with heap:=h₁,toks:=s2.toks }:=by
  refine CG (YT X pins N' scope (bg (G2.objs.size+1) scope.names cl) G2.objs.size s2 H2 fp nt ix σ tn W) ?_ m0
   ⟨0,[],[],0,H2,I3.pin1 hacc (I2.hok.fresh (aq _)) hDC hDfs (nod _ _),.nil,cJ _,st1,fun b hb=>(f2 b hb).1,w0⟩
  rintro n s3 ⟨i,acc,its,nn,H3,J3,rv,hz,st3,fr3,w3⟩;have plD:∀ p∈[(s2.heap.objs.size,({ cls:=.type "list",data:=.seq its.toArray nn }:Obj))],p.1∉fp:=fun p hp=>by
   have:p=(s2.heap.objs.size,({ cls:=.type "list",data:=.seq its.toArray nn }:Obj)):=by simpa using hp
   rw [this];exact hDf
  rcases turn i n acc H3 w3 with ⟨stop,qn⟩|⟨go,hlt,step⟩
  ·refine fR (T.done (cW X N' scope (bg (G2.objs.size+1) scope.names cl) G2.objs.size s2 H2 fp (X.pn++pins)) rfl rfl rfl hc i _ s3 _ H3 _ J3 (stat plD fr3) st3 stop) fun r s4 h_0=>?_;obtain ⟨hr,I4⟩:=h_0;subst hr;obtain ⟨pD,pN,_⟩:=I4.pin (s2.heap.objs.size,_) (aL _ (List.mem_singleton.mpr rfl));obtain ⟨mm,hn,_⟩:=I4.loc;have hCn:H3 G2.objs.size=none:=I4.free;refine hRR _ _ mm s4 acc H3 pN (I2.fpOk hCle (by rw [bd (cY hDC)];exact hCn)) (qn _ pN) hn fun h' sb=>?_;have hu:Un (yh X.stack) fp H2 (upd H3 s2.heap.objs.size (.lst acc)) s2.heap h':=Un.grow I4.base sb hCle (aq _) pN;refine I2.call' (s':={ s4 with heap:=h' }) (ch:=fp) I4.os hu ?_ I4.bare fun b hb=>?_
   ·refine wu (Ei I4.hok hCn sb) pN ⟨hz,its,nn,rv,(sb.2 _ hDC).trans pD⟩
   ·obtain ⟨_,f1,_,f3,f4,f5⟩:=f2 b hb;exact ⟨f3,f1,f4,f5⟩
  ·refine fR (T.item (cW X N' scope (bg (G2.objs.size+1) scope.names cl) G2.objs.size s2 H2 fp (X.pn++pins)) rfl rfl rfl hc i _ s3 _ H3 _ J3 (stat plD fr3) st3 go) fun r s4 h_1=>?_;obtain ⟨u,hr,h4⟩:=h_1;subst hr;refine fR h4 fun _ s5 h_2=>?_;obtain ⟨x,H5,I5,r5,y5,st5,fr5⟩:=h_2;have I5':=I5.pinned (stat plD fr5) (T.obj _ _ st5);refine fR (pg _ s5 _ H5 x u _ I5' r5 (lo _ _ _ _ (step x H5 y5))) fun _ s6 h_3=>?_;obtain ⟨σ6,H6,I6,q6,l6,k6⟩:=h_3;have hw:∀ (j:Nat) v,(jS nt ix σ)[j]?=some (some v)->σ6[j]?=some (some v):=fun j v e=>by
    by_cases hj:nt<=j
    ·rw [k6 j hj];exact e
    ·unfold jS at e;rw [bO (by simpa using hj),cn,if_pos (by omega)] at e;cases e
   refine fR (pt _ s6 σ6 H6 _ I6 q6) fun b s7 h_4=>?_;obtain ⟨H7,I7,q7⟩:=h_4;have fpk:∀ {s8:al}{σ8:St}{H8:Hp},bP (cW X N' scope (bg (G2.objs.size+1) scope.names cl) G2.objs.size s2 H2 fp (X.pn++pins)) ([(s2.heap.objs.size,{ cls:=.type "list",data:=.seq its.toArray nn })]++wp fp s5.heap) σ8 H8 s8 ->
     tn (i+1) s8.heap/\∀ b∈fp,H8 b=none:=fun {s8 σ8 H8} I8=>by
    refine ⟨T.keep _ _ _ st5 fun b hb o e=>(I8.pin (b,o) (aL _ (aL _ (kG hb e)))).1,fun b hb=>?_⟩;obtain ⟨o,e,d⟩:=T.obj _ _ st5 b hb;exact (I8.pin (b,o) (aL _ (aL _ (kG hb e)))).2.1
   cases b with
   |false =>
    simp only [bu,if_false] at q7 ⊢;obtain ⟨m',hm,w7⟩:=q7;obtain ⟨t7,f7⟩:=fpk I7;exact ⟨m',hm,i+1,acc,its,nn,H7,(I7.weak l6.symm hw).unpinned,rv,hz,t7,f7,w7⟩
   |true =>
    simp only [if_true] at q7 ⊢;refine fR (pe _ s7 σ6 H7 _ I7 q7) fun u8 s8 h_5=>?_;obtain ⟨y,H8,I8,r8,m',hm,w8⟩:=h_5;obtain ⟨t8,f8⟩:=fpk I8;obtain ⟨pD,pN,_⟩:=I8.pin (s2.heap.objs.size,_) (aL _ (bV _ (List.mem_singleton.mpr rfl)));have hl:=rv.length;refine wpAny_list_append_plain ⟨nn,pD⟩ (hsz:=by rw [aT];omega) ?_;intro h9 pl9 sb9;obtain ⟨n9,e9⟩:=pl9;have e9':h9.get? s2.heap.objs.size=some { cls:=.type "list",data:=.seq (its++[u8]).toArray n9 }:=by rw [e9];simp
    refine ⟨m',hm,i+1,acc++[y],its++[u8],n9,H8,?_,rv.append (.cons r8 .nil),by rw [aR,dI];omega,T.keep _ _ _ t8 fun b hb o e=>sb9.extBut b o (fun z=>hDf (z ▸ hb)) e,f8,w8⟩;have I8':bP (cW X N' scope (bg (G2.objs.size+1) scope.names cl) G2.objs.size s2 H2 fp (X.pn++pins)) [] (jS nt ix σ) H8 s8:=(I8.weak l6.symm hw).pins_of fun p hp=>absurd hp (by simp);have I9:bP (cW X N' scope (bg (G2.objs.size+1) scope.names cl) G2.objs.size s2 H2 fp (X.pn++pins)) [] (jS nt ix σ) H8 { s8 with heap:=h9,toks:=s8.toks } :=
     I8'.turned (it:=s2.heap.objs.size) (fun b o hb e=>sb9.extBut b o hb e) pN hDC (.inr (aq _)) (fun x c e z=>by
      rcases cne x c e with e|e
      ·obtain ⟨v,q⟩:=I2.cell x c e;exact absurd q.lt (by rw [z];exact bN _)
      ·exact absurd e (by rw [z];exact bN _)) fun p hp z=>by
      have hp:p∈X.pn++pins:=(List.mem_append.mp hp).elim id fun z=>absurd z (by simp);exact absurd (ar (I2.pin p hp).1) (by rw [z];exact bN _)
    exact I9.pin1 e9' pN hDC hDfs (nod _ _)
 exact codeAny_compStart_list loop (T.self _ 0 _ _ _ st1 loop)
end
section
theorem Ej
  (hc:X.calm=true) (S:n_ X scope N' nt ix) (lo:Sw nt g) (hi:PI X tg iter wi)
  (hb:∀ cl C s₀ H₀ ex pn,PG (cW X N' scope cl C s₀ H₀ ex pn) tg g/\PU (cW X N' scope cl C s₀ H₀ ex pn) ifs tt/\PE (cW X N' scope cl C s₀ H₀ ex pn) elt te)
  (hs:∀ x,eF iter X.env x=pure x:=by intro _;rfl):PE X (.ListComp elt [⟨tg,iter,ifs,0⟩] scope pos) (MM nt ix wi g tt te):=by
 intro pins s σ H Q I h;obtain ⟨cl,hcl,c1,c2⟩:=u9 (scope:=scope) (env:=X.env) fun y hy hf=>I.ok.has y.1 (S.free y hy hf);rw [eval_ListComp];refine qV (use:=none) rfl hs hcl S.kind S.loc (fR (hi pins s σ H _ I h) fun v s1 h1=>fR h1 fun itv s2 h2=>?_);obtain ⟨it,fp,tn,J,H2,e,I2,T,st2,f2,W,w0,turn⟩:=h2;subst e;refine yL (RR:=fun acc C=>compPost (az X.prog X.w) X.A X.xe none (EP X pins σ Q) acc C) hc S lo hb c1 c2 I2 T st2 f2 w0 turn ?_;intro D C m s' acc H' hD _ q hn hI;exact ⟨m,hn,fun h' sb=>⟨.ref D,_,hI h' sb,rfl,q⟩⟩
def VW (i:Nat) (te:TE):TS:=fun D σ H=>te σ H fun x H1=>D.nx (σ.set i (some x)) H1
theorem GN
  (hN:X.N.Nodup) (hiN:X.N[i]?=some y) (hy:X.env.scope.names.lookup y=some .local)
  (hc:X.calm=true) (S:n_ X scope N' nt ix) (lo:Sw nt g) (hi:PI X tg iter wi)
  (hb:∀ cl C s₀ H₀ ex pn,PG (cW X N' scope cl C s₀ H₀ ex pn) tg g/\PU (cW X N' scope cl C s₀ H₀ ex pn) ifs tt/\PE (cW X N' scope cl C s₀ H₀ ex pn) elt te)
  (hsw:iq (.ListComp elt [⟨tg,iter,ifs,0⟩] scope pos) (some (.Name y py)) spos.line X.env=pure true:=by rfl)
  (hs:∀ x,eF iter X.env x=pure x:=by intro _;rfl):PS X (.Assign [.Name y py] (.ListComp elt [⟨tg,iter,ifs,0⟩] scope pos) spos) (VW i (MM nt ix wi g tt te)):=by
 intro pins s σ H D I h;obtain ⟨cl,hcl,c1,c2⟩:=u9 (scope:=scope) (env:=X.env) fun y hy hf=>I.ok.has y.1 (S.free y hy hf);rw [exec_Assign_Name_used _ _ _ _ hsw];refine a7 (j9 (a7 ?_));show au _ X.A (do let _ <- comprehension (.ListComp elt [⟨tg,iter,ifs,0⟩] scope pos) scope X.env _ (newList []) false (eD iter X.env) (some (qR (.Name y py) X.env))) _ _ s;refine a7 (bA (qV (use:=some (qR (.Name y py) X.env)) (Q:=fun _ s'=>SP X pins D .next s') rfl hs hcl S.kind S.loc
  (fR (hi pins s σ H _ I h) fun v s1 h1=>fR h1 fun itv s2 h2=>?_)) (fun _ s' hq=>a9 (a9 hq)) fun _ _ e=>e)
 obtain ⟨it,fp,tn,J,H2,e,I2,T,st2,f2,W,w0,turn⟩:=h2;subst e;refine yL (Q:=fun x H1=>D.nx (σ.set i (some x)) H1) (RR:=fun acc C=>compPost (az X.prog X.w) X.A X.xe (some (qR (.Name y py) X.env)) (fun _ s'=>SP X pins D .next s') acc C) hc S lo hb c1 c2 I2 T st2 f2 w0 turn ?_;intro L C m s' acc H' hD fC q hn hI;show au _ X.A (qR (.Name y py) X.env (.ref L)) _ _ _;have I3:bP X pins σ (upd H' L (.lst acc)) s':=hI s'.heap (.refl ..);refine wpAny_assign_Name (Bm I3 hN hiN (.inl hy) (v:=.ref L) rfl (fun s4 I4 ⟨a,sb,ha⟩=>?_) (.inr hy));obtain ⟨g0,g1,g2,g3,g4,g5⟩:=fC;have hCa:C≠a:=by
  rcases ha with z|z
  ·rw [z];exact g1
  ·exact fun e=>g4 y a z e.symm
 refine ⟨m,hn.sameBut sb hCa,fun h5 sb5=>?_⟩;exact ⟨_,_,I4.turned (t':=s4.toks) (fun b o hb e=>(sb5.2 b hb).trans e) g0 g1 g3 g4 g5,q⟩
end
section
def ku (e:Int×af):Str:=match e.2 with
 |.str x _=>x
 |_=>⟨#[]⟩
def ua (w:bL) (e:Int×af):Prop:=∃ x tk,e=(hashStr w x,jU x tk)
structure cZ (w:bL) (h:bT) (a:am) (es:Array (Int×af)) (ep:Nat) (t:lI):Prop where
 at_:h.get? a=some { cls:=.type "set",dict:=none,data:=.set es ep t }
 txt:∀ e∈es.toList,ua w e
 nd:(es.toList.map ku).Nodup
 few:es.size<jf
 fits:t.fits es.size=true
 led:t.led=!w.params.followText "set-order"
 pl:es.size=0\/t.plain=false
inductive lK (w:bL) (h:bT) (a:am) (ss:List Str):Prop
 |mk (es ep t:_) (h0:cZ w h a es ep t) (h1:(es.toList.map ku).Perm ss):lK w h a ss
theorem GO (t:lI) (es:Array (Int×af)) (h:Int) (x:af):(layNew t es h x).2.1.led=t.led:=by
 unfold layNew;cases t.freeSlot h with
 |none=>rfl
 |some p =>
  obtain ⟨slot,d⟩:=p;show ((t.put slot).1.orStandIn _).led=_;unfold G6;split<;>rfl
theorem CH (t:lI) (es:Array (Int×af)) (h:Int) (x:af):t.plain=false->(layNew t es h x).2.1.plain=false:=by
 intro hp;unfold layNew;cases t.freeSlot h with
 |none=>rfl
 |some p =>
  obtain ⟨slot,d⟩:=p;show ((t.put slot).1.orStandIn _).plain=_;unfold G6;split
  ·exact hp
  ·rfl
theorem Ek {t t':lI}{hs:Array Int}{n:Nat}{o:Array Nat} (h:t.relaid hs n=some (t',o)):t'.led=t.led/\t'.plain=t.plain:=by
 unfold K6 Ao at h;cases e:uM (cx n-1) hs with
 |none=>rw [e] at h;cases h
 |some ow =>
  rw [e] at h;have h:=bQ h;have h1:=congrArg Prod.fst h;subst h1;exact ⟨rfl,rfl⟩
theorem Kz (t:lI) (es:Array (Int×af)) (n:Nat):(wc t es n).2.1.led=t.led/\(t.plain=false->(wc t es n).2.1.plain=false):=by
 unfold wc;cases e:t.relaid (es.map (·.1)) n with
 |none=>exact ⟨rfl,fun _=>rfl⟩
 |some p =>
  obtain ⟨t',o⟩:=p;obtain ⟨h1,h2⟩:=Ek e;dsimp only;split
  ·exact ⟨h1,fun h=>h2.trans h⟩
  ·exact ⟨rfl,fun _=>rfl⟩
theorem MO   (h:∀ e∈l,ua w e):ElemsOf (strKind P w) l:=fun e he=>by
 obtain ⟨x,tk,rfl⟩:=h e he;exact ⟨⟨x,by simp [PySem.strKind,uK],rfl⟩,rfl⟩
theorem Xr (P:bq) (w:bL) (x:Str) (tk:Tok):(strKind P w).is x (.str x tk)=true:=by simp [PySem.strKind,uK]
theorem IG   (h:ua w e) (x:Str):(strKind P w).is x e.2=true↔ku e=x:=by
 obtain ⟨y,tk,rfl⟩:=h;constructor
 ·intro q;have:=(strKind P w).inj _ _ _ q (Xr P w y tk);rw [this];rfl
 ·rintro rfl;exact Xr P w _ tk
section
theorem sk     (I:cZ w h a es ep t):(h.update a (qW es' t')).get? a=some { cls:=.type "set",dict:=none,data:=.set es' (ep+1) t' }:=by
 have q:=gm (qW es' t') I.at_ rfl;exact q
theorem Bx     (hS:lK w s.heap a ss) (hr:ss.length+1<jf)
  (h:∀ h' tk',bG a s.heap h'->lK w h' a (if x∈ss then ss else ss++[x])->Q (!decide (x∈ss)) { s with heap:=h',toks:=tk' }) :
  au (az P w) A (setAddHashed a (.str x tk) ((strKind P w).hash x)) Q E s:=by
 obtain ⟨es,ep,t,I,pm⟩:=hS
 have hlen:es.size=ss.length:=by rw [<- pm.length_eq,ao,ap]
 have hel:ElemsOf (strKind P w) es.toList:=MO I.txt
 unfold setAddHashed setAddHashedIn
 refine dw (a7 (bw (s:=s) I.at_ rfl I.fits ?_))
 dsimp only
 rw [byScan_of rfl I.few hel]
 rw [if_pos rfl]
 unfold setAddByScan
 refine a7 (a7 (df (a7 (wpAny_setScan_of (s:=s) (Xr P w x tk) I.at_ rfl I.fits hel ?_))))
 have inmem:x∈ss↔∃ e∈es.toList,(strKind P w).is x e.2=true:=by
  rw [<- pm.mem_iff,gS]
  constructor
  ·rintro ⟨e,he,q⟩;exact ⟨e,he,(IG (I.txt e he) x).mpr q⟩
  ·rintro ⟨e,he,q⟩;exact ⟨e,he,(IG (I.txt e he) x).mp q⟩
 cases hf:List.findIdx? (fun e=>(strKind P w).is x e.2) es.toList with
 |some j =>
  obtain ⟨hj,hp,_⟩:=List.findIdx?_eq_some_iff_getElem.mp hf
  have hin:x∈ss:=inmem.mpr ⟨_,jj hj,hp⟩
  have q:=h s.heap s.toks (.refl ..) (by rw [if_pos hin];exact ⟨es,ep,t,I,pm⟩)
  rw [decide_eq_true hin] at q
  exact a9 (a9 q)
 |none =>
  have hout:x∉ss:=fun z=>by
   obtain ⟨e,he,q⟩:=inmem.mp z
   rw [List.findIdx?_eq_none_iff.mp hf e he] at q
   cases q
  have h:=fun h' tk' sb=>h h' tk' sb
  rw [decide_eq_false hout,if_neg hout] at h
  have p1:=layNew_perm t es ((strKind P w).hash x) (.str x tk)
  have f1:=layNew_fits t es ((strKind P w).hash x) (.str x tk)
  have l1:=GO t es ((strKind P w).hash x) (.str x tk)
  have q1:=CH t es ((strKind P w).hash x) (.str x tk)
  generalize layNew t es ((strKind P w).hash x) (.str x tk)=L at p1 f1 l1 q1 ⊢
  obtain ⟨es1,t1,wd,gv⟩:=L
  dsimp only at p1 f1 l1 q1 ⊢
  rw [iF] at p1
  have tx1:∀ e∈es1.toList,ua w e:=fun e he=>by
   rcases List.mem_append.mp (p1.mem_iff.mp he) with z|z
   ·exact I.txt e z
   ·rw [c6] at z;exact ⟨x,tk,z⟩
  have km:(es1.toList.map ku).Perm (ss++[x]):=(p1.map ku).trans (by rw [c7];exact pm.append_right _)
  have nd1:(ss++[x]).Nodup:=by
   rw [M3]
   exact ⟨pm.nodup_iff.mp I.nd,by simp,fun y hy z hz e=>hout (by rw [c6] at hz;rw [<- hz,<- e];exact hy)⟩
  have sz1:es1.size=es.size+1:=by rw [<- ap,p1.length_eq,aR,ap];rfl
  have few1:es1.size<jf:=by omega
  have gw:∀ (b:Bool) {s₁:al}{Q':Unit->al->Prop},Q' () s₁->au (az P w) A (match b with|true=>rule "set.scan.the-table-gave-way" | false=>pure ()) Q' E s₁ :=
   fun b _ _ z=>by cases b<;>first|exact a9 z|exact df z
  have tail:∀ t2:lI,t2.fits es1.size=true->t2.led=t.led->t2.plain=false->au (az P w) A (do
    storeSet a es1 t2
    if (!wd&&t2.tooFull)=true then do
      (match (wc t2 es1 (iG es1.size)).2.2 with|true=>rule "set.scan.the-table-gave-way" | false=>pure ())
      storeSet a (wc t2 es1 (iG es1.size)).1 (wc t2 es1 (iG es1.size)).2.1
      pure (some true)
     else pure (some true)) (fun r s'=>r=some true/\Q true s') E s:=fun t2 f2 l2 n2=>by
   refine a7 (jk (s:=s) I.at_ rfl ?_ (fP few1))
   have at1:=sk (es':=es1) (t':=t2) I
   have sb1:=bE s.heap a (qW es1 t2)
   have I1:cZ w (s.heap.update a (qW es1 t2)) a es1 (ep+1) t2:=⟨at1,tx1,km.nodup_iff.mpr nd1,few1,f2,l2.trans I.led,.inr n2⟩
   split
   ·have p2:=relayAll_perm t2 es1 (iG es1.size)
    have f3:=relayAll_fits t2 es1 (iG es1.size)
    have l3:=Kz t2 es1 (iG es1.size)
    generalize wc t2 es1 (iG es1.size)=R3 at p2 f3 l3 ⊢
    obtain ⟨es2,t3,gv2⟩:=R3
    dsimp only at p2 f3 l3 ⊢
    have few2:es2.size<jf:=by rw [<- ap,p2.length_eq,ap];exact few1
    have km2:=(p2.map ku).trans km
    refine a7 (gw _ (a7 (jk (s:={ s with heap:=s.heap.update a (qW es1 t2) }) I1.at_ rfl ?_ (fP few2))))
    refine a9 ⟨rfl,h _ _ (sb1.trans (bE _ a _)) ⟨es2,ep+1+1,t3,⟨sk I1,fun e he=>tx1 e (p2.mem_iff.mp he),km2.nodup_iff.mpr nd1,few2,f3,l3.1.trans (l2.trans I.led),.inr (l3.2 n2)⟩,km2⟩⟩
   ·exact a9 ⟨rfl,h _ _ sb1 ⟨es1,ep+1,t2,I1,km⟩⟩
  refine a7 (gw gv ?_)
  cases hp:t1.plain with
  |true =>
   simp only [if_true]
   rw [hashByValue_scannable 8 (x:=.str x tk) rfl]
   refine a7 (a9 ?_)
   refine bA (tail { t1 with plain:=false } (by cases t1;exact f1) l1 rfl) (fun r s' z=>?_) fun _ _ z=>z
   obtain ⟨rfl,z⟩:=z
   exact a9 z
  |false =>
   simp only [bu,if_false]
   refine a7 (a9 ?_)
   refine bA (tail t1 f1 l1 hp) (fun r s' z=>?_) fun _ _ z=>z
   obtain ⟨rfl,z⟩:=z
   exact a9 z
theorem El     (hS:lK w s.heap a ss) (hr:ss.length+1<jf)
  (h:∀ h' tk',bG a s.heap h'->lK w h' a (if x∈ss then ss else ss++[x])->Q (!decide (x∈ss)) { s with heap:=h',toks:=tk' }) :
  au (az P w) A (setAdd a (.str x tk)) Q E s:=by
 unfold setAdd;refine dw (a7 ((strKind P w).pyHash (k:=x) (Xr P w x tk) ?_));exact Bx (s:={ s with toks:=s.toks+1 }) hS hr h
end
end
section
abbrev fD (w:bL):Obj:={ cls:=.type "set",dict:=none,data:=.set #[] 0 (.fresh 0 0 (!w.params.followText "set-order")) }
theorem By (w:bL)  (e:h.get? a=some (fD w)):lK w h a [] :=
 ⟨#[],0,_,⟨e,fun e he=>by simp at he,by simp,by decide,rfl,rfl,.inl rfl⟩,by simp⟩
def dn:List Str->List Str->List Str
 |acc,[]=>acc
 |acc,x::r=>dn (if x∈acc then acc else acc++[x]) r
theorem iZ:∀ (l acc:List Str) (x:Str),x∈dn acc l↔x∈acc\/x∈l
 |[],acc,x=>by simp [dn]
 |y::r,acc,x=>by
  rw [dn,iZ r];by_cases h:y∈acc
  ·rw [if_pos h];simp only [aZ];constructor
   ·exact fun z=>z.elim .inl fun z=>.inr (.inr z)
   ·rintro (z|z|z)
    ·exact .inl z
    ·exact .inl (z ▸ h)
    ·exact .inr z
  ·rw [if_neg h];simp [fw,or_assoc]
theorem iQ:∀ (l acc:List Str),acc.Nodup->(dn acc l).Nodup
 |[],acc,h=>h
 |y::r,acc,h=>by
  rw [dn];refine iQ r _ ?_;by_cases hy:y∈acc
  ·rw [if_pos hy];exact h
  ·rw [if_neg hy,M3];exact ⟨h,by simp,fun a ha b hb e=>hy (by rw [c6] at hb;rw [<- hb,<- e];exact ha)⟩
theorem gF:∀ (l acc:List Str),(dn acc l).length<=acc.length+l.length
 |[],acc=>by simp [dn]
 |y::r,acc=>by
  rw [dn];have:=gF r (if y∈acc then acc else acc++[y]);by_cases hy:y∈acc
  ·rw [if_pos hy] at this ⊢;simp only [aP];omega
  ·rw [if_neg hy] at this ⊢;simp only [aP,aR,dI,bJ] at this ⊢;omega
section
theorem lK.keep   (x:lK w h a ss) (k:∀ o,h.get? a=some o->h'.get? a=some o):lK w h' a ss :=
 let ⟨es,ep,t,I,p⟩:=x;⟨es,ep,t,⟨k _ I.at_,I.txt,I.nd,I.few,I.fits,I.led,I.pl⟩,p⟩
theorem AM {I:am}{fp wr:List am}{n:Nat}{Pv:Nat->af->Prop}{St:Nat->bT->Prop} (W:Q4 prog w A.in1 I fp wr n Pv St) (D:am) (hD:D∉fp) (xs:List Str) (hx:xs.length=n)
  (hv:∀ i v,Pv i v->∃ x t,xs[i]?=some x/\v=.str x t) (hb:n+1<jf) :
  ∀ (k i:Nat) (s:al) (acc:List Str),n-i=k->i<=n->acc.length<=i->St i s.heap->lK w s.heap D acc ->
   (∀ h' tk,(∀ b o,b∉D::wr->s.heap.get? b=some o->h'.get? b=some o)->lK w h' D (dn acc (xs.drop i))->R (.ok (.ret .none)) { s with heap:=h',toks:=tk }) ->
   jL (az prog w) A (.builtin "set.update.loop" ⟨[.ref D,.ref I],[]⟩) R s:=by
 have hDw:D∉wr:=fun z=>hD (W.sub _ z);intro k;induction k with
 |zero =>
  intro i s acc hk hi hl st hS hR;obtain rfl:i=n:=by omega
  refine hZ pp ?_;rw [f9 iA _];show au _ A.in1 (lF (.ref I) >>= _) _ _ s;refine a7 (W.done s _ _ st fun h' tk kp=>?_);refine a9 (hR h' tk (fun b o hb e=>kp b o (fun z=>hb (ai _ z)) e) ?_);rw [List.drop_of_length_le (by omega)];exact hS.keep fun o e=>kp D o hDw e
 |succ k ih =>
  intro i s acc hk hi hl st hS hR;have hlt:i<n:=by omega
  refine hZ pp ?_;rw [f9 iA _];show au _ A.in1 (lF (.ref I) >>= _) _ _ s;refine a7 (W.item i s _ _ hlt st fun v h' tk hP st' kp=>?_);obtain ⟨x,t,hxi,rfl⟩:=hv i v hP;have hS':lK w h' D acc:=hS.keep fun o e=>kp D o hDw e;refine a7 (dw (El (s:={ s with heap:=h',toks:=tk }) hS' (by omega) fun h2 tk2 sb hS2=>?_));refine a9 ⟨qX iA _,ih (i+1) _ (if x∈acc then acc else acc++[x]) (by omega) hlt ?_ (W.frame _ _ _ st' fun b hb o e=>?_) hS2 fun h3 tk3 k3 hS3=>?_⟩
  ·by_cases z:x∈acc
   ·rw [if_pos z];omega
   ·rw [if_neg z,aR,dI];omega
  ·rw [sb.2 b fun z=>hD (z ▸ hb)];exact e
  ·refine hR h3 tk3 (fun b o hb e=>k3 b o hb ?_) ?_
   ·rw [sb.2 b fun z=>hb (by rw [z];exact ak)];exact kp b o (fun z=>hb (ai _ z)) e
   ·have hd:xs.drop i=x::xs.drop (i+1):=by
     obtain ⟨h1,h2⟩:=List.getElem?_eq_some_iff.mp hxi;rw [Cj h1,h2]
    rw [hd,dn];exact hS3
theorem MP (a:af) (h:Q₁ (.ref s.heap.objs.size) { s with heap:=s.heap.push (fD w) }) :
  jL (az prog w) A (.call (.builtin "set.__new__") ⟨[.type "set",a],[]⟩) (wants Q₁ E) s:=by
 refine DX ?_;show au _ A.in1 (do checkBuiltinCall "set.__new__" ⟨[.type "set",a],[]⟩;P_ (.builtin "set.__new__" ⟨[.type "set",a],[]⟩)) _ _ s;refine a7 (fA (F.newCall_set_1 a) (a9 ⟨qX F.plain_set_new _,hZ F.entry_set_new ?_⟩));rw [f9 F.plain_set_new _];unfold jN.«set.__new__» Q5;have hsub:=M4;obtain ⟨hp,g,d,tk,os⟩:=s;dsimp only;wp_walk;refine ir (a9 ?_);dsimp only;simp only [newObj];refine a7 (Q3 (a9 ?_));exact a9 h
structure Ul (prog:bq) (w:bL) (A:cy) (T:String) (l:am) (o:Obj) (items:Array af):Prop where
 ty:o.cls=.type T
 s1:isSubtype (.type T) (.type "set")=pure false
 s2:isSubtype (.type T) (.type "frozenset")=pure false
 nd:(iW T==iW "dict")=false
 iter:∀ (s:al) (Q:af->al->Prop) (E:af->al->Prop),s.heap.get? l=some o ->
  (∀ ob St,Q4 prog w A.in1 s.heap.objs.size [s.heap.objs.size,l] [s.heap.objs.size] items.size (fun i v=>items[i]?=some v) St->St 0 (s.heap.push ob)->Q (.ref s.heap.objs.size) { s with heap:=s.heap.push ob })->au (az prog w) A (yz (.ref l)) Q E s
theorem v9 {T:String}{l:am}{ol:Obj}{items:Array af}{xs:List Str}{Q:af->al->Prop}
  (src:Ul prog w A.in1.in1 T l ol items) (hol:s.heap.get? l=some ol) (hi:∀ (i:Nat) (v:af),items[i]?=some v->∃ x t,xs[i]?=some x/\v=jU x t) (hx:xs.length=items.size) (hb:items.size+1<jf)
  (h:∀ (h':bT) (tk:Nat),lK w h' s.heap.objs.size (dn [] xs)->(∀ b o,s.heap.get? b=some o->h'.get? b=some o)->Q (.ref s.heap.objs.size) { s with heap:=h',toks:=tk }) :
  au (az prog w) A (call (.type "set") [.ref l]) Q E s:=by
 obtain ⟨c,tl,hmro⟩:=F.called_set.mro;have hmade:=F.called_set.made;have hsub:=F.called_set.sub;refine wpAny_call (DX ?_);show au _ _ (callAny (.type "set") _) _ _ _;refine a9 ⟨Code.quiet_builtin _ (by decide +kernel),hZ F.entry_type_call ?_⟩;rw [Around.under_plain (weight_type_call_type "set" [.ref l] []) rfl];have h1:=F.called_set.notType;have h2:=F.called_set.canCreate;have hct:=F.typeCall_set_1 (.ref l);repeat (any_goals (first|assumption|wp_step))
 refine tZ (MP (.ref l) (E:=E) (Q₁:=fun obj s₁=>obj=.ref s.heap.objs.size/\s₁={ s with heap:=s.heap.push (fD w) }) ⟨rfl,rfl⟩) fun r s₁ hr=>?_;cases r with
 |error e=>exact hr
 |ok fl =>
  cases fl with
  |ret obj =>
   obtain ⟨rfl,rfl⟩:=hr;have hS:(s.heap.push (fD w)).get? s.heap.objs.size=some (fD w):=ax _ rfl;have hT:Q6 { s with heap:=s.heap.push (fD w) } (.ref s.heap.objs.size) "set":=⟨_,hS,rfl⟩;have hli:=F.called_set.init.lookup;have hbi:=F.called_set.init.bind (.ref s.heap.objs.size);repeat (any_goals (first|assumption|wp_step))
   refine tZ (codeAny_call_builtin (R:=wants (fun r s₂=>r=.none/\∃ h' tk,s₂={ s with heap:=h',toks:=tk }/\lK w h' s.heap.objs.size (dn [] xs) /\
     (∀ b o,s.heap.get? b=some o->h'.get? b=some o)) E) F.called_set.init.plain F.entry_set_init (check_set_init_1 hT ?_)) fun r₂ s₂ hr₂=>?_
   ·obtain ⟨oc,od,odt,os'⟩:=ol;obtain ⟨ty,s1,s2,nd,iter⟩:=src;have ty:oc=.type T:=ty;subst ty;have hol':(s.heap.push (fD w)).get? l=some { cls:=.type T,dict:=od,data:=odt,slots:=os' }:=ac _ hol;unfold jN.«set.__init__» noKeywords jO;generalize hPI:yz=PI;wp_walk;subst hPI;refine iter { s with heap:=s.heap.push (fD w) } _ _ hol' fun ob St W st=>?_;have hlS:l<s.heap.objs.size:=ar hol;refine a7 (Gp ?_);have szp:(s.heap.push (fD w)).objs.size=s.heap.objs.size+1:=cg ..;refine AM (A:=A.in1.in1) W s.heap.objs.size (by rw [szp];simp only [aZ,bi,or_false,not_or];exact ⟨aH (f_ _),fc hlS⟩) xs hx hi hb items.size 0 _ [] (by omega) (cJ _) (aq _) st (By w (ac _ hS)) fun h' tk kp hS'=>?_;show au _ _ _ _ _ _;refine a9 ?_;show au _ _ (ret e8) _ _ _;refine a9 ⟨rfl,h',tk,rfl,hS',fun b o e=>kp b o ?_ (ac _ (ac _ e))⟩;have:=ar e;rw [szp];simp only [aZ,bi,or_false,not_or];exact ⟨aH this,aH (er this)⟩
   ·cases r₂ with
    |error e=>exact hr₂
    |ok fl₂ =>
     cases fl₂ with
     |ret r =>
      obtain ⟨rfl,h',tk,rfl,hS',hk'⟩:=hr₂;repeat (any_goals (first|assumption|wp_step))
      exact h _ _ hS' hk'
     |next=>exact hr₂.elim
     |brk=>exact hr₂.elim
     |cont=>exact hr₂.elim
  |next=>exact hr.elim
  |brk=>exact hr.elim
  |cont=>exact hr.elim
theorem MQ {l:am}{o:Obj}{its:List af} (hh:A.handled=none) (e0:o.cls=.type "list") (e1:∃ n,o.data=.seq its.toArray n):Ul prog w A "list" l o its.toArray :=
 ⟨e0,F.sub_list_set,F.sub_list_frozenset,by decide,fun s Q E e h=>qK ⟨_,e,e0,e1⟩
  (h _ _ (K7 (by simpa using hh) _ l (aH (ar e)) its.toArray) ⟨⟨_,ax _ rfl,rfl,rfl⟩,⟨_,ac _ e,e0,e1⟩⟩)⟩
theorem QQ {l:am}{o:Obj}{its:List af} (hh:A.handled=none) (e0:o.cls=.type "tuple") (e1:∃ n,o.data=.seq its.toArray n):Ul prog w A "tuple" l o its.toArray :=
 ⟨e0,F.sub_tuple_set,F.sub_tuple_frozenset,by decide,fun s Q E e h=>gI ⟨_,e,e0,e1⟩
  (h _ _ (Walks.tuple (by simpa using hh) _ l (aH (ar e)) its.toArray) ⟨⟨_,ax _ rfl,rfl,rfl⟩,⟨_,ac _ e,e0,e1⟩⟩)⟩
end
end
end L2
section
namespace L2
open PySem PySem.Spec PyProof.Rows
namespace SI
theorem entry_iter:Q7 table "set.__iter__"=some jN.«frozenset.__iter__» :=
 Gq (id':="frozenset.__iter__") (by kernel_rfl) rfl (by decide +kernel) (by kernel_rfl)
theorem slot_next:Slot "set_iterator" "__next__" "set_iterator.__next__":=by
 refine .of (owner:="set_iterator") (n:="__next__") ?_ ?_ ?_ ?_ ?_ ?_
 ·rw [typeLookup_type,PL];kernel_rfl
 ·decide +kernel
 ·decide +kernel
 ·decide +kernel
 ·first
   |exact .inl (by decide +kernel)
   |exact .inr (by decide +kernel)
 ·rw [Gr];kernel_rfl
theorem entry_next:Q7 table "set_iterator.__next__"=some jN.«set_iterator.__next__» :=
 entryFor_of_tree (by kernel_rfl)
theorem Em:Manifest.owners.lookup (String.ofList ['r','o','t','a','r','e','t','i','_','t','e','s'].reverse)=some Manifest.sig_set_iterator:=by kernel_rfl
theorem args_next (a:af):argsOk "set_iterator.__next__" ⟨[a],[]⟩:=by
 unfold argsOk;rw [signature?_of (id:="set_iterator.__next__") (n:=['_','_','t','x','e','n','_','_']) (o:=['r','o','t','a','r','e','t','i','_','t','e','s']) (by kernel_rfl) Em]
 kernel_rfl
theorem args_iter (a:af):argsOk "set_iterator.__iter__" ⟨[a],[]⟩:=by
 unfold argsOk;rw [signature?_of (id:="set_iterator.__iter__") (n:=['_','_','r','e','t','i','_','_']) (o:=['r','o','t','a','r','e','t','i','_','t','e','s']) (by kernel_rfl) Em]
 kernel_rfl
theorem entry_self:Q7 table "set_iterator.__iter__"=some jN.«dict_keyiterator.__iter__» :=
 Gq (id':="dict_keyiterator.__iter__") (by kernel_rfl) rfl (by decide +kernel) (by kernel_rfl)
theorem slot_iter:Slot "set_iterator" "__iter__" "set_iterator.__iter__":=by
 refine .of (owner:="set_iterator") (n:="__iter__") ?_ ?_ ?_ ?_ ?_ ?_
 ·rw [typeLookup_type,PL];kernel_rfl
 ·decide +kernel
 ·decide +kernel
 ·decide +kernel
 ·first
   |exact .inl (by decide +kernel)
   |exact .inr (by decide +kernel)
 ·rw [Gr];kernel_rfl
end SI
end L2
end
namespace L2
open PySem PySem.Spec PyProof.Rows
section
theorem ub {α:Type}:∀ {l:List α}{i:Nat} (h:i<l.length),(l[i]::l.eraseIdx i).Perm l
 |x::r,0,_=>.refl _
 |x::r,i+1,h=>by
  have q:=ub (l:=r) (i:=i) (by simpa using h);rw [List.getElem_cons_succ,List.eraseIdx_cons_succ];exact (List.Perm.swap _ _ _).trans (q.cons x)
section
theorem KA   (hn:n≠0) (h:∀ i d,i<n->Q i { s with drawn:=d }):au M A (choose src n) Q E s :=
 fun _ _ _=>⟨hn,h _ _ (Ck _ (Nat.pos_of_ne_zero hn))⟩
theorem vb {α:Type}:∀ (n:Nat) (xs:List α) (s:al) (Q:List α->al->Prop),n=xs.length->(∀ ys d,ys.Perm xs->Q ys { s with drawn:=d })->au M A (drawOrder n xs) Q E s
 | 0,xs,s,Q,hn,h=>by
  obtain rfl:xs=[]:=List.length_eq_zero_iff.mp hn.symm;exact a9 (h [] s.drawn .nil)
 |n+1,[],s,Q,hn,h=>by cases hn
 |n+1,x::r,s,Q,hn,h=>by
  show au M A (choose .order (x::r).length >>= _) Q E s;refine a7 (KA (by simp) fun i d hi=>?_);rw [bc hi];refine a7 (vb n _ _ _ (by rw [Bj hi];omega) fun ys d' p=>a9 ?_);exact h _ _ ((p.cons _).trans (ub hi))
end
theorem CI {α:Type} (next:Nat->Nat):∀ (n k:Nat) (left:List α) (out:Array α),n=left.length->(Ay next n k left out).toList.Perm (out.toList++left)
 | 0,k,left,out,hn=>by
  obtain rfl:left=[]:=List.length_eq_zero_iff.mp hn.symm;rw [Ay,cS]
 |n+1,k,left,out,hn=>by
  have hl:next k % left.length<left.length:=Ck _ (by omega)
  rw [Ay,bc hl];refine (CI next n (k+1) _ _ (by rw [Bj hl];omega)).trans ?_;rw [iF,gR];exact (ub hl).append_left _
theorem wv {α:Type} (next:Nat->Nat) (xs:Array α):(pq next xs).toList.Perm xs.toList:=by
 have:=CI next xs.size 0 xs.toList #[] (by simp)
 simpa [pq] using this
def CJ (h:bT) (I S:am) (first:af) (i n ep:Nat):Prop:=h.get? I=some { cls:=.type "set_iterator",data:=.fields #[first,.int i 0,.ref S,.int n 0,.int ep 0] }
section
theorem CJ.put {f f':af}{j j':Nat}{k:Nat}{x:af}{h:bT} (hit:CJ h I S f j n ep) (e:(#[f,.int j 0,.ref S,.int n 0,.int ep 0] : Array af).setIfInBounds k x=#[f',.int j' 0,.ref S,.int n 0,.int ep 0]) :
  CJ (h.update I (eg (·.setIfInBounds k x))) I S f' j' n ep:=by
 have q:=gm (eg (·.setIfInBounds k x)) hit rfl;unfold CJ;rw [q];show some ({ cls:=.type "set_iterator",data:=.fields ((#[f,.int j 0,.ref S,.int n 0,.int ep 0] : Array af).setIfInBounds k x) }:Obj)=_;rw [e]
theorem sr (hit:CJ s.heap I S first i n ep) (hS:cZ w s.heap S es ep t) (hn:n=es.size)
  (h:au (az prog w) A.in1 (do
   if let .int slot _:=first then
    match <- M5 S slot.toNat i ep with
    |some (x,next) =>
     iu (.ref I) 0 (cr next)
     iu (.ref I) 1 (cr (i+1))
     ret x
    |none=>iu (.ref I) 2 .none;sZ (<- u0 (.type "StopIteration") [])
   else
    let some places <- LP first|we "internal:set_iterator"
    match places[i]? with
    |some (.int place _) =>
     let x <- setNextDrawn S place.toNat ep
     iu (.ref I) 1 (cr (i+1))
     ret x
    |some _=>we "internal:set_iterator"
    |none=>iu (.ref I) 0 (cr 0);iu (.ref I) 2 .none;sZ (<- u0 (.type "StopIteration") []))
   (fun fin s'=>∃ v,fin=.done (.ret v)/\Q (some v) s') (fun e s'=>au (az prog w) A (isInstance e (.type "StopIteration")) (fun b s''=>b=true/\Q none s'') E s') s) :
  au (az prog w) A (lF (.ref I)) Q E s:=by
 unfold lF;refine a7 (kq ?_);refine cu (name:=gW "__next__") ⟨_,hit,rfl⟩ SI.slot_next ?_;refine bD SI.slot_next ⟨_,hit,rfl⟩ SI.entry_next ?_ (SI.args_next _);show au _ _ (fieldsOf (.ref I) >>= _) _ _ s;refine a7 (Gs hit rfl ?_);show au _ _ (setEntries S >>= _) _ _ s;refine a7 (wpAny_setEntries_of hS.at_ rfl hS.fits ?_);rw [if_neg (by rw [hn];simp)];refine bA h (fun fin s' z=>?_) fun e s' z=>?_
 ·obtain ⟨v,rfl,q⟩:=z;exact ⟨v,rfl,a9 q⟩
 ·refine a7 (bA z (fun b s'' ⟨hb,q⟩=>?_) fun _ _ z=>z);subst hb;exact a9 q
theorem CK {B:cy}{Q:Option af->al->Prop}{Q':Fin->al->Prop}{o:Obj}{vs:Array af} (hh:B.handled=none) (ho:s.heap.get? I=some o) (hd:o.data=.fields vs) (hz:2<vs.size)
  (h:∀ h',Ip I s.heap h'->Q none { s with heap:=h' }) :
  au (az prog w) B (do iu (.ref I) 2 .none;sZ (<- u0 (.type "StopIteration") []))
   Q' (fun e s'=>au (az prog w) A (isInstance e (.type "StopIteration")) (fun b s''=>b=true/\Q none s'') E s') s:=by
 refine a7 (gL ho hd hz ?_);show au _ _ (u0 (.type "StopIteration") [] >>= _) _ _ _;refine a7 ?_;simp only [u0,Q8];refine a7 (bH ?_ (by size_fits));refine a7 (m:=lJ _ _) (fA (a:=e8) ?_ ?_)
 ·first
   |rfl
   |(simp only [lJ];rfl)
 refine bH ?_ (by size_fits);simp only [sZ];refine a7 (K8 ?_);rw [hh];refine a7 (a9 (Q9 ?_));refine gC (T:="StopIteration") (b:=true) ⟨_,ax _ rfl,rfl⟩ wf ⟨rfl,?_⟩;exact h _ (((bE ..).extBut.push _).push _)
end
end
section
section
variable {prog:bq}{w:bL}{A:cy}{E:af->al->Prop}{s:al}{I S:am}{es:Array (Int×af)}{ep:Nat}{t:lI}{i n:Nat}{first:af}
theorem cZ.keep (x:cZ w h S es ep t) (k:∀ o,h.get? S=some o->h'.get? S=some o):cZ w h' S es ep t:=⟨k _ x.at_,x.txt,x.nd,x.few,x.fits,x.led,x.pl⟩
theorem CL {Q:af->al->Prop} (hit:CJ s.heap I S first i n ep) (h:Q (.ref I) s):au (az prog w) A (yz (.ref I)) Q E s:=by
 refine Az ⟨_,hit,rfl⟩ SI.slot_iter (bD SI.slot_iter ⟨_,hit,rfl⟩ SI.entry_self ?_ (SI.args_iter _));show au _ _ (ret (.ref I)) _ _ s;exact a9 ⟨_,rfl,"set_iterator",_,⟨_,hit,rfl⟩,SI.slot_next.lookup,h⟩
theorem fM {Q:Bool->al->Prop}{B:cy} (h:Q (w.params.followText "set-order") s):au (az prog w) B setsByText Q E s:=by
 unfold setsByText;exact a7 (ir (a9 h))
theorem MR {B:cy}{Q':Fin->al->Prop}{x:af}{nx:Nat}{E':af->al->Prop} (hit:CJ s.heap I S first i n ep)
  (h:∀ h',CJ h' I S (.int nx 0) (i+1) n ep->bG I s.heap h'->Q' (.done (.ret x)) { s with heap:=h' }) :
  au (az prog w) B (do iu (.ref I) 0 (cr nx);iu (.ref I) 1 (cr (i+1));ret x) Q' E' s:=by
 refine a7 (gL hit rfl (by simp) ?_);have h1:CJ (s.heap.update I (eg (·.setIfInBounds 0 (cr nx)))) I S (.int nx 0) i n ep:=hit.put (by simp [cr]);refine a7 (gL h1 rfl (by simp) ?_);have h2:CJ ((s.heap.update I (eg (·.setIfInBounds 0 (cr nx)))).update I (eg (·.setIfInBounds 1 (cr (i+1))))) I S (.int nx 0) (i+1) n ep:=h1.put (by simp [cr]);exact a9 (h _ h2 ((bE ..).trans (bE ..)))
theorem ww (f:Nat->Nat) (es:Array (Int×af)):(pq f es).size=es.size:=by
 rw [<- ap,(wv f es).length_eq,ap]
theorem GQ (hh:A.handled=none) (hw:w.params.followText "set-order"=true) (hne:S≠I) :
  Q4 prog w A I [I,S] [I] es.size (fun i v=>((pq (w.params.setOrder S ep) es).toList.map (·.2))[i]?=some v) (fun i h=>CJ h I S (.int 0 0) i es.size ep/\cZ w h S es ep t) where
 sub:=fun b hb=>by simp at hb;simp [hb]
 frame:=fun i h h' st k=>⟨k I (by simp) _ st.1,st.2.keep fun o e=>k S (by simp) o e⟩
 item:=fun i s Q E hi st hQ=>by
  obtain ⟨hit,hS⟩:=st;refine sr hit hS rfl ?_;dsimp only;unfold M5 setWalk;refine a7 (a7 (bw hS.at_ rfl hS.fits (a7 (fM ?_))));rw [hw];simp only [if_true,bne_self_eq_false,bu,if_false];refine a7 (a7 (bw hS.at_ rfl hS.fits (a7 (fM ?_))));rw [hw];simp only [if_true];refine a7 (ir (a9 (a9 ?_)));have hi':i<(pq (w.params.setOrder S ep) es).size:=by rw [ww];exact hi
  show au _ _ (match ((pq (w.params.setOrder S ep) es)[i]?).map fun e=>(e.2,(0:Int).toNat) with
   |some (x,next)=>do iu (.ref I) 0 (cr next);iu (.ref I) 1 (cr (i+1));ret x
   |none=>do iu (.ref I) 2 .none;sZ (<- u0 (.type "StopIteration") [])) _ _ s
  rw [getElem?_pos _ i hi'];refine MR (nx:=0) hit fun h' h1 sb=>⟨_,rfl,hQ _ h' s.toks ?_ ⟨h1,hS.keep fun o e=>(sb.2 S hne).trans e⟩ fun b o hb e=>(sb.2 b fun z=>hb (by simp [z])).trans e⟩;simp [hi']
 done:=fun s Q E st hQ=>by
  obtain ⟨hit,hS⟩:=st;refine sr hit hS rfl ?_;dsimp only;unfold M5 setWalk;refine a7 (a7 (bw hS.at_ rfl hS.fits (a7 (fM ?_))));rw [hw];simp only [if_true,bne_self_eq_false,bu,if_false];refine a7 (a7 (bw hS.at_ rfl hS.fits (a7 (fM ?_))));rw [hw];simp only [if_true];refine a7 (ir (a9 (a9 ?_)));show au _ _ (match ((pq (w.params.setOrder S ep) es)[es.size]?).map fun e=>(e.2,(0:Int).toNat) with
   |some (x,next)=>do iu (.ref I) 0 (cr next);iu (.ref I) 1 (cr (es.size+1));ret x
   |none=>do iu (.ref I) 2 .none;sZ (<- u0 (.type "StopIteration") [])) _ _ s
  rw [getElem?_neg _ es.size (by rw [ww];exact bN _)];exact CK (by simpa using hh) hit rfl (by simp) fun h' eb=>hQ h' s.toks fun b o hb e=>eb b o (fun z=>hb (by simp [z])) e
 self:=fun i s Q E st h=>CL st.1 h
inductive Yd (h:bT) (T:am) (ps:List Nat):Prop
 |mk (o k:_) (h0:h.get? T=some o) (h1:o.data=.seq (ps.map fun (p:Nat)=>pA (p:Int) 0).toArray k):Yd h T ps
theorem Eo (hh:A.handled=none)  (hne:S≠I) (hT:T≠I) (hp:∀ p∈ps,p<es.size) (hn:ps.length=es.size) :
  Q4 prog w A I [I,S,T] [I] es.size (fun i v=>(ps.map fun p=>(es.getD p (0,.none)).2)[i]?=some v) (fun i h=>CJ h I S (.ref T) i es.size ep/\cZ w h S es ep t/\Yd h T ps) where
 sub:=fun b hb=>by simp at hb;simp [hb]
 frame:=fun i h h' st k=>⟨k I (by simp) _ st.1,st.2.1.keep fun o e=>k S (by simp) o e,let ⟨o,q,e,d⟩:=st.2.2;⟨o,q,k T (by simp) o e,d⟩⟩
 item:=fun i s Q E hi st hQ=>by
  obtain ⟨hit,hS,o,q,e,d⟩:=st;refine sr hit hS rfl ?_;dsimp only;refine a7 (fB e d ?_);have hi':i<ps.length:=by omega
  dsimp only;rw [show ((ps.map fun (p:Nat)=>pA (p:Int) 0).toArray)[i]?=some (.int (ps[i] : Nat) 0) by simp [hi']];dsimp only;unfold setNextDrawn;refine a7 (a7 (bw hS.at_ rfl hS.fits ?_));have hlt:=hp ps[i] (jj hi');simp only [bne_self_eq_false,bu,if_false,kC];rw [getElem?_pos es ps[i] hlt];refine a9 ?_;refine a7 (gL hit rfl (by simp) ?_);have h1:CJ (s.heap.update I (eg (·.setIfInBounds 1 (cr (i+1))))) I S (.ref T) (i+1) es.size ep:=hit.put (by simp [cr]);have sb:bG I s.heap (s.heap.update I (eg (·.setIfInBounds 1 (cr (i+1))))):=bE ..;refine a9 ⟨_,rfl,hQ _ _ s.toks ?_ ⟨h1,hS.keep fun o e=>(sb.2 S hne).trans e,o,q,(sb.2 T hT).trans e,d⟩ fun b o hb e=>(sb.2 b fun z=>hb (by simp [z])).trans e⟩;simp [hi',hlt]
 done:=fun s Q E st hQ=>by
  obtain ⟨hit,hS,o,q,e,d⟩:=st;refine sr hit hS rfl ?_;dsimp only;refine a7 (fB e d ?_);dsimp only;rw [show ((ps.map fun (p:Nat)=>pA (p:Int) 0).toArray)[es.size]?=none by simp [<- hn]];dsimp only;refine a7 (gL hit rfl (by simp) ?_);have h1:CJ (s.heap.update I (eg (·.setIfInBounds 0 (cr 0)))) I S (.int 0 0) es.size es.size ep:=hit.put (by simp [cr]);have sb:bG I s.heap (s.heap.update I (eg (·.setIfInBounds 0 (cr 0)))):=bE ..;exact CK (s:={ s with heap:=s.heap.update I (eg (·.setIfInBounds 0 (cr 0))) }) (by simpa using hh) h1 rfl (by simp) fun h' eb=>hQ h' s.toks fun b o hb e=>eb b o (fun z=>hb (by simp [z])) ((sb.2 b fun z=>hb (by simp [z])).trans e)
 self:=fun i s Q E st h=>CL st.1 h
theorem MS  (h:p=#[j]):iH p 0=0:=by subst h;simp [iH,AA]
theorem MT {p:Array Nat}{j:Nat} (h:p=#[j]):iH p (j+1)=1:=by subst h;simp [iH,AA]
theorem KB (h : t.fits 1 = true) : ∃ j, t.place = #[j] := by
  have h1 : t.place.size = 1 := by
    simp only [nl, aS, beq_iff_eq] at h; exact h.1
  exact ⟨t.place[0], by apply Array.ext; · simp [h1]
                        · intro i h2 h3; have : i = 0 := by omega
                          subst this; simp⟩
theorem Um   (hl:t.led=true) (h:au (az prog w) B (k ()) Q E s) :
  au (az prog w) B ((if (!t.led && !es.isEmpty)=true then we "set:maker-not-led" else pure ()) >>= k) Q E s:=by
 rw [if_neg (by rw [hl];simp)];exact a7 (a9 h)
theorem vc {B:cy}{slot g:Nat}{Q:Option (af×Nat)->al->Prop} (hw:w.params.followText "set-order"=false) (hS:cZ w s.heap S es ep t) (h1:es.size<=1)
  (h:Q (match es[iH t.place slot]?,t.place[iH t.place slot]? with|some (_,x),some j=>some (x,j+1)|_,_=>none) s):au (az prog w) B (M5 S slot g ep) Q E s:=by
 unfold M5;refine a7 (bw hS.at_ rfl hS.fits (a7 (fM ?_)));rw [hw];simp only [bu,if_false];split
 ·rename_i z
  exact absurd (show (!t.plain&&decide (es.size > 1))=true from z) (by simp;omega)
 ·have hl:t.led=true:=by rw [hS.led,hw];rfl
  exact Um hl (a9 h)
theorem KC (hh:A.handled=none) (hw:w.params.followText "set-order"=false) (hne:S≠I) (h1:es.size<=1) :
  Q4 prog w A I [I,S] [I] es.size (fun i v=>(es.toList.map (·.2))[i]?=some v)
   (fun i h=>∃ k,CJ h I S (.int (k:Nat) 0) i es.size ep/\cZ w h S es ep t/\(i=0->k=0)/\(i=1->es.size=1->∃ j,t.place=#[j]/\k=j+1)) where
 sub:=fun b hb=>by simp at hb;simp [hb]
 frame:=fun i h h' st k=>let ⟨c,a1,a2,a3⟩:=st;⟨c,k I (by simp) _ a1,a2.keep fun o e=>k S (by simp) o e,a3⟩
 item:=fun i s Q E hi st hQ=>by
  obtain ⟨c,hit,hS,c0,c1⟩:=st;have hi0:i=0:=by omega
  subst hi0;obtain rfl:c=0:=c0 rfl;have e1:es.size=1:=by omega
  obtain ⟨j,hj⟩:=KB (t:=t) (by rw [<- e1];exact hS.fits);refine sr hit hS rfl ?_;dsimp only;refine a7 (vc hw hS h1 ?_);rw [show (((0:Nat):Int).toNat)=0 from rfl,MS hj,getElem?_pos es 0 (by omega),hj];refine MR (nx:=j+1) hit fun h' h1 sb=>⟨_,rfl,hQ _ h' s.toks ?_ ⟨j+1,h1,hS.keep fun o e=>(sb.2 S hne).trans e,by simp,fun _ _=>⟨j,hj,rfl⟩⟩ fun b o hb e=>(sb.2 b fun z=>hb (by simp [z])).trans e⟩;simp [e1]
 done:=fun s Q E st hQ=>by
  obtain ⟨c,hit,hS,c0,c1⟩:=st;refine sr hit hS rfl ?_;dsimp only;refine a7 (vc hw hS h1 ?_);have hz:es[iH t.place ((c:Nat):Int).toNat]?=none:=by
   rcases gn es.size with z|z
   ·rw [getElem?_neg];omega
   ·have e1:es.size=1:=by omega
    obtain ⟨j,hj,hc⟩:=c1 e1 e1;rw [hc,show (((j+1:Nat):Int).toNat)=j+1 from rfl,MT hj,getElem?_neg];omega
  rw [hz];exact CK (by simpa using hh) hit rfl (by simp) fun h' eb=>hQ h' s.toks fun b o hb e=>eb b o (fun z=>hb (by simp [z])) e
 self:=fun i s Q E st h=>let ⟨_,a1,_⟩:=st;CL a1 h
theorem GR {Q:af->al->Prop} (hh:A.handled=none) (hS:cZ w s.heap S es ep t)
  (h:∀ (I:am) (fp:List am) (ord:List af) (St:Nat->bT->Prop) (h':bT) (d:LJ),s.heap.objs.size<=I->(∀ b∈fp,b=S\/s.heap.objs.size<=b)->(∀ b∈fp,b<h'.objs.size)->ord.Perm (es.toList.map (·.2))->(∀ B:cy,B.handled=none->Q4 prog w B I fp [I] ord.length (fun i v=>ord[i]?=some v) St)->St 0 h' ->
   (∀ b o,s.heap.get? b=some o->h'.get? b=some o)->Q6 { s with heap:=h',drawn:=d } (.ref I) "set_iterator"->Q (.ref I) { s with heap:=h',drawn:=d }):au (az prog w) A (yz (.ref S)) Q E s:=by
 have hT:s.TypeIs (.ref S) "set":=⟨_,hS.at_,rfl⟩;have hlt:=ar hS.at_;refine Az hT F.slot_set_iter (bD F.slot_set_iter hT SI.entry_iter ?_ (F.args_set_iter_1 _));show au _ _ (u4 S >>= _) _ _ s;unfold u4;refine a7 (a7 (wpAny_setEntries_of hS.at_ rfl hS.fits (a9 ?_)));show au _ _ (setDrawn S >>= _) _ _ s;unfold setDrawn;refine a7 (a7 (bw hS.at_ rfl hS.fits (a7 (fM (a9 ?_)))));have fin:∀ (first:af) (fp:List am) (ord:List af) (St:Nat->bT->Prop) (h':bT) (d:LJ),(∀ b o,s.heap.get? b=some o->h'.get? b=some o)->s.heap.objs.size<=h'.objs.size ->
   (∀ b∈fp,b=S\/b=h'.objs.size\/(s.heap.objs.size<=b/\b<h'.objs.size))->ord.Perm (es.toList.map (·.2))->(∀ B:cy,B.handled=none->Q4 prog w B h'.objs.size fp [h'.objs.size] ord.length (fun i v=>ord[i]?=some v) St) ->
   (∀ h'':bT,(∀ b o,h'.get? b=some o->h''.get? b=some o)->CJ h'' h'.objs.size S first 0 es.size ep->St 0 h'') ->
   au (az prog w) A.in1 (setEpoch S >>= fun e=>newFields "set_iterator" [first,cr 0,.ref S,cr es.size,cr e] >>= fun x=>ret x) (fun fin s'=>∃ v,fin=.done (.ret v)/\∃ T' r,s'.TypeIs v T'/\typeLookup (.type T') "__next__"=pure (some r)/\Q v s') E { s with heap:=h',drawn:=d }:=by
  intro first fp ord St h' d kp hsz hfp pm W st
  have hS':cZ w h' S es ep t:=hS.keep fun o e=>kp S o e;refine a7 (wpAny_setEpoch_of (s:={ s with heap:=h',drawn:=d }) hS'.at_ rfl hS'.fits ?_);refine a7 (bH ?_ (by size_fits));have gp:∀ b o,h'.get? b=some o->(h'.push { cls:=.type "set_iterator",dict:=none,data:=.fields #[first,cr 0,.ref S,cr es.size,cr ep] }).get? b=some o:=fun b o e=>ac _ e;have it:(h'.push { cls:=.type "set_iterator",dict:=none,data:=.fields #[first,cr 0,.ref S,cr es.size,cr ep] }).get? h'.objs.size=some { cls:=.type "set_iterator",dict:=none,data:=.fields #[first,cr 0,.ref S,cr es.size,cr ep] }:=ax _ rfl;refine a9 ⟨_,rfl,"set_iterator",_,⟨_,it,rfl⟩,SI.slot_next.lookup,h h'.objs.size fp ord St _ d hsz (fun b hb=>?_) (fun b hb=>?_) pm W (st _ gp it) (fun b o e=>gp b o (kp b o e)) ⟨_,it,rfl⟩⟩
  ·rcases hfp b hb with z|z|z
   ·exact .inl z
   ·exact .inr (by rw [z];exact hsz)
   ·exact .inr z.1
  ·rw [cg];rcases hfp b hb with z|z|z
   ·rw [z];exact er (aE hlt hsz)
   ·rw [z];exact f_ _
   ·exact er z.2
 dsimp only;split
 ·rename_i z
  have z:(!w.params.followText "set-order" && (!t.plain&&decide (es.size > 1)))=true:=z;refine a7 (vb _ _ _ _ (by simp) fun ys d pm=>?_);simp only [Q8];have hyl:ys.length=es.size:=by have:=pm.length_eq;rwa [fo] at this
  have zl:=fP hS.few;refine a7 (bH ?_ (by show (ys.map fun (i:Nat)=>cr i).toArray.size<=sizeLine;simp;omega));have tp:∀ ob:Obj,(s.heap.push ob).objs.size=s.heap.objs.size+1:=fun ob=>cg ..;refine fin (.ref s.heap.objs.size) [s.heap.objs.size+1,S,s.heap.objs.size] (ys.map fun p=>(es.getD p (0,.none)).2)
   (fun i h=>CJ h (s.heap.objs.size+1) S (.ref s.heap.objs.size) i es.size ep/\cZ w h S es ep t/\Yd h s.heap.objs.size ys) (s.heap.push _) d
   (fun b o e=>ac _ e) (by rw [tp];exact ko _) (fun b hb=>?_) ?_ (fun B hB=>?_) (fun h'' k it=>⟨by rw [tp] at it;exact it,hS.keep fun o e=>k S o (ac _ e),_,_,k _ _ (ax _ rfl),rfl⟩)
  ·simp only [aZ,bi,or_false] at hb;rcases hb with y|y|y
   ·exact .inr (.inl (by rw [tp];exact y))
   ·exact .inl y
   ·exact .inr (.inr ⟨by rw [y];exact aq _,by rw [tp,y];exact f_ _⟩)
  ·refine (pm.map _).trans (.of_eq ?_);apply y9
   ·simp
   ·intro k h1 h2;have:k<es.size:=by simpa using h1
    simp [this]
  ·rw [ao,hyl,tp];exact Eo hB (aH (er hlt)) (aH (f_ _)) (fun p hp=>List.mem_range.mp (pm.mem_iff.mp hp)) hyl
 ·rename_i z
  have z:¬ (!w.params.followText "set-order" && (!t.plain&&decide (es.size > 1)))=true:=z;refine a7 (a9 ?_);have hne:S≠s.heap.objs.size:=aH hlt;cases hw:w.params.followText "set-order" with
  |true =>
   refine fin (cr 0) [s.heap.objs.size,S] ((pq (w.params.setOrder S ep) es).toList.map (·.2)) (fun i h=>CJ h s.heap.objs.size S (.int 0 0) i es.size ep/\cZ w h S es ep t) s.heap s.drawn (fun _ _ e=>e) (aq _) (fun b hb=>?_) ((wv _ es).map _) (fun B hB=>?_) (fun h'' k it=>⟨it,hS.keep fun o e=>k S o e⟩)
   ·simp only [aZ,bi,or_false] at hb;exact hb.elim (fun z=>.inr (.inl z)) .inl
   ·rw [ao,ap,ww];exact GQ hB hw hne
  |false =>
   have h1:es.size<=1:=by
    rw [hw] at z;rcases hS.pl with y|y
    ·omega
    ·rw [y] at z;simpa using z
   refine fin (cr 0) [s.heap.objs.size,S] (es.toList.map (·.2)) (fun i h=>∃ k,CJ h s.heap.objs.size S (.int (k:Nat) 0) i es.size ep/\cZ w h S es ep t/\(i=0->k=0)/\(i=1->es.size=1->∃ j,t.place=#[j]/\k=j+1)) s.heap s.drawn (fun _ _ e=>e) (aq _) (fun b hb=>?_) (.refl _) (fun B hB=>?_) (fun h'' k it=>⟨0,it,hS.keep fun o e=>k S o e,fun _=>rfl,fun y=>by cases y⟩)
   ·simp only [aZ,bi,or_false] at hb;exact hb.elim (fun z=>.inr (.inl z)) .inl
   ·rw [ao,ap];exact KC hB hw hne h1
end
end
section
section
theorem Ep (hh:A.handled=none) (hS:cZ w s.heap S es ep t)
  (h:∀ (ord:List af) (h':bT) (d:LJ) (tk:Nat),ord.Perm (es.toList.map (·.2))->(∀ b o,s.heap.get? b=some o->h'.get? b=some o)->s.heap.objs.size<=h'.objs.size->Q ord { s with heap:=h',drawn:=d,toks:=tk }) :
  au (az prog w) A (AB (.ref S)) Q E s:=by
 have hlt:=ar hS.at_;unfold AB;refine a7 (Gp (hZ LQ ?_));rw [f9 LR _];show au _ A.in1 (newList [] >>= fun l=>P_ (.builtin "list.__iadd__" ⟨[l,.ref S],[]⟩)) _ _ s;refine a7 (bH ?_);refine a9 ⟨qX qz _,hZ F.entry_list_iadd ?_⟩;rw [f9 qz _];let s1:al:={ s with heap:=s.heap.push { cls:=.type "list",data:=.seq ([] : List af).toArray } }
 have sz1:s1.heap.objs.size=s.heap.objs.size+1:=cg ..;have at1:s1.heap.get? s.heap.objs.size=some { cls:=.type "list",data:=.seq ([] : List af).toArray }:=ax _ rfl;have hS1:cZ w s1.heap S es ep t:=hS.keep fun o e=>ac _ e;show au _ A.in1 (kR (.ref s.heap.objs.size) (.ref S) (.ref s.heap.objs.size)) _ _ s1;have hT1:s1.TypeIs (.ref S) "set":=⟨_,hS1.at_,rfl⟩;unfold kR;refine a7 (t_ hT1 ?_);have e1:xh (.ref s.heap.objs.size) (.ref S)=false:=by simp [xh,fc hlt]
 have e2:(iW "set" == iW "list")=false:=by decide
 have e3:(iW "set" == iW "tuple")=false:=by decide
 simp only [e1,e2,e3,Bool.or_false,bu,if_false];refine a7 (GR (A:=A.in1) (by simpa using hh) hS1 fun I fp ord St h' d hI hfp hfl pm W st kp tI=>?_);let s2:al:={ s1 with heap:=h',drawn:=d }
 have hS2:cZ w s2.heap S es ep t:=hS1.keep fun o e=>kp S o e;have hT2:s2.TypeIs (.ref S) "set":=⟨_,hS2.at_,rfl⟩;refine a7 (dw ?_);unfold Builtin.List.listLengthHint;refine a7 (wpAny_specialOf (s:=s2) hT2 F.slot_set_len.lookup ?_);dsimp only;rw [show splitId "set.__len__"=some ("set","__len__") from by decide +kernel];dsimp only;refine a7 (gC (b:=true) (s:=s2) hT2 (by rw [Gr];kernel_rfl) ?_);rw [if_neg (by decide),if_pos (by decide)];refine a7 (t_ (s:=s2) hT2 (a9 ?_));rw [if_pos (by decide)];refine a7 (df ?_);have nS:s.heap.objs.size∉fp:=fun z=>by
  rcases hfp _ z with q|q
  ·exact absurd hlt (by rw [<- q];exact bN _)
  ·rw [sz1] at q;exact absurd q (Nat.not_succ_le_self _)
 have at2:s2.heap.get? s.heap.objs.size=some { cls:=.type "list",data:=.seq ([] : List af).toArray }:=kp _ _ at1;refine a7 ?_;show au _ A.in1 (updateSeq s.heap.objs.size (·.push .none) >>= fun _=>updateSeq s.heap.objs.size (·.pop)) _ _ s2;refine a7 (wpAny_updateSeq at2 rfl ?_);have at3:=gm (gY (·.push e8)) at2 rfl;refine wpAny_updateSeq at3 rfl ?_;have at4:=gm (gY (·.pop)) at3 rfl;have oth:∀ b o,b≠s.heap.objs.size->s2.heap.get? b=some o->((s2.heap.update s.heap.objs.size (gY (·.push e8))).update s.heap.objs.size (gY (·.pop))).get? b=some o :=
  fun b o hb e=>(fO _ _ (cY hb)).trans ((fO _ _ (cY hb)).trans e)
 have zl:ord.length<=sizeLine:=by rw [pm.length_eq,ao,ap];exact fP hS.few
 have W1:=W A.in1 (by simpa using hh);refine a9 ⟨qX F.plain_extend_loop _,codeAny_extend_loopS (A:=A) W1.toS zl _ nS _ ord.length 0 { s2 with heap:=(s2.heap.update s.heap.objs.size (gY (·.push e8))).update s.heap.objs.size (gY (·.pop)) } _ _ rfl (cJ _) (W1.frame 0 _ _ st fun b hb o e=>oth b o (fun z=>nS (z ▸ hb)) e) at4 (ItemsOf.nil _) fun s' acc' c' hm hS' hacc=>?_⟩;show au _ A (load s.heap.objs.size >>= _) _ _ s';refine a7 (wpAny_load hS' (a9 ?_));have hacc':acc'.toList=ord:=by
  apply M6;intro j;rw [aQ];by_cases hj:j<acc'.size
  ·have:=hacc.2 j acc'[j] (by simp [hj]);rw [this];simp [hj]
  ·rw [getElem?_neg acc' j hj,cD (by rw [<- hacc.1];omega)]
 rw [hacc'];obtain ⟨h3,g3,d3,t3,o3⟩:=s';obtain rfl:g3=s.gens:=hm.gens;obtain rfl:d3=d:=hm.drawn;obtain rfl:o3=s.os:=hm.os;have old:∀ b o,s.heap.get? b=some o->h3.get? b=some o:=fun b o e=>by
  have hb:=ar e;refine hm.heap b o ?_ (oth b o (aH hb) (kp b o (ac _ e)));simp only [aZ,bi,or_false,not_or];exact ⟨aH hb,aH (aE hb (by have q:=hI;rw [sz1] at q;exact Nat.le_of_succ_le q))⟩
 refine h ord h3 _ t3 pm old ?_;have:=ar (show h3.get? s.heap.objs.size=some _ from hS');exact cm this
theorem Er  (hc:au (az prog w) A.in1 (AB x) (fun vs s1=>∃ ss,qM vs ss/\vs.length<64 /\
   ∀ (h':bT) (vs':List af) (ss':List Str) (e:Nat),(∀ b o,s1.heap.get? b=some o->h'.get? b=some o)->h'.get? s1.heap.objs.size=some (ji "list" vs'.toArray e)->qM vs' ss'->ss'.Perm ss->sortedS ss'=true ->
    Q (.ref s1.heap.objs.size) { s1 with heap:=h' }) E s):au (az prog w) A (call (.builtin "sorted") [x]) Q E s:=by
 refine nY kind_sorted plain_sorted entry_sorted (args_sorted1 _) ?_;unfold jN.«sorted»;refine a7 (m:=checkCount "sorted" 1 1 _) (a9 ?_);refine a7 (bA hc (fun vs s1 z=>?_) fun _ _ z=>z);obtain ⟨ss,hss,h64,hq⟩:=z;refine a7 (K9 ?_);have at1:(s1.heap.push (ji "list" vs.toArray 0)).get? s1.heap.objs.size=some (ji "list" vs.toArray 0):=ax _ rfl;show au _ _ _ _ _ { s1 with heap:=s1.heap.push (ji "list" vs.toArray 0) };refine a7 (dw (bD slot_list_sort ⟨_,at1,rfl⟩ entry_list_sort (list_sort_treeK strKind_oneLt at1 hss.keysOf (fun v₁ v₂ cp e=>keyKind_strs (by rw [<- e];exact hss)) h64 fun st' a1 a2=>⟨_,rfl,?_⟩) (args_list_sort _)));obtain ⟨ss',p1,p2,p3⟩:=sorted_out_str hss a1 a2;obtain ⟨e,at2⟩:=sortedHeap_at (out:=(aM st').map (·.2)) at1;refine a9 ⟨_,rfl,hq _ _ ss' e (fun b o q=>?_) at2 p1 p2 p3⟩;have hb:=ar q;rw [sortedHeap_old (aH hb) (by rw [cg];exact er hb)];exact ac _ q
end
end
section
def qC (x y:Str):Bool:=decide (x.cps.toList<y.cps.toList)
def GS (x:Str):List Str->List Str
 |[]=>[x]
 |y::r=>if qC y x then y::GS x r else x::y::r
def jY:List Str->List Str
 |[]=>[]
 |x::r=>GS x (jY r)
theorem wx (x:Str):∀ l,(GS x l).Perm (x::l)
 |[]=>.refl _
 |y::r=>by
  rw [GS];split
  ·exact ((wx x r).cons y).trans (.swap ..)
  ·exact .refl _
theorem i9:∀ l,(jY l).Perm l
 |[]=>.refl _
 |x::r=>(wx x _).trans ((i9 r).cons x)
theorem uc (x:Str):qC x x=false:=decide_eq_false (List.lt_irrefl _)
theorem su (h1:qC x y=true) (h2:qC y z=true):qC x z=true :=
 decide_eq_true (List.lt_trans (of_decide_eq_true h1) (of_decide_eq_true h2))
theorem yi (h1:qC x y=false) (h2:qC y x=false):x=y:=by
 have h1:¬ x.cps.toList<y.cps.toList:=of_decide_eq_false h1;have h2:¬ y.cps.toList<x.cps.toList:=of_decide_eq_false h2;have:x.cps.toList=y.cps.toList:=List.le_antisymm (List.not_lt.mp h2) (List.not_lt.mp h1)
 cases x;cases y;exact congrArg Str.mk (Array.toList_inj.mp this)
abbrev PV (l:List Str):Prop:=l.Pairwise fun a b=>qC b a=false
theorem MU (x:Str):∀ l,PV l->PV (GS x l)
 |[],_=>by simp [GS,PV]
 |y::r,h=>by
  obtain ⟨h1,h2⟩:=List.pairwise_cons.mp h;rw [GS];split
  ·rename_i hy
   refine List.pairwise_cons.mpr ⟨fun z hz=>?_,MU x r h2⟩;rcases List.mem_cons.mp ((wx x r).mem_iff.mp hz) with e|e
   ·subst e;cases q:qC z y with
    |false=>rfl
    |true=>exact absurd (su q hy) (by rw [uc];decide)
   ·exact h1 z e
  ·rename_i hy
   have hy:qC y x=false:=by simpa using hy
   refine List.pairwise_cons.mpr ⟨fun z hz=>?_,h⟩;rcases List.mem_cons.mp hz with e|e
   ·subst e;exact hy
   ·cases q:qC z x with
    |false=>rfl
    |true =>
     have hzy:=h1 z e;cases q2:qC x y with
     |true=>rw [su q q2] at hzy;cases hzy
     |false=>rw [<- yi hy q2,hzy] at q;cases q
theorem rh:∀ l,PV (jY l)
 |[]=>.nil
 |x::r=>MU x _ (rh r)
theorem vd:∀ (p:Str) (l:List Str),risingS p l=true->PV (p::l)
 |p,[],_=>by simp [PV]
 |p,x::r,h=>by
  rw [risingS,aS] at h;obtain ⟨h1,h2⟩:=h;have h1:qC x p=false:=by
   rw [ltCps_eq] at h1;simpa [qC] using h1
  have ih:=vd x r h2;refine List.pairwise_cons.mpr ⟨fun z hz=>?_,ih⟩;rcases List.mem_cons.mp hz with e|e
  ·rw [e];exact h1
  ·have hzx:=(List.pairwise_cons.mp ih).1 z e;cases q:qC z p with
   |false=>rfl
   |true =>
    cases q2:qC p x with
    |true=>rw [su q q2] at hzx;cases hzx
    |false=>rw [yi q2 h1,hzx] at q;cases q
theorem CM:∀ (l:List Str),sortedS l=true->PV l
 |[],_=>.nil
 |x::r,h=>vd x r h
theorem Bz:∀ {l l':List Str},l.Perm l'->PV l->PV l'->l=l'
 |[],l',p,_,_=>by rw [List.nil_perm.mp p]
 |x::r,[],p,_,_=>by have:=p.length_eq;simp at this
 |x::r,y::r',p,h,h'=>by
  obtain ⟨a1,a2⟩:=List.pairwise_cons.mp h;obtain ⟨b1,b2⟩:=List.pairwise_cons.mp h';have e:x=y:=by
   have hx:x∈y::r':=p.mem_iff.mp ak;have hy:y∈x::r:=p.mem_iff.mpr ak;rcases List.mem_cons.mp hx with e|e
   ·exact e
   ·rcases List.mem_cons.mp hy with e' | e'
    ·exact e'.symm
    ·exact yi (b1 x e) (a1 y e')
  subst e;rw [Bz (List.Perm.cons_inv p) a2 b2]
theorem Es (p:l'.Perm l) (h:sortedS l'=true):l'=jY l:=Bz (p.trans (i9 l).symm) (CM _ h) (rh l)
theorem wy (h:PV l) (nd:l.Nodup):l.Pairwise fun a b=>qC a b=true:=by
 induction l with
 |nil=>exact .nil
 |cons x r ih =>
  obtain ⟨a1,a2⟩:=List.pairwise_cons.mp h;obtain ⟨n1,n2⟩:=List.nodup_cons.mp nd;refine List.pairwise_cons.mpr ⟨fun y hy=>?_,ih a2 n2⟩;cases q:qC x y with
  |true=>rfl
  |false=>exact absurd (yi q (a1 y hy) ▸ hy) n1
theorem jZ:∀ {ss:List Str}{us:List af},dC (ss.map V.str) us->qM us ss
 |[],_,.nil=>.nil
 |x::r,_,.cons h t=>by obtain ⟨tk,rfl⟩:=h;exact .cons x tk (jZ t)
theorem pH:∀ {ss:List Str}{us:List af},qM us ss->dC (ss.map V.str) us
 |_,_,.nil=>.nil
 |_,_,.cons x t h=>.cons ⟨t,rfl⟩ (pH h)
theorem fS:∀ {ss:List Str}{us:List af},qM us ss->us.length=ss.length
 |_,_,.nil=>rfl
 |_,_,.cons x t h=>by simp [fS h]
theorem yM  (h:qM us ss) (i:Nat) (v:af) (e:us[i]?=some v):∃ x t,ss[i]?=some x/\v=jU x t:=by
 induction h generalizing i with
 |nil=>simp at e
 |cons y t _ ih =>
  cases i with
  |zero=>simp at e;exact ⟨y,t,by simp,e.symm⟩
  |succ i=>simp at e;simpa using ih i e
theorem ve:∀ {l:List (Int×af)},(∀ e∈l,ua w e)->qM (l.map (·.2)) (l.map ku)
 |[],_=>.nil
 |e::r,h=>by
  obtain ⟨x,tk,rfl⟩:=h e ak;exact .cons x tk (ve fun e he=>h e (ai _ he))
theorem CN  (h:qM us ss) (p:us'.Perm us):∃ ss',qM us' ss'/\ss'.Perm ss:=by
 refine ⟨us'.map strOf,strsAre_map _ fun v hv=>h.all v (p.mem_iff.mp hv),?_⟩;rw [<- h.strs];exact p.map _
def lW (w:bL) (a:am) (ss:List Str):HO:=.ext fun h=>lK w h a ss
theorem CO      (x:lK w h a ss):dz P w H h a (lW w a ss) :=
 ⟨x,let ⟨_,_,_,I,_⟩:=x;⟨_,I.at_⟩,fun _ _ y k=>y.keep k⟩
section
theorem Et (hc:X.calm=true):jX X (.type "set") (fun xs H Q=>∃ p ss,xs=[.ref p]/\(qB X.K H p (ss.map V.str)\/lu X.K H p (ss.map V.str))/\ss.length+1<jf/\∀ a,H a=none->Q (.ref a) (upd H a (lW X.w a (dn [] ss)))):=by
 intro pins s σ H xs us Q I r h;obtain ⟨p,ss,rfl,hq,hz,q⟩:=h;obtain ⟨u,rfl,rx⟩:=lS r;cases rx;have hh:=I.ok.hd hc;have fin:∀ (h':bT) (tk:Nat),lK X.w h' s.heap.objs.size (dn [] ss)->(∀ b o,s.heap.get? b=some o->h'.get? b=some o)->EP X pins σ Q (.ref s.heap.objs.size) { s with heap:=h',toks:=tk }:=fun h' tk hS kp =>
  ⟨.ref s.heap.objs.size,_,I.laid (t':=tk) kp (aq _) (CO hS),rfl,q _ (I.hok.fresh (aq _))⟩
 rcases hq with hq|hq
 ·obtain ⟨its,r',⟨o,n,ho,h1,h2,h3⟩,_⟩:=I.list hq;have sa:=jZ r';exact v9 (MQ (by simpa using hh) h1 ⟨n,h3⟩) ho (fun i v e=>yM sa i v (by simpa using e)) (by simp [fS sa]) (by simp [fS sa];exact hz) fin
 ·obtain ⟨its,r',⟨o,ho,h1,n,h3⟩,_⟩:=I.tuple hq;have sa:=jZ r';exact v9 (QQ (by simpa using hh) h1 ⟨n,h3⟩) ho (fun i v e=>yM sa i v (by simpa using e)) (by simp [fS sa]) (by simp [fS sa];exact hz) fin
theorem wz:jX X (.builtin "sorted") (fun xs H Q=>∃ p ss,xs=[.ref p]/\qB X.K H p (ss.map V.str)/\ss.length<64/\∀ l,H l=none->Q (.ref l) (upd H l (.lst ((jY ss).map V.str)))):=by
 intro pins s σ H xs us Q I r h;obtain ⟨p,ss,rfl,hq,hz,q⟩:=h;obtain ⟨u,rfl,rx⟩:=lS r;cases rx;obtain ⟨its,r',pl,hl⟩:=I.list hq;have sa:=jZ r';refine sorted_strs pl.isList sa (by rw [fS sa];exact hz) fun out ss' a1 a2 a3=>?_;obtain ⟨e,he⟩:=sortedAll_at s.heap its out;have kp:∀ b o,s.heap.get? b=some o->(sortedAll s.heap its out).get? b=some o:=fun b o=>sortedAll_old;obtain rfl:=Es a2 a3;refine ⟨.ref (s.heap.objs.size+1),upd H (s.heap.objs.size+1) (.lst ((jY ss).map V.str)),I.laid (t':=s.toks) kp (ko _) (show dz X.prog X.w _ _ _ (.lst _) from ⟨?_,out.toList,e,pH a1,by simpa [ji] using he⟩),rfl,q _ (I.hok.fresh (ko _))⟩;rw [ao,(i9 ss).length_eq];have:=hl;rw [ao] at this;exact this
theorem xQ (hc:X.calm=true):jX X (.builtin "sorted") (fun xs H Q=>∃ p ss,xs=[.ref p]/\H p=some (lW X.w p ss)/\ss.length<64/\∀ l,H l=none->Q (.ref l) (upd H l (.lst ((jY ss).map V.str)))):=by
 intro pins s σ H xs us Q I r h;obtain ⟨p,ss,rfl,hq,hz,q⟩:=h;obtain ⟨u,rfl,rx⟩:=lS r;cases rx;have hh:=I.ok.hd hc;obtain ⟨⟨es,ep,t,S,pm⟩,_⟩:=(show dz X.prog X.w H s.heap p (lW X.w p ss) from I.hok p _ hq);refine Er (Ep (by simpa using hh) S fun ord h' d tk po kp sz=>?_);obtain ⟨ss1,sa,p1⟩:=CN (ve S.txt) po;have ln:ss1.length=ss.length:=(p1.trans pm).length_eq;refine ⟨ss1,sa,by rw [fS sa,ln];exact hz,fun h2 vs' ss' e kp2 at2 sa2 p2 s2=>?_⟩;have kk:∀ b o,s.heap.get? b=some o->h2.get? b=some o:=fun b o e=>kp2 b o (kp b o e);have es':ss'=jY ss:=Es (p2.trans (p1.trans pm)) s2;subst es';have fr:=I.hok.fresh sz;have ok2:dz X.prog X.w (upd H h'.objs.size (.lst ((jY ss).map V.str))) h2 h'.objs.size (.lst ((jY ss).map V.str)) :=
  ⟨by rw [ao,(i9 ss).length_eq];exact ck (cm hz) (by rw [jw];decide),vs',e,pH sa2,at2⟩
 exact ⟨.ref h'.objs.size,_,I.call' (s':={ s with heap:=h2,drawn:=d,toks:=tk }) (ch:=[]) rfl (Un.laid kk sz fr) (I.hok.laid kk sz ok2) I.bare (fun b z=>absurd z (by simp)),rfl,q _ fr⟩
end
end
section
section
theorem xm {prog:bq}{w:bL}{B:cy}{bs:List Bool}{its:List af} (r:dC (bs.map V.bl) its):TruthOf prog w B (fun i v=>its.toArray[i]?=some v) (fun i=>bs.getD i false):=by
 intro i v s Q E hv hq;have hv:its[i]?=some v:=by simpa using hv
 have hl:=r.length;rw [ao] at hl;obtain ⟨hi,_⟩:=List.getElem?_eq_some_iff.mp hv;have hb:bs[i]?=some bs[i]:=bc (by omega);obtain ⟨u,hu,ru⟩:=r.get (i:=i) (x:=.bl bs[i]) (by rw [aU,hb];rfl);rw [hv] at hu;cases hu;cases ru;have hq:Q (bs.getD i false) s:=hq;rw [gg,hb] at hq;exact cK hq
theorem MV (bs:List Bool):(bx bs.length).all (fun i=>bs.getD i false)=bs.all id:=by
 rw [qY,cf,cf];constructor
 ·intro h b hb;obtain ⟨i,hi,rfl⟩:=Ka hb;have:=h i (List.mem_range.mpr hi);simpa [gg,hi] using this
 ·intro h i hi;have hi:=List.mem_range.mp hi;have:=h bs[i] (jj hi);simpa [gg,hi] using this
theorem MW (bs:List Bool):(bx bs.length).any (fun i=>bs.getD i false)=bs.any id:=by
 rw [qY,jl,jl];constructor
 ·rintro ⟨i,hi,h⟩;have hi:=List.mem_range.mp hi;exact ⟨bs[i],jj hi,by simpa [gg,hi] using h⟩
 ·rintro ⟨b,hb,h⟩;obtain ⟨i,hi,rfl⟩:=Ka hb;exact ⟨i,List.mem_range.mpr hi,by simpa [gg,hi] using h⟩
theorem yN (hc:X.calm=true):jX X (.builtin "all") (fun xs H Q=>∃ p,∃ bs:List Bool,xs=[.ref p]/\qB X.K H p (bs.map V.bl)/\Q (.bl (bs.all id)) H):=by
 intro pins s σ H xs us Q I r h;obtain ⟨p,bs,rfl,hq,q⟩:=h;obtain ⟨u,rfl,rx⟩:=lS r;cases rx;obtain ⟨its,r',pl,hl⟩:=I.list hq;have ln:its.toArray.size=bs.length:=by have:=r'.length;simp at this ⊢;omega
 obtain ⟨o,ho,hk⟩:=pl.isList;refine call_all_walk (qK pl.isList ⟨_,_,_,_,_,_,_,rfl,K7 (by simpa using I.ok.hd hc) _ p (aH (ar ho)) its.toArray,⟨⟨_,ax _ rfl,rfl,rfl⟩,pl.isList.push _⟩,xm r',fun h' tk kp=>?_⟩);rw [ln,MV];refine ⟨.bl _,H,I.kept (t':=tk) fun b o e=>kp b o ?_ (ac _ e),rfl,q⟩;simp only [c6];exact aH (ar e)
theorem yO (hc:X.calm=true):jX X (.builtin "any") (fun xs H Q=>∃ p,∃ bs:List Bool,xs=[.ref p]/\qB X.K H p (bs.map V.bl)/\Q (.bl (bs.any id)) H):=by
 intro pins s σ H xs us Q I r h;obtain ⟨p,bs,rfl,hq,q⟩:=h;obtain ⟨u,rfl,rx⟩:=lS r;cases rx;obtain ⟨its,r',pl,hl⟩:=I.list hq;have ln:its.toArray.size=bs.length:=by have:=r'.length;simp at this ⊢;omega
 obtain ⟨o,ho,hk⟩:=pl.isList;refine call_any_walk (qK pl.isList ⟨_,_,_,_,_,_,_,rfl,K7 (by simpa using I.ok.hd hc) _ p (aH (ar ho)) its.toArray,⟨⟨_,ax _ rfl,rfl,rfl⟩,pl.isList.push _⟩,xm r',fun h' tk kp=>?_⟩);rw [ln,MW];refine ⟨.bl _,H,I.kept (t':=tk) fun b o e=>kp b o ?_ (ac _ e),rfl,q⟩;simp only [c6];exact aH (ar e)
theorem KD:qQ X (bC .LtE) (fun x y H Q=>∃ i j,x=.str i/\y=.str j/\Q (.bl (!decide (j.cps.toList<i.cps.toList))) H):=by
 intro pins s σ H x y v u Q I rx ry h;obtain ⟨i,j,rfl,rfl,q⟩:=h;obtain ⟨t,rfl⟩:=rx;obtain ⟨t',rfl⟩:=ry;exact PySem.P.le_str (Cy I q rfl)
end
end
section
def VX (x:Str):It:=⟨fun i _=>i<x.cps.size,fun i H v H'=>H'=H/\∃ c,x.cps[i]?=some c/\v=.str ⟨#[c]⟩,fun i _=>x.cps.size<=i⟩
theorem MX {P:bq}{w:bL}{K:a8}{tg:bY} (x:Str) (t:Tok) (it:am):AI P w K tg (VX x) [it] it (fun i h=>h.IsStrIter it (iI x) x t i) where
 mem:=by simp
 obj:=fun i h st b hb=>by
  obtain rfl:b=it:=by simpa using hb
  obtain ⟨o,e,c,d⟩:=st;exact ⟨o,e,fun v z=>by rw [d] at z;cases z⟩
 keep:=fun i h h' st k=>let ⟨o,e,r⟩:=st;⟨o,k it (by simp) o e,r⟩
 item:=by
  intro X hP hw hK hc i pins s σ H E I hf st hg;subst hP hw hK;have hg:i<x.cps.size:=hg;obtain ⟨f0,f1,f2,f3,f4,f5⟩:=hf it (by simp);have hx:x.cps[i]?=some x.cps[i]:=getElem?_pos _ i hg;have go:∀ (h':bT) (tk tk':Nat),h'.IsStrIter it (iI x) x t (i+1)->bG it s.heap h'->∃ u,some (jU ⟨#[x.cps[i]]⟩ tk)=some u /\
    au (az X.prog X.w) X.A (hW tg (.ref it) u) (fun _ s2=>∃ v H',bP X pins σ H' s2/\dv v u/\(VX x).yld i H v H'/\s2.heap.IsStrIter it (iI x) x t (i+1)/\∀ b∈[it],H' b=none) E { s with heap:=h',toks:=tk' }:=fun h' tk tk' st' sb=>by
   have I1:bP X pins σ H { s with heap:=h',toks:=tk' }:=I.turned (fun b o hb e=>(sb.2 b hb).trans e) f0 f1 f3 f4 f5;refine ⟨_,rfl,?_⟩;have q:∃ v H',bP X pins σ H' { s with heap:=h',toks:=tk' }/\dv v (jU ⟨#[x.cps[i]]⟩ tk)/\(VX x).yld i H v H'/\h'.IsStrIter it (iI x) x t (i+1)/\∀ b∈[it],H' b=none :=
    ⟨.str ⟨#[x.cps[i]]⟩,H,I1,⟨tk,rfl⟩,⟨rfl,_,hx,rfl⟩,st',fun b hb=>(hf b hb).1⟩
   unfold hW;cases tg<;>exact a9 q
  cases ha:x.cps.all (·<128)
  ·have ty:iI x="str_iterator":=by unfold iI;rw [ha];rfl
   rw [ty] at st;exact wpAny_pyNext_wide_item st hx fun h' st' sb=>go h' _ _ (by rw [ty];exact st') sb
  ·have ty:iI x="str_ascii_iterator":=by unfold iI;rw [ha];rfl
   rw [ty] at st;exact wpAny_pyNext_ascii_item st hx fun h' st' sb=>go h' _ _ (by rw [ty];exact st') sb
 done:=by
  intro X hP hw hK hc i pins s σ H E I hf st hg;subst hP hw hK;have hg:x.cps.size<=i:=hg;obtain ⟨f0,f1,f2,f3,f4,f5⟩:=hf it (by simp);have hx:x.cps[i]?=none:=getElem?_neg _ i (Nat.not_lt.mpr hg);unfold iI at st;cases ha:x.cps.all (·<128)
  ·rw [ha] at st;exact wpAny_pyNext_wide_end (I.ok.hd hc) st hx fun h' eb=>⟨rfl,I.turned (t':=s.toks) (fun b o hb e=>eb b o hb e) f0 f1 f3 f4 f5⟩
  ·rw [ha] at st;exact wpAny_pyNext_ascii_end (I.ok.hd hc) st hx fun h' eb=>⟨rfl,I.turned (t':=s.toks) (fun b o hb e=>eb b o hb e) f0 f1 f3 f4 f5⟩
 self:=fun _ _ _ _ _ st h=>by
  unfold iI at st;cases ha:x.cps.all (·<128)
  ·rw [ha] at st;exact wpAny_pyIter_striter_wide st h
  ·rw [ha] at st;exact wpAny_pyIter_striter_ascii st h
def Ye (tl:TE):TI:=fun σ H R=>tl σ H fun v H1=>∃ x,v=.str x/\R (VX x) H1
theorem MY {X:Cx}{tg l:bY}{tl:TE} (hl:PE X l tl):PI X tg l (Ye tl):=by
 intro pins s σ H R I h;refine fR (hl pins s σ H _ I h) fun v s1 h_0=>?_;obtain ⟨y,H1,I1,r1,q1⟩:=h_0;obtain ⟨x,rfl,q⟩:=q1;obtain ⟨t,rfl⟩:=r1;refine wpAny_pyIter_strU ?_;refine ⟨s1.heap.objs.size,[s1.heap.objs.size],_,_,H1,rfl,I1.kept (t':=s1.toks) fun b o e=>ac _ e,MX x t _,⟨_,ax _ rfl,rfl,rfl⟩,fun b hb=>?_,q⟩;obtain rfl:b=s1.heap.objs.size:=by simpa using hb
 exact I1.fpOk (aq _) (I1.hok.fresh (aq _))
end
section
section
theorem bP.turnedL {t':Nat}{ch:List am} (I:bP X pins σ H s) (k:∀ b o,b∉ch->s.heap.get? b=some o->h'.get? b=some o) (hf:∀ b∈ch,rc X pins H b):bP X pins σ H { s with heap:=h',toks:=t' }:=by
 have nt:∀ b u,H b=some u->b∉ch:=fun b u e z=>by rw [(hf b z).1] at e;cases e
 refine I.step (g':=s.gens) (d':=s.drawn) (ch:=ch) (fun b hb=>?_) (fun b o _ _ hc e _=>k b o hc e) (fun b o _ _ hc e _=>⟨o.slots,k b o hc e⟩) (fun _ _ _ _ n=>n)
  (fun b o hc e=>⟨o,k b o hc e⟩) (fun _ _ e=>e) (fun _ _ _ e=>e) (fun b ps e=>⟨#[],by rw [e];simp⟩) (fun m hm=>?_) (fun b u e=>?_) I.bare
 ·obtain ⟨f0,f1,f2,f3,f4,f5⟩:=hf b hb;exact ⟨f3,f1,f4,f5⟩
 ·obtain ⟨o,es,ep,ho,r⟩:=hm;exact ⟨o,es,ep,k _ o (fun z=>(hf _ z).f1 rfl) ho,r⟩
 ·refine (I.hok b u e).stay (fun c v hc q=>k c v ?_ q) (fun _ q=>q) fun _ _ q=>q;rcases hc with z|z
  ·rw [z];exact nt b u e
  ·exact nt c _ z
theorem bP.track  (I:bP X pins σ H s) (hf:rc X pins H D) (new:dz X.prog X.w (upd H D ho) s.heap D ho):bP X pins σ (upd H D ho) s:=by
 obtain ⟨f0,f1,f2,f3,f4,f5⟩:=hf;have I':bP X pins σ (upd H D ho) { s with heap:=s.heap,gens:=s.gens,drawn:=s.drawn,toks:=s.toks }:=I.step (ch:=[D]) (fun b hb=>by
   obtain rfl:b=D:=by simpa using hb
   exact ⟨f3,f1,f4,f5⟩) (fun b o _ _ _ e _=>e) (fun b o _ _ _ e _=>⟨o.slots,e⟩) (fun b o hc e n=>by rw [bd (fun z=>hc (by simp [z]))];exact n) (fun b o _ e=>⟨o,e⟩)
  (fun b xs e=>by rw [bd (bU e f0)];exact e) (fun b o xs e=>by rw [bd (bU e f0)];exact e) (fun b ps e=>⟨#[],by rw [bd (bU e f0),e];simp⟩) (fun m hm=>hm) (wu I.hok f0 new) I.bare
 exact I'
end
section
theorem vf  (ti:s.heap.IsTupleIter it l i) (tl:s.heap.IsTuple l items) (hx:items[i]?=some x)
  (q:∀ h',h'.IsTupleIter it l (i+1)->bG it s.heap h'->Q x { s with heap:=h' }):au (az prog w) A (cC (.ref it)) Q E s:=by
 obtain ⟨oi,ei,ci,di⟩:=id ti;obtain ⟨ot,et,_,nt,dt⟩:=tl;unfold cC;refine a7 (cu (name:=gW "__next__") ti.typeIs jm ?_);refine bD jm ti.typeIs DT ?_ (Cm _);show au _ _ (Gu (.ref it) 0 >>= _) _ _ s;refine a7 (dR ei di (x:=.ref l) rfl ?_);show au _ _ (if (bt l==e8)=true then _ else _) _ _ s;rw [if_neg (fun z:(bt l==e8)=true=>bf z)];show au _ _ (Gu (.ref it) 1 >>= _) _ _ s;refine a7 (dR ei di (x:=.int i 0) rfl ?_);show au _ _ (LP (.ref l) >>= _) _ _ s;refine a7 (fB et dt ?_);simp only [kC,hx];refine a7 (gL ei di (by simp) (a9 ⟨x,rfl,a9 (q _ ?_ (bE ..))⟩));refine ⟨_,gm _ ei (Obj.isFreed_of_fields (M7 di _)),(Obj.cls_mapFields ..).trans ci,?_⟩;rw [M7 di];simp [cr]
theorem vg (hh:A.handled=none) (ti:s.heap.IsTupleIter it l i) (tl:s.heap.IsTuple l items) (hx:items[i]?=none)
  (q:∀ h' e,Ip it s.heap h'->(∃ o,h'.get? e=some o/\o.cls=.type "StopIteration")->E (.ref e) { s with heap:=h' }):au (az prog w) A (cC (.ref it)) Q E s:=by
 obtain ⟨oi,ei,ci,di⟩:=id ti;obtain ⟨ot,et,_,nt,dt⟩:=tl;unfold cC;refine a7 (cu (name:=gW "__next__") ti.typeIs jm ?_);refine bD jm ti.typeIs DT ?_ (Cm _);show au _ _ (Gu (.ref it) 0 >>= _) _ _ s;refine a7 (dR ei di (x:=.ref l) rfl ?_);show au _ _ (if (bt l==e8)=true then _ else _) _ _ s;rw [if_neg (fun z:(bt l==e8)=true=>bf z)];show au _ _ (Gu (.ref it) 1 >>= _) _ _ s;refine a7 (dR ei di (x:=.int i 0) rfl ?_);show au _ _ (LP (.ref l) >>= _) _ _ s;refine a7 (fB et dt ?_);simp only [kC,hx];refine a7 (df (a7 (gL ei di (by simp) ?_)));show au _ _ (u0 (.type "StopIteration") [] >>= _) _ _ _;refine a7 ?_;simp only [u0,Q8];refine a7 (bH ?_ (by size_fits));refine a7 (m:=lJ _ _) (fA (a:=e8) ?_ ?_)
 ·first
   |rfl
   |(simp only [lJ];rfl)
 refine bH ?_ (by size_fits);simp only [sZ];refine a7 (K8 ?_);rw [show A.in1.handled=none from hh];refine a7 (a9 (Q9 ?_));exact q _ _ (((bE ..).extBut.push _).push _) ⟨_,ax _ rfl,rfl⟩
theorem KF (hh:A.handled=none) (it l:am) (hne:l≠it) (items:Array af) :
  Draws prog w A it [it,l] items.size (fun i v=>items[i]?=some v) (fun i h=>h.IsTupleIter it l i/\h.IsTuple l items) where
 live:=fun i h st=>let ⟨o,e,_⟩:=st.1;⟨o,e⟩
 frame:=fun i h h' st k=>⟨let ⟨o,e,r⟩:=st.1;⟨o,k it (by simp) o e,r⟩,let ⟨o,e,r⟩:=st.2;⟨o,k l (by simp) o e,r⟩⟩
 item:=fun i s Q E hi st q=>vf st.1 st.2 (x:=items[i]) (by simp [hi]) fun h' t' sb=>q _ h' s.toks (by simp [hi]) ⟨t',st.2.extBut sb.extBut hne⟩ sb
 done:=fun s Q E st q=>vg hh st.1 st.2 (by simp) q
end
theorem yP (l:am) (items:Array af) (n:Nat) (dct:Option am) (sl:Array (Option af)) :
  Meets (jN.«enumerate.__new__» ⟨[.type "enumerate",.ref l],[]⟩) (fun _ R s=>s.heap.get? l=some { cls:=.type "tuple",dict:=dct,data:=.seq items n,slots:=sl } /\
   R (.ok (.ret (.ref (s.heap.push { cls:=.type "tuple_iterator",data:=.fields #[.ref l,.int 0 0] }).objs.size)))
    { s with heap:=(s.heap.push { cls:=.type "tuple_iterator",data:=.fields #[.ref l,.int 0 0] }).push { cls:=.type "enumerate",data:=.fields #[.none,.bool false,.ref s.heap.objs.size,cr 0,.none,.none] } }) :=
 .of_wp fun prog w A R s h=>by
  obtain ⟨hp,g,d,tk,os⟩:=s;obtain ⟨hl,h⟩:=h;have hsub:=PySem.sub_enumerate;have hL:G7 (G8 ⟨hp,g,d,tk,os⟩) l items:=⟨_,hl,rfl,n,rfl⟩;wp_walk using gx hl;refine wpAny_stack_any fun st=>a9 ?_;split
  ·rename_i c _ _ _ _ _
   cases (c==iW "enumerate")
   ·wp_walk using gx hl,gI hL;exact ⟨_,rfl,h⟩
   ·wp_walk using gx hl,gI hL;exact ⟨_,rfl,h⟩
  ·wp_walk using gx hl,gI hL;exact ⟨_,rfl,h⟩
end
section
section
theorem AN   (hL:s.heap.IsTuple l items)
  (h:∀ h',IsEnum h' (s.heap.objs.size+1) s.heap.objs.size 0 .none->h'.IsTupleIter s.heap.objs.size l 0->(∀ b o,s.heap.get? b=some o->h'.get? b=some o)->h'.objs.size=s.heap.objs.size+2 ->
   Q (.ref (s.heap.objs.size+1)) { s with heap:=h' }):au (az prog w) A (call (.type "enumerate") [.ref l]) Q E s:=by
 obtain ⟨⟨c,dc,dt,sl⟩,hl,hc,n,hd⟩:=hL;obtain rfl:c=.type "tuple":=hc;obtain rfl:dt=.seq items n:=hd;refine callType_new F.called_enumerate (by decide) (F.typeCall_enumerate_1 _) (F.newCall_enumerate_1 _) (fun obj=>F.args_object_init_2 obj _) F.entry_enumerate_new (yP l items n dc sl) ⟨hl,?_⟩;have z1:(s.heap.push { cls:=.type "tuple_iterator",data:=.fields #[.ref l,.int 0 0] }).objs.size=s.heap.objs.size+1:=cg ..;show _/\_;rw [z1];have he:IsEnum ((s.heap.push { cls:=.type "tuple_iterator",data:=.fields #[.ref l,.int 0 0] }).push { cls:=.type "enumerate",data:=.fields #[.none,.bool false,.ref s.heap.objs.size,cr 0,.none,.none] }) (s.heap.objs.size+1) s.heap.objs.size 0 .none:=by
  have q:=ax (s.heap.push { cls:=.type "tuple_iterator",data:=.fields #[.ref l,.int 0 0] }) (o:={ cls:=.type "enumerate",data:=.fields #[.none,.bool false,.ref s.heap.objs.size,cr 0,.none,.none] }) rfl;rw [z1] at q;exact q
 exact ⟨⟨_,he,rfl⟩,h _ he ⟨_,ac _ (ax _ rfl),rfl,rfl⟩ (fun b o e=>ac _ (ac _ e)) (by rw [cg,z1])⟩
end
def Yf (K:a8) (a:am):It :=
 ⟨fun i H=>∃ xs x,lu K H a xs/\xs[i]?=some x,fun i H v H'=>∃ p,H p=none/\v=.ref p/\∀ xs,lu K H a xs->∃ x,xs[i]?=some x/\H'=upd H p (.tup [.int i,x]),fun i H=>∃ xs,lu K H a xs/\xs.length<=i⟩
theorem KG {P:bq}{w:bL}{K:a8}{elts:List bY}{x1}{pos:Pos} (a e it:am) (hei:e≠it):AI P w K (.Tuple elts x1 pos) (Yf K a) [e,it] e (fun i h=>(∃ old,IsEnum h e it i old)/\h.IsTupleIter it a i) where
 mem:=by simp
 obj:=fun i h st b hb=>by
  simp only [aZ,bi,or_false] at hb;rcases hb with rfl|rfl
  ·obtain ⟨⟨old,q⟩,_⟩:=st;exact ⟨_,q,fun v z=>by cases z⟩
  ·obtain ⟨_,o,q,_,d⟩:=st;exact ⟨o,q,fun v z=>by rw [d] at z;cases z⟩
 keep:=fun i h h' st k=>⟨let ⟨old,q⟩:=st.1;⟨old,k e (by simp) _ q⟩,let ⟨o,q,r⟩:=st.2;⟨o,k it (by simp) o q,r⟩⟩
 item:=by
  intro X hP hw hK hc i pins s σ H E I hf st hg;subst hP hw hK;obtain ⟨xs,x,hq,hx⟩:=hg;obtain ⟨its,rv,p,hz⟩:=I.tuple hq;obtain ⟨u,hu,ru⟩:=rv.get hx;obtain ⟨⟨old,he⟩,hit⟩:=st;have hit0:=hit;obtain ⟨oi,ei,_⟩:=hit0;have hai:a≠it:=fun z=>by
   obtain ⟨o1,e1,c1,_⟩:=p;obtain ⟨o2,e2,c2,_⟩:=hit;rw [z,e2] at e1;cases e1;rw [c2] at c1;exact absurd (Iq c1) (by decide)
  have hae:a≠e:=fun z=>by
   obtain ⟨o1,e1,c1,_⟩:=p;rw [z,he] at e1;cases e1;exact absurd (Iq (show iW "enumerate"=iW "tuple" from c1)) (by decide)
  have hlt:i<its.toArray.size:=by simp;exact (List.getElem?_eq_some_iff.mp hu).1
  have he0:=ar he;refine wpAny_pyNext_enum_itemD (KF (by simpa using I.ok.hd hc) it a hai its.toArray) he ⟨hit,p⟩ hlt hei (by simp [hei,cY hae]) ?_;intro x' h1 tk hx' eo st1 tup sz k1;have hx'':its[i]?=some x':=by simpa using hx'
  rw [hu] at hx'';cases hx'';refine ⟨_,rfl,wpAny_letOwnedTupleGo_enum eo fun h2 e2 sb2=>?_⟩;have szn:s.heap.objs.size≠e:=fc he0;have I2:bP X pins σ H { s with heap:=h2,toks:=tk+1 }:=I.turnedL (ch:=[e,it]) (fun b o hb q=>by
   simp only [aZ,bi,or_false,not_or] at hb;exact (sb2.2 b hb.1).trans (k1 b o hb.1 hb.2 q)) hf
  have fT:=I.fpOk (H':=H) (aq _) (I.hok.fresh (aq _));have tup2:h2.get? s.heap.objs.size=some { cls:=.type "tuple",data:=.seq #[.int i tk,u] }:=(sb2.2 _ szn).trans tup;have I3:=I2.track (ho:=.tup [.int i,x]) fT ⟨by show 2<=sizeLine;decide,[.int i tk,u],.cons ⟨tk,rfl⟩ (.cons ru .nil),⟨_,tup2,rfl,0,rfl⟩⟩;refine ⟨.ref s.heap.objs.size,_,I3,rfl,⟨_,fT.1,rfl,fun ys hy=>?_⟩,⟨⟨u,?_⟩,?_⟩,fun b hb=>?_⟩
  ·rw [I.tuple_inj hy hq];exact ⟨x,hx,rfl⟩
  ·have:(((i+1:Nat):Int))=(i:Int)+1:=by omega
   rw [this];exact e2
  ·obtain ⟨o,q,r⟩:=st1.1;exact ⟨o,(sb2.2 it (cY hei)).trans q,r⟩
  ·rw [bd]
   ·exact (hf b hb).1
   ·simp only [aZ,bi,or_false] at hb;rcases hb with z|z
    ·rw [z];exact aH he0
    ·rw [z];exact aH (ar ei)
 done:=by
  intro X hP hw hK hc i pins s σ H E I hf st hg;subst hP hw hK;obtain ⟨xs,hq,hx⟩:=hg;obtain ⟨its,rv,p,hz⟩:=I.tuple hq;obtain ⟨⟨old,he⟩,hit⟩:=st;have hl:=rv.length;have hT:s.TypeIs (.ref e) "enumerate":=⟨_,he,rfl⟩;unfold lF;refine a7 (kq (cu (name:=gW "__next__") hT LS ?_));refine bD LS hT F.entry_enumerate_next ?_ (F.args_enumerate_next_1 _);show au _ _ (Gu (.ref e) 2 >>= _) _ _ _;refine a7 (dR he rfl (x:=.ref it) rfl ?_);refine a7 (vg (by simpa using I.ok.hd hc) hit (show s.heap.IsTuple a its.toArray from p) (by simp;omega) fun h' z eb hz'=>?_);obtain ⟨o,ho,hcl⟩:=hz';refine a7 (gC (T:="StopIteration") (b:=true) ⟨o,ho,hcl⟩ wf ?_);exact a9 ⟨rfl,I.turnedL (t':=s.toks) (ch:=[e,it]) (fun b o hb q=>eb b o (by
   simp only [aZ,bi,or_false,not_or] at hb;exact hb.2) q) hf⟩
 self:=fun _ _ _ _ _ st h=>let ⟨⟨_,q⟩,_⟩:=st;wpAny_pyIter_enum q h
def VY (K:a8) (ta:TA):TI:=fun σ H R=>ta σ H fun vs H1=>∃ a xs,vs=[.ref a]/\lu K H1 a xs/\R (Yf K a) H1
theorem QR {X:Cx}{elts:List bY}{x1}{tpos p pos:Pos}{a:bY}{ta:TA} (hg:Gl X "enumerate") (hm:X.mg "enumerate"=none) (ha:PA X [a] ta) (hs:aJ [a] X.env=[(false,eD a X.env)]:=by rfl) :
  PI X (.Tuple elts x1 tpos) (.Call (.Name "enumerate" p) [a] [] pos) (VY X.K ta):=by
 intro pins s σ H R I h;refine Call_ (wo I hg hm boot_enumerate (i5 (fR (ha pos pins s σ H _ I h) fun us s1 ⟨vs,H1,I1,r1,q1⟩=>?_) hs rfl));obtain ⟨ad,xs,rfl,hq,q⟩:=q1;obtain ⟨u,rfl,rx⟩:=lS r1;cases rx;obtain ⟨its,rv,tp,hz⟩:=I1.tuple hq;refine AN (show s1.heap.IsTuple ad its.toArray from tp) fun h' e1 t1 kp sz=>?_;refine wpAny_pyIter_enum e1 ?_;have I2:bP X pins σ H1 { s1 with heap:=h' }:=I1.kept (t':=s1.toks) kp;refine ⟨s1.heap.objs.size+1,[s1.heap.objs.size+1,s1.heap.objs.size],_,_,H1,rfl,I2,KG ad _ _ (fc (f_ _)),⟨⟨.none,e1⟩,t1⟩,fun b hb=>?_,q⟩;simp only [aZ,bi,or_false] at hb;rcases hb with z|z
 ·rw [z];exact I1.fpOk (ko _) (I1.hok.fresh (ko _))
 ·rw [z];exact I1.fpOk (aq _) (I1.hok.fresh (aq _))
end
section
section
variable {prog:bq}{w:bL}{A:cy}{E:af->al->Prop}{s:al}{z TI TO i1 i2 l1 l2:am}{k1 k2:Nat}{xs ys:Array af}{x y a b:af}
theorem jx    (t:h.IsTupleIter it l k) (sb:bG c h h') (ne:it≠c):h'.IsTupleIter it l k:=t.extBut sb.extBut ne
theorem pI    (t:h.IsTuple l xs) (sb:bG c h h') (ne:l≠c):h'.IsTuple l xs:=t.extBut sb.extBut ne
theorem MZ {Q:af->al->Prop} (D:Qa z TI TO i1 i2 l1 l2) (za:wg s.heap z TI TO .none) (pa:kF s.heap TI (.ref i1) (.ref i2)) (pb:kF s.heap TO a b)
  (u1:s.heap.IsTupleIter i1 l1 k1) (u2:s.heap.IsTupleIter i2 l2 k2) (v1:s.heap.IsTuple l1 xs) (v2:s.heap.IsTuple l2 ys) (hx:xs[k1]?=some x) (hy:ys[k2]?=some y)
  (q:∀ h',wg h' z TI TO (cr s.heap.objs.size)->kF h' TO x y->h'.IsTupleIter i1 l1 (k1+1)->h'.IsTupleIter i2 l2 (k2+1)->kF h' s.heap.objs.size x y ->
   (∀ c o,c≠z->c≠TO->c≠i1->c≠i2->s.heap.get? c=some o->h'.get? c=some o)->Q (.ref s.heap.objs.size) { s with heap:=h' }) :
  au (az prog w) A (jN.«zip.__next__» ⟨[.ref z],[]⟩) (fun fin s'=>∃ v,fin=.done (.ret v)/\Q v s') E s:=by
 show au _ _ (Gu (.ref z) 2 >>= _) _ _ _;refine a7 (dR za rfl (x:=.bool false) rfl ?_);show au _ _ (Gu (.ref z) 3 >>= _) _ _ _;refine a7 (dR za rfl (x:=.ref TI) rfl ?_);refine a7 (fB pa rfl ?_);show au _ _ (eN (.ref z) >>= _) _ _ _;refine a7 ?_;unfold eN;refine a7 (dR za rfl (x:=.none) rfl (a9 ?_));simp only [if_true];refine a7 (df ?_);refine a7 (dR za rfl (x:=.ref TO) rfl ?_);refine a7 (iP za (by simp) fun g1 z1 b1=>?_);replace z1:wg g1 z TI TO .ellipsis:=z1;refine a7 ?_;simp only [yb,Qb,jM,nj];refine a7 (a7 (yc ?_));show au _ _ (cC (.ref i1) >>= _) _ _ _;refine a7 (vf (jx u1 b1 D.i1z) (pI v1 b1 D.l1z) hx fun g2 w1 b2=>a9 ?_);have p2:kF g2 TO a b:=b2.extBut _ _ D.TOi1 (b1.extBut _ _ D.TOz pb);refine a7 (fB p2 rfl (a7 (wj p2 fun g3 p3 b3=>?_)));replace p3:kF g3 TO x b:=p3;refine a7 (Qc (a9 (a7 (a7 (yc ?_)))));show au _ _ (cC (.ref i2) >>= _) _ _ _;refine a7 (vf (jx (jx (jx u2 b1 D.i2z) b2 D.i12.symm) b3 D.TOi2.symm) (pI (pI (pI v2 b1 D.l2z) b2 D.l2i1) b3 D.l2TO) hy fun g4 w2 b4=>a9 ?_);have p4:kF g4 TO x b:=b4.extBut _ _ D.TOi2 p3;refine a7 (fB p4 rfl (a7 (wj p4 fun g5 p5 b5=>?_)));replace p5:kF g5 TO x y:=p5;refine a7 (Qc (a9 (a9 ?_)));refine a7 (fB p5 rfl (a7 (wpAny_newTuple ?_)));have sz:g5.objs.size=s.heap.objs.size:=by rw [b5.1,b4.1,b3.1,b2.1,b1.1]
 have z5:wg g5 z TI TO .ellipsis:=b5.extBut _ _ D.TOz.symm (b4.extBut _ _ D.i2z.symm (b3.extBut _ _ D.TOz.symm (b2.extBut _ _ D.i1z.symm z1)));have k5:∀ c o,c≠z->c≠TO->c≠i1->c≠i2->s.heap.get? c=some o->g5.get? c=some o:=fun c o n1 n2 n3 n4 e =>
  b5.extBut _ _ n2 (b4.extBut _ _ n4 (b3.extBut _ _ n2 (b2.extBut _ _ n3 (b1.extBut _ _ n1 e))))
 have y1:g5.IsTupleIter i1 l1 (k1+1):=jx (jx (jx w1 b3 D.TOi1.symm) b4 D.i12) b5 D.TOi1.symm;have y2:g5.IsTupleIter i2 l2 (k2+1):=jx w2 b5 D.TOi2.symm;have zl:z<g5.objs.size:=ar z5;show au _ _ (nq (.ref z) (.ref g5.objs.size) >>= _) _ _ _;refine a7 ?_;unfold nq;have z6:wg (g5.push { cls:=.type "tuple",data:=.seq #[x,y] }) z TI TO .ellipsis:=ac _ z5;refine a7 (iP z6 (by simp) fun g7 z7 b7=>?_);replace z7:wg g7 z TI TO (cr g5.objs.size):=z7;refine iP z7 (by simp) fun g8 z8 b8=>?_;replace z8:wg g8 z TI TO (cr g5.objs.size):=z8;have up:∀ c o,c≠z->g5.get? c=some o->g8.get? c=some o:=fun c o n1 e=>b8.extBut _ _ n1 (b7.extBut _ _ n1 (ac _ e));have p8:kF g8 g5.objs.size x y:=b8.extBut _ _ (fc zl) (b7.extBut _ _ (fc zl) (ax _ rfl));rw [sz] at z8 p8;refine a9 ⟨_,rfl,?_⟩;show Q (.ref g5.objs.size) _;rw [sz];exact q g8 z8 (up _ _ D.TOz p5) (let ⟨o,e,r⟩:=y1;⟨o,up _ o D.i1z e,r⟩) (let ⟨o,e,r⟩:=y2;⟨o,up _ o D.i2z e,r⟩) p8 fun c o n1 n2 n3 n4 e=>up c o n1 (k5 c o n1 n2 n3 n4 e)
theorem M_ (hh:A.handled=none) (D:Qa z TI TO i1 i2 l1 l2) (za:wg s.heap z TI TO .none) (pa:kF s.heap TI (.ref i1) (.ref i2)) (pb:kF s.heap TO a b)
  (u1:s.heap.IsTupleIter i1 l1 k1) (u2:s.heap.IsTupleIter i2 l2 k2) (v1:s.heap.IsTuple l1 xs) (v2:s.heap.IsTuple l2 ys) (hend:xs[k1]?=none\/ys[k2]?=none)
  (q:∀ h' e,(∀ c o,c≠z->c≠TO->c≠i1->c≠i2->s.heap.get? c=some o->h'.get? c=some o)->(∃ o,h'.get? e=some o/\o.cls=.type "StopIteration")->E (.ref e) { s with heap:=h' }) :
  au (az prog w) A (jN.«zip.__next__» ⟨[.ref z],[]⟩) Q E s:=by
 show au _ _ (Gu (.ref z) 2 >>= _) _ _ _;refine a7 (dR za rfl (x:=.bool false) rfl ?_);show au _ _ (Gu (.ref z) 3 >>= _) _ _ _;refine a7 (dR za rfl (x:=.ref TI) rfl ?_);refine a7 (fB pa rfl ?_);show au _ _ (eN (.ref z) >>= _) _ _ _;refine a7 ?_;unfold eN;refine a7 (dR za rfl (x:=.none) rfl (a9 ?_));simp only [if_true];refine a7 (df ?_);refine a7 (dR za rfl (x:=.ref TO) rfl ?_);refine a7 (iP za (by simp) fun g1 z1 b1=>?_);replace z1:wg g1 z TI TO .ellipsis:=z1;refine a7 ?_;simp only [yb,Qb,jM,nj];refine a7 (a7 (yc ?_));show au _ _ (cC (.ref i1) >>= _) _ _ _;cases hx:xs[k1]? with
 |none =>
  refine a7 (vg hh (jx u1 b1 D.i1z) (pI v1 b1 D.l1z) hx fun g2 e b2 he=>?_);obtain ⟨oe,ee,ce⟩:=he;have z2:wg g2 z TI TO .ellipsis:=b2 _ _ D.i1z.symm z1;have ez:e≠z:=fun n=>by subst n;rw [z2] at ee;cases ee;simp at ce
  refine iP z2 (by simp) fun g3 _ b3=>q g3 e (fun c o n1 _ n3 _ m=>b3.extBut _ _ n1 (b2 _ _ n3 (b1.extBut _ _ n1 m))) ⟨oe,b3.extBut _ _ ez ee,ce⟩
 |some x =>
  have hy:ys[k2]?=none:=hend.resolve_left fun n=>by rw [hx] at n;cases n
  refine a7 (vf (jx u1 b1 D.i1z) (pI v1 b1 D.l1z) hx fun g2 w1 b2=>a9 ?_);have p2:kF g2 TO a b:=b2.extBut _ _ D.TOi1 (b1.extBut _ _ D.TOz pb);refine a7 (fB p2 rfl (a7 (wj p2 fun g3 p3 b3=>?_)));refine a7 (Qc (a9 (a7 (a7 (yc ?_)))));show au _ _ (cC (.ref i2) >>= _) _ _ _;refine a7 (vg hh (jx (jx (jx u2 b1 D.i2z) b2 D.i12.symm) b3 D.TOi2.symm) (pI (pI (pI v2 b1 D.l2z) b2 D.l2i1) b3 D.l2TO) hy fun g4 e b4 he=>?_);obtain ⟨oe,ee,ce⟩:=he;have z4:wg g4 z TI TO .ellipsis:=b4 _ _ D.i2z.symm (b3.extBut _ _ D.TOz.symm (b2.extBut _ _ D.i1z.symm z1));have ez:e≠z:=fun n=>by subst n;rw [z4] at ee;cases ee;simp at ce
  refine iP z4 (by simp) fun g5 _ b5=>q g5 e (fun c o n1 n2 n3 n4 m=>b5.extBut _ _ n1 (b4 _ _ n4 (b3.extBut _ _ n2 (b2.extBut _ _ n3 (b1.extBut _ _ n1 m))))) ⟨oe,b5.extBut _ _ ez ee,ce⟩
end
abbrev Xs (h:bT) (l1:am):bT:=h.push { cls:=.type "tuple_iterator",data:=.fields #[.ref l1,.int 0 0] }
abbrev Xt (h:bT) (l1 l2:am):bT:=(Xs h l1).push { cls:=.type "tuple_iterator",data:=.fields #[.ref l2,.int 0 0] }
abbrev Xu (h:bT) (l1 l2:am):bT:=(Xt h l1 l2).push { cls:=.type "tuple",data:=.seq #[.ref h.objs.size,.ref (Xs h l1).objs.size] }
abbrev Xv (h:bT) (l1 l2:am):bT:=(Xu h l1 l2).push { cls:=.type "tuple",data:=.seq #[.none,.none] }
abbrev Vi (h:bT) (l1 l2:am):bT:=(Xv h l1 l2).push { cls:=.type "zip",data:=.fields #[.none,.bool false,.bool false,.ref (Xt h l1 l2).objs.size,.ref (Xu h l1 l2).objs.size] }
theorem AO (l1 l2:am) (xs ys:Array af) :
  Meets (jN.«zip.__new__» ⟨[.type "zip",.ref l1,.ref l2],[]⟩) (fun _ R s=>s.heap.IsTuple l1 xs/\s.heap.IsTuple l2 ys/\R (.ok (.ret (.ref (Xv s.heap l1 l2).objs.size))) { s with heap:=Vi s.heap l1 l2 }) :=
 .of_wp fun prog w A R s h=>by
  obtain ⟨hp,g,d,tk,os⟩:=s;obtain ⟨v1,v2,h⟩:=h;have hsub:=PySem.sub_zip;have L1:G7 (G8 ⟨hp,g,d,tk,os⟩) l1 xs:=v1;have L2:G7 (G8 ⟨hp.push { cls:=.type "tuple_iterator",data:=.fields #[.ref l1,.int 0 0] },g,d,tk,os⟩) l2 ys:=Heap.IsTuple.push v2 _;wp_walk using gI L1,gI L2;exact ⟨_,rfl,h⟩
section
theorem CQ   (v1:s.heap.IsTuple l1 xs) (v2:s.heap.IsTuple l2 ys)
  (h:∀ h',wg h' (s.heap.objs.size+4) (s.heap.objs.size+2) (s.heap.objs.size+3) .none->kF h' (s.heap.objs.size+2) (.ref s.heap.objs.size) (.ref (s.heap.objs.size+1)) ->
   kF h' (s.heap.objs.size+3) .none .none->h'.IsTupleIter s.heap.objs.size l1 0->h'.IsTupleIter (s.heap.objs.size+1) l2 0 ->
   (∀ c o,s.heap.get? c=some o->h'.get? c=some o)->Q (.ref (s.heap.objs.size+4)) { s with heap:=h' }):au (az prog w) A (call (.type "zip") [.ref l1,.ref l2]) Q E s:=by
 refine callType_new F.called_zip (by decide) (F.typeCall_zip_2 _ _) (F.newCall_zip_2 _ _) (fun obj=>F.args_object_init_3 obj _ _) F.entry_zip_new (AO l1 l2 xs ys) ⟨v1,v2,?_⟩;have n1:(Xs s.heap l1).objs.size=s.heap.objs.size+1:=cg ..;have n2:(Xt s.heap l1 l2).objs.size=s.heap.objs.size+2:=by rw [cg,n1]
 have n3:(Xu s.heap l1 l2).objs.size=s.heap.objs.size+3:=by rw [cg,n2]
 have n4:(Xv s.heap l1 l2).objs.size=s.heap.objs.size+4:=by rw [cg,n3]
 have c5:(Vi s.heap l1 l2).get? (Xv s.heap l1 l2).objs.size=some _:=ax _ rfl;have c4:(Vi s.heap l1 l2).get? (Xu s.heap l1 l2).objs.size=some _:=ac _ (ax _ rfl);have c3:(Vi s.heap l1 l2).get? (Xt s.heap l1 l2).objs.size=some _:=ac _ (ac _ (ax _ rfl));have c2:(Vi s.heap l1 l2).get? (Xs s.heap l1).objs.size=some _:=ac _ (ac _ (ac _ (ax _ rfl)));have c1:(Vi s.heap l1 l2).get? s.heap.objs.size=some _:=ac _ (ac _ (ac _ (ac _ (ax _ rfl))));show _/\_;rw [n2,n3,n4] at c5;rw [n1,n2] at c3;rw [n3] at c4;rw [n1] at c2;rw [n4];exact ⟨⟨_,c5,rfl⟩,h _ c5 c3 c4 ⟨_,c1,rfl,rfl⟩ ⟨_,c2,rfl,rfl⟩ fun c o e=>ac _ (ac _ (ac _ (ac _ (ac _ e))))⟩
end
theorem lu.ne_fp       (I:bP X pins σ H s) (hq:lu X.K H a xs) (hf:rc X pins H b):a≠b:=by
 rintro rfl;rcases hq with (h|⟨o,h⟩)|⟨o,its,n,hk,_⟩
 ·rw [hf.1] at h;cases h
 ·rw [hf.1] at h;cases h
 ·have e:X.base.get? a=some o:=I.mod.kin a o hk;rcases hf.f3 with z|z
  ·exact I.ok.noex a o e z
  ·exact absurd (aE (ar e) (ck I.ok.bsz z)) (bN _)
def Yg (K:a8) (a b:am):It :=
 ⟨fun i H=>∃ xs ys x y,lu K H a xs/\lu K H b ys/\xs[i]?=some x/\ys[i]?=some y,
  fun i H v H'=>∃ p,H p=none/\v=.ref p/\∀ xs ys,lu K H a xs->lu K H b ys->∃ x y,xs[i]?=some x/\ys[i]?=some y/\H'=upd H p (.tup [x,y]),
  fun i H=>∃ xs ys,lu K H a xs/\lu K H b ys/\(xs.length<=i\/ys.length<=i)⟩
structure Yh (z TI TO i1 i2:am):Prop where
 d1:TI≠z
 d2:TO≠z
 d3:i1≠z
 d4:i2≠z
 d5:TI≠TO
 d6:TI≠i1
 d7:TI≠i2
 d8:TO≠i1
 d9:TO≠i2
 d0:i1≠i2
theorem N0 {P:bq}{w:bL}{K:a8}{elts:List bY}{x1}{pos:Pos} (l1 l2 z TI TO i1 i2:am) (Z:Yh z TI TO i1 i2) :
  AI P w K (.Tuple elts x1 pos) (Yg K l1 l2) [z,TI,TO,i1,i2] z (fun i h=>wg h z TI TO .none/\kF h TI (.ref i1) (.ref i2)/\(∃ a b,kF h TO a b)/\h.IsTupleIter i1 l1 i/\h.IsTupleIter i2 l2 i) where
 mem:=by simp
 obj:=fun i h st b hb=>by
  obtain ⟨s1,s2,⟨_,_,s3⟩,⟨o4,e4,_,f4⟩,⟨o5,e5,_,f5⟩⟩:=st;simp only [aZ,bi,or_false] at hb;rcases hb with rfl|rfl|rfl|rfl|rfl
  ·exact ⟨_,s1,fun v q=>by cases q⟩
  ·exact ⟨_,s2,fun v q=>by cases q⟩
  ·exact ⟨_,s3,fun v q=>by cases q⟩
  ·exact ⟨o4,e4,fun v q=>by rw [f4] at q;cases q⟩
  ·exact ⟨o5,e5,fun v q=>by rw [f5] at q;cases q⟩
 keep:=fun i h h' st k=>by
  obtain ⟨s1,s2,⟨u,v,s3⟩,⟨o4,e4,r4⟩,⟨o5,e5,r5⟩⟩:=st;exact ⟨k z (by simp) _ s1,k TI (by simp) _ s2,⟨u,v,k TO (by simp) _ s3⟩,⟨o4,k i1 (by simp) _ e4,r4⟩,⟨o5,k i2 (by simp) _ e5,r5⟩⟩
 item:=by
  intro X hP hw hK hc i pins s σ H E I hf st hg;subst hP hw hK;obtain ⟨xs,ys,x,y,hq1,hq2,hx,hy⟩:=hg;obtain ⟨its1,rv1,p1,_⟩:=I.tuple hq1;obtain ⟨its2,rv2,p2,_⟩:=I.tuple hq2;obtain ⟨u,hu,ru⟩:=rv1.get hx;obtain ⟨v,hv,rv⟩:=rv2.get hy;obtain ⟨s1,s2,⟨a,b,s3⟩,s4,s5⟩:=st;have ne1:∀ b∈[z,TI,TO,i1,i2],l1≠b:=fun b hb=>hq1.ne_fp I (hf b hb);have ne2:∀ b∈[z,TI,TO,i1,i2],l2≠b:=fun b hb=>hq2.ne_fp I (hf b hb);have D:Qa z TI TO i1 i2 l1 l2:=⟨Z.d1,Z.d2,Z.d3,Z.d4,Z.d5,Z.d6,Z.d7,Z.d8,Z.d9,Z.d0,ne1 z (by simp),ne1 TO (by simp),ne1 i1 (by simp),ne1 i2 (by simp),ne2 z (by simp),ne2 TO (by simp),ne2 i1 (by simp),ne2 i2 (by simp)⟩;have zl:=ar s1;have hT:s.TypeIs (.ref z) "zip":=⟨_,s1,rfl⟩;unfold lF;refine a7 (kq (cu (name:=gW "__next__") hT tE ?_));refine bD tE hT F.entry_zip_next (MZ D s1 s2 s3 s4 s5 p1 p2 (by simpa using hu) (by simpa using hv) fun h1 z1 t1 y1 y2 pr k1=>?_) (F.args_zip_next_1 _);refine a9 ⟨_,rfl,wpAny_letOwnedTupleGo_zip z1 fun h2 z2 b2=>?_⟩;have szn:s.heap.objs.size≠z:=fc zl;have TIk:kF h1 TI (.ref i1) (.ref i2):=k1 TI _ Z.d1 Z.d5 Z.d6 Z.d7 s2;have I2:bP X pins σ H { s with heap:=h2 }:=I.turnedL (t':=s.toks) (ch:=[z,TI,TO,i1,i2]) (fun b o hb q=>by
   simp only [aZ,bi,or_false,not_or] at hb;exact (b2.2 b hb.1).trans (k1 b o hb.1 hb.2.2.1 hb.2.2.2.1 hb.2.2.2.2 q)) hf
  have fT:=I.fpOk (H':=H) (aq _) (I.hok.fresh (aq _));have pr2:h2.get? s.heap.objs.size=some { cls:=.type "tuple",data:=.seq #[u,v] }:=(b2.2 _ szn).trans pr;have I3:=I2.track (ho:=.tup [x,y]) fT ⟨by show 2<=sizeLine;decide,[u,v],.cons ru (.cons rv .nil),⟨_,pr2,rfl,0,rfl⟩⟩;refine ⟨.ref s.heap.objs.size,_,I3,rfl,⟨_,fT.1,rfl,fun xs' ys' h1 h2=>?_⟩,⟨z2,(b2.2 TI Z.d1).trans TIk,⟨u,v,(b2.2 TO Z.d2).trans t1⟩,jx y1 b2 Z.d3,jx y2 b2 Z.d4⟩,fun b hb=>?_⟩
  ·rw [I.tuple_inj h1 hq1,I.tuple_inj h2 hq2];exact ⟨x,y,hx,hy,rfl⟩
  ·have bl:b<s.heap.objs.size:=by
    simp only [aZ,bi,or_false] at hb;rcases hb with q|q|q|q|q
    ·rw [q];exact zl
    ·rw [q];exact ar s2
    ·rw [q];exact ar s3
    ·obtain ⟨_,e,_⟩:=s4;rw [q];exact ar e
    ·obtain ⟨_,e,_⟩:=s5;rw [q];exact ar e
   rw [bd (aH bl)];exact (hf b hb).1
 done:=by
  intro X hP hw hK hc i pins s σ H E I hf st hg;subst hP hw hK;obtain ⟨xs,ys,hq1,hq2,hend⟩:=hg;obtain ⟨its1,rv1,p1,_⟩:=I.tuple hq1;obtain ⟨its2,rv2,p2,_⟩:=I.tuple hq2;obtain ⟨s1,s2,⟨a,b,s3⟩,s4,s5⟩:=st;have ne1:∀ b∈[z,TI,TO,i1,i2],l1≠b:=fun b hb=>hq1.ne_fp I (hf b hb);have ne2:∀ b∈[z,TI,TO,i1,i2],l2≠b:=fun b hb=>hq2.ne_fp I (hf b hb);have D:Qa z TI TO i1 i2 l1 l2:=⟨Z.d1,Z.d2,Z.d3,Z.d4,Z.d5,Z.d6,Z.d7,Z.d8,Z.d9,Z.d0,ne1 z (by simp),ne1 TO (by simp),ne1 i1 (by simp),ne1 i2 (by simp),ne2 z (by simp),ne2 TO (by simp),ne2 i1 (by simp),ne2 i2 (by simp)⟩;have hT:s.TypeIs (.ref z) "zip":=⟨_,s1,rfl⟩;have n1:=rv1.length;have n2:=rv2.length;unfold lF;refine a7 (kq (cu (name:=gW "__next__") hT tE ?_));refine bD tE hT F.entry_zip_next (M_ (by simpa using I.ok.hd hc) D s1 s2 s3 s4 s5 p1 p2 (hend.elim (fun q=>.inl (by simp;omega)) fun q=>.inr (by simp;omega)) fun h' e kp he=>?_) (F.args_zip_next_1 _);obtain ⟨o,eo,co⟩:=he;refine a7 (gC (T:="StopIteration") (b:=true) ⟨o,eo,co⟩ wf ?_);exact a9 ⟨rfl,I.turnedL (t':=s.toks) (ch:=[z,TI,TO,i1,i2]) (fun b o hb q=>by
   simp only [aZ,bi,or_false,not_or] at hb;exact kp b o hb.1 hb.2.2.1 hb.2.2.2.1 hb.2.2.2.2 q) hf⟩
 self:=fun _ _ _ _ _ st h=>wpAny_pyIter_zip st.1 h
def Yi (K:a8) (ta:TA):TI:=fun σ H R=>ta σ H fun vs H1=>∃ a b xs ys,vs=[.ref a,.ref b]/\lu K H1 a xs/\lu K H1 b ys/\R (Yg K a b) H1
theorem Uo {X:Cx}{elts:List bY}{x1}{tpos p pos:Pos}{a b:bY}{ta:TA} (hg:Gl X "zip") (hm:X.mg "zip"=none) (ha:PA X [a,b] ta) (hs:aJ [a,b] X.env=[(false,eD a X.env),(false,eD b X.env)]:=by rfl)
  (hs2:aJ [b] X.env=[(false,eD b X.env)]:=by rfl):PI X (.Tuple elts x1 tpos) (.Call (.Name "zip" p) [a,b] [] pos) (Yi X.K ta):=by
 intro pins s σ H R I h;refine Call_ (wo I hg hm boot_zip (i5 (fR (ha pos pins s σ H _ I h) fun us s1 ⟨vs,H1,I1,r1,q1⟩=>?_) (by rw [hs,hs2]) (by rw [hs2];rfl)));obtain ⟨a1,a2,xs,ys,rfl,hq1,hq2,q⟩:=q1;obtain ⟨u1,u2,rfl,rx1,rx2⟩:=Sf r1;cases rx1;cases rx2;obtain ⟨its1,rv1,p1,_⟩:=I1.tuple hq1;obtain ⟨its2,rv2,p2,_⟩:=I1.tuple hq2;refine CQ (show s1.heap.IsTuple a1 its1.toArray from p1) (show s1.heap.IsTuple a2 its2.toArray from p2) fun h' c1 c2 c3 c4 c5 kp=>?_;refine wpAny_pyIter_zip c1 ?_;have I2:bP X pins σ H1 { s1 with heap:=h' }:=I1.kept (t':=s1.toks) kp;have ad:∀ k j:Nat,k≠j->s1.heap.objs.size+k≠s1.heap.objs.size+j:=fun k j n e=>n (Nat.add_left_cancel e);refine ⟨s1.heap.objs.size+4,[s1.heap.objs.size+4,s1.heap.objs.size+2,s1.heap.objs.size+3,s1.heap.objs.size+0,s1.heap.objs.size+1],_,_,H1,rfl,I2,
  N0 a1 a2 _ _ _ _ _ ⟨ad _ _ (by decide),ad _ _ (by decide),ad _ _ (by decide),ad _ _ (by decide),ad _ _ (by decide),ad _ _ (by decide),ad _ _ (by decide),ad _ _ (by decide),ad _ _ (by decide),ad _ _ (by decide)⟩,
  ⟨c1,c2,⟨_,_,c3⟩,c4,c5⟩,fun b hb=>?_,q⟩
 have:∀ k:Nat,rc X pins H1 (s1.heap.objs.size+k):=fun k=>I1.fpOk (Qd _ _) (I1.hok.fresh (Qd _ _))
 simp only [aZ,bi,or_false] at hb;rcases hb with q|q|q|q|q<;>(rw [q];exact this _)
end
section
mutual
inductive GT (K:a8) (H:Hp):V->Co->Prop
 |none:GT K H .non .none
 |bool (b:Bool):GT K H (.bl b) (.bool b)
 |int (i:Int):GT K H (.int i) (.int i)
 |str (x:Str):GT K H (.str x) (.str x)
 |list {a:am}{xs:List V}{ds:List Co}:qB K H a xs->Reps K H xs ds->GT K H (.ref a) (.list ds)
 |tuple {a:am}{xs:List V}{ds:List Co}:lu K H a xs->Reps K H xs ds->GT K H (.ref a) (.tuple ds)
inductive Reps (K:a8) (H:Hp):List V->List Co->Prop
 |nil:Reps K H [] []
 |cons {x:V}{xs:List V}{d:Co}{ds:List Co}:GT K H x d->Reps K H xs ds->Reps K H (x::xs) (d::ds)
end
theorem dD.tup {K:a8}{H H':Hp}{a:am}{xs:List V} (e:dD H H') (h:lu K H a xs):lu K H' a xs:=by
 rcases h with (h|⟨o,h⟩)|h
 ·exact .inl (.inl (e _ _ h))
 ·exact .inl (.inr ⟨o,e _ _ h⟩)
 ·exact .inr h
section
theorem QS (I:bP X pins σ H s)    (h:qB X.K H a xs) (ih:∀ {us:List af},dC xs us->∃ as,ReadsAll s.heap us ds as) (r:dv (.ref a) u):∃ as,Reads s.heap u (.list ds) as:=by
 cases r;obtain ⟨its,rv,⟨o,n,e,c,_,d⟩,_⟩:=I.list h;obtain ⟨as,ra⟩:=ih rv;exact ⟨_,.list e c d (by simpa using ra)⟩
theorem N1 (I:bP X pins σ H s)    (h:lu X.K H a xs) (ih:∀ {us:List af},dC xs us->∃ as,ReadsAll s.heap us ds as) (r:dv (.ref a) u):∃ as,Reads s.heap u (.tuple ds) as:=by
 cases r;obtain ⟨its,rv,⟨o,e,c,n,d⟩,_⟩:=I.tuple h;obtain ⟨as,ra⟩:=ih rv;exact ⟨_,.tuple e c d (by simpa using ra)⟩
theorem mo (I:bP X pins σ H s)  (h:GT X.K H v d):∀ {u:af},dv v u->∃ as,Reads s.heap u d as :=
 GT.rec (motive_1:=fun v d _=>∀ {u:af},dv v u->∃ as,Reads s.heap u d as) (motive_2:=fun vs ds _=>∀ {us:List af},dC vs us->∃ as,ReadsAll s.heap us ds as)
  (fun r=>by cases r;exact ⟨_,.none⟩) (fun b _ r=>by cases r;exact ⟨_,.bool b⟩) (fun i _ r=>by obtain ⟨t,rfl⟩:=r;exact ⟨_,.int i t⟩) (fun x _ r=>by obtain ⟨t,rfl⟩:=r;exact ⟨_,.str x t⟩)
  (fun h _ ih _ r=>QS I h ih r) (fun h _ ih _ r=>N1 I h ih r) (fun r=>by cases r;exact ⟨_,.nil⟩) (fun _ _ a b _ r=>by
   cases r with
   |cons r rs =>
    obtain ⟨as,ra⟩:=a r;obtain ⟨bs,rb⟩:=b rs;exact ⟨_,.cons ra rb⟩) h
end
section
inductive Sx (K:a8) (neg:Bool) (x:V) (y:V) (H:Hp) (Q:VK):Prop
 |mk (dx dy:_) (h0:GT K H x dx) (h1:GT K H y dy) (h2:dx.canLay0=true) (h3:dy.canLay0=true) (h4:min dx.depth dy.depth<=60) (h5:Q (.bl (if neg then !aY dx dy else aY dx dy)) H):Sx K neg x y H Q
def Uq (K:a8) (neg:Bool):R2:=Sx K neg
theorem Ur (hu:X.A.units+64<gK):qQ X (bC .Eq) (Uq X.K false):=by
 intro pins s σ H x y v u Q I rx ry h;obtain ⟨dx,dy,hx,hy,lx,ly,dp,q⟩:=h;obtain ⟨as,ra⟩:=mo I hx rx;obtain ⟨bs,rb⟩:=mo I hy ry;exact PySem.SeqAt.compareEq_reads ra rb lx ly (by omega) ⟨.bl _,H,I,rfl,q⟩
theorem Us (hu:X.A.units+64<gK):qQ X (bC .NotEq) (Uq X.K true):=by
 intro pins s σ H x y v u Q I rx ry h;obtain ⟨dx,dy,hx,hy,lx,ly,dp,q⟩:=h;obtain ⟨as,ra⟩:=mo I hx rx;obtain ⟨bs,rb⟩:=mo I hy ry;exact PySem.SeqAt.compareNe_reads ra rb lx ly (by omega) ⟨.bl _,H,I,rfl,q⟩
end
end
section
structure Yj (P:bq) (w:bL) (l:List Env) (H H':Hp) (h h' B:bT) (ea C t:am):Prop where
 fly:Heap.FlyingW B l ea (.ref C) (.ref t) h'
 cov:∀ b u,H' b=some u->∃ o,B.get? b=some o
 old:∀ b o,h.get? b=some o->H b=none->b∉yh l->B.get? b=some o
 all:∀ b o,h.get? b=some o->b∉yh l->∃ o',B.get? b=some o'
 un:Un (yh l) [] H H' h h'
 hok:qP P w H' h'
inductive VZ (P:bq) (w:bL) (outer:List Env) (H:Hp) (s:al) (E:XK) (e:af) (s':al):Prop
 |mk (ea C t H' B:_) (h0:e=.ref ea) (h1:s'.os=s.os) (h2:qJ s'.gens) (h3:Yj P w outer H H' s.heap s'.heap B ea C t) (h4:E (.ref C) none H'):VZ P w outer H s E e s'
def vh (P:bq) (w:bL):LX:=VZ P w
theorem QT   (he:env∈l) (hf:env.frame=some b):b∈yh l:=List.mem_filterMap.mpr ⟨env,he,hf⟩
section
theorem Yj.kp (x:Yj P w l H H' h h' B ea C t) (st:B.StaysIn h'') (b:am) (u:HO) (o:Obj) (e:H' b=some u) (q:h'.get? b=some o):h''.get? b=some o:=by
 obtain ⟨o',e1⟩:=x.cov b u e;have:=x.fly.1 b o' e1;rw [q] at this;cases this;exact st b o e1
end
section
variable {P:bq}{w:bL}{K:a8}{mg:Str->Option af}{base:bT}{N:List Str}{qual:Str}{scope:ij}{f:am}{cd:af}{A:cy}{outer:List Env}{s:al}{H:Hp}{E:XK}
theorem Eu (hE:∀ c H',E' c none H'->E c none H'):mC (vh P w) (uX (vh P w) P w K mg base N qual scope f cd A outer s H E) E':=by
 intro pins σ H1 s1 e s' I h;obtain ⟨ea,C,t,H',B,rfl,os,bare,x,q⟩:=h;let X:=uX (vh P w) P w K mg base N qual scope f cd A outer s H E
 have noex:∀ b:am,b∉X.ex:=fun b z=>absurd (show b∈([] : List am) from z) (by simp);have bl:∀ b o,s.heap.get? b=some o->b∉yh outer->b∉yh X.stack:=fun b o e n z=>by
  rcases List.mem_cons.mp (I.stkSub b z) with y|y
  ·exact absurd (ar e) (by rw [y];exact Nat.not_lt.mpr I.ok.above)
  ·exact n y
 have sub:∀ b∈yh outer,b∈yh X.stack:=fun b hb=>by
  obtain ⟨env,he,hf⟩:=List.mem_filterMap.mp hb;exact QT (ai _ he) hf
 show au _ X.A (leaving X.env (.ref ea)) _ _ _;refine wpAny_leaves_onW (base:=B) (outer:=outer) (L:=X.env.locals) I.ok.frames rfl x.fly fun h2 fl up=>?_;have st2:=fl.1;refine ⟨ea,C,t,H',B,rfl,os.trans I.os,bare,⟨fl,x.cov,fun b o e n hb=>?_,fun b o e hb=>?_,⟨fun b o e n hb hx'=>?_,fun b o e n hb hx'=>?_,fun b o e n _=>?_,fun b o e _=>?_,fun b xs e=>x.un.tups b xs (I.base.tups b xs e),fun b o xs e=>x.un.frzs b o xs (I.base.frzs b o xs e),fun b ps e=>?_⟩,fun b u e=>?_⟩,hE _ _ q⟩
 ·exact x.old b o (I.base.keep b o e n hb (noex b)) (I.base.free b o e n (noex b)) (bl b o e hb)
 ·obtain ⟨o',k⟩:=I.base.there b o e (noex b);exact x.all b o' k (bl b o e hb)
 ·exact st2 b o (x.old b o (I.base.keep b o e n hb (noex b)) (I.base.free b o e n (noex b)) (bl b o e hb))
 ·obtain ⟨sl,k⟩:=I.base.slot b o e n hb (noex b);obtain ⟨sl1,k1⟩:=x.un.slot b _ k (I.base.free b o e n (noex b)) (sub b hb) (by simp);obtain ⟨_,o',k2,k3⟩:=Ap x.fly.2.2.1 (sub b hb);rw [k1] at k2;cases k2;obtain ⟨sl2,k4⟩:=up b _ k1 k3;exact ⟨sl2,k4⟩
 ·obtain ⟨o',k⟩:=I.base.there b o e (noex b);exact x.un.free b o' k (I.base.free b o e n (noex b)) (by simp)
 ·obtain ⟨o',k⟩:=I.base.there b o e (noex b);by_cases hb:b∈yh outer
  ·obtain ⟨_,o2,k1,_⟩:=Ap fl.2.2.1 hb;exact ⟨o2,k1⟩
  ·obtain ⟨o2,k2⟩:=x.all b o' k (bl b o e hb);exact ⟨o2,st2 b o2 k2⟩
 ·obtain ⟨m1,e1⟩:=I.base.tbls b ps e;obtain ⟨m2,e2⟩:=x.un.tbls b _ e1;exact ⟨m1++m2,by rw [e2,JZ]⟩
 ·exact (x.hok b u e).stay (fun c o hc k=>by
   rcases hc with z|z
   ·rw [z] at k ⊢;exact x.kp st2 b u o e k
   ·exact x.kp st2 c _ o z k) (fun _ q=>q) fun _ _ q=>q
end
end
section
section
variable {P:bq}{w:bL}{K:a8}{mg:Str->Option af}{base:bT}{N:List Str}{qual:Str}{scope:ij}{f:am}{cd:af}{A:cy}{outer:List Env}{s:al}{H:Hp}{E:XK}
end
structure Yk (base:bT) (C:am) (bm:List af):Prop where
 obj:∃ nm q N bs hdct sn sub ab col dd k0 k1 k2 k3 k5 newId,base.get? C=some (excClassObj nm q C N bs bm hdct sn sub ab col dd k0 k1 k2 k3 k5 newId)
 exc:bm.contains (.type "BaseException")=true
def V_ (X:Cx) (xe:af->al->Prop) (pn:List (am×Obj)):Cx:={ X with xe:=xe,pn:=pn }
theorem bP.inT     (I:bP X pins σ H s) (xe:af->al->Prop):bP (V_ X xe (X.pn++pins)) [] σ H s :=
 ⟨⟨I.ok.mod,I.ok.kind,I.ok.glob,I.ok.blt,I.ok.above,I.ok.inj,I.ok.has,I.ok.cab,I.ok.hd,I.ok.frames,I.ok.stk,I.ok.exf,I.ok.bs,I.ok.bsz,I.ok.noex,I.ok.exfs,I.ok.funs,I.ok.frf⟩,I.os,I.bare,I.base,I.loc,I.cell,I.free,I.freeC,
  fun p hp=>I.pin p ((List.mem_append.mp hp).elim id fun z=>absurd z (by simp)),I.hok,I.len⟩
theorem bP.outT      (ok:X.Ok) (I:bP (V_ X xe (X.pn++pins)) pins' σ H s):bP X pins σ H s :=
 ⟨ok,I.os,I.bare,I.base,I.loc,I.cell,I.free,I.freeC,fun p hp=>I.pin p (bV _ hp),I.hok,I.len⟩
end
section
section
variable {prog:bq}{w:bL}{A:cy}{E:af->al->Prop}{s:al}{K:a8}{x C:am}{R:Result->al->Prop}
end
section
end
end
section
section
variable {P:bq}{w:bL}{K:a8}{mg:Str->Option af}{base:bT}
end
section
end
end
section
section
def Yl:Co->String
 |.none=>"NoneType" | .bool _=>"bool" | .int _=>"int" | .str _=>"str" | .list _=>"list" | .tuple _=>"tuple" | .dict _=>"dict"
theorem GU            (I:bP X pins σ H s) (rx:dv x u) (r:GT X.K H x d) (e:qS X.K (.type (Yl d)) c=some b) (h:∀ tk,Q (.bool b) { s with toks:=tk }) :
  au (az X.prog X.w) A (call (.builtin "isinstance") [u,c]) Q E s:=by
 cases r with
 |none=>exact sg I rx .non e h
 |bool y=>exact sg I rx (.bl y) e h
 |int i=>exact sg I rx (.int i) e h
 |str y=>exact sg I rx (.str y) e h
 |list hq _ =>
  cases rx;obtain ⟨its,rv,⟨o,n,ho,c,_,dd⟩,_⟩:=I.list hq;exact cL uQ I.kIn ⟨o,ho,c⟩ e (fun z=>nomatch z) h
 |tuple hq _ =>
  cases rx;obtain ⟨its,rv,⟨o,ho,c,n,dd⟩,_⟩:=I.tuple hq;exact cL Gk I.kIn ⟨o,ho,c⟩ e (fun z=>nomatch z) h
theorem N5:jX X (.builtin "isinstance") (fun xs H Q=>∃ x d T b,xs=[x,.ty T]/\GT X.K H x d/\qS X.K (.type (Yl d)) (.type T)=some b/\Q (.bl b) H):=by
 intro pins s σ H xs us Q I r h;obtain ⟨x,d,T,b,rfl,rp,e,q⟩:=h;obtain ⟨u,v,rfl,ru,rv⟩:=Sf r;obtain rfl:v=.type T:=rv;exact GU I ru rp e fun tk=>⟨.bl b,H,I.tok tk,rfl,q⟩
end
end
end L2
section
namespace HT
open PySem PyProof.Rows
section
theorem Ev {t sl:am}{items:Array af}{vl vu:af}{lo hi:Option Int}{Q:af->al->Prop} (ht:IsTup s.heap t items) (hs:s.heap.IsSliceOf sl vl vu .none) (pl:v_ vl lo) (pu:v_ vu hi)
  (hw:jh items.size 0 lo=0/\jh items.size items.size hi=items.size) (h:Q (.ref t) s):au (az prog w) A (qL (.ref t) (.ref sl)) Q E s:=by
 obtain ⟨os,hos,hcs,hds⟩:=id hs;have hTs:s.TypeIs (.ref sl) "slice":=⟨os,hos,hcs⟩;unfold qL;try with_reducible refine dw ?_
 first|refine a7 (a9 ?_)|skip
 refine a7 (wpAny_sequenceKey ht.typeIs (by decide) ?_);refine a7 (cu (name:=gW "__getitem__") ht.typeIs gj
  (bD gj ht.typeIs entry_tuple_getitem ?_ (args_tuple_getitem _ _)))
 show au _ _ (uS (.ref t) >>= _) _ _ s;refine a7 (tupleItemsOf_ ht ?_);refine a7 (t_ hTs ?_);rw [if_pos (by decide)];refine a7 (oK hs pl pu ?_);have hyes:((((jh items.size 0 lo:Nat):Int)==0&&(1:Int)==1&&(jh items.size items.size hi-jh items.size 0 lo)==items.size)=true):=by
  rw [hw.1,hw.2];simp
 show au _ _ (if (((jh items.size 0 lo:Nat):Int)==0&&(1:Int)==1&&(jh items.size items.size hi-jh items.size 0 lo)==items.size)=true then _ else _) _ _ s;rw [if_pos hyes];refine a7 ?_;unfold Builtin.Tuple.tupleIsExact;refine a7 (t_ ht.typeIs (a9 ?_));rw [if_pos (by decide)];refine a7 (df ?_);first
  |exact a9 (a9 ⟨_,rfl,h⟩)
  |exact a9 ⟨_,rfl,a9 h⟩
  |exact a7 (a9 (a9 ⟨_,rfl,a9 h⟩))
  |exact a7 (a9 (a9 ⟨_,rfl,h⟩))
end
end HT
namespace L2
open PySem PySem.Spec PyProof.Rows
section
inductive N6 (K:a8) (x:V) (lo:Option Int) (hi:Option Int) (H:Hp) (Q:VK):Prop
 |mk (a xs:_) (h0:x=.ref a) (h1:lu K H a xs) (h2:(HT.jh xs.length 0 lo=0/\HT.jh xs.length xs.length hi=xs.length)) (h3:Q (.ref a) H):N6 K x lo hi H Q
def W0 (K:a8):V->Option Int->Option Int->Hp->VK->Prop:=N6 K
theorem QU:VO X (W0 X.K):=by
 intro pins s σ H x v vl vu lo hi sl Q I rx hs pl pu h;obtain ⟨a,xs,rfl,hx,hw,q⟩:=h;cases rx;obtain ⟨its,r,ht,hz⟩:=I.tuple hx;have hlen:its.toArray.size=xs.length:=by rw [aT];exact r.length.symm
 exact ⟨"tuple",_,PyProof.Rows.slot_tuple_getitem.lookup,ht.typeIs,HT.Ev ht hs pl pu (by rw [hlen];exact hw) ⟨.ref a,H,I,rfl,q⟩⟩
theorem mD   (h:H p=none):dD H (upd H p o):=fun b u e=>by rw [bd (bU e h)];exact e
theorem yQ (hc:X.calm=true):jX X (.type "list") (fun xs H Q=>∃ a kvs,xs=[.ref a]/\H a=some (.dK kvs)/\∀ l,H l=none->Q (.ref l) (upd H l (.lst (kvs.map fun p=>kV p.1)))):=by
 intro pins s σ H xs us Q I r h;obtain ⟨a,kvs,rfl,hH,q⟩:=h;obtain ⟨u,rfl,rx⟩:=lS r;cases rx;obtain ⟨hz,hs,vs,rk,hd⟩:=(show dz X.prog X.w H s.heap a (.dK kvs) from I.hok a _ hH);obtain ⟨ep,hat⟩:∃ ep,s.heap.DictAt (gE X.prog X.w) a vs ep:=by
  obtain ⟨o,es,ep,h1,h2,h3,h4⟩:=hd;exact ⟨ep,o,es,h1,h2,h3,h4⟩
 have hlen:kvs.length=vs.length:=jq rk;refine PySem.W.kdl_call (PySem.W.kdl_dict hs) (I.ok.hd hc) hat (by omega) fun h' tk acc' c' kp e hacc=>?_;have rv:dC (kvs.map fun p=>kV p.1) acc'.toList:=by
  have key:∀ {kvs:List (gD×V)}{vs:List (gD×af)} (acc:List af),KV kvs vs->acc.length=vs.length->(∀ (j:Nat) (v:af),acc[j]?=some v->∃ k x,vs[j]?=some (k,x)/\yF k v=true)->dC (kvs.map fun p=>kV p.1) acc:=by
   intro kvs;induction kvs with
   |nil=>intro vs acc rk hl _;cases rk;cases acc with
    |nil=>exact .nil
    |cons _ _=>simp at hl
   |cons p kvs ih =>
    intro vs acc rk hl hv;cases rk with
    |cons h1 t1 =>
     cases acc with
     |nil=>simp at hl
     |cons v acc =>
      refine .cons ?_ (ih acc t1 (by simpa using hl) fun j v hj=>by simpa using hv (j+1) v (by simpa using hj));obtain ⟨k,x,e1,e2⟩:=hv 0 v rfl;simp only [DY,DU] at e1;subst e1;have hk:p.1=k:=h1.1;rcases fL e2 with ⟨i,t,e,rfl⟩|⟨i,t,e,rfl⟩
      ·show dv (kV p.1) _;rw [hk,e];exact ⟨t,rfl⟩
      ·show dv (kV p.1) _;rw [hk,e];exact ⟨t,rfl⟩
  exact key acc'.toList rk (by rw [ap];exact hacc.1) fun j v hj=>hacc.2 j v (by rw [<- aQ];exact hj)
 exact ⟨.ref s.heap.objs.size,_,I.laid (t':=tk) kp (aq _) (show dz X.prog X.w _ h' _ (.lst _) from ⟨by simpa using hz,acc'.toList,c',rv,by rw [Gv];exact e⟩),rfl,q _ (I.hok.fresh (aq _))⟩
def yR (x:Str):List V:=x.cps.toList.map fun c=>V.str ⟨#[c]⟩
theorem xR (hc:X.calm=true):jX X (.type "tuple") (fun xs H Q=>∃ x,xs=[.str x]/\x.cps.size<=sizeLine/\∀ l,H l=none->Q (.ref l) (upd H l (.tup (yR x)))):=by
 intro pins s σ H xs us Q I r h;obtain ⟨x,rfl,hz,q⟩:=h;obtain ⟨u,rfl,rx⟩:=lS r;obtain ⟨t,rfl⟩:=rx;refine call_tuple_str (I.ok.hd hc) x t (fun h' tk acc kp hacc=>?_) hz;have I1:bP X pins σ H { s with heap:=h',toks:=tk }:=I.kept (t':=tk) kp;have rv:dC (yR x) acc.toList:=by
  have key:∀ (cs:List Nat) (acc:List af),acc.length=cs.length->(∀ (j:Nat) (v:af),acc[j]?=some v->∃ c u,cs[j]?=some c/\v=.str ⟨#[c]⟩ u)->dC (cs.map fun c=>V.str ⟨#[c]⟩) acc:=by
   intro cs;induction cs with
   |nil=>intro acc hl _;cases acc with
    |nil=>exact .nil
    |cons _ _=>simp at hl
   |cons c cs ih =>
    intro acc hl hv;cases acc with
    |nil=>simp at hl
    |cons v acc =>
     obtain ⟨c',u,e1,rfl⟩:=hv 0 v rfl;simp only [DY,DU] at e1;subst e1;exact .cons ⟨u,rfl⟩ (ih acc (by simpa using hl) fun j v hj=>by simpa using hv (j+1) v (by simpa using hj))
  refine key x.cps.toList acc.toList (by rw [ap,ap];exact hacc.1) fun j v hj=>?_;obtain ⟨c,u,e1,e2⟩:=hacc.2 j v (by rw [<- aQ];exact hj);exact ⟨c,u,by rw [aQ];exact e1,e2⟩
 have I2:bP X pins σ (upd H h'.objs.size (.tup (yR x))) { s with heap:=h'.push { cls:=.type "tuple",data:=.seq acc },toks:=tk } :=
  I1.laid (t':=tk) (fun b o e=>ac _ e) (aq _) (show dz X.prog X.w _ _ _ (.tup (yR x)) from ⟨by unfold yR;simpa using hz,acc.toList,rv,by rw [Gv];exact xF _ _⟩)
 exact ⟨.ref h'.objs.size,_,I2,rfl,q _ (I1.hok.fresh (aq _))⟩
end
end L2
end
namespace L2
open PySem PySem.Spec PyProof.Rows
section
theorem CS (elt target iter:bY) (ifs:List bY) (scope:ij) (pos:Pos) (it acc:af) (env:Env) :
  compTurn (.SetComp elt [⟨target,iter,ifs,0⟩] scope pos) 0 it acc env=(do
   xc iter.pos
   let r <- lF it
   match r with
   |none=>pure (.done .next)
   |some v =>
    hW target it v
    qR target env v;let mut ok:=true
    for c in ifs do
     if ok then ok <- vZ c env (eD c env)
    if ok then
     (do let v <- eD elt env;xc elt.pos;let _ <- call (.builtin "set.add") [acc,v])
    P_ (.compLoop (.SetComp elt [⟨target,iter,ifs,0⟩] scope pos) 0 it acc env)):=by rfl
section
theorem qI {elt target iter ifs cp scope pos it acc env}
  (h0:jL (az prog w) A (.compLoop (.SetComp elt (⟨target,iter,ifs,0⟩::cp) scope pos) 0 it acc env) R s)
  (h:au (az prog w) A (yz it) (fun it' s'=>jL (az prog w) A (.compLoop (.SetComp elt (⟨target,iter,ifs,0⟩::cp) scope pos) 0 it' acc env) R s')
   (notedBy (az prog w) A env fun x s'=>R (.error x) s') s) :
  jL (az prog w) A (.compStart (.SetComp elt (⟨target,iter,ifs,0⟩::cp) scope pos) 0 it acc env) R s:=by
 refine DX ?_;show au _ _ ((compStart (.SetComp elt (⟨target,iter,ifs,0⟩::cp) scope pos) 0 it acc env).onRaise (fun x=>do noteFrame x env;xc theWindowsPlace)) _ _ s;refine wpAny_notedAt ?_;unfold compStart;show au _ _ (ask >>= _) _ _ s;refine a7 (ir (wpAny_ite ?_));split
 ·first
   |exact a7 (a9 (a9 (uN rfl h0)))
   |exact a9 (uN rfl h0)
 ·first
   |exact a7 (df (a7 (j9 (a7 (bA h (fun it' s' hq=>a9 (uN rfl hq)) fun _ _ x=>x)))))
   |(refine a7 (df ?_);show au _ _ (xc iter.pos >>= _) _ _ s;exact a7 (j9 (a7 (bA h (fun it' s' hq=>a9 (uN rfl hq)) fun _ _ x=>x))))
theorem tL (h:Q (.ref s.heap.objs.size) { s with heap:=s.heap.push (fD w) }):au (az prog w) A (newSet (.type "set")) Q E s:=by
 unfold newSet setsByText;refine a7 (a7 (ir (a9 ?_)));dsimp only;simp only [newObj];exact a7 (Q3 (a9 h))
theorem AQ     (hS:lK w s.heap a ss) (hr:ss.length+1<jf)
  (h:∀ h' tk',bG a s.heap h'->lK w h' a (if x∈ss then ss else ss++[x])->Q .none { s with heap:=h',toks:=tk' }) :
  au (az prog w) A (call (.builtin "set.add") [.ref a,.str x tk]) Q E s:=by
 have hT:s.TypeIs (.ref a) "set":=by obtain ⟨es,ep,t,I,_⟩:=id hS;exact ⟨_,I.at_,rfl⟩
 refine bD F.slot_set_add hT F.entry_set_add ?_ (F.args_set_add_2 _ _);unfold jN.«set.add» Qe;simp only [List.isEmpty_nil,bind_assoc];unfold Qf;refine a7 (a9 ?_);try dsimp only
 refine a7 (a9 ?_);try dsimp only
 refine a7 ?_;refine El hS hr fun h' tk' sb hS'=>?_;exact a9 ⟨_,rfl,h h' tk' sb hS'⟩
end
section
theorem Ew      (I:Nat->al->Prop)
  (turn:∀ n s,I n s->au (az prog w) A (lF it) (fun r s₁=>match r with
   |none=>R (.ok .next) s₁
   |some v=>au (az prog w) A (hW target it v) (fun _ s₁'=>au (az prog w) A (qR target env v) (fun _ s₂ =>
     au (az prog w) A (forIn ifs true fun c r=>if r=true then do let ok <- vZ c env (eD c env);pure (gf ok) else pure (gf r)) (fun ok s₃ =>
      if ok=true then au (az prog w) A (eD elt env) (fun x s₄ =>
       au (az prog w) A (call (.builtin "set.add") [acc,x]) (fun _ s₅=>∃ m,m<n/\I m s₅) (fun _ _=>False) s₄) (fun _ _=>False) s₃
      else ∃ m,m<n/\I m s₃) (fun _ _=>False) s₂) (fun _ _=>False) s₁') (fun _ _=>False) s₁) (fun _ _=>False) s)
  (n:Nat) (h:I n s) :
  jL (az prog w) A (.compLoop (.SetComp elt [⟨target,iter,ifs,0⟩] scope pos) 0 it acc env) R s:=by
 refine codeAny_loop rfl I (fun n s hI=>?_) n h;show au _ A ((compTurn (.SetComp elt [⟨target,iter,ifs,0⟩] scope pos) 0 it acc env).onRaise (fun x=>do noteFrame x env;theTreesLotGoes x)) _ _ s;refine wpAny_noted ?_;rw [CS];have nf:∀ {α:Type}{t:Sem α}{Q:α->al->Prop}{E':af->al->Prop}{s:al},au (az prog w) A t Q (fun _ _=>False) s->au (az prog w) A t Q E' s :=
  fun h=>bA h (fun _ _ q=>q) fun _ _ f=>f.elim
 refine a7 (j9 (a7 (nf (bA (turn n s hI) (fun r s₁ h₁=>?_) fun _ _ h'=>h'))));cases r with
 |none=>exact a9 h₁
 |some v =>
  refine a7 (nf (bA h₁ (fun _ s₁' h₁'=>?_) fun _ _ h'=>h'));refine a7 (nf (bA h₁' (fun _ s₂ h₂=>a7 (nf (bA h₂ (fun ok s₃ h₃=>?_) fun _ _ h'=>h'))) fun _ _ h'=>h'));cases ok with
  |false=>exact a9 ⟨rfl,h₃⟩
  |true =>
   exact a7 (a7 (nf (bA h₃ (fun x s₄ h₄=>a7 (j9 (a7 (nf (bA h₄ (fun _ s₅ h₅=>a9 (a9 ⟨rfl,h₅⟩)) fun _ _ h'=>h'))))) fun _ _ h'=>h')))
end
inductive YU (X:Cx) (pins:List (am×Obj)) (N':List Str) (scope:ij) (cl:List (Str×am)) (C:am) (s2:al) (H2:Hp) (fp:List am) (nt:Nat) (ix:List Nat) (σ:St) (tn:Nat->bT->Prop) (W:Nat->Nat->List Str->Hp->Prop) (n:Nat) (s':al):Prop
 |mk (i:Nat) (acc:List Str) (oD:Obj) (H':Hp) (I:bP (cW X N' scope cl C s2 H2 fp (X.pn++pins)) [(s2.heap.objs.size,oD)] (jS nt ix σ) H' s') (S:lK X.w s'.heap s2.heap.objs.size acc) (t:tn i s'.heap) (f:∀ b∈fp,H' b=none) (w:W i n acc H'):YU X pins N' scope cl C s2 H2 fp nt ix σ tn W n s'
theorem KH {X:Cx}{elt tg iter:bY}{ifs:List bY}{scope:ij}{pos:Pos}{g:TG}{tt:TT}{te:TE}{N':List Str}{nt:Nat}{ix:List Nat}
  (hc:X.calm=true) (S:n_ X scope N' nt ix) (lo:Sw nt g)
  (hb:∀ cl C s₀ H₀ ex pn,PG (cW X N' scope cl C s₀ H₀ ex pn) tg g/\PU (cW X N' scope cl C s₀ H₀ ex pn) ifs tt/\PE (cW X N' scope cl C s₀ H₀ ex pn) elt te)
  {cl:List (Str×am)} (c1:∀ x c,cl.lookup x=some c->X.env.cells.lookup x=some c) (c2:∀ y∈scope.names,y.2=.free->∃ c,cl.lookup y.1=some c)
  {pins:List (am×Obj)}{σ:St}{H2:Hp}{s2:al}{it:am}{fp:List am}{tn:Nat->bT->Prop}{J:It}{Q:VK}{E:af->al->Prop}
  (I2:bP X pins σ H2 s2) (T:AI X.prog X.w X.K tg J fp it tn) (st2:tn 0 s2.heap) (f2:∀ b∈fp,rc X pins H2 b)
  {W:Nat->Nat->List Str->Hp->Prop} (w0:∃ m,W 0 m [] H2)
  (turn:∀ i m acc H,W i m acc H->(J.stop i H/\∀ p,H p=none->Q (.ref p) (upd H p (lW X.w p acc))) \/
   (J.go i H/\acc.length+1<jf/\∀ x H',J.yld i H x H'->g x (jS nt ix σ) H' fun σ2 H2=>tt σ2 H2 fun b H3 =>
    if b=true then te σ2 H3 fun y H4=>∃ z m',y=.str z/\m'<m/\W (i+1) m' (if z∈acc then acc else acc++[z]) H4 else ∃ m',m'<m/\W (i+1) m' acc H3))
  {RR:af->am->Result->al->Prop}
  (hRR:∀ D C m s' (acc:List Str) H',H' D=none->rc X pins (upd H' D (lW X.w D acc)) C->Q (.ref D) (upd H' D (lW X.w D acc))->s'.heap.Ns C m->(∀ h',bG C s'.heap h'->bP X pins σ (upd H' D (lW X.w D acc)) { s' with heap:=h' })->RR (.ref D) C (.ok .next) s') :
  au (az X.prog X.w) X.A (newSet (.type "set")) (fun acc s₃=>au (az X.prog X.w) X.A (wa scope X.env.globals cl [] X.env.qual none .none (some X.env)) (fun cenv s₄ =>
   jL (az X.prog X.w) X.A (.compStart (.SetComp elt [⟨tg,iter,ifs,0⟩] scope pos) 0 (.ref it) acc { cenv with scope:=relabel scope X.env }) (RR acc cenv.locals) s₄) E s₃) E s2:=by
 refine tL (IF fun h₁ hh₁=>?_);dsimp only at hh₁ ⊢;generalize hG2:s2.heap.push (fD X.w)=G2 at hh₁ ⊢;have hC:G2.objs.size=s2.heap.objs.size+1:=by rw [<- hG2,cg]
 have hDC:s2.heap.objs.size≠G2.objs.size:=by rw [hC];exact aH (f_ _)
 have hCle:s2.heap.objs.size<=G2.objs.size:=by rw [hC];exact ko _
 have below:∀ b,b<s2.heap.objs.size->b≠G2.objs.size:=fun b hb=>by rw [hC];exact aH (er hb)
 have kp:∀ b o,G2.get? b=some o->h₁.get? b=some o:=fun b o e=>by rw [hh₁];exact uL _ _ b o (ac _ e)
 have hns₁:h₁.Ns G2.objs.size (fun _=>none):=by rw [hh₁];exact (Heap.Ns.new G2 (.type "dict")).keeps (uL _ _)
 have ok₁:CellsOk h₁ (G2.objs.size+1) (bg (G2.objs.size+1) scope.names []):=by rw [hh₁];exact Bw G2 scope.names
 have cne:∀ x c,(bg (G2.objs.size+1) scope.names cl).lookup x=some c->X.env.cells.lookup x=some c\/s2.heap.objs.size<c:=fun x c e=>by
  rcases lv e with a|⟨_,a⟩
  ·exact .inr (aE (kE hCle) (ok₁.empty x c a).2)
  ·exact .inl (c1 x c a)
 have old:∀ b o,s2.heap.get? b=some o->h₁.get? b=some o:=fun b o e=>kp b o (hG2 ▸ ac _ e);have hacc:h₁.get? s2.heap.objs.size=some (fD X.w):=kp _ _ (hG2 ▸ ax _ rfl);have ff:∀ b∈fp,b<s2.heap.objs.size:=fun b hb=>by
  obtain ⟨o,e,_⟩:=T.obj _ _ st2 b hb;exact ar e
 have I3:bP (cW X N' scope (bg (G2.objs.size+1) scope.names cl) G2.objs.size s2 H2 fp (X.pn++pins)) [] (jS nt ix σ) H2 { s2 with heap:=h₁,toks:=s2.toks }:=Eh S I2 c1 c2 f2 ff hCle hns₁ old ok₁;obtain ⟨pg,pt,pe⟩:=hb (bg (G2.objs.size+1) scope.names cl) G2.objs.size s2 H2 fp (X.pn++pins);have hDfs:s2.heap.objs.size∉yh X.stack:=fun z=>by
  rcases List.mem_cons.mp (I2.stkSub _ z) with e|e
  ·exact absurd I2.lt (by rw [<- e];exact bN _)
  ·exact I2.nofs (aq _) e
 have st1:tn 0 h₁:=T.keep _ _ _ st2 fun b _ o e=>old b o e;have hDf:s2.heap.objs.size∉fp:=fun z=>absurd (ff _ z) (bN _);have stat:∀ {H':Hp}{pl:List (am×Obj)},(∀ p∈pl,p.1∉fp)->(∀ b∈fp,H' b=none)->∀ b∈fp,rc (cW X N' scope (bg (G2.objs.size+1) scope.names cl) G2.objs.size s2 H2 fp (X.pn++pins)) pl H' b:=fun hpl hn b hb=>by
  obtain ⟨f0,f1,f2',f3,f4,f5⟩:=f2 b hb;refine ⟨hn b hb,below b (ff b hb),fun z=>?_,.inl hb,fun x c e=>(cne x c e).elim (f4 x c) fun q z=>xH q (by rw [z];exact ff b hb),fun p hp z=>?_⟩
  ·rcases List.mem_cons.mp (I2.stkSub _ z) with e|e
   ·exact f1 e
   ·exact f2' e
  ·rcases List.mem_append.mp hp with q|q
   ·exact f5 p q z
   ·exact hpl p q (z ▸ hb)
 obtain ⟨m0,w0⟩:=w0;have loop:jL (az X.prog X.w) X.A (.compLoop (.SetComp elt [⟨tg,iter,ifs,0⟩] scope pos) 0 (.ref it) (.ref s2.heap.objs.size) (compEnvC scope (bg (G2.objs.size+1) scope.names cl) G2.objs.size X.env))
    (RR (.ref s2.heap.objs.size) G2.objs.size) { s2 with heap:=h₁,toks:=s2.toks }:=by
  refine Ew (YU X pins N' scope (bg (G2.objs.size+1) scope.names cl) G2.objs.size s2 H2 fp nt ix σ tn W) ?_ m0
   ⟨0,[],_,H2,I3.pin1 hacc (I2.hok.fresh (aq _)) hDC hDfs (fun v z=>nomatch z),By X.w hacc,st1,fun b hb=>(f2 b hb).1,w0⟩
  rintro n s3 ⟨i,acc,oD,H3,J3,hS3,st3,fr3,w3⟩;have plD:∀ p∈[(s2.heap.objs.size,oD)],p.1∉fp:=fun p hp=>by
   have:p=(s2.heap.objs.size,oD):=by simpa using hp
   rw [this];exact hDf
  have stS:∀ {s8:al},s8.heap.get? s2.heap.objs.size=some oD->lK X.w s8.heap s2.heap.objs.size acc:=fun {s8} e=>hS3.keep fun o eo=>by
   have q:=(J3.pin (s2.heap.objs.size,oD) (aL _ (List.mem_singleton.mpr rfl))).1;rw [q] at eo;cases eo;exact e
  rcases turn i n acc H3 w3 with ⟨stop,qn⟩|⟨go,hlt,step⟩
  ·refine fR (T.done (cW X N' scope (bg (G2.objs.size+1) scope.names cl) G2.objs.size s2 H2 fp (X.pn++pins)) rfl rfl rfl hc i _ s3 _ H3 _ J3 (stat plD fr3) st3 stop) fun r s4 h_0=>?_;obtain ⟨hr,I4⟩:=h_0;subst hr;obtain ⟨pD,pN,_⟩:=I4.pin (s2.heap.objs.size,_) (aL _ (List.mem_singleton.mpr rfl));obtain ⟨mm,hn,_⟩:=I4.loc;have hCn:H3 G2.objs.size=none:=I4.free;refine hRR _ _ mm s4 acc H3 pN (I2.fpOk hCle (by rw [bd (cY hDC)];exact hCn)) (qn _ pN) hn fun h' sb=>?_;have hu:Un (yh X.stack) fp H2 (upd H3 s2.heap.objs.size (lW X.w s2.heap.objs.size acc)) s2.heap h':=Un.grow I4.base sb hCle (aq _) pN;refine I2.call' (s':={ s4 with heap:=h' }) (ch:=fp) I4.os hu ?_ I4.bare fun b hb=>?_
   ·exact wu (Ei I4.hok hCn sb) pN (CO ((stS pD).keep fun o e=>(sb.2 _ hDC).trans e))
   ·obtain ⟨_,f1,_,f3,f4,f5⟩:=f2 b hb;exact ⟨f3,f1,f4,f5⟩
  ·refine fR (T.item (cW X N' scope (bg (G2.objs.size+1) scope.names cl) G2.objs.size s2 H2 fp (X.pn++pins)) rfl rfl rfl hc i _ s3 _ H3 _ J3 (stat plD fr3) st3 go) fun r s4 h_1=>?_;obtain ⟨u,hr,h4⟩:=h_1;subst hr;refine fR h4 fun _ s5 h_2=>?_;obtain ⟨x,H5,I5,r5,y5,st5,fr5⟩:=h_2;have I5':=I5.pinned (stat plD fr5) (T.obj _ _ st5);refine fR (pg _ s5 _ H5 x u _ I5' r5 (lo _ _ _ _ (step x H5 y5))) fun _ s6 h_3=>?_;obtain ⟨σ6,H6,I6,q6,l6,k6⟩:=h_3;have hw:∀ (j:Nat) v,(jS nt ix σ)[j]?=some (some v)->σ6[j]?=some (some v):=fun j v e=>by
    by_cases hj:nt<=j
    ·rw [k6 j hj];exact e
    ·unfold jS at e;rw [bO (by simpa using hj),cn,if_pos (by omega)] at e;cases e
   refine fR (pt _ s6 σ6 H6 _ I6 q6) fun b s7 h_4=>?_;obtain ⟨H7,I7,q7⟩:=h_4;have fpk:∀ {s8:al}{σ8:St}{H8:Hp},bP (cW X N' scope (bg (G2.objs.size+1) scope.names cl) G2.objs.size s2 H2 fp (X.pn++pins)) ([(s2.heap.objs.size,oD)]++wp fp s5.heap) σ8 H8 s8 ->
     tn (i+1) s8.heap/\∀ b∈fp,H8 b=none:=fun {s8 σ8 H8} I8=>by
    refine ⟨T.keep _ _ _ st5 fun b hb o e=>(I8.pin (b,o) (aL _ (aL _ (kG hb e)))).1,fun b hb=>?_⟩;obtain ⟨o,e,d⟩:=T.obj _ _ st5 b hb;exact (I8.pin (b,o) (aL _ (aL _ (kG hb e)))).2.1
   cases b with
   |false =>
    simp only [bu,if_false] at q7 ⊢;obtain ⟨m',hm,w7⟩:=q7;obtain ⟨t7,f7⟩:=fpk I7;obtain ⟨pD,_⟩:=I7.pin (s2.heap.objs.size,oD) (aL _ (bV _ (List.mem_singleton.mpr rfl)));exact ⟨m',hm,i+1,acc,oD,H7,(I7.weak l6.symm hw).unpinned,stS pD,t7,f7,w7⟩
   |true =>
    simp only [if_true] at q7 ⊢;refine fR (pe _ s7 σ6 H7 _ I7 q7) fun u8 s8 h_5=>?_;obtain ⟨y,H8,I8,r8,z,m',hy,hm,w8⟩:=h_5;obtain ⟨t8,f8⟩:=fpk I8;obtain ⟨pD,pN,_⟩:=I8.pin (s2.heap.objs.size,_) (aL _ (bV _ (List.mem_singleton.mpr rfl)));subst hy;obtain ⟨tz,rfl⟩:=r8;refine AQ (stS pD) hlt fun h9 tk9 sb9 hS9=>?_;obtain ⟨es9,ep9,t9,is9,pm9⟩:=id hS9;have e9':=is9.at_;refine ⟨m',hm,i+1,_,{ cls:=.type "set",dict:=none,data:=.set es9 ep9 t9 },H8,?_,hS9,T.keep _ _ _ t8 fun b hb o e=>sb9.extBut b o (fun z=>hDf (z ▸ hb)) e,f8,w8⟩;have I8':bP (cW X N' scope (bg (G2.objs.size+1) scope.names cl) G2.objs.size s2 H2 fp (X.pn++pins)) [] (jS nt ix σ) H8 s8:=(I8.weak l6.symm hw).pins_of fun p hp=>absurd hp (by simp);have I9:bP (cW X N' scope (bg (G2.objs.size+1) scope.names cl) G2.objs.size s2 H2 fp (X.pn++pins)) [] (jS nt ix σ) H8 { s8 with heap:=h9,toks:=tk9 } :=
     I8'.turned (it:=s2.heap.objs.size) (fun b o hb e=>sb9.extBut b o hb e) pN hDC (.inr (aq _)) (fun x c e z=>by
      rcases cne x c e with e|e
      ·obtain ⟨v,q⟩:=I2.cell x c e;exact absurd q.lt (by rw [z];exact bN _)
      ·exact absurd e (by rw [z];exact bN _)) fun p hp z=>by
      have hp:p∈X.pn++pins:=(List.mem_append.mp hp).elim id fun z=>absurd z (by simp);exact absurd (ar (I2.pin p hp).1) (by rw [z];exact bN _)
    exact I9.pin1 e9' pN hDC hDfs (fun v z=>nomatch z)
 exact qI loop (T.self _ 0 _ _ _ st1 loop)
inductive Sy (w:bL) (nt:Nat) (ix:List Nat) (g:TG) (tt:TT) (te:TE) (σ:St) (Q:VK) (J:It) (H1:Hp):Prop
 |mk (W:Nat->Nat->List Str->Hp->Prop) (w0:∃ m,W 0 m [] H1) (turn:∀ i m acc H,W i m acc H ->
 (J.stop i H/\∀ p,H p=none->Q (.ref p) (upd H p (lW w p acc))) \/
 (J.go i H/\acc.length+1<jf/\∀ x H',J.yld i H x H'->g x (jS nt ix σ) H' fun σ2 H2=>tt σ2 H2 fun b H3 =>
  if b=true then te σ2 H3 fun y H4=>∃ z m',y=.str z/\m'<m/\W (i+1) m' (if z∈acc then acc else acc++[z]) H4 else ∃ m',m'<m/\W (i+1) m' acc H3)):Sy w nt ix g tt te σ Q J H1
def N7 (w:bL) (nt:Nat) (ix:List Nat) (wi:TI) (g:TG) (tt:TT) (te:TE):TE:=fun σ H Q=>wi σ H (Sy w nt ix g tt te σ Q)
theorem GV {X:Cx}{elt tg iter:bY}{ifs:List bY}{scope:ij}{pos:Pos}{wi:TI}{g:TG}{tt:TT}{te:TE}{N':List Str}{nt:Nat}{ix:List Nat}
  (hc:X.calm=true) (S:n_ X scope N' nt ix) (lo:Sw nt g) (hi:PI X tg iter wi)
  (hb:∀ cl C s₀ H₀ ex pn,PG (cW X N' scope cl C s₀ H₀ ex pn) tg g/\PU (cW X N' scope cl C s₀ H₀ ex pn) ifs tt/\PE (cW X N' scope cl C s₀ H₀ ex pn) elt te)
  (hs:∀ x,eF iter X.env x=pure x:=by intro _;rfl):PE X (.SetComp elt [⟨tg,iter,ifs,0⟩] scope pos) (N7 X.w nt ix wi g tt te):=by
 intro pins s σ H Q I h;obtain ⟨cl,hcl,c1,c2⟩:=u9 (scope:=scope) (env:=X.env) fun y hy hf=>I.ok.has y.1 (S.free y hy hf);show au _ _ (comprehension (.SetComp elt [⟨tg,iter,ifs,0⟩] scope pos) scope X.env (firstIterPos [⟨tg,iter,ifs,0⟩] pos) (newSet (.type "set")) (firstAsync [⟨tg,iter,ifs,0⟩]) (firstIter [⟨tg,iter,ifs,0⟩] X.env)) _ _ _;refine qV (use:=none) rfl hs hcl S.kind S.loc (fR (hi pins s σ H _ I h) fun v s1 h1=>fR h1 fun itv s2 h2=>?_);obtain ⟨it,fp,tn,J,H2,e,I2,T,st2,f2,W,w0,turn⟩:=h2;subst e;refine KH (RR:=fun acc C=>compPost (az X.prog X.w) X.A X.xe none (EP X pins σ Q) acc C) hc S lo hb c1 c2 I2 T st2 f2 w0 turn ?_;intro D C m s' acc H' hD _ q hn hI;exact ⟨m,hn,fun h' sb=>⟨.ref D,_,hI h' sb,rfl,q⟩⟩
section
theorem AR:jX X (.builtin "len") (fun xs H Q=>∃ p ss,xs=[.ref p]/\H p=some (lW X.w p ss)/\Q (.int ss.length) H):=by
 intro pins s σ H xs us Q I r h;obtain ⟨p,ss,rfl,hq,q⟩:=h;obtain ⟨u,rfl,rx⟩:=lS r;cases rx;obtain ⟨es,ep,t,is,pm⟩:=(show dz X.prog X.w H s.heap p (lW X.w p ss) from I.hok p _ hq).1;have hlen:es.size=ss.length:=by rw [<- pm.length_eq,ao,ap]
 have hsm:(es.size:Int)<2 ^ 63:=by
  have h1:=is.few;have h2:jf<=2 ^ 62:=by decide
  omega
 refine nY kind_len plain_len entry_len (args_len1 _) (wpAny_len_body_set is.at_ ⟨rfl,rfl,rfl⟩ rfl is.fits hsm ?_);refine ⟨.int _,H,I.tok _,⟨_,rfl⟩,?_⟩;rw [hlen];exact q
end
end
end L2
section
namespace L2
open PySem PySem.Spec PyProof.Rows
section
variable {K:a8}{nt:Nat}{ix:List Nat}{te:TE}{σ:St}{H1:Hp}{Q:VK}{a:am}{xs:List V}{i:Nat}
end
end L2
namespace L2
open PySem PySem.Spec PyProof.Rows
def IH (so:ij) (N:List Str) (scope:ij) (N':List Str) (nt:Nat) (ix:List Nat):Bool :=
 (scope.kind == .function)&&(scope.names.all fun y=>y.2 != .cell||scope.names.lookup y.1==some .cell)&&(scope.names.all fun y=>y.2 != .local||scope.names.lookup y.1==some .local) &&
 (scope.names.all fun y=>y.2 != .free||so.names.lookup y.1==some .cell||so.names.lookup y.1==some .free) &&
 ((bx ix.length).all fun k=>match ix[k]? with
  |none=>false
  |some i=>match N[i]? with
   |none=>false
   |some x=>N'[nt+k]? == some x&&scope.names.lookup x==some .free)&&(N'.length==nt+ix.length)
theorem bR       (h:IH so N scope N' nt ix=true) (h1:X.env.scope=so:=by rfl) (h2:X.N=N:=by rfl):n_ X scope N' nt ix:=by
 unfold IH at h;simp only [aS,cf] at h;obtain ⟨⟨⟨⟨⟨a,b⟩,c⟩,d⟩,e⟩,l⟩:=h;refine ⟨by simpa using a,fun y hy z=>?_,fun y hy z=>?_,fun y hy z=>?_,fun k i hk=>?_,by simpa using l⟩
 ·have:=b y hy;simpa [z] using this
 ·have:=c y hy;simpa [z] using this
 ·have:=d y hy;rw [h1];simpa [z] using this
 ·have hl:k<ix.length:=(List.getElem?_eq_some_iff.mp hk).1;have:=e k (List.mem_range.mpr hl);rw [hk] at this;rw [h2];simp only at this;split at this
  ·cases this
  ·rename_i x hx
   simp only [aS] at this;exact ⟨x,hx,by simpa using this.1,by simpa using this.2⟩
end L2
end
namespace L2
open PySem PySem.Spec PyProof.Rows
section
section
variable {K:a8}{nt:Nat}{ix:List Nat}{te:TE}{σ:St}{H1:Hp}{Q:VK}{a b:am}{xs ys:List V}{i k:Nat}
end
end
end L2
namespace J
open PySem L2
section
abbrev D:=Co
inductive R (α:Type) where
 |ok (a:α)
 |ex (c:Str) (n:Option D)
 |no
def R.bind {α β:Type}:R α->(α->R β)->R β
 |.ok a,f=>f a
 |.ex c n,_=>.ex c n
 |.no,_=>.no
@[simp] theorem bind_ok {α β:Type} (a:α) (f:α->R β):(R.ok a).bind f=f a:=rfl
@[simp] theorem bind_ex {α β:Type} (c:Str) (n:Option D) (f:α->R β):(R.ex c n).bind f=.ex c n:=rfl
@[simp] theorem bind_no {α β:Type} (f:α->R β):(R.no:R α).bind f=.no:=rfl
def kD:gD->D
 |.inl i=>.int i
 |.inr x=>.str x
def tD (ks:List gD):D:=.tuple (ks.map kD)
mutual
inductive RD (K:a8) (H:Hp):V->D->Prop
 |none:RD K H .non .none
 |bool (b:Bool):RD K H (.bl b) (.bool b)
 |int (i:Int):RD K H (.int i) (.int i)
 |str (x:Str):RD K H (.str x) (.str x)
 |list {a:am}{xs:List V}{ds:List D}:qB K H a xs->RDs K H xs ds->RD K H (.ref a) (.list ds)
 |tuple {a:am}{xs:List V}{ds:List D}:H a=some (.tup xs)->RDs K H xs ds->RD K H (.ref a) (.tuple ds)
 |dictK {a:am}{kvs:List (gD×V)}{ds:List (D×D)}:H a=some (.dK kvs)->RDk K H kvs ds->RD K H (.ref a) (.dict ds)
 |dictT {a:am}{kvs:List (List gD×V)}{ds:List (D×D)}:H a=some (.dT kvs)->kvs≠[]->RDt K H kvs ds->RD K H (.ref a) (.dict ds)
 |dictF {a:am}{o:Obj}{kvs:List (List gD×V)}{ds:List (D×D)}:H a=some (.frz o (.dT kvs))->kvs≠[]->RDt K H kvs ds->RD K H (.ref a) (.dict ((.none,.none)::ds))
inductive RDs (K:a8) (H:Hp):List V->List D->Prop
 |nil:RDs K H [] []
 |cons {x:V}{xs:List V}{d:D}{ds:List D}:RD K H x d->RDs K H xs ds->RDs K H (x::xs) (d::ds)
inductive RDk (K:a8) (H:Hp):List (gD×V)->List (D×D)->Prop
 |nil:RDk K H [] []
 |cons {k:gD}{x:V}{xs:List (gD×V)}{d:D}{ds:List (D×D)}:RD K H x d->RDk K H xs ds->RDk K H ((k,x)::xs) ((kD k,d)::ds)
inductive RDt (K:a8) (H:Hp):List (List gD×V)->List (D×D)->Prop
 |nil:RDt K H [] []
 |cons {k:List gD}{x:V}{xs:List (List gD×V)}{d:D}{ds:List (D×D)}:RD K H x d->RDt K H xs ds->RDt K H ((k,x)::xs) ((tD k,d)::ds)
end
section
theorem RD.same (e:dD H H')  (h:RD K H v d):RD K H' v d:=RD.rec (motive_1:=fun v d _=>RD K H' v d) (motive_2:=fun v d _=>RDs K H' v d) (motive_3:=fun v d _=>RDk K H' v d) (motive_4:=fun v d _=>RDt K H' v d) .none .bool .int .str (fun h _ r=>.list (e.seq h) r) (fun h _ r=>.tuple (e _ _ h) r) (fun h _ r=>.dictK (e _ _ h) r) (fun h n _ r=>.dictT (e _ _ h) n r) (fun h n _ r=>.dictF (e _ _ h) n r) .nil (fun _ _ a b=>.cons a b) .nil (fun _ _ a b=>.cons a b) .nil (fun _ _ a b=>.cons a b) h
theorem RDs.same (e:dD H H')  (h:RDs K H v d):RDs K H' v d:=RDs.rec (motive_1:=fun v d _=>RD K H' v d) (motive_2:=fun v d _=>RDs K H' v d) (motive_3:=fun v d _=>RDk K H' v d) (motive_4:=fun v d _=>RDt K H' v d) .none .bool .int .str (fun h _ r=>.list (e.seq h) r) (fun h _ r=>.tuple (e _ _ h) r) (fun h _ r=>.dictK (e _ _ h) r) (fun h n _ r=>.dictT (e _ _ h) n r) (fun h n _ r=>.dictF (e _ _ h) n r) .nil (fun _ _ a b=>.cons a b) .nil (fun _ _ a b=>.cons a b) .nil (fun _ _ a b=>.cons a b) h
theorem RDk.same (e:dD H H')  (h:RDk K H v d):RDk K H' v d:=RDk.rec (motive_1:=fun v d _=>RD K H' v d) (motive_2:=fun v d _=>RDs K H' v d) (motive_3:=fun v d _=>RDk K H' v d) (motive_4:=fun v d _=>RDt K H' v d) .none .bool .int .str (fun h _ r=>.list (e.seq h) r) (fun h _ r=>.tuple (e _ _ h) r) (fun h _ r=>.dictK (e _ _ h) r) (fun h n _ r=>.dictT (e _ _ h) n r) (fun h n _ r=>.dictF (e _ _ h) n r) .nil (fun _ _ a b=>.cons a b) .nil (fun _ _ a b=>.cons a b) .nil (fun _ _ a b=>.cons a b) h
theorem RDt.same (e:dD H H')  (h:RDt K H v d):RDt K H' v d:=RDt.rec (motive_1:=fun v d _=>RD K H' v d) (motive_2:=fun v d _=>RDs K H' v d) (motive_3:=fun v d _=>RDk K H' v d) (motive_4:=fun v d _=>RDt K H' v d) .none .bool .int .str (fun h _ r=>.list (e.seq h) r) (fun h _ r=>.tuple (e _ _ h) r) (fun h _ r=>.dictK (e _ _ h) r) (fun h n _ r=>.dictT (e _ _ h) n r) (fun h n _ r=>.dictF (e _ _ h) n r) .nil (fun _ _ a b=>.cons a b) .nil (fun _ _ a b=>.cons a b) .nil (fun _ _ a b=>.cons a b) h
mutual
def rj:D->Bool
 |.dict _=>false
 |.list xs=>noDs xs
 |.tuple xs=>noDs xs
 |_=>true
def noDs:List D->Bool
 |[]=>true
 |x::r=>rj x&&noDs r
end
theorem W2 (h:(a&&b)=true):a=true:=(Bool.and_eq_true_iff.mp h).1
theorem W3 (h:(a&&b)=true):b=true:=(Bool.and_eq_true_iff.mp h).2
theorem RD.rep  (h:RD K H v d):rj d=true->GT K H v d:=RD.rec (motive_1:=fun v d _=>rj d=true->GT K H v d) (motive_2:=fun v d _=>noDs d=true->Reps K H v d) (motive_3:=fun _ _ _=>True) (motive_4:=fun _ _ _=>True) (fun _=>.none) (fun b _=>.bool b) (fun i _=>.int i) (fun x _=>.str x) (fun h _ r e=>.list h (r e)) (fun h _ r e=>.tuple (.of h) (r e)) (fun _ _ _ e=>yd e) (fun _ _ _ _ e=>yd e) (fun _ _ _ _ e=>yd e) (fun _=>.nil) (fun _ _ a b e=>.cons (a (W2 e)) (b (W3 e))) trivial (fun _ _ _ _=>trivial) trivial (fun _ _ _ _=>trivial) h
theorem RDs.length:∀ {ds:List D},RDs K H vs ds->vs.length=ds.length:=by
 induction vs with
 |nil=>intro ds h;cases h;rfl
 |cons x r ih=>intro ds h;cases h with|cons a b=>exact congrArg (· + 1) (ih b)
theorem RDs.get:∀ {ds:List D}{i:Nat}{v:V},RDs K H vs ds->vs[i]?=some v->∃ d,ds[i]?=some d/\RD K H v d:=by
 induction vs with
 |nil=>intro ds i v _ e;cases e
 |cons x r ih =>
  intro ds i v h e;cases h with
  |cons a b =>
   cases i with
   |zero=>cases e;exact ⟨_,rfl,a⟩
   |succ i=>have q:=ih (i:=i) b e;exact q
theorem RDs.get':∀ {ds:List D}{i:Nat}{d:D},RDs K H vs ds->ds[i]?=some d->∃ v,vs[i]?=some v/\RD K H v d:=by
 induction vs with
 |nil=>intro ds i v h e;cases h;cases e
 |cons x r ih =>
  intro ds i v h e;cases h with
  |cons a b =>
   cases i with
   |zero=>cases e;exact ⟨_,rfl,a⟩
   |succ i=>have q:=ih (i:=i) b e;exact q
theorem RDs.append  : ∀ {ds:List D},RDs K H vs ds->RDs K H ws es->RDs K H (vs++ws) (ds++es):=by
 induction vs with
 |nil=>intro ds h s;cases h;exact s
 |cons x r ih=>intro ds h s;cases h with|cons a b=>exact .cons a (ih b s)
theorem RDs.drop:∀ {ds:List D} (n:Nat),RDs K H vs ds->RDs K H (vs.drop n) (ds.drop n):=by
 induction vs with
 |nil=>intro ds n h;cases h;cases n<;>exact .nil
 |cons x r ih =>
  intro ds n h;cases n with
  |zero=>exact h
  |succ n=>cases h with|cons a b=>exact ih n b
theorem RDs.take:∀ {ds:List D} (n:Nat),RDs K H vs ds->RDs K H (vs.take n) (ds.take n):=by
 induction vs with
 |nil=>intro ds n h;cases h;cases n<;>exact .nil
 |cons x r ih =>
  intro ds n h;cases n with
  |zero=>exact .nil
  |succ n=>cases h with|cons a b=>exact .cons a (ih n b)
theorem vi:∀ (ss:List Str),RDs K H (ss.map V.str) (ss.map aO)
 |[]=>.nil
 |x::r=>.cons (.str x) (vi r)
theorem RD.str_inv  (h:RD K H v (.str x)):v=.str x:=by cases h;rfl
theorem RD.bool_inv  (h:RD K H v (.bool x)):v=.bl x:=by cases h;rfl
theorem RD.int_inv  (h:RD K H v (.int x)):v=.int x:=by cases h;rfl
theorem CT {α:Type}{c:α->D}{k:α->V} (hc:∀ {v x},RD K H v (c x)->v=k x) {ss:List α}:∀ {vs:List V},RDs K H vs (ss.map c)->vs=ss.map k:=by
 induction ss with
 |nil=>intro vs h;cases h;rfl
 |cons x r ih=>intro vs h;cases h with|cons a b=>rw [hc a,ih b];rfl
theorem lX {ss:List Str}{vs:List V}:RDs K H vs (ss.map aO)->vs=ss.map V.str:=CT RD.str_inv
theorem AS {ss:List Bool}{vs:List V}:RDs K H vs (ss.map cU)->vs=ss.map V.bl:=CT RD.bool_inv
end
def nt:HO->Bool
 |.tup _=>false
 |_=>true
structure cP (H Hs H' Hs':Hp):Prop where
 all:dD H H'
 sh:dD Hs Hs'
 sub:dD Hs' H'
 out:∀ a o,H a=some o->nt o=true->Hs a=none->Hs' a=none
theorem cP.refl (h:dD Hs H):cP H Hs H Hs:=⟨.refl _,.refl _,h,fun _ _ _ _ e=>e⟩
theorem cP.trans (a:cP H Hs H1 Hs1) (b:cP H1 Hs1 H2 Hs2):cP H Hs H2 Hs2 :=
 ⟨a.all.trans b.all,a.sh.trans b.sh,b.sub,fun c o e t n=>b.out c o (a.all c o e) t (a.out c o e t n)⟩
theorem cP.new   (h:dD Hs H) (n:H p=none):cP H Hs (upd H p o) (upd Hs p o):=by
 have n':Hs p=none:=h.free n;refine ⟨mD n,mD n',fun b u e=>?_,fun a u e t z=>?_⟩
 ·by_cases hb:b=p
  ·subst hb;rw [b9] at e ⊢;exact e
  ·rw [bd hb] at e ⊢;exact h b u e
 ·rw [bd (bU e n)];exact z
theorem cP.mine   (h:dD Hs H) (n:H p=none):cP H Hs (upd H p o) Hs:=by
 refine ⟨mD n,.refl _,fun b u e=>?_,fun a u e t z=>z⟩;have e':=h b u e;rw [bd (bU e' n)];exact e'
inductive n8 (K:a8) (Hs:Hp):HO->D->Prop
 |lst {vs:List V}{ds:List D}:RDs K Hs vs ds->n8 K Hs (.lst vs) (.list ds)
 |dK {kvs:List (gD×V)}{ds:List (D×D)}:RDk K Hs kvs ds->n8 K Hs (.dK kvs) (.dict ds)
 |dT {kvs:List (List gD×V)}{ds:List (D×D)}:kvs≠[]->RDt K Hs kvs ds->n8 K Hs (.dT kvs) (.dict ds)
 |dF {o:Obj}{kvs:List (List gD×V)}{ds:List (D×D)}:kvs≠[]->RDt K Hs kvs ds->n8 K Hs (.frz o (.dT kvs)) (.dict ((.none,.none)::ds))
theorem n8.same    (e:dD Hs Hs') (h:n8 K Hs o d):n8 K Hs' o d:=by
 cases h with
 |lst r=>exact .lst (r.same e)
 |dK r=>exact .dK (r.same e)
 |dT n r=>exact .dT n (r.same e)
 |dF n r=>exact .dF n (r.same e)
theorem n8.nt    (h:n8 K Hs o d):J.nt o=true:=by cases h<;>rfl
theorem n8.share     (n:Hs a=none) (h:n8 K Hs o d):RD K (upd Hs a o) (.ref a) d:=by
 have e:dD Hs (upd Hs a o):=mD n;cases h with
 |lst r=>exact .list (.of b9) (r.same e)
 |dK r=>exact .dictK b9 (r.same e)
 |dT n r=>exact .dictT b9 n (r.same e)
 |dF n r=>exact .dictF b9 n (r.same e)
inductive Sl where
 |no
 |shr (d:D)
 |own (d:D)
 |lck (d:D)
 |ow2 (dss:List (List D))
abbrev aD:=List Sl
inductive BA (K:a8) (H Hs:Hp):List am->List (List D)->Prop
 |nil:BA K H Hs [] []
 |cons {a:am}{as:List am}{vs:List V}{ds:List D}{dss:List (List D)}:H a=some (.lst vs)->RDs K Hs vs ds->BA K H Hs as dss->BA K H Hs (a::as) (ds::dss)
theorem BA.step  (e:dD H H') (e':dD Hs Hs')  (h:BA K H Hs as dss):BA K H' Hs' as dss:=by
 induction h with
 |nil=>exact .nil
 |cons h r t ih=>exact .cons (e _ _ h) (r.same e') ih
theorem BA.upd      (n:b∉as) (h:BA K H Hs as dss):BA K (upd H b o) Hs as dss:=by
 induction h with
 |nil=>exact .nil
 |cons h r t ih=>exact .cons (by rw [bd (fun z=>n (by rw [<- z];exact ak))];exact h) r (ih fun z=>n (ai _ z))
theorem BA.there     (h:BA K H Hs as dss) (hb:b∈as):∃ o,H b=some o/\nt o=true:=by
 induction h with
 |nil=>cases hb
 |cons h r t ih =>
  rcases List.mem_cons.mp hb with e|hb
  ·exact ⟨_,e ▸ h,rfl⟩
  ·exact ih hb
structure O2 (K:a8) (H0 H Hs:Hp) (ρ:aD) (σ:St) (i:Nat) (dss:List (List D)) (a:am) (as:List am):Prop where
 at_:σ[i]?=some (some (V.ref a))
 ob:H a=some (.lst (as.map V.ref))
 nd:(a::as).Nodup
 out:∀ b∈a::as,Hs b=none/\H0 b=none
 dj:∀ b∈a::as,∀ (j:Nat) (e:D),ρ[j]?=some (Sl.own e)->σ[j]?≠some (some (V.ref b))
 inn:BA K H Hs as dss
structure Fr (K:a8) (H0 Hs0:Hp) (la:Nat->Option am) (ρ:aD) (σ:St) (H Hs:Hp):Prop where
 st:cP H0 Hs0 H Hs
 len:ρ.length=σ.length
 sh:∀ (i:Nat) (d:D),ρ[i]?=some (Sl.shr d)->∃ v,σ[i]?=some (some v)/\RD K Hs v d
 ow:∀ (i:Nat) (d:D),ρ[i]?=some (Sl.own d)->∃ a o,σ[i]?=some (some (V.ref a))/\H a=some o/\Hs a=none/\H0 a=none/\n8 K Hs o d
 lk:∀ (i:Nat) (d:D),ρ[i]?=some (Sl.lck d)->∃ a o,σ[i]?=some (some (V.ref a))/\la i=some a/\H a=some o/\Hs a=none/\H0 a=some o/\n8 K Hs o d
 dj:∀ (i j:Nat) (d e:D) (a:am),ρ[i]?=some (Sl.own d)->ρ[j]?=some (Sl.own e)->σ[i]?=some (some (V.ref a))->σ[j]?=some (some (V.ref a))->i=j
 lh:∀ (i:Nat) (a:am),la i=some a->∃ o,H0 a=some o
 o2:∀ (i:Nat) (dss:List (List D)),ρ[i]?=some (Sl.ow2 dss)->∃ a as,O2 K H0 H Hs ρ σ i dss a as
 u2:∀ (i j:Nat) (d e:List (List D)),ρ[i]?=some (Sl.ow2 d)->ρ[j]?=some (Sl.ow2 e)->i=j
theorem Fr.step     (f:Fr K H0 Hs0 la ρ σ H Hs) (s:cP H Hs H' Hs'):Fr K H0 Hs0 la ρ σ H' Hs':=by
 refine ⟨f.st.trans s,f.len,fun i d e=>?_,fun i d e=>?_,fun i d e=>?_,f.dj,f.lh,fun i dss e=>?_,f.u2⟩
 ·obtain ⟨v,h1,h2⟩:=f.sh i d e;exact ⟨v,h1,h2.same s.sh⟩
 ·obtain ⟨a,o,h1,h2,h3,h4,h5⟩:=f.ow i d e;exact ⟨a,o,h1,s.all _ _ h2,s.out _ _ h2 h5.nt h3,h4,h5.same s.sh⟩
 ·obtain ⟨a,o,h1,h2,h3,h4,h5,h6⟩:=f.lk i d e;exact ⟨a,o,h1,h2,s.all _ _ h3,s.out _ _ h3 h6.nt h4,h5,h6.same s.sh⟩
 ·obtain ⟨a,as,h⟩:=f.o2 i dss e;refine ⟨a,as,h.at_,s.all _ _ h.ob,h.nd,fun b hb=>⟨?_,(h.out b hb).2⟩,h.dj,h.inn.step s.all s.sh⟩;have there:∃ o,H b=some o/\nt o=true:=by
   rcases List.mem_cons.mp hb with rfl|hb
   ·exact ⟨_,h.ob,rfl⟩
   ·exact h.inn.there hb
  obtain ⟨o,ho,hn⟩:=there;exact s.out b o ho hn (h.out b (by assumption)).1
inductive W4 (K:a8) (H Hs:Hp) (v:V) (d:D):Prop
 |mk (a:am) (o:HO) (h0:v=.ref a) (h1:H a=some o) (h2:Hs a=none) (h3:n8 K Hs o d):W4 K H Hs v d
def RB (K:a8) (H Hs:Hp) (v:V) (d:D):Prop:=RD K Hs v d\/W4 K H Hs v d
theorem RB.step    (h:RB K H Hs v d) (s:cP H Hs H' Hs'):RB K H' Hs' v d:=by
 rcases h with h|⟨a,o,h1,h2,h3,h4⟩
 ·exact .inl (h.same s.sh)
 ·exact .inr ⟨a,o,h1,s.all _ _ h2,s.out _ _ h2 h4.nt h3,h4.same s.sh⟩
theorem RB.full    (sub:dD Hs H) (h:RB K H Hs v d):RD K H v d:=by
 rcases h with h|⟨a,o,rfl,h2,h3,h4⟩
 ·exact h.same sub
 ·have e:dD (upd Hs a o) H:=fun b u q=>by
   by_cases hb:b=a
   ·subst hb;rw [b9] at q;cases q;exact h2
   ·rw [bd hb] at q;exact sub b u q
  exact (h4.share h3).same e
theorem RB.list    (sub:dD Hs H) (h:RB K H Hs v (.list ds)):∃ a vs,v=.ref a/\qB K H a vs/\RDs K Hs vs ds:=by
 rcases h with h|⟨a,o,rfl,h2,h3,h4⟩
 ·cases h with|list q r=>exact ⟨_,_,rfl,sub.seq q,r⟩
 ·cases h4 with|lst r=>exact ⟨a,_,rfl,.of h2,r⟩
theorem RB.tuple    (sub:dD Hs H) (h:RB K H Hs v (.tuple ds)):∃ a vs,v=.ref a/\lu K H a vs/\RDs K Hs vs ds/\Hs a=some (.tup vs):=by
 rcases h with h|⟨a,o,rfl,h2,h3,h4⟩
 ·cases h with|tuple q r=>exact ⟨_,_,rfl,.of (sub _ _ q),r,q⟩
 ·cases h4
theorem RB.str    (h:RB K H Hs v (.str x)):v=.str x:=by
 rcases h with h|⟨a,o,rfl,h2,h3,h4⟩
 ·exact h.str_inv
 ·cases h4
theorem RB.int    (h:RB K H Hs v (.int i)):v=.int i:=by
 rcases h with h|⟨a,o,rfl,h2,h3,h4⟩
 ·exact h.int_inv
 ·cases h4
theorem RB.non   (h:RB K H Hs v .none):v=.non:=by
 rcases h with h|⟨a,o,rfl,h2,h3,h4⟩
 ·cases h;rfl
 ·cases h4
def XW (K:a8) (cls:Str->am) (E:XK) (c:Str) (n:Option D) (H Hs:Hp):Prop:=match n with
 |none=>E (.ref (cls c)) none H
 |some d=>∀ dx v,H dx=some (.xd [("number",v)])->RD K Hs v d->E (.ref (cls c)) (some dx) H
def Fin {α:Type} (K:a8) (cls:Str->am) (E:XK) (H Hs:Hp) (r:R α) (q:α->Prop):Prop:=match r with
 |.ok d=>q d
 |.ex c n=>∀ H' Hs',cP H Hs H' Hs'->XW K cls E c n H' Hs'
 |.no=>False
inductive YV (K:a8) (cls:Str->am) (E:XK) (ρ:aD) (r:R D) (σ:St) (H:Hp) (Q:VK):Prop
 |mk (H0 Hs0:Hp) (la:Nat->Option am) (Hs:Hp) (f:Fr K H0 Hs0 la ρ σ H Hs) (q:Fin K cls E H Hs r fun d=>∀ v H' Hs',cP H Hs H' Hs'->RD K Hs' v d->Q v H'):YV K cls E ρ r σ H Q
def TR (K:a8) (cls:Str->am) (E:XK) (ρ:aD) (r:R D):TE:=YV K cls E ρ r
inductive YW (K:a8) (cls:Str->am) (E:XK) (ρ:aD) (r:R D) (σ:St) (H:Hp) (Q:VK):Prop
 |mk (H0 Hs0:Hp) (la:Nat->Option am) (Hs:Hp) (f:Fr K H0 Hs0 la ρ σ H Hs) (q:Fin K cls E H Hs r fun d=>∀ v H' Hs',cP H Hs H' Hs'->RB K H' Hs' v d->Q v H'):YW K cls E ρ r σ H Q
def TB (K:a8) (cls:Str->am) (E:XK) (ρ:aD) (r:R D):TE:=YW K cls E ρ r
inductive W5 (K:a8) (cls:Str->am) (E:XK) (ρ:aD) (r:R Bool) (σ:St) (H:Hp) (Q:Bool->Hp->Prop):Prop
 |mk (H0 Hs0:Hp) (la:Nat->Option am) (Hs:Hp) (f:Fr K H0 Hs0 la ρ σ H Hs) (q:Fin K cls E H Hs r fun b=>∀ H' Hs',cP H Hs H' Hs'->Q b H'):W5 K cls E ρ r σ H Q
def KI (K:a8) (cls:Str->am) (E:XK) (ρ:aD) (r:R Bool):TT:=W5 K cls E ρ r
inductive Sz (K:a8) (H Hs:Hp):List V->List D->Prop
 |nil:Sz K H Hs [] []
 |cons {x:V}{xs:List V}{d:D}{ds:List D}:RB K H Hs x d->Sz K H Hs xs ds->Sz K H Hs (x::xs) (d::ds)
inductive W6 (K:a8) (cls:Str->am) (E:XK) (ρ:aD) (r:R (List D)) (σ:St) (H:Hp) (Q:List V->Hp->Prop):Prop
 |mk (H0 Hs0:Hp) (la:Nat->Option am) (Hs:Hp) (f:Fr K H0 Hs0 la ρ σ H Hs) (q:Fin K cls E H Hs r fun d=>∀ v H' Hs',cP H Hs H' Hs'->RDs K Hs' v d->Q v H'):W6 K cls E ρ r σ H Q
def Vj (K:a8) (cls:Str->am) (E:XK) (ρ:aD) (r:R (List D)):TA:=W6 K cls E ρ r
inductive W7 (K:a8) (cls:Str->am) (E:XK) (ρ:aD) (r:R (List D)) (σ:St) (H:Hp) (Q:List V->Hp->Prop):Prop
 |mk (H0 Hs0:Hp) (la:Nat->Option am) (Hs:Hp) (f:Fr K H0 Hs0 la ρ σ H Hs) (q:Fin K cls E H Hs r fun d=>∀ v H' Hs',cP H Hs H' Hs'->Sz K H' Hs' v d->Q v H'):W7 K cls E ρ r σ H Q
def Xw (K:a8) (cls:Str->am) (E:XK) (ρ:aD) (r:R (List D)):TA:=W7 K cls E ρ r
structure C where
 X:Cx
 cls:Str->am
 E:XK
structure JE (c:C) (e:bY) (g:aD->R D):Prop where of ::
 run:∀ ρ,PE c.X e (TR c.X.K c.cls c.E ρ (g ρ))
instance {c:C}{e:bY}{g:aD->R D}:CoeFun (JE c e g) (fun _=>∀ ρ,PE c.X e (TR c.X.K c.cls c.E ρ (g ρ))):=⟨JE.run⟩
structure JB (c:C) (e:bY) (g:aD->R D):Prop where of ::
 run:∀ ρ,PE c.X e (TB c.X.K c.cls c.E ρ (g ρ))
instance {c:C}{e:bY}{g:aD->R D}:CoeFun (JB c e g) (fun _=>∀ ρ,PE c.X e (TB c.X.K c.cls c.E ρ (g ρ))):=⟨JB.run⟩
structure JT (c:C) (e:bY) (g:aD->R Bool):Prop where of ::
 run:∀ ρ,PT c.X e (KI c.X.K c.cls c.E ρ (g ρ))
instance {c:C}{e:bY}{g:aD->R Bool}:CoeFun (JT c e g) (fun _=>∀ ρ,PT c.X e (KI c.X.K c.cls c.E ρ (g ρ))):=⟨JT.run⟩
structure JW (c:C) (e:bY) (g:aD->R Bool):Prop where of ::
 run:∀ ρ,PW c.X e (KI c.X.K c.cls c.E ρ (g ρ))
instance {c:C}{e:bY}{g:aD->R Bool}:CoeFun (JW c e g) (fun _=>∀ ρ,PW c.X e (KI c.X.K c.cls c.E ρ (g ρ))):=⟨JW.run⟩
structure Ge (c:C) (es:List bY) (g:aD->R (List D)):Prop where of ::
 run:∀ ρ,PA c.X es (Vj c.X.K c.cls c.E ρ (g ρ))
instance {c:C}{es:List bY}{g:aD->R (List D)}:CoeFun (Ge c es g) (fun _=>∀ ρ,PA c.X es (Vj c.X.K c.cls c.E ρ (g ρ))):=⟨Ge.run⟩
structure SA (c:C) (es:List bY) (g:aD->R (List D)):Prop where of ::
 run:∀ ρ,PA c.X es (Xw c.X.K c.cls c.E ρ (g ρ))
instance {c:C}{es:List bY}{g:aD->R (List D)}:CoeFun (SA c es g) (fun _=>∀ ρ,PA c.X es (Xw c.X.K c.cls c.E ρ (g ρ))):=⟨SA.run⟩
section
theorem sv   (h:PE X e t) (m:∀ σ H Q,t' σ H Q->t σ H Q):PE X e t':=fun pins s σ H Q I q=>h pins s σ H Q I (m σ H Q q)
theorem W8   (h:PT X e t) (m:∀ σ H Q,t' σ H Q->t σ H Q):PT X e t':=fun pins s σ H Q I q=>h pins s σ H Q I (m σ H Q q)
theorem YX   (h:PW X e t) (m:∀ σ H Q,t' σ H Q->t σ H Q):PW X e t':=fun wh pins s σ H Q I q=>h wh pins s σ H Q I (m σ H Q q)
theorem Xx {X:Cx}{e:List bY}{t t':TA} (h:PA X e t) (m:∀ σ H Q,t' σ H Q->t σ H Q):PA X e t':=fun pos pins s σ H Q I q=>h pos pins s σ H Q I (m σ H Q q)
theorem As {X:Cx}{e:db}{t t':TS} (h:PS X e t) (m:∀ D σ H,t' D σ H->t D σ H):PS X e t':=fun pins s σ H Q I q=>h pins s σ H Q I (m Q σ H q)
theorem Ym {X:Cx}{e:List db}{t t':TS} (h:E6 X e t) (m:∀ D σ H,t' D σ H->t D σ H):E6 X e t':=fun pins s σ H Q I q=>h pins s σ H Q I (m Q σ H q)
theorem JE.bor (h:JE c e g):JB c e g:=.of fun ρ=>sv (h ρ) fun σ H Q ⟨H0,Hs0,la,Hs,f,q⟩=>⟨H0,Hs0,la,Hs,f,by
 cases hr:g ρ with
 |ok d=>rw [hr] at q;exact fun v H' Hs' s r=>q v H' Hs' s (.inl r)
 |ex c n=>rw [hr] at q;exact q
 |no=>rw [hr] at q;exact q⟩
theorem one {K:a8}{cls:Str->am}{E:XK}{ρ:aD}{r:R D}{β:Type}{k:D->R β}{σ:St}{H:Hp}{H0 Hs0 Hs:Hp}{la:Nat->Option am}{Q:V->Hp->Prop}{q:β->Prop} (f:Fr K H0 Hs0 la ρ σ H Hs)
  (h:Fin K cls E H Hs (r.bind k) q) (m:∀ d v H' Hs',r=.ok d->cP H Hs H' Hs'->Fr K H0 Hs0 la ρ σ H' Hs'->RB K H' Hs' v d->Q v H'):TB K cls E ρ r σ H Q:=by
 refine ⟨H0,Hs0,la,Hs,f,?_⟩;cases r with
 |ok d=>exact fun v H' Hs' s r=>m d v H' Hs' rfl s (f.step s) r
 |ex c n=>exact h
 |no=>exact h
theorem AT {K:a8}{cls:Str->am}{E:XK}{ρ:aD}{r:R D}{β:Type}{k:D->R β}{σ:St}{H:Hp}{H0 Hs0 Hs:Hp}{la:Nat->Option am}{Q:V->Hp->Prop}{q:β->Prop} (f:Fr K H0 Hs0 la ρ σ H Hs)
  (h:Fin K cls E H Hs (r.bind k) q) (m:∀ d v H' Hs',r=.ok d->cP H Hs H' Hs'->Fr K H0 Hs0 la ρ σ H' Hs'->RD K Hs' v d->Q v H'):TR K cls E ρ r σ H Q:=by
 refine ⟨H0,Hs0,la,Hs,f,?_⟩;cases r with
 |ok d=>exact fun v H' Hs' s r=>m d v H' Hs' rfl s (f.step s) r
 |ex c n=>exact h
 |no=>exact h
theorem GW {K:a8}{cls:Str->am}{E:XK}{ρ:aD}{r:R Bool}{β:Type}{k:Bool->R β}{σ:St}{H:Hp}{H0 Hs0 Hs:Hp}{la:Nat->Option am}{Q:Bool->Hp->Prop}{q:β->Prop} (f:Fr K H0 Hs0 la ρ σ H Hs)
  (h:Fin K cls E H Hs (r.bind k) q) (m:∀ d H' Hs',r=.ok d->cP H Hs H' Hs'->Fr K H0 Hs0 la ρ σ H' Hs'->Q d H'):KI K cls E ρ r σ H Q:=by
 refine ⟨H0,Hs0,la,Hs,f,?_⟩;cases r with
 |ok d=>exact fun H' Hs' s=>m d H' Hs' rfl s (f.step s)
 |ex c n=>exact h
 |no=>exact h
theorem CU {K:a8}{cls:Str->am}{E:XK}{ρ:aD}{r:R (List D)}{β:Type}{k:List D->R β}{σ:St}{H:Hp}{H0 Hs0 Hs:Hp}{la:Nat->Option am}{Q:List V->Hp->Prop}{q:β->Prop} (f:Fr K H0 Hs0 la ρ σ H Hs)
  (h:Fin K cls E H Hs (r.bind k) q) (m:∀ d v H' Hs',r=.ok d->cP H Hs H' Hs'->Fr K H0 Hs0 la ρ σ H' Hs'->RDs K Hs' v d->Q v H'):Vj K cls E ρ r σ H Q:=by
 refine ⟨H0,Hs0,la,Hs,f,?_⟩;cases r with
 |ok d=>exact fun v H' Hs' s r=>m d v H' Hs' rfl s (f.step s) r
 |ex c n=>exact h
 |no=>exact h
theorem N8 {K:a8}{cls:Str->am}{E:XK}{ρ:aD}{r:R (List D)}{β:Type}{k:List D->R β}{σ:St}{H:Hp}{H0 Hs0 Hs:Hp}{la:Nat->Option am}{Q:List V->Hp->Prop}{q:β->Prop} (f:Fr K H0 Hs0 la ρ σ H Hs)
  (h:Fin K cls E H Hs (r.bind k) q) (m:∀ d v H' Hs',r=.ok d->cP H Hs H' Hs'->Fr K H0 Hs0 la ρ σ H' Hs'->Sz K H' Hs' v d->Q v H'):Xw K cls E ρ r σ H Q:=by
 refine ⟨H0,Hs0,la,Hs,f,?_⟩;cases r with
 |ok d=>exact fun v H' Hs' s r=>m d v H' Hs' rfl s (f.step s) r
 |ex c n=>exact h
 |no=>exact h
theorem Fin.on {α:Type}{K:a8}{cls:Str->am}{E:XK}{H Hs H' Hs':Hp}{r:R α}{q q':α->Prop} (h:Fin K cls E H Hs r q) (s:cP H Hs H' Hs') (m:∀ a,q a->q' a):Fin K cls E H' Hs' r q':=by
 cases r with
 |ok a=>exact m a h
 |ex c n=>exact fun H2 Hs2 s2=>h H2 Hs2 (s.trans s2)
 |no=>exact h
end
end
section
def Gf (ρ:aD) (i:Nat):R D:=match ρ[i]? with
 |some (Sl.shr d)=>.ok d
 |_=>.no
def Gg (ρ:aD) (i:Nat):R D:=match ρ[i]? with
 |some (Sl.shr d)=>.ok d
 |some (Sl.own d)=>.ok d
 |some (Sl.lck d)=>.ok d
 |_=>.no
section
variable {c:C}{e a b:bY}{g ga gb:aD->R D}{pos:Pos}
theorem ag (i:Nat) (hN:c.X.N[i]?=some x:=by rfl) (hv:Ml c.X.env.scope x:=by first|exact iz rfl|exact e_ (iz rfl)|exact e_ (e_ rfl)) (hd:(x==("__debug__" : Str))=false:=by decide)
  (hcd:(x==("__classdict__" : Str))=false:=by decide):JE c (.Name x pos) (fun ρ=>Gf ρ i):=.of fun ρ=>sv (q_ hN hv hd hcd) fun σ H Q h_0=>by
 obtain ⟨H0,Hs0,la,Hs,f,q⟩:=h_0;cases hr:ρ[i]? with
 |none=>simp only [Gf,hr] at q;exact q.elim
 |some s =>
  cases s with
  |shr d =>
   obtain ⟨v,h1,h2⟩:=f.sh i d hr;simp only [Gf,hr] at q;exact ⟨v,h1,q v H Hs (.refl f.st.sub) h2⟩
  |no=>simp only [Gf,hr] at q;exact q.elim
  |own d=>simp only [Gf,hr] at q;exact q.elim
  |lck d=>simp only [Gf,hr] at q;exact q.elim
  |ow2 d=>simp only [Gf,hr] at q;exact q.elim
theorem ah (i:Nat) (hN:c.X.N[i]?=some x:=by rfl) (hv:Ml c.X.env.scope x:=by first|exact iz rfl|exact e_ (iz rfl)|exact e_ (e_ rfl)) (hd:(x==("__debug__" : Str))=false:=by decide)
  (hcd:(x==("__classdict__" : Str))=false:=by decide):JB c (.Name x pos) (fun ρ=>Gg ρ i):=.of fun ρ=>sv (q_ hN hv hd hcd) fun σ H Q h_1=>by
 obtain ⟨H0,Hs0,la,Hs,f,q⟩:=h_1;cases hr:ρ[i]? with
 |none=>simp only [Gg,hr] at q;exact q.elim
 |some s =>
  cases s with
  |shr d =>
   obtain ⟨v,h1,h2⟩:=f.sh i d hr;simp only [Gg,hr] at q;exact ⟨v,h1,q v H Hs (.refl f.st.sub) (.inl h2)⟩
  |no=>simp only [Gg,hr] at q;exact q.elim
  |own d =>
   obtain ⟨a,o,h1,h2,h3,h4,h5⟩:=f.ow i d hr;simp only [Gg,hr] at q;exact ⟨_,h1,q _ H Hs (.refl f.st.sub) (.inr ⟨a,o,rfl,h2,h3,h5⟩)⟩
  |lck d =>
   obtain ⟨a,o,h1,h2,h3,h4,h5,h6⟩:=f.lk i d hr;simp only [Gg,hr] at q;exact ⟨_,h1,q _ H Hs (.refl f.st.sub) (.inr ⟨a,o,rfl,h3,h4,h6⟩)⟩
  |ow2 d=>simp only [Gg,hr] at q;exact q.elim
theorem rm  (h:PE c.X e (tC v)) (r:∀ Hs,RD c.X.K Hs v d):JE c e (fun _=>.ok d):=.of fun ρ=>sv h fun σ H Q h_2=>by obtain ⟨H0,Hs0,la,Hs,f,q⟩:=h_2;exact q v H Hs (.refl f.st.sub) (r Hs)
theorem aF  : JE c (.Constant (.int i) j pos) (fun _=>.ok (.int i)):=rm TD fun _=>.int i
theorem mE  : JE c (.Constant (.bool i) j pos) (fun _=>.ok (.bool i)):=rm Vt fun _=>.bool i
theorem o6:JE c (.Constant .none j pos) (fun _=>.ok .none):=rm TF fun _=>.none
theorem CV  : JE c (.Constant (.str i) j pos) (fun _=>.ok (.str i)):=rm TH fun _=>.str i
theorem rn  (hg:Gl c.X x) (hm:∃ t,c.X.mg x=some (.int i t)) (hd:(x==("__debug__" : Str))=false:=by decide):JE c (.Name x pos) (fun _=>.ok (.int i)):=by
 obtain ⟨t,hm⟩:=hm;exact rm (Ix hg hm (v:=.int i) ⟨t,rfl⟩ hd) fun _=>.int i
inductive YY (K:a8) (h:D->D->R D) (x:V) (y:V) (H:Hp) (Q:VK):Prop
 |mk (Hs dx dy:_) (h0:dD Hs H) (h1:RB K H Hs x dx) (h2:RB K H Hs y dy) (h3:∃ d,h dx dy=.ok d/\∀ v H' Hs',cP H Hs H' Hs'->RD K Hs' v d->Q v H'):YY K h x y H Q
def rD (K:a8) (h:D->D->R D):R2:=YY K h
def xn (X:Cx) (f:af->af->Sem af) (h:D->D->R D):Prop:=qQ X f (rD X.K h)/\∀ x y c n,h x y≠.ex c n
def g2 (ga gb:aD->R D) (h:D->D->R D):aD->R D:=fun ρ=>(ga ρ).bind fun x=>(gb ρ).bind fun y=>h x y
theorem two        (hx:∀ x y c n,h x y≠.ex c n) (q:TR K cls E ρ (g2 ga gb h ρ) σ H Q):VE (rD K h) (TB K cls E ρ (ga ρ)) (TB K cls E ρ (gb ρ)) σ H Q:=by
 obtain ⟨H0,Hs0,la,Hs,f,q⟩:=q;refine one f q fun x v H1 Hs1 e1 s1 f1 r1=>?_;unfold g2 at q;rw [e1,bind_ok] at q;refine one f1 (q.on s1 (q':=fun _=>True) fun _ _=>trivial) fun y u H2 Hs2 e2 s2 f2 r2=>?_;rw [e2,bind_ok] at q;cases hr:h x y with
 |ok d =>
  rw [hr] at q;exact ⟨Hs2,x,y,f2.st.sub,r1.step s2,r2,d,hr,fun w H3 Hs3 s3 r3=>q w H3 Hs3 (s1.trans (s2.trans s3)) r3⟩
 |ex c n=>exact (hx x y c n hr).elim
 |no=>rw [hr] at q;exact q.elim
theorem bZ  (ho:xn c.X (gJ op) h) (ha:JB c a ga) (hb:JB c b gb):JE c (.BinOp a op b pos) (g2 ga gb h):=.of fun ρ=>sv (Sd ho.1 (ha ρ) (hb ρ)) fun σ H Q q=>two ho.2 q
theorem lL  (ho:xn c.X (bC op) h) (ha:JB c a ga) (hb:JB c b gb) (hm:i4 op b=false:=by first|exact Mv _|rfl):JE c (.Compare a [op] [b] pos) (g2 ga gb h):=.of fun ρ=>sv (Qx ho.1 (ha ρ) (hb ρ) hm) fun σ H Q q=>two ho.2 q
def g9 (g:aD->R D):aD->R Bool:=fun ρ=>(g ρ).bind fun d=>match d with
 |.bool b=>.ok b
 |_=>.no
theorem Vk       (q:KI K cls E ρ (g9 g ρ) σ H Q):TR K cls E ρ (g ρ) σ H fun x H'=>∃ k,x=.bl k/\Q k H':=by
 obtain ⟨H0,Hs0,la,Hs,f,q⟩:=q;refine AT f q fun d v H1 Hs1 e1 s1 f1 r1=>?_;unfold g9 at q;rw [e1,bind_ok] at q;cases r1 with
 |bool b=>exact ⟨b,rfl,q H1 Hs1 s1⟩
 |_=>exact q.elim
theorem dL  (ho:xn c.X (bC op) h) (ha:JB c a ga) (hb:JB c b gb) (hm:i4 op b=false:=by first|exact Mv _|rfl):JT c (.Compare a [op] [b] pos) (g9 (g2 ga gb h)):=.of fun ρ=>W8 (Qy ho.1 (ha ρ) (hb ρ) hm) fun σ H Q q=>two ho.2 (Vk q)
theorem eV (h:JE c e g) (he:∀ whole,vZ e c.X.env whole=(do let v <- whole;xc e.pos;holding [v] (truthy v)):=by intro _;rfl):JT c e (g9 g):=.of fun ρ=>W8 (TJ (h ρ) he) fun σ H Q q=>Vk q
def jT (g:aD->R Bool):aD->R Bool:=fun ρ=>(g ρ).bind fun b=>.ok (!b)
def GX (g h:aD->R Bool):aD->R Bool:=fun ρ=>(g ρ).bind fun b=>if b then h ρ else .ok false
def KJ (g h:aD->R Bool):aD->R Bool:=fun ρ=>(g ρ).bind fun b=>if b then .ok true else h ρ
variable {gt gu:aD->R Bool}{cp:List bY}
theorem fE (h:JT c e gt):JT c (.UnaryOp .Not e pos) (jT gt):=.of fun ρ=>W8 (TM (h ρ)) fun σ H Q q=>by
 obtain ⟨H0,Hs0,la,Hs,f,q⟩:=q;refine GW f q fun d H1 Hs1 e1 s1 f1=>?_;unfold jT at q;rw [e1,bind_ok] at q;exact q H1 Hs1 s1
theorem CW (h:JT c a gt):JW c (.BoolOp .And [a] pos) gt:=.of fun ρ=>Qs (h ρ)
theorem o7 (h:JT c a gt):JW c (.BoolOp .Or [a] pos) gt:=.of fun ρ=>TK (h ρ)
theorem GY (h:JT c a gt) (h2:JW c (.BoolOp .And (b::cp) pos) gu):JW c (.BoolOp .And (a::b::cp) pos) (GX gt gu):=.of fun ρ=>YX (TL (h ρ) (h2 ρ)) fun σ H Q q=>by
 obtain ⟨H0,Hs0,la,Hs,f,q⟩:=q;refine GW f q fun d H1 Hs1 e1 s1 f1=>?_;unfold GX at q;rw [e1,bind_ok] at q;cases d with
 |true=>exact AL ⟨H0,Hs0,la,Hs1,f1,q.on s1 fun b k H2 Hs2 s2=>k H2 Hs2 (s1.trans s2)⟩
 |false=>exact AK (q H1 Hs1 s1)
theorem tM (h:JT c a gt) (h2:JW c (.BoolOp .Or (b::cp) pos) gu):JW c (.BoolOp .Or (a::b::cp) pos) (KJ gt gu):=.of fun ρ=>YX (Vu (h ρ) (h2 ρ)) fun σ H Q q=>by
 obtain ⟨H0,Hs0,la,Hs,f,q⟩:=q;refine GW f q fun d H1 Hs1 e1 s1 f1=>?_;unfold KJ at q;rw [e1,bind_ok] at q;cases d with
 |false=>exact AK ⟨H0,Hs0,la,Hs1,f1,q.on s1 fun b k H2 Hs2 s2=>k H2 Hs2 (s1.trans s2)⟩
 |true=>exact AL (q H1 Hs1 s1)
theorem JW.t (h:JW c e gt):JT c e gt:=.of fun ρ=>(h ρ).pt
def Ex (g:aD->R D):aD->R D:=fun ρ=>(g9 g ρ).bind fun b=>.ok (.bool (!b))
theorem N9 (h:JE c e g):JE c (.UnaryOp .Not e pos) (Ex g):=.of fun ρ=>sv (TV (h ρ)) fun σ H Q q=>by
 refine Vk ?_;obtain ⟨H0,Hs0,la,Hs,f,q⟩:=q;refine GW f q fun d H1 Hs1 e1 s1 f1=>?_;unfold Ex at q;rw [e1,bind_ok] at q;exact q _ H1 Hs1 s1 (.bool _)
def tN (g h:aD->R D):aD->R D:=fun ρ=>(g9 g ρ).bind fun b=>if b then h ρ else .ok (.bool false)
def QV (g h:aD->R D):aD->R D:=fun ρ=>(g9 g ρ).bind fun b=>if b then .ok (.bool true) else h ρ
theorem ud (h:JE c a g):JE c (.BoolOp op [a] pos) g:=.of fun ρ=>TQ (h ρ)
theorem ue (h:JE c a ga) (h2:JE c (.BoolOp .And (b::cp) pos) gb):JE c (.BoolOp .And (a::b::cp) pos) (tN ga gb):=.of fun ρ=>sv (TU (h ρ) (h2 ρ)) fun σ H Q q=>by
 refine Vk ?_;obtain ⟨H0,Hs0,la,Hs,f,q⟩:=q;refine GW f q fun d H1 Hs1 e1 s1 f1=>?_;unfold tN at q;rw [e1,bind_ok] at q;cases d with
 |true=>exact AL ⟨H0,Hs0,la,Hs1,f1,q.on s1 fun b k v H2 Hs2 s2 r2=>k v H2 Hs2 (s1.trans s2) r2⟩
 |false=>exact AK (q _ H1 Hs1 s1 (.bool _))
theorem W9 (h:JE c a ga) (h2:JE c (.BoolOp .Or (b::cp) pos) gb):JE c (.BoolOp .Or (a::b::cp) pos) (QV ga gb):=.of fun ρ=>sv (Vx (h ρ) (h2 ρ)) fun σ H Q q=>by
 refine Vk ?_;obtain ⟨H0,Hs0,la,Hs,f,q⟩:=q;refine GW f q fun d H1 Hs1 e1 s1 f1=>?_;unfold QV at q;rw [e1,bind_ok] at q;cases d with
 |false=>exact AK ⟨H0,Hs0,la,Hs1,f1,q.on s1 fun b k v H2 Hs2 s2 r2=>k v H2 Hs2 (s1.trans s2) r2⟩
 |true=>exact AL (q _ H1 Hs1 s1 (.bool _))
def Wa (t:aD->R Bool) (g h:aD->R D):aD->R D:=fun ρ=>(t ρ).bind fun b=>if b then g ρ else h ρ
theorem SB (ht:JT c t gt) (ha:JE c a ga) (hb:JE c b gb):JE c (.IfExp t a b pos) (Wa gt ga gb):=.of fun ρ=>sv (Mn (ht ρ) (ha ρ) (hb ρ)) fun σ H Q q=>by
 obtain ⟨H0,Hs0,la,Hs,f,q⟩:=q;refine GW f q fun d H1 Hs1 e1 s1 f1=>?_;unfold Wa at q;rw [e1,bind_ok] at q;cases d with
 |true=>exact AL ⟨H0,Hs0,la,Hs1,f1,q.on s1 fun b k v H2 Hs2 s2 r2=>k v H2 Hs2 (s1.trans s2) r2⟩
 |false=>exact AK ⟨H0,Hs0,la,Hs1,f1,q.on s1 fun b k v H2 Hs2 s2 r2=>k v H2 Hs2 (s1.trans s2) r2⟩
def ro (ga gb gc:aD->R D) (h h':D->D->R D):aD->R D:=fun ρ=>(ga ρ).bind fun x=>(gb ρ).bind fun y=>(h x y).bind fun z=>match z with
 |.bool true=>(gc ρ).bind fun w=>h' y w
 |.bool false=>.ok (.bool false)
 |_=>.no
def ae (g:aD->R D) (gs:aD->R (List D)):aD->R (List D):=fun ρ=>(g ρ).bind fun d=>(gs ρ).bind fun ds=>.ok (d::ds)
def aI:aD->R (List D):=fun _=>.ok []
theorem aC:Ge c [] aI:=.of fun ρ=>Xx kH fun σ H Q h_3=>by obtain ⟨H0,Hs0,la,Hs,f,q⟩:=h_3;exact q [] H Hs (.refl f.st.sub) .nil
theorem bS:SA c [] aI:=.of fun ρ=>Xx kH fun σ H Q h_4=>by obtain ⟨H0,Hs0,la,Hs,f,q⟩:=h_4;exact q [] H Hs (.refl f.st.sub) .nil
theorem aa (h:JE c e g) (hr:Ge c es gs) (hs:aJ (e::es) c.X.env=(false,eD e c.X.env)::aJ es c.X.env:=by rfl):Ge c (e::es) (ae g gs):=.of fun ρ=>Xx (iB (h ρ) (hr ρ) hs) fun σ H Q h_5=>by
 obtain ⟨H0,Hs0,la,Hs,f,q⟩:=h_5;refine AT f q fun d v H1 Hs1 e1 s1 f1 r1=>?_;unfold ae at q;rw [e1,bind_ok] at q;refine CU f1 (q.on s1 (q':=fun _=>True) fun _ _=>trivial) fun ds vs H2 Hs2 e2 s2 f2 r2=>?_;rw [e2,bind_ok] at q;exact q _ H2 Hs2 (s1.trans s2) (.cons (r1.same s2.sh) r2)
theorem bp (h:JB c e g) (hr:SA c es gs) (hs:aJ (e::es) c.X.env=(false,eD e c.X.env)::aJ es c.X.env:=by rfl):SA c (e::es) (ae g gs):=.of fun ρ=>Xx (iB (h ρ) (hr ρ) hs) fun σ H Q h_6=>by
 obtain ⟨H0,Hs0,la,Hs,f,q⟩:=h_6;refine one f q fun d v H1 Hs1 e1 s1 f1 r1=>?_;unfold ae at q;rw [e1,bind_ok] at q;refine N8 f1 (q.on s1 (q':=fun _=>True) fun _ _=>trivial) fun ds vs H2 Hs2 e2 s2 f2 r2=>?_;rw [e2,bind_ok] at q;exact q _ H2 Hs2 (s1.trans s2) (.cons (r1.step s2) r2)
def fj (gs:aD->R (List D)) (k:List D->D):aD->R D:=fun ρ=>(gs ρ).bind fun ds=>if ds.length<=1000 then .ok (k ds) else .no
theorem j_ {x1} (h:Ge c es gs):JE c (.Tuple es x1 pos) (fj gs .tuple):=.of fun ρ=>sv (Ub (h ρ)) fun σ H Q h_7=>by
 obtain ⟨H0,Hs0,la,Hs,f,q⟩:=h_7;refine CU f q fun ds vs H1 Hs1 e1 s1 f1 r1=>?_;unfold fj at q;rw [e1,bind_ok] at q;by_cases hl:ds.length<=1000
 ·rw [if_pos hl] at q;refine ⟨cm (eI (by rw [r1.length];exact hl)),fun p hp=>q _ _ _ (s1.trans (.new f1.st.sub hp)) (.tuple b9 (r1.same (cP.new f1.st.sub hp).sh))⟩
 ·rw [if_neg hl] at q;exact q.elim
theorem lM (h:Ge c es gs):JE c (.List es pos) (fj gs .list):=.of fun ρ=>sv (u7 (h ρ)) fun σ H Q h_8=>by
 obtain ⟨H0,Hs0,la,Hs,f,q⟩:=h_8;refine CU f q fun ds vs H1 Hs1 e1 s1 f1 r1=>?_;unfold fj at q;rw [e1,bind_ok] at q;by_cases hl:ds.length<=1000
 ·rw [if_pos hl] at q;refine ⟨cm (eI (by rw [r1.length];exact hl)),fun p hp=>q _ _ _ (s1.trans (.new f1.st.sub hp)) (.list (.of b9) (r1.same (cP.new f1.st.sub hp).sh))⟩
 ·rw [if_neg hl] at q;exact q.elim
end
end
end J
namespace J
open PySem PySem.Spec PyProof.Rows L2
section
section
def ef:D->D->R D
 |.int i,.int j=>.ok (.int (i+j))
 |.str x,.str y=>if x.length+y.length<=1000 then .ok (.str (x++y)) else .no
 |.tuple xs,.tuple ys=>if xs.length+ys.length<=1000 then .ok (.tuple (xs++ys)) else .no
 |.list xs,.list ys=>if xs.length+ys.length<=1000 then .ok (.list (xs++ys)) else .no
 |_,_=>.no
inductive Na (K:a8) (x:V) (y:V) (H:Hp) (Q:VK):Prop
 |mk (l b xs zs:_) (h0:x=.ref l) (h1:y=.ref b) (h2:qB K H l xs) (h3:qB K H b zs) (h4:xs.length+zs.length<=sizeLine) (h5:∀ p,H p=none->Q (.ref p) (upd H p (.lst (xs++zs)))):Na K x y H Q
def Wb (K:a8):R2:=Na K
theorem QW:qQ X (gJ .Add) (Wb X.K):=by
 intro pins s σ H x y v u Q I rx ry h;obtain ⟨l,b,xs,zs,rfl,rfl,h1,h2,hz,q⟩:=h;cases rx;cases ry;obtain ⟨its,r,⟨o,n,e,c1,c2,c3⟩,z⟩:=I.list h1;obtain ⟨its2,r2,⟨o2,n2,e2,d1,d2,d3⟩,z2⟩:=I.list h2;obtain ⟨k1,k2,k3,k4⟩:=o;obtain ⟨m1,m2,m3,m4⟩:=o2;simp only at c1 c2 c3 d1 d2 d3;subst c1 c2 c3 d1 d2 d3;refine Aw ⟨_,e,rfl⟩ ⟨_,e2,rfl⟩ noFill_list_add seq_list_add PySem.F.slot_list_add PySem.F.entry_list_add (PySem.F.args_list_add_2 _ _) (PyProof.Rows.list_addW l b _ _ n n2 _ _ k4 m4 (by rw [aT,aT,<- r.length,<- r2.length];exact hz)) ⟨e,e2,?_⟩;have ea:its.toArray++its2.toArray=(its++its2).toArray:=by simp
 rw [ea];exact ⟨.ref _,_,I.lnew (t':=s.toks) (r.append r2) (by rw [aR];omega),rfl,q _ I.fresh⟩
inductive Nb (K:a8) (x:V) (y:V) (H:Hp) (Q:VK):Prop
 |mk (a b ys:_) (h0:x=.ref a) (h1:y=.ref b) (h2:lu K H a []) (h3:lu K H b ys) (h4:Q (.ref b) H):Nb K x y H Q
def Wc (K:a8):R2:=Nb K
theorem QX:qQ X (gJ .Add) (Wc X.K):=by
 intro pins s σ H x y v u Q I rx ry h;obtain ⟨a,b,ys,rfl,rfl,h1,h2,q⟩:=h;cases rx;cases ry;obtain ⟨its,r,⟨⟨k1,k2,k3,k4⟩,e,c1,n,c3⟩,z⟩:=I.tuple h1;obtain ⟨its2,r2,⟨⟨m1,m2,m3,m4⟩,e2,d1,n2,d3⟩,z2⟩:=I.tuple h2;simp only at c1 c3 d1 d3;subst c1 c3 d1 d3;cases r;exact Aw ⟨_,e,rfl⟩ ⟨_,e2,rfl⟩ Ci K2 pC oH (nX _ _)
  (PyProof.Rows.tuple_addW0 a b _ _ n n2 _ _ k4 m4 rfl) ⟨e,e2,⟨.ref b,H,I,rfl,q⟩⟩
theorem cQ:xn X (gJ .Add) ef:=by
 refine ⟨fun pins s σ H x y v u Q I rv ru ⟨Hs,dx,dy,sub,rx,ry,d,hd,q⟩=>?_,fun x y c n=>?_⟩
 ·unfold ef at hd;split at hd
  ·cases hd;exact U3 pins s σ H x y v u Q I rv ru ⟨_,_,rx.int,ry.int,q _ H Hs (.refl sub) (.int _)⟩
  ·split at hd
   ·rename_i hz
    cases hd;exact GI pins s σ H x y v u Q I rv ru ⟨_,_,rx.str,ry.str,cm (eI hz),q _ H Hs (.refl sub) (.str _)⟩
   ·cases hd
  ·split at hd
   ·rename_i xs ys hz
    cases hd;obtain ⟨a,vs,rfl,qa,ra,_⟩:=rx.tuple sub;obtain ⟨b,ws,rfl,qb,rb,_⟩:=ry.tuple sub;have hz':vs.length+ws.length<=sizeLine:=by rw [ra.length,rb.length];exact cm (eI hz)
    have big:∀ p,H p=none->Q (.ref p) (upd H p (.tup (vs++ws))):=fun p hp=>q _ _ _ (.new sub hp) (.tuple b9 ((ra.append rb).same (cP.new sub hp).sh));cases vs with
    |nil =>
     cases ra;refine QX pins s σ H _ _ v u Q I rv ru ⟨a,b,ws,rfl,rfl,qa,qb,?_⟩;rcases ry with ry|⟨_,_,_,_,_,ow⟩
     ·exact q _ H Hs (.refl sub) (by simpa using ry)
     ·cases ow
    |cons v0 vr =>
     refine QF pins s σ H _ _ v u Q I rv ru ⟨a,b,_,ws,rfl,rfl,qa,qb,by simp,hz',fun e=>?_,fun _=>big⟩;subst e;cases rb;rcases rx with rx|⟨_,_,_,_,_,ow⟩
     ·exact q _ H Hs (.refl sub) (by simpa using rx)
     ·cases ow
   ·cases hd
  ·split at hd
   ·rename_i xs ys hz
    cases hd;obtain ⟨a,vs,rfl,qa,ra⟩:=rx.list sub;obtain ⟨b,ws,rfl,qb,rb⟩:=ry.list sub;have hz':vs.length+ws.length<=sizeLine:=by rw [ra.length,rb.length];exact cm (eI hz)
    exact QW pins s σ H _ _ v u Q I rv ru ⟨a,b,vs,ws,rfl,rfl,qa,qb,hz',fun p hp=>q _ _ _ (.new sub hp) (.list (.of b9) ((ra.append rb).same (cP.new sub hp).sh))⟩
   ·cases hd
  ·cases hd
 ·unfold ef;split<;>(try split)<;>exact fun h=>by cases h
def GZ (C:Int->Int->Bool) (k:Int->Int->D):D->D->R D
 |.int i,.int j=>if C i j then .ok (k i j) else .no
 |_,_=>.no
theorem G_ {f:af->af->Sem af}{C:Int->Int->Bool}{P:Int->Int->Prop}{k:Int->Int->D}{kv:Int->Int->V} (h:qQ X f (rI P kv)) (hC:∀ i j,C i j=true->P i j) (hk:∀ Hs i j,RD X.K Hs (kv i j) (k i j)):xn X f (GZ C k):=by
 refine ⟨fun pins s σ H x y v u Q I rv ru ⟨Hs,dx,dy,sub,rx,ry,d,hd,q⟩=>?_,fun x y c n=>?_⟩
 ·unfold GZ at hd;split at hd
  ·split at hd
   ·rename_i hc
    cases hd;exact h pins s σ H x y v u Q I rv ru ⟨_,_,rx.int,ry.int,hC _ _ hc,q _ H Hs (.refl sub) (hk _ _ _)⟩
   ·cases hd
  ·cases hd
 ·unfold GZ;split<;>(try split)<;>exact fun h=>by cases h
def BB (i j:Int):Bool:=(decide (-(2 ^ 64)<i)&&decide (i<2 ^ 64))||(decide (-(2 ^ 64)<j)&&decide (j<2 ^ 64))
def xS:=GZ BB fun i j=>.int (i*j)
def KL:=GZ (fun _ j=>decide (0<j)) fun i j=>.int (i % j)
def Nc:=GZ (fun _ j=>decide (0<j)&&decide (j<1073741824)) fun i j=>.int (i / j)
theorem rq:xn X (gJ .Mult) xS:=G_ U4 (fun i j h=>by
 unfold BB at h;simp only [jP,aS,decide_eq_true_eq] at h;exact h) fun _ _ _=>.int _
theorem CY:xn X (gJ .Mod) KL:=G_ U5 (fun i j h=>of_decide_eq_true h) fun _ _ _=>.int _
theorem QY:xn X (gJ .FloorDiv) Nc:=G_ Qv (fun i j h=>by
 simp only [aS,decide_eq_true_eq] at h;exact h) fun _ _ _=>.int _
def pJ (neg:Bool) (x y:D):R D:=if x.canLay0&&y.canLay0&&decide (min x.depth y.depth<=60) then .ok (.bool (if neg then !aY x y else aY x y)) else .no
mutual
theorem vj:∀ d:D,d.canLay0=true->rj d=true
 |.none,_=>rfl
 |.bool _,_=>rfl
 |.int _,_=>rfl
 |.str _,_=>rfl
 |.list xs,h=>by
  simp only [dh] at h;simp only [rj];exact lays_noD xs h
 |.tuple xs,h=>by
  simp only [dh] at h;simp only [rj];exact lays_noD xs h
 |.dict _,h=>by simp [dh] at h
theorem lays_noD:∀ d:List D,cc d=true->noDs d=true
 |[],_=>rfl
 |x::r,h=>by
  simp only [cc,aS] at h;simp only [noDs,aS];exact ⟨vj x h.1,lays_noD r h.2⟩
end
theorem Nd  (h:qQ X f (Uq X.K neg)):xn X f (pJ neg):=by
 refine ⟨fun pins s σ H x y v u Q I rv ru ⟨Hs,dx,dy,sub,rx,ry,d,hd,q⟩=>?_,fun x y c n=>?_⟩
 ·unfold pJ at hd;split at hd
  ·rename_i hc
   simp only [aS,decide_eq_true_eq] at hc;cases hd;exact h pins s σ H x y v u Q I rv ru ⟨dx,dy,(rx.full sub).rep (vj _ hc.1.1),(ry.full sub).rep (vj _ hc.1.2),hc.1.1,hc.1.2,hc.2,q _ H Hs (.refl sub) (.bool _)⟩
  ·cases hd
 ·unfold pJ;split<;>exact fun h=>by cases h
theorem vk (hu:X.A.units+64<gK):xn X (bC .Eq) (pJ false):=Nd (Ur hu)
theorem BC (hu:X.A.units+64<gK):xn X (bC .NotEq) (pJ true):=Nd (Us hu)
def KM (k:Int->Int->Bool) (t:Str->Str->Bool):D->D->R D
 |.int i,.int j=>.ok (.bool (k i j))
 |.str x,.str y=>.ok (.bool (t x y))
 |_,_=>.no
theorem Nf   (h1:qQ X f (T_ fun i j=>.bl (k i j))) (h2:qQ X f (fun x y H Q=>∃ i j,x=.str i/\y=.str j/\Q (.bl (t i j)) H)):xn X f (KM k t):=by
 refine ⟨fun pins s σ H x y v u Q I rv ru ⟨Hs,dx,dy,sub,rx,ry,d,hd,q⟩=>?_,fun x y c n=>?_⟩
 ·unfold KM at hd;split at hd
  ·cases hd;exact h1 pins s σ H x y v u Q I rv ru ⟨_,_,rx.int,ry.int,q _ H Hs (.refl sub) (.bool _)⟩
  ·cases hd;exact h2 pins s σ H x y v u Q I rv ru ⟨_,_,rx.str,ry.str,q _ H Hs (.refl sub) (.bool _)⟩
  ·cases hd
 ·unfold KM;split<;>exact fun h=>by cases h
def H9:=KM (fun i j=>decide (i<j)) qC
def PX:=KM (fun i j=>decide (i<=j)) fun x y=>!qC y x
def Ut:D->D->R D
 |.int i,.int j=>.ok (.bool (decide (j<i)))
 |_,_=>.no
theorem BD:xn X (bC .Lt) H9:=Nf VH Kq
theorem xo:xn X (bC .LtE) PX:=Nf VI KD
theorem Ng:xn X (bC .Gt) Ut:=by
 refine ⟨fun pins s σ H x y v u Q I rv ru ⟨Hs,dx,dy,sub,rx,ry,d,hd,q⟩=>?_,fun x y c n=>?_⟩
 ·unfold Ut at hd;split at hd
  ·cases hd;exact VJ pins s σ H x y v u Q I rv ru ⟨_,_,rx.int,ry.int,q _ H Hs (.refl sub) (.bool _)⟩
  ·cases hd
 ·unfold Ut;split<;>exact fun h=>by cases h
def Ha:D->Bool
 |.none=>true
 |_=>false
def CZ (neg:Bool):D->D->R D
 |x,.none=>.ok (.bool (if neg then !Ha x else Ha x))
 |_,_=>.no
theorem II {K:a8}{H Hs:Hp}{v:V}{d:D} (h:RB K H Hs v d):decide (v=.non)=Ha d:=by
 rcases h with h|⟨a,o,rfl,_,_,h⟩
 ·cases h<;>rfl
 ·cases h<;>rfl
theorem SC:xn X (bC .Is) (CZ false):=by
 refine ⟨fun pins s σ H x y v u Q I rv ru ⟨Hs,dx,dy,sub,rx,ry,d,hd,q⟩=>?_,fun x y c n=>?_⟩
 ·unfold CZ at hd;split at hd
  ·cases hd;exact U7 pins s σ H x y v u Q I rv ru ⟨ry.non,by rw [II rx];exact q _ H Hs (.refl sub) (.bool _)⟩
  ·cases hd
 ·unfold CZ;split<;>exact fun h=>by cases h
theorem yS:xn X (bC .IsNot) (CZ true):=by
 refine ⟨fun pins s σ H x y v u Q I rv ru ⟨Hs,dx,dy,sub,rx,ry,d,hd,q⟩=>?_,fun x y c n=>?_⟩
 ·unfold CZ at hd;split at hd
  ·cases hd;exact Qw pins s σ H x y v u Q I rv ru ⟨ry.non,by rw [II rx];exact q _ H Hs (.refl sub) (.bool _)⟩
  ·cases hd
 ·unfold CZ;split<;>exact fun h=>by cases h
def lT:D->Bool
 |.none=>true
 |.bool _=>true
 |.int _=>true
 |.str _=>true
 |_=>false
def At (neg:Bool):D->D->R D
 |x,.list ys=>if lT x&&ys.all lT then .ok (.bool (if neg then !(ys.any fun y=>aY y x) else ys.any fun y=>aY y x)) else .no
 |x,.tuple ys=>if lT x&&ys.all lT then .ok (.bool (if neg then !(ys.any fun y=>aY y x) else ys.any fun y=>aY y x)) else .no
 |_,_=>.no
theorem IJ {K:a8}{H:Hp}{v:V}{d:D} (h:RD K H v d) (f:lT d=true):re v=true:=by
 cases h<;>first|rfl|cases f
theorem Ey {K:a8}{H Hs:Hp}{v:V}{d:D} (h:RB K H Hs v d) (f:lT d=true):re v=true:=by
 rcases h with h|⟨a,o,rfl,_,_,h⟩
 ·exact IJ h f
 ·cases h<;>cases f
theorem Ez {K:a8}{H:Hp}{vs:List V}:∀ {ds:List D},RDs K H vs ds->ds.all lT=true->vs.all re=true:=by
 induction vs with
 |nil=>intro ds _ _;rfl
 |cons x r ih =>
  intro ds h f;cases h with
  |cons h t =>
   rw [uT,aS] at f ⊢;exact ⟨IJ h f.1,ih t f.2⟩
theorem Uu {K:a8}{H H2 Hs:Hp}{v u:V}{d e:D} (h:RD K H v d) (h2:RB K H2 Hs u e) (f:lT d=true) (f2:lT e=true):QI v u=aY d e:=by
 have h2':RD K Hs u e:=by
  rcases h2 with h2|⟨a,o,rfl,_,_,h2⟩
  ·exact h2
  ·cases h2<;>cases f2
 cases h with
 |list _ _=>cases f
 |tuple _ _=>cases f
 |dictK _ _=>cases f
 |dictT _ _ _=>cases f
 |dictF _ _ _=>cases f
 |none=>cases h2'<;>first|rfl|cases f2
 |bool b=>cases h2'<;>first|rfl|cases f2
 |int i=>cases h2'<;>first|rfl|cases f2
 |str x=>cases h2'<;>first|rfl|cases f2
theorem Hb {K:a8}{H H2 Hs:Hp}{u:V}{e:D} (h2:RB K H2 Hs u e) (f2:lT e=true):∀ {vs:List V}{ds:List D},RDs K H vs ds->ds.all lT=true->Xq u vs=ds.any fun y=>aY y e
 |_,_,.nil,_=>rfl
 |_,_,.cons h t,f=>by
  rw [uT,aS] at f;have:=Hb h2 f2 t f.2;unfold Xq at this ⊢;rw [ed,ed,this,Uu h h2 f.1 f2]
theorem Nh  (h:qQ X f (Ya X.K neg)):xn X f (At neg):=by
 refine ⟨fun pins s σ H x y v u Q I rv ru ⟨Hs,dx,dy,sub,rx,ry,d,hd,q⟩=>?_,fun x y c n=>?_⟩
 ·unfold At at hd;split at hd
  ·split at hd
   ·rename_i hc
    simp only [aS] at hc;cases hd;obtain ⟨b,ws,rfl,qb,rb⟩:=ry.list sub;refine h pins s σ H _ _ v u Q I rv ru ⟨b,ws,rfl,.inl qb,Ey rx hc.1,Ez rb hc.2,?_⟩;rw [Hb rx hc.1 rb hc.2];exact q _ H Hs (.refl sub) (.bool _)
   ·cases hd
  ·split at hd
   ·rename_i hc
    simp only [aS] at hc;cases hd;obtain ⟨b,ws,rfl,qb,rb,_⟩:=ry.tuple sub;refine h pins s σ H _ _ v u Q I rv ru ⟨b,ws,rfl,.inr qb,Ey rx hc.1,Ez rb hc.2,?_⟩;rw [Hb rx hc.1 rb hc.2];exact q _ H Hs (.refl sub) (.bool _)
   ·cases hd
  ·cases hd
 ·unfold At;split<;>(try split)<;>exact fun h=>by cases h
theorem yT:xn X (bC .In) (At false):=Nh Kt
theorem yU:xn X (bC .NotIn) (At true):=Nh CB
end
end
end J
namespace J
open PySem L2
section
section
variable {c:C}{e a b:bY}{g ga gb:aD->R D}{pos:Pos}
def EA:D->D->R D
 |.list xs,.int i=>match DW xs i with
  |some d=>.ok d
  |none=>.no
 |.tuple xs,.int i=>match DW xs i with
  |some d=>.ok d
  |none=>.no
 |.str x,.int i=>if x.length<=1000 then (match DW x.cps.toList i with
  |some k=>.ok (.str ⟨#[k]⟩)
  |none=>.no) else .no
 |_,_=>.no
theorem IK    (h:RDs K H vs ds)  (e:DW ds i=some d):∃ v,DW vs i=some v/\RD K H v d:=by
 unfold DW at e ⊢;rw [h.length];cases hx:Sh ds.length i with
 |none=>rw [hx] at e;cases e
 |some j =>
  rw [hx] at e;exact h.get' e
theorem Yn:VQ X (rD X.K EA):=by
 intro va sl pins s σ H x y v u Q I rv ru h;obtain ⟨Hs,dx,dy,sub,rx,ry,d,hd,q⟩:=h;unfold EA at hd;split at hd
 ·split at hd
  ·rename_i d' he
   cases hd;obtain ⟨p,vs,rfl,qa,ra⟩:=rx.list sub;obtain ⟨w,hw,rw'⟩:=IK ra he;exact sj va sl pins s σ H _ _ v u Q I rv ru ⟨p,vs,_,w,rfl,ry.int,qa,hw,q _ H Hs (.refl sub) rw'⟩
  ·cases hd
 ·split at hd
  ·rename_i d' he
   cases hd;obtain ⟨p,vs,rfl,qa,ra,_⟩:=rx.tuple sub;obtain ⟨w,hw,rw'⟩:=IK ra he;exact Ue va sl pins s σ H _ _ v u Q I rv ru ⟨p,vs,_,w,rfl,ry.int,qa,hw,q _ H Hs (.refl sub) rw'⟩
  ·cases hd
 ·split at hd
  ·rename_i hz
   split at hd
   ·rename_i k he
    cases hd;exact Uf va sl pins s σ H _ _ v u Q I rv ru ⟨_,_,k,rx.str,ry.int,cm (eI hz),he,q _ H Hs (.refl sub) (.str _)⟩
   ·cases hd
  ·cases hd
 ·cases hd
theorem Uv (x y:D) (c:Str) (n:Option D):EA x y≠.ex c n:=by
 unfold EA;split<;>(try split)<;>(try split)<;>exact fun h=>by cases h
theorem Wd (ha:JB c a ga) (hb:JB c b gb) (hs:u_ b:=by exact fun _ _=>rfl):JE c (.Subscript a b pos) (g2 ga gb EA):=.of fun ρ=>sv (Si Yn (ha ρ) (hb ρ) hs) fun σ H Q q=>two Uv q
def AU (ds:List D) (lo hi:Option Int):List D:=(ds.drop (HT.jh ds.length 0 lo)).take (HT.jh ds.length ds.length hi-HT.jh ds.length 0 lo)
theorem IL    (h:RDs K H vs ds) (lo hi:Option Int):RDs K H (E9 vs lo hi) (AU ds lo hi):=by
 unfold E9 AU;rw [h.length];exact (h.drop _).take _
def Hc:D->Option Int->Option Int->R D
 |.list xs,lo,hi=>.ok (.list (AU xs lo hi))
 |.tuple xs,lo,hi=>.ok (.tuple (AU xs lo hi))
 |_,_,_=>.no
inductive SD (K:a8) (x:V) (lo:Option Int) (hi:Option Int) (H:Hp) (Q:VK):Prop
 |mk (Hs dx:_) (h0:dD Hs H) (h1:RB K H Hs x dx) (h2:∃ d,Hc dx lo hi=.ok d/\∀ v H' Hs',cP H Hs H' Hs'->RD K Hs' v d->Q v H'):SD K x lo hi H Q
def Yo (K:a8):V->Option Int->Option Int->Hp->VK->Prop:=SD K
theorem Yp {X:Cx}:VO X (Yo X.K):=by
 intro pins s σ H x v vl vu lo hi sl Q I rx hs pl pu h;obtain ⟨Hs,dx,sub,rb,d,hd,q⟩:=h;unfold Hc at hd;split at hd
 ·cases hd;obtain ⟨p,vs,rfl,qa,ra⟩:=rb.list sub;exact QH pins s σ H _ v vl vu lo hi sl Q I rx hs pl pu ⟨p,vs,rfl,qa,fun l hl=>q _ _ _ (.new sub hl) (.list (.of b9) ((IL ra lo hi).same (cP.new sub hl).sh))⟩
 ·cases hd;obtain ⟨p,vs,rfl,qa,ra,_⟩:=rb.tuple sub;by_cases hw:HT.jh vs.length 0 lo=0/\HT.jh vs.length vs.length hi=vs.length
  ·refine QU pins s σ H _ v vl vu lo hi sl Q I rx hs pl pu ⟨p,vs,rfl,qa,hw,?_⟩;rcases rb with rb|⟨_,_,_,_,_,ow⟩
   ·refine q _ H Hs (.refl sub) ?_;unfold AU;rw [<- ra.length,hw.1,hw.2,ra.length];simpa using rb
   ·cases ow
  ·exact Ud pins s σ H _ v vl vu lo hi sl Q I rx hs pl pu ⟨p,vs,rfl,qa,hw,fun l hl=>q _ _ _ (.new sub hl) (.tuple b9 ((IL ra lo hi).same (cP.new sub hl).sh))⟩
 ·cases hd
inductive We (K:a8) (cls:Str->am) (E:XK) (ρ:aD) (r:R (Option Int)) (σ:St) (H:Hp) (Q:Option Int->Hp->Prop):Prop
 |mk (H0 Hs0:Hp) (la:Nat->Option am) (Hs:Hp) (f:Fr K H0 Hs0 la ρ σ H Hs) (q:Fin K cls E H Hs r fun d=>∀ H' Hs',cP H Hs H' Hs'->Q d H'):We K cls E ρ r σ H Q
def Yq (K:a8) (cls:Str->am) (E:XK) (ρ:aD) (r:R (Option Int)):TO:=We K cls E ρ r
structure JO (c:C) (e:Option bY) (g:aD->R (Option Int)):Prop where of ::
 run:∀ ρ,PO c.X e (Yq c.X.K c.cls c.E ρ (g ρ))
instance {c:C}{e:Option bY}{g:aD->R (Option Int)}:CoeFun (JO c e g) (fun _=>∀ ρ,PO c.X e (Yq c.X.K c.cls c.E ρ (g ρ))):=⟨JO.run⟩
theorem YZ {X:Cx}{e:Option bY}{t t':TO} (h:PO X e t) (m:∀ σ H Q,t' σ H Q->t σ H Q):PO X e t':=fun pins s σ H Q I q=>h pins s σ H Q I (m σ H Q q)
def Vl:aD->R (Option Int):=fun _=>.ok none
def Ni (g:aD->R D):aD->R (Option Int):=fun ρ=>(g ρ).bind fun d=>match d with
 |.int i=>.ok (some i)
 |_=>.no
theorem yj:JO c none Vl:=.of fun ρ=>YZ QD fun σ H Q h_0=>by obtain ⟨H0,Hs0,la,Hs,f,q⟩:=h_0;exact q H Hs (.refl f.st.sub)
theorem ny (h:JE c e g):JO c (some e) (Ni g):=.of fun ρ=>YZ (QE (h ρ)) fun σ H Q h_1=>by
 obtain ⟨H0,Hs0,la,Hs,f,q⟩:=h_1;refine AT f q fun d v H1 Hs1 e1 s1 f1 r1=>?_;unfold Ni at q;rw [e1,bind_ok] at q;cases r1 with
 |int i=>exact ⟨i,rfl,q H1 Hs1 s1⟩
 |_=>exact q.elim
theorem Wf {K:a8}{cls:Str->am}{E:XK}{ρ:aD}{r:R (Option Int)}{β:Type}{k:Option Int->R β}{σ:St}{H:Hp}{H0 Hs0 Hs:Hp}{la:Nat->Option am}{Q:Option Int->Hp->Prop}{q:β->Prop} (f:Fr K H0 Hs0 la ρ σ H Hs)
  (h:Fin K cls E H Hs (r.bind k) q) (m:∀ d H' Hs',r=.ok d->cP H Hs H' Hs'->Fr K H0 Hs0 la ρ σ H' Hs'->Q d H'):Yq K cls E ρ r σ H Q:=by
 refine ⟨H0,Hs0,la,Hs,f,?_⟩;cases r with
 |ok d=>exact fun H' Hs' s=>m d H' Hs' rfl s (f.step s)
 |ex c n=>exact h
 |no=>exact h
def QZ (g:aD->R D) (gl gh:aD->R (Option Int)):aD->R D:=fun ρ=>(g ρ).bind fun x=>(gl ρ).bind fun l=>(gh ρ).bind fun h=>Hc x l h
theorem oN {lo hi:Option bY}{gl gh:aD->R (Option Int)}{p2:Pos} (he:JB c e g) (hl:JO c lo gl) (hh:JO c hi gh):JE c (.Subscript e (.Slice lo hi none p2) pos) (QZ g gl gh):=.of fun ρ=>sv (MD Yp (he ρ) (hl ρ) (hh ρ)) fun σ H Q h_2=>by
 obtain ⟨H0,Hs0,la,Hs,f,q⟩:=h_2;refine one f q fun d v H1 Hs1 e1 s1 f1 r1=>?_;unfold QZ at q;rw [e1,bind_ok] at q;refine Wf f1 (q.on s1 (q':=fun _=>True) fun _ _=>trivial) fun l H2 Hs2 e2 s2 f2=>?_;rw [e2,bind_ok] at q;refine Wf f2 (q.on (s1.trans s2) (q':=fun _=>True) fun _ _=>trivial) fun h H3 Hs3 e3 s3 f3=>?_;rw [e3,bind_ok] at q;cases hr:Hc d l h with
 |ok z=>rw [hr] at q;exact ⟨Hs3,d,f3.st.sub,(r1.step s2).step s3,z,hr,fun w H4 Hs4 s4 r4=>q w H4 Hs4 (s1.trans (s2.trans (s3.trans s4))) r4⟩
 |ex c n=>unfold Hc at hr;split at hr<;>cases hr
 |no=>rw [hr] at q;exact q.elim
inductive Y_ (K:a8) (h:List D->R D) (xs:List V) (H:Hp) (Q:VK):Prop
 |mk (Hs ds:_) (h0:dD Hs H) (h1:Sz K H Hs xs ds) (h2:∃ d,h ds=.ok d/\∀ v H' Hs',cP H Hs H' Hs'->RD K Hs' v d->Q v H'):Y_ K h xs H Q
def rC (K:a8) (h:List D->R D):List V->Hp->VK->Prop:=Y_ K h
def LY (X:Cx) (f:af) (h:List D->R D):Prop:=jX X f (rC X.K h)/\∀ x c n,h x≠.ex c n
def c8 (gs:aD->R (List D)) (h:List D->R D):aD->R D:=fun ρ=>(gs ρ).bind h
theorem SE {K:a8}{cls:Str->am}{E:XK}{h:List D->R D}{gs:aD->R (List D)}{ρ:aD}{σ:St}{H:Hp}{Q:VK} (hx:∀ x c n,h x≠.ex c n) (q:TR K cls E ρ (c8 gs h ρ) σ H Q):VM (rC K h) (Xw K cls E ρ (gs ρ)) σ H Q:=by
 obtain ⟨H0,Hs0,la,Hs,f,q⟩:=q;refine N8 f q fun ds vs H1 Hs1 e1 s1 f1 r1=>?_;unfold c8 at q;rw [e1,bind_ok] at q;cases hr:h ds with
 |ok d =>
  rw [hr] at q;exact ⟨Hs1,ds,f1.st.sub,r1,d,hr,fun w H3 Hs3 s3 r3=>q w H3 Hs3 (s1.trans s3) r3⟩
 |ex c n=>exact (hx ds c n hr).elim
 |no=>rw [hr] at q;exact q.elim
variable {es:List bY}{gs:aD->R (List D)}{x:Str}{p:Pos}{id T:String}{h:List D->R D}
theorem bW (hc:LY c.X (.builtin id) h) (hg:Gl c.X x) (hm:c.X.mg x=none) (hv:iL x=some (.builtin id)) (ha:SA c (e::es) gs) (hn:x≠"__name__":=by decide) (hdb:(x==("__debug__" : Str))=false:=by decide)
  (he:aJ (e::es) c.X.env=(false,eD e c.X.env)::aJ es c.X.env:=by rfl) (hpl:(iM pos (aJ es c.X.env)).any (·.1)=false:=by rfl):JE c (.Call (.Name x p) (e::es) [] pos) (c8 gs h):=.of fun ρ=>sv (uY hc.1 hg hm hv (ha ρ) hn hdb he hpl) fun σ H Q q=>SE hc.2 q
theorem dS (hc:LY c.X (.type T) h) (hg:Gl c.X x) (hm:c.X.mg x=none) (hv:iL x=some (.type T)) (ha:SA c (e::es) gs) (hn:x≠"__name__":=by decide) (hdb:(x==("__debug__" : Str))=false:=by decide)
  (he:aJ (e::es) c.X.env=(false,eD e c.X.env)::aJ es c.X.env:=by rfl) (hpl:(iM pos (aJ es c.X.env)).any (·.1)=false:=by rfl):JE c (.Call (.Name x p) (e::es) [] pos) (c8 gs h):=.of fun ρ=>sv (Bt hc.1 hg hm hv (ha ρ) hn hdb he hpl) fun σ H Q q=>SE hc.2 q
end
end
section
section
theorem Sz.one    (h:Sz K H Hs xs [d]):∃ x,xs=[x]/\RB K H Hs x d:=by
 cases h with|cons a t=>cases t;exact ⟨_,rfl,a⟩
def iD (h:D->R D):List D->R D
 |[d]=>h d
 |_=>.no
theorem uf  (hx:∀ d c n,h d≠.ex c n)
  (hr:∀ pins s σ H x u Q Hs d d',bP X pins σ H s->dv x u->dD Hs H->RB X.K H Hs x d->h d=.ok d'->(∀ v H' Hs',cP H Hs H' Hs'->RD X.K Hs' v d'->Q v H')->au (az X.prog X.w) X.A (call f [u]) (EP X pins σ Q) X.xe s):LY X f (iD h):=by
 refine ⟨fun pins s σ H xs us Q I r ⟨Hs,ds,sub,rb,d,hd,q⟩=>?_,fun x c n=>?_⟩
 ·unfold iD at hd;split at hd
  ·obtain ⟨x,rfl,rx⟩:=rb.one;obtain ⟨u,rfl,ru⟩:=lS r;exact hr pins s σ H x u Q Hs _ _ I ru sub rx hd q
  ·cases hd
 ·unfold iD;split
  ·exact hx _ _ _
  ·exact fun h=>by cases h
def kw:D->R D
 |.list xs=>.ok (.int xs.length)
 |.tuple xs=>.ok (.int xs.length)
 |.str x=>if x.length<=1000 then .ok (.int x.length) else .no
 |_=>.no
theorem RDk.length   : ∀ {ds:List (D×D)},RDk K H vs ds->vs.length=ds.length:=by
 induction vs with
 |nil=>intro ds h;cases h;rfl
 |cons x r ih=>intro ds h;cases h with|cons a b=>exact congrArg (· + 1) (ih b)
theorem RDt.length  : ∀ {vs:List (List gD×V)}{ds:List (D×D)},RDt K H vs ds->vs.length=ds.length
 |_,_,.nil=>rfl
 |_,_,.cons _ t=>by simp [RDt.length t]
theorem RB.dict    (sub:dD Hs H) (h:RB K H Hs v (.dict ds)):∃ a,v=.ref a/\((∃ kvs,H a=some (.dK kvs)/\RDk K Hs kvs ds)\/(∃ kvs,H a=some (.dT kvs)/\kvs≠[]/\RDt K Hs kvs ds)\/∃ o kvs es,ds=(.none,.none)::es/\H a=some (.frz o (.dT kvs))/\kvs≠[]/\RDt K Hs kvs es):=by
 rcases h with h|⟨a,o,rfl,h2,h3,h4⟩
 ·cases h with
  |dictK q r=>exact ⟨_,rfl,.inl ⟨_,sub _ _ q,r⟩⟩
  |dictT q n r=>exact ⟨_,rfl,.inr (.inl ⟨_,sub _ _ q,n,r⟩)⟩
  |dictF q n r=>exact ⟨_,rfl,.inr (.inr ⟨_,_,_,rfl,sub _ _ q,n,r⟩)⟩
 ·cases h4 with
  |dK r=>exact ⟨a,rfl,.inl ⟨_,h2,r⟩⟩
  |dT n r=>exact ⟨a,rfl,.inr (.inl ⟨_,h2,n,r⟩)⟩
  |dF n r=>exact ⟨a,rfl,.inr (.inr ⟨_,_,_,rfl,h2,n,r⟩)⟩
theorem gZ:LY X (.builtin "len") (iD kw):=by
 refine uf (fun d c n=>?_) fun pins s σ H x u Q Hs d d' I ru sub rx hd q=>?_
 ·unfold kw;split<;>(try split)<;>exact fun h=>by cases h
 ·unfold kw at hd;split at hd
  ·cases hd;obtain ⟨a,vs,rfl,qa,ra⟩:=rx.list sub;refine v6 pins s σ H _ _ Q I (.cons ru .nil) ⟨a,vs,rfl,.inl qa,?_⟩;rw [ra.length];exact q _ H Hs (.refl sub) (.int _)
  ·cases hd;obtain ⟨a,vs,rfl,qa,ra,_⟩:=rx.tuple sub;refine v6 pins s σ H _ _ Q I (.cons ru .nil) ⟨a,vs,rfl,.inr qa,?_⟩;rw [ra.length];exact q _ H Hs (.refl sub) (.int _)
  ·split at hd
   ·rename_i hz
    cases hd;exact CC pins s σ H _ _ Q I (.cons ru .nil) ⟨_,by rw [rx.str],cm (eI hz),q _ H Hs (.refl sub) (.int _)⟩
   ·cases hd
  ·cases hd
def C_ (T:String) (d:D):Bool:=match T,d with
 | "str",.str _=>true
 | "int",.int _=>true
 | "int",.bool _=>true
 | "bool",.bool _=>true
 | "list",.list _=>true
 | "tuple",.tuple _=>true
 |_,_=>false
def wA (g:aD->R D) (T:String):aD->R D:=fun ρ=>(g ρ).bind fun d=>if rj d then .ok (.bool (C_ T d)) else .no
theorem Q_  (T:String) (hT:T="str"\/T="int"\/T="bool"\/T="list"\/T="tuple") (h:rj d=true):qS K (.type (Yl d)) (.type T)=some (C_ T d):=by
 rcases hT with rfl|rfl|rfl|rfl|rfl<;>cases d<;>first|rfl|simp [rj] at h
theorem o8      (h:JB c e g) (hgi:Gl c.X "isinstance") (hi:c.X.mg "isinstance"=none) (hgT:Gl c.X T) (hT:c.X.mg T=none) (hv:iL T=some (.type Ts))
  (hTs:Ts="str"\/Ts="int"\/Ts="bool"\/Ts="list"\/Ts="tuple")
  (hn:T≠"__name__":=by decide) (hdb:(T==("__debug__" : Str))=false:=by decide)
  (he:aJ [e,.Name T p2] c.X.env=(false,eD e c.X.env)::aJ [.Name T p2] c.X.env:=by rfl) (hpl:(iM pos (aJ [.Name T p2] c.X.env)).any (·.1)=false:=by rfl) :
  JE c (.Call (.Name "isinstance" p) [e,.Name T p2] [] pos) (wA g Ts):=.of fun ρ=>by
 refine sv (uY N5 hgi hi PyProof.Rows.boot_isinstance (iB (h ρ) (iB (Qr hgT hT hv (v:=.ty Ts) rfl hn hdb) kH) he) (by decide) (by decide) he hpl) fun σ H Q h_0=>?_;obtain ⟨H0,Hs0,la,Hs,f,q⟩:=h_0;refine one f q fun d v H1 Hs1 e1 s1 f1 r1=>?_;unfold wA at q;rw [e1,bind_ok] at q;by_cases hd:rj d=true
 ·rw [if_pos hd] at q;exact ⟨v,d,Ts,_,rfl,(r1.full f1.st.sub).rep hd,Q_ Ts hTs hd,q _ H1 Hs1 s1 (.bool _)⟩
 ·rw [if_neg hd] at q;exact q.elim
def nz:List D->Option (List Bool)
 |[]=>some []
 |.bool b::r=>(nz r).map (b::·)
 |_::_=>none
theorem D0:∀ {bs:List Bool},nz ds=some bs->ds=bs.map cU:=by
 induction ds with
 |nil=>intro bs h;cases h;rfl
 |cons d r ih =>
  intro bs h;cases d with
  |bool b =>
   have h:(nz r).map (b::·)=some bs:=h;cases hr:nz r with
   |none=>rw [hr] at h;cases h
   |some z=>rw [hr] at h;cases h;rw [ih hr];rfl
  |_=>cases h
def g_ (k:List Bool->Bool):D->R D
 |.list ds=>match nz ds with
  |some bs=>.ok (.bool (k bs))
  |none=>.no
 |_=>.no
theorem EB {id:String}{k:List Bool->Bool} (h:jX X (.builtin id) (fun xs H Q=>∃ p,∃ bs:List Bool,xs=[.ref p]/\qB X.K H p (bs.map V.bl)/\Q (.bl (k bs)) H)):LY X (.builtin id) (iD (g_ k)):=by
 refine uf (fun d c n=>?_) fun pins s σ H x u Q Hs d d' I ru sub rx hd q=>?_
 ·unfold g_;split<;>(try split)<;>exact fun h=>by cases h
 ·unfold g_ at hd;split at hd
  ·split at hd
   ·rename_i bs hb
    cases hd;obtain ⟨a,vs,rfl,qa,ra⟩:=rx.list sub;rw [D0 hb] at ra;rw [AS ra] at qa;exact h pins s σ H _ _ Q I (.cons ru .nil) ⟨a,bs,rfl,qa,q _ H Hs (.refl sub) (.bool _)⟩
   ·cases hd
  ·cases hd
theorem o9 (hc:X.calm=true):LY X (.builtin "all") (iD (g_ fun bs=>bs.all id)):=EB (yN hc)
theorem Nj (hc:X.calm=true):LY X (.builtin "any") (iD (g_ fun bs=>bs.any id)):=EB (yO hc)
def og (x:Str):List D:=x.cps.toList.map fun c=>aO ⟨#[c]⟩
theorem KN  (x:Str):RDs K H (yR x) (og x):=by
 unfold yR og;induction x.cps.toList with
 |nil=>exact .nil
 |cons a r ih=>exact .cons (.str _) ih
def fk:D->R D
 |.list xs=>.ok (.tuple xs)
 |.tuple xs=>.ok (.tuple xs)
 |.str x=>if x.cps.size<=1000 then .ok (.tuple (og x)) else .no
 |_=>.no
theorem gG (hc:X.calm=true):LY X (.type "tuple") (iD fk):=by
 refine uf (fun d c n=>?_) fun pins s σ H x u Q Hs d d' I ru sub rx hd q=>?_
 ·unfold fk;split<;>(try split)<;>exact fun h=>by cases h
 ·unfold fk at hd;split at hd
  ·cases hd;obtain ⟨a,vs,rfl,qa,ra⟩:=rx.list sub;exact tK pins s σ H _ _ Q I (.cons ru .nil) ⟨a,vs,rfl,.inl ⟨qa,fun l hl=>q _ _ _ (.new sub hl) (.tuple b9 (ra.same (cP.new sub hl).sh))⟩⟩
  ·cases hd;obtain ⟨a,vs,rfl,qa,ra,_⟩:=rx.tuple sub;refine tK pins s σ H _ _ Q I (.cons ru .nil) ⟨a,vs,rfl,.inr ⟨qa,?_⟩⟩;rcases rx with rx|⟨_,_,_,_,_,ow⟩
   ·exact q _ H Hs (.refl sub) rx
   ·cases ow
  ·split at hd
   ·rename_i hz
    cases hd;exact xR hc pins s σ H _ _ Q I (.cons ru .nil) ⟨_,by rw [rx.str],cm (eI hz),fun l hl=>q _ _ _ (.new sub hl) (.tuple b9 (KN _))⟩
   ·cases hd
  ·cases hd
def BE:D->R D
 |.list xs=>.ok (.list xs)
 |.tuple xs=>.ok (.list xs)
 |_=>.no
theorem R0:LY X (.type "list") (iD BE):=by
 refine uf (fun d c n=>?_) fun pins s σ H x u Q Hs d d' I ru sub rx hd q=>?_
 ·unfold BE;split<;>exact fun h=>by cases h
 ·unfold BE at hd;split at hd
  ·cases hd;obtain ⟨a,vs,rfl,qa,ra⟩:=rx.list sub;exact v7 pins s σ H _ _ Q I (.cons ru .nil) ⟨a,vs,rfl,.inl qa,fun l hl=>q _ _ _ (.new sub hl) (.list (.of b9) (ra.same (cP.new sub hl).sh))⟩
  ·cases hd;obtain ⟨a,vs,rfl,qa,ra,_⟩:=rx.tuple sub;exact v7 pins s σ H _ _ Q I (.cons ru .nil) ⟨a,vs,rfl,.inr qa,fun l hl=>q _ _ _ (.new sub hl) (.list (.of b9) (ra.same (cP.new sub hl).sh))⟩
  ·cases hd
def fm:List D->Option (List Str)
 |[]=>some []
 |.str b::r=>(fm r).map (b::·)
 |_::_=>none
theorem nA:∀ {bs:List Str},fm ds=some bs->ds=bs.map aO:=by
 induction ds with
 |nil=>intro bs h;cases h;rfl
 |cons d r ih =>
  intro bs h;cases d with
  |str b =>
   have h:(fm r).map (b::·)=some bs:=h;cases hr:fm r with
   |none=>rw [hr] at h;cases h
   |some z=>rw [hr] at h;cases h;rw [ih hr];rfl
  |_=>cases h
@[simp] theorem strsOf_map:∀ bs:List Str,fm (bs.map aO)=some bs
 |[]=>rfl
 |b::r=>by show (fm (r.map aO)).map (b::·)=_;rw [strsOf_map r];rfl
def sw:D->R D
 |.list ds=>match fm ds with
  |some ss=>if ss.length<64 then .ok (.list ((jY ss).map .str)) else .no
  |none=>.no
 |_=>.no
theorem KO:LY X (.builtin "sorted") (iD sw):=by
 refine uf (fun d c n=>?_) fun pins s σ H x u Q Hs d d' I ru sub rx hd q=>?_
 ·unfold sw;split<;>(try split)<;>(try split)<;>exact fun h=>by cases h
 ·unfold sw at hd;split at hd
  ·split at hd
   ·split at hd
    ·rename_i ss hs hz
     cases hd;obtain ⟨a,vs,rfl,qa,ra⟩:=rx.list sub;rw [nA hs] at ra;rw [lX ra] at qa;exact wz pins s σ H _ _ Q I (.cons ru .nil) ⟨a,ss,rfl,qa,hz,fun l hl=>q _ _ _ (.new sub hl) (.list (.of b9) (vi _))⟩
    ·cases hd
   ·cases hd
  ·cases hd
end
end
section
inductive Wg (K:a8) (cls:Str->am) (n:Nat) (F:List D->R D) (vs:List V) (H:Hp) (Q:VK) (E:XK):Prop
 |mk (Hs ds:_) (h0:dD Hs H) (h1:ds.length=n) (h2:RDs K Hs vs ds) (h3:Fin K cls E H Hs (F ds) fun d=>∀ v H' Hs',cP H Hs H' Hs'->RD K Hs' v d->Q v H'):Wg K cls n F vs H Q E
def Nk (K:a8) (cls:Str->am) (n:Nat) (F:List D->R D):Sp:=Wg K cls n F
structure Fn (P:bq) (w:bL) (K:a8) (mg:Str->Option af) (base:bT) (cls:Str->am) (x:Str) (k n:Nat) (F:List D->R D):Prop where
 ex:∃ f fd ps,pG P w K mg base (vh P w) k f fd ps (Nk K cls n F)/\mg x=some (.ref f)/\dB K (.ref f)=true/\jG K fd ps []
section
def dU (n:Nat) (F:List D->R D) (gs:aD->R (List D)):aD->R D:=fun ρ=>(gs ρ).bind fun ds=>if ds.length=n then F ds else .no
theorem R1  (G:Fn c.X.prog c.X.w c.X.K c.X.mg c.X.base c.cls x k n F) (hr:jR k c.X.A) (hg:Gl c.X x) (hx:mC (vh c.X.prog c.X.w) c.X c.E) (ha:Ge c (e::es) gs)
  (hdb:(x==("__debug__" : Str))=false:=by decide) (he:aJ (e::es) c.X.env=(false,eD e c.X.env)::aJ es c.X.env:=by rfl) (hpl:(iM pos (aJ es c.X.env)).any (·.1)=false:=by rfl) :
  JE c (.Call (.Name x p) (e::es) [] pos) (dU n F gs):=.of fun ρ=>by
 obtain ⟨f,fd,ps,hf,hm,hk,hb⟩:=G.ex;refine sv (Iz (E:=c.E) hf hr hg hm hk hb .nil hx (ha ρ) hdb he hpl) fun σ H Q h_0=>?_;obtain ⟨H0,Hs0,la,Hs,fr,q⟩:=h_0;refine CU fr q fun ds vs H1 Hs1 e1 s1 f1 r1=>?_;unfold dU at q;rw [e1,bind_ok] at q;by_cases hn:ds.length=n
 ·rw [if_pos hn] at q;show Nk _ _ _ _ (vs++[]) _ _ _;rw [cS];exact ⟨Hs1,ds,f1.st.sub,hn,r1,q.on s1 fun d k v H2 Hs2 s2 r2=>k v H2 Hs2 (s1.trans s2) r2⟩
 ·rw [if_neg hn] at q;exact q.elim
end
inductive Fl where
 |nx (ρ:aD)
 |rt (d:D)
 |bk (ρ:aD)
 |ct (ρ:aD)
def oO (K:a8) (cls:Str->am) (E:XK) (H0 Hs0:Hp) (la:Nat->Option am) (D:E5) (r:R Fl):Prop:=match r with
 |.ok (.nx ρ')=>∀ σ' H' Hs',Fr K H0 Hs0 la ρ' σ' H' Hs'->D.nx σ' H'
 |.ok (.bk ρ')=>∀ σ' H' Hs',Fr K H0 Hs0 la ρ' σ' H' Hs'->D.bk σ' H'
 |.ok (.ct ρ')=>∀ σ' H' Hs',Fr K H0 Hs0 la ρ' σ' H' Hs'->D.ct σ' H'
 |.ok (.rt d)=>∀ v H' Hs',cP H0 Hs0 H' Hs'->RD K Hs' v d->D.rt v H'
 |.ex c n=>∀ H' Hs',cP H0 Hs0 H' Hs'->XW K cls E c n H' Hs'
 |.no=>False
inductive Z0 (K:a8) (cls:Str->am) (E:XK) (ρ:aD) (r:R Fl) (D:E5) (σ:St) (H:Hp):Prop
 |mk (H0 Hs0:Hp) (la:Nat->Option am) (Hs:Hp) (f:Fr K H0 Hs0 la ρ σ H Hs) (q:oO K cls E H0 Hs0 la D r):Z0 K cls E ρ r D σ H
def SR (K:a8) (cls:Str->am) (E:XK) (ρ:aD) (r:R Fl):TS:=Z0 K cls E ρ r
structure JS (c:C) (s:db) (g:aD->R Fl):Prop where of ::
 run:∀ ρ,PS c.X s (SR c.X.K c.cls c.E ρ (g ρ))
instance {c:C}{s:db}{g:aD->R Fl}:CoeFun (JS c s g) (fun _=>∀ ρ,PS c.X s (SR c.X.K c.cls c.E ρ (g ρ))):=⟨JS.run⟩
structure IM (c:C) (s:List db) (g:aD->R Fl):Prop where of ::
 run:∀ ρ,E6 c.X s (SR c.X.K c.cls c.E ρ (g ρ))
instance {c:C}{s:List db}{g:aD->R Fl}:CoeFun (IM c s g) (fun _=>∀ ρ,E6 c.X s (SR c.X.K c.cls c.E ρ (g ρ))):=⟨IM.run⟩
theorem Fr.set     (f:Fr K H0 Hs0 la ρ σ H Hs) (i:Nat)  (r:RD K Hs v d):Fr K H0 Hs0 la (ρ.set i (.shr d)) (σ.set i (some v)) H Hs:=by
 have hl:=f.len;have nx:∀ {j:Nat}{s:Sl},(∀ d,s≠.shr d)->(ρ.set i (.shr d))[j]?=some s->ρ[j]?=some s/\i≠j:=fun {j s} hs e=>by
  by_cases hj:i=j
  ·subst hj;by_cases hi:i<ρ.length
   ·rw [aG hi] at e;exact absurd (bQ e).symm (hs d)
   ·rw [cD (by simpa using hi)] at e;cases e
  ·rw [aj hj] at e;exact ⟨e,hj⟩
 refine ⟨f.st,by simp [hl],fun j e h=>?_,fun j e h=>?_,fun j e h=>?_,fun j k d1 d2 a h1 h2 h3 h4=>?_,f.lh,fun j e h=>?_,fun j k d1 d2 h1 h2=>?_⟩
 ·by_cases hj:i=j
  ·subst hj;by_cases hi:i<ρ.length
   ·rw [aG hi] at h;cases h;exact ⟨v,aG (by omega),r⟩
   ·rw [cD (by simpa using hi)] at h;cases h
  ·rw [aj hj] at h ⊢;exact f.sh j e h
 ·obtain ⟨h,hj⟩:=nx (fun _ z=>by cases z) h;rw [aj hj];exact f.ow j e h
 ·obtain ⟨h,hj⟩:=nx (fun _ z=>by cases z) h;rw [aj hj];exact f.lk j e h
 ·obtain ⟨h1,n1⟩:=nx (fun _ z=>by cases z) h1;obtain ⟨h2,n2⟩:=nx (fun _ z=>by cases z) h2;rw [aj n1] at h3;rw [aj n2] at h4;exact f.dj j k d1 d2 a h1 h2 h3 h4
 ·obtain ⟨h,hj⟩:=nx (fun _ z=>by cases z) h;obtain ⟨a,as,O⟩:=f.o2 j e h;refine ⟨a,as,by rw [aj hj];exact O.at_,O.ob,O.nd,O.out,fun b hb k e' hk=>?_,O.inn⟩;obtain ⟨hk,nk⟩:=nx (fun _ z=>by cases z) hk;rw [aj nk];exact O.dj b hb k e' hk
 ·exact f.u2 j k d1 d2 (nx (fun _ z=>by cases z) h1).1 (nx (fun _ z=>by cases z) h2).1
theorem Fr.setO     (f:Fr K H0 Hs0 la ρ σ H Hs) (i:Nat)   (n:H a=none) (r:n8 K Hs o d):Fr K H0 Hs0 la (ρ.set i (.own d)) (σ.set i (some (.ref a))) (upd H a o) Hs:=by
 have f':=f.step (cP.mine (o:=o) f.st.sub n);have hl:=f.len;have n0:H0 a=none:=f.st.all.free n;have ns:Hs a=none:=f.st.sub.free n;have nx:∀ {j:Nat}{s:Sl},(∀ d,s≠.own d)->(ρ.set i (.own d))[j]?=some s->ρ[j]?=some s/\i≠j:=fun {j s} hs e=>by
  by_cases hj:i=j
  ·subst hj;by_cases hi:i<ρ.length
   ·rw [aG hi] at e;exact absurd (bQ e).symm (hs d)
   ·rw [cD (by simpa using hi)] at e;cases e
  ·rw [aj hj] at e;exact ⟨e,hj⟩
 have ne:∀ j e,ρ[j]?=some (Sl.own e)->σ[j]?≠some (some (V.ref a)):=fun j e h z=>by
  obtain ⟨b,o',h1,h2,_⟩:=f.ow j e h;rw [z] at h1;cases h1;rw [n] at h2;cases h2
 refine ⟨f'.st,by simp [hl],fun j e h=>?_,fun j e h=>?_,fun j e h=>?_,fun j k d1 d2 b h1 h2 h3 h4=>?_,f.lh,fun j e h=>?_,fun j k d1 d2 h1 h2=>?_⟩
 ·obtain ⟨h,hj⟩:=nx (fun _ z=>by cases z) h;rw [aj hj];exact f'.sh j e h
 ·by_cases hj:i=j
  ·subst hj;by_cases hi:i<ρ.length
   ·rw [aG hi] at h;cases h;exact ⟨a,o,aG (by omega),b9,ns,n0,r⟩
   ·rw [cD (by simpa using hi)] at h;cases h
  ·rw [aj hj] at h ⊢;exact f'.ow j e h
 ·obtain ⟨h,hj⟩:=nx (fun _ z=>by cases z) h;rw [aj hj];exact f'.lk j e h
 ·by_cases hj:i=j
  ·by_cases hk:i=k
   ·exact hj.symm.trans hk
   ·rw [aj hk] at h2 h4;subst hj;by_cases hi:i<ρ.length
    ·rw [aG (by omega)] at h3;cases h3;exact (ne k d2 h2 h4).elim
    ·rw [cD (by simpa using hi)] at h1;cases h1
  ·rw [aj hj] at h1 h3;by_cases hk:i=k
   ·subst hk;by_cases hi:i<ρ.length
    ·rw [aG (by omega)] at h4;cases h4;exact (ne j d1 h1 h3).elim
    ·rw [cD (by simpa using hi)] at h2;cases h2
   ·rw [aj hk] at h2 h4;exact f.dj j k d1 d2 b h1 h2 h3 h4
 ·obtain ⟨h,hj⟩:=nx (fun _ z=>by cases z) h;obtain ⟨b,as,O⟩:=f.o2 j e h;have nb:∀ c∈b::as,c≠a:=fun c hc z=>by
   subst z;rcases List.mem_cons.mp hc with z|z
   ·have:=O.ob;rw [<- z,n] at this;cases this
   ·obtain ⟨o,ho,_⟩:=O.inn.there z;rw [n] at ho;cases ho
  refine ⟨b,as,by rw [aj hj];exact O.at_,by rw [bd (nb b ak)];exact O.ob,O.nd,O.out,fun c hc k e' hk=>?_,O.inn.upd fun z=>nb a (ai _ z) rfl⟩;by_cases nk:i=k
  ·subst nk;intro z;by_cases hi:i<ρ.length
   ·rw [aG (by omega)] at z;cases z;exact nb _ hc rfl
   ·rw [cD (by simp;omega)] at hk;cases hk
  ·rw [aj nk] at hk ⊢;exact O.dj c hc k e' hk
 ·exact f.u2 j k d1 d2 (nx (fun _ z=>by cases z) h1).1 (nx (fun _ z=>by cases z) h2).1
theorem Fr.write     (f:Fr K H0 Hs0 la ρ σ H Hs) (i:Nat)   (hi:ρ[i]?=some (Sl.own d)) (hs:σ[i]?=some (some (V.ref a))) (r:n8 K Hs o d'):Fr K H0 Hs0 la (ρ.set i (.own d')) σ (upd H a o) Hs:=by
 obtain ⟨a',o',h1,h2,h3,h4,h5⟩:=f.ow i d hi;rw [hs] at h1;cases h1;have hl:=f.len;have hil:i<ρ.length:=(List.getElem?_eq_some_iff.mp hi).1;have nx:∀ {j:Nat}{s:Sl},(∀ d,s≠.own d)->(ρ.set i (.own d'))[j]?=some s->ρ[j]?=some s/\i≠j:=fun {j s} hs e=>by
  by_cases hj:i=j
  ·subst hj;rw [aG hil] at e;exact absurd (bQ e).symm (hs d')
  ·rw [aj hj] at e;exact ⟨e,hj⟩
 refine ⟨⟨fun b u e=>?_,f.st.sh,fun b u e=>?_,f.st.out⟩,by simp [hl],fun j e h=>?_,fun j e h=>?_,fun j e h=>?_,fun j k d1 d2 b h1 h2 h3 h4=>?_,f.lh,fun j e h=>?_,fun j k d1 d2 h1 h2=>?_⟩
 ·rw [bd (bU e h4)];exact f.st.all b u e
 ·rw [bd (bU e h3)];exact f.st.sub b u e
 ·obtain ⟨h,hj⟩:=nx (fun _ z=>by cases z) h;exact f.sh j e h
 ·by_cases hj:i=j
  ·subst hj;rw [aG hil] at h;cases h;exact ⟨a,o,hs,b9,h3,h4,r⟩
  ·rw [aj hj] at h;obtain ⟨b,u,k1,k2,k3,k4,k5⟩:=f.ow j e h;refine ⟨b,u,k1,?_,k3,k4,k5⟩;rw [bd (fun z=>hj ?_)]
   ·exact k2
   ·subst z;exact f.dj i j d e b hi h hs k1
 ·obtain ⟨h,hj⟩:=nx (fun _ z=>by cases z) h;obtain ⟨b,u,k1,k2,k3,k4,k5,k6⟩:=f.lk j e h;refine ⟨b,u,k1,k2,?_,k4,k5,k6⟩;rw [bd (bU k5 h4)];exact k3
 ·have own:∀ {j:Nat}{e:D},(ρ.set i (.own d'))[j]?=some (Sl.own e)->∃ e',ρ[j]?=some (Sl.own e'):=fun {j e} h=>by
   by_cases hj:i=j
   ·subst hj;exact ⟨d,hi⟩
   ·rw [aj hj] at h;exact ⟨e,h⟩
  obtain ⟨e1,h1⟩:=own h1;obtain ⟨e2,h2⟩:=own h2;exact f.dj j k e1 e2 b h1 h2 h3 h4
 ·obtain ⟨h,hj⟩:=nx (fun _ z=>by cases z) h;obtain ⟨b,as,O⟩:=f.o2 j e h;have nb:∀ c∈b::as,c≠a:=fun c hc z=>by
   subst z;exact O.dj c hc i d hi hs
  refine ⟨b,as,O.at_,by rw [bd (nb b ak)];exact O.ob,O.nd,O.out,fun c hc k e' hk=>?_,O.inn.upd fun z=>nb a (ai _ z) rfl⟩;by_cases nk:i=k
  ·subst nk;exact O.dj c hc i d hi
  ·rw [aj nk] at hk;exact O.dj c hc k e' hk
 ·exact f.u2 j k d1 d2 (nx (fun _ z=>by cases z) h1).1 (nx (fun _ z=>by cases z) h2).1
def dE (ρ:aD):aD:=ρ.map fun s=>match s with
 |.own d=>.shr d
 |.ow2 dss=>.shr (.list (dss.map .list))
 |s=>s
open Classical in
theorem Fr.share     (f:Fr K H0 Hs0 la ρ σ H Hs):∃ Hs',Fr K H0 Hs0 la (dE ρ) σ H Hs'/\cP H Hs H Hs'\/Fr K H0 Hs0 la (dE ρ) σ H Hs':=by
 let P:am->Prop:=fun b=>(∃ (i:Nat) (d:D),ρ[i]?=some (Sl.own d)/\σ[i]?=some (some (V.ref b)))\/∃ (i:Nat) (dss:List (List D)) (a:am) (as:List am),ρ[i]?=some (Sl.ow2 dss)/\O2 K H0 H Hs ρ σ i dss a as/\b∈a::as
 let Hs':Hp:=fun b=>if P b then H b else Hs b
 have pos:∀ b,P b->Hs' b=H b:=fun b h=>if_pos h;have neg:∀ b,¬ P b->Hs' b=Hs b:=fun b h=>if_neg h;have up:dD Hs Hs':=fun b o e=>by
  by_cases h:P b
  ·rw [pos b h];exact f.st.sub b o e
  ·rw [neg b h];exact e
 have none0:∀ b o,H0 b=some o->¬ P b:=fun b o e hP=>by
  rcases hP with ⟨i,d,h1,h2⟩|⟨i,dss,a,as,h1,O,hb⟩
  ·obtain ⟨a,o',k1,_,_,k4,_⟩:=f.ow i d h1;rw [h2] at k1;cases k1;rw [e] at k4;cases k4
  ·have:=(O.out b hb).2;rw [e] at this;cases this
 have un:∀ {j:Nat}{s:Sl},(dE ρ)[j]?=some s->(∃ d,s=.shr d/\ρ[j]?=some (Sl.own d))\/(∃ dss:List (List D),s=.shr (.list (dss.map .list))/\ρ[j]?=some (Sl.ow2 dss))\/((∀ d,s≠.own d)/\(∀ d,s≠.ow2 d)/\ρ[j]?=some s):=fun {j s} e=>by
  unfold dE at e;rw [aU] at e;cases h:ρ[j]? with
  |none=>rw [h] at e;cases e
  |some t =>
   rw [h] at e;cases t with
   |own d=>cases e;exact .inl ⟨d,rfl,rfl⟩
   |no=>cases e;exact .inr (.inr ⟨fun _ z=>(by cases z),fun _ z=>(by cases z),rfl⟩)
   |shr d=>cases e;exact .inr (.inr ⟨fun _ z=>(by cases z),fun _ z=>(by cases z),rfl⟩)
   |lck d=>cases e;exact .inr (.inr ⟨fun _ z=>(by cases z),fun _ z=>(by cases z),rfl⟩)
   |ow2 d=>cases e;exact .inr (.inl ⟨d,rfl,rfl⟩)
 refine ⟨Hs',.inr ⟨⟨f.st.all,f.st.sh.trans up,fun b o e=>?_,fun a o e t z=>?_⟩,by simp [dE,f.len],fun j d h=>?_,fun j d h=>?_,fun j d h=>?_,fun j k d1 d2 a h1 h2 _ _=>?_,f.lh,fun j d h=>?_,fun j k d1 d2 h1 h2=>?_⟩⟩
 ·by_cases h:P b
  ·rw [pos b h] at e;exact e
  ·rw [neg b h] at e;exact f.st.sub b o e
 ·rw [neg a (none0 a o e)];exact f.st.out a o e t z
 ·rcases un h with ⟨d',e,h'⟩|⟨dss,e,h'⟩|⟨_,_,h'⟩
  ·cases e;obtain ⟨a,o,k1,k2,k3,k4,k5⟩:=f.ow j d h';refine ⟨_,k1,?_⟩;have hp:Hs' a=some o:=by rw [pos a (.inl ⟨j,d,h',k1⟩)];exact k2
   have e:dD (upd Hs a o) Hs':=fun b u q=>by
    by_cases hb:b=a
    ·subst hb;rw [b9] at q;cases q;exact hp
    ·rw [bd hb] at q;exact up b u q
   exact (k5.share k3).same e
  ·cases e;obtain ⟨a,as,O⟩:=f.o2 j dss h';refine ⟨_,O.at_,?_⟩;have hp:∀ b∈a::as,∀ o,H b=some o->Hs' b=some o:=fun b hb o ho=>by rw [pos b (.inr ⟨j,dss,a,as,h',O,hb⟩)];exact ho
   refine .list (.of (hp a ak _ O.ob)) ?_;have go:∀ {as':List am}{dss':List (List D)},(∀ b∈as',b∈a::as)->BA K H Hs as' dss'->RDs K Hs' (as'.map V.ref) (dss'.map .list):=fun {as' dss'} hs hi=>by
    induction hi with
    |nil=>exact .nil
    |cons h1 h2 _ ih=>exact .cons (.list (.of (hp _ (hs _ ak) _ h1)) (h2.same up)) (ih fun b hb=>hs b (ai _ hb))
   exact go (fun b hb=>ai _ hb) O.inn
  ·obtain ⟨v,k1,k2⟩:=f.sh j d h';exact ⟨v,k1,k2.same up⟩
 ·rcases un h with ⟨d',e,h'⟩|⟨d',e,h'⟩|⟨n,_,h'⟩
  ·cases e
  ·cases e
  ·exact (n d rfl).elim
 ·rcases un h with ⟨d',e,h'⟩|⟨d',e,h'⟩|⟨_,_,h'⟩
  ·cases e
  ·cases e
  ·obtain ⟨a,o,k1,k2,k3,k4,k5,k6⟩:=f.lk j d h';exact ⟨a,o,k1,k2,k3,by rw [neg a (none0 a o k5)];exact k4,k5,k6.same up⟩
 ·rcases un h1 with ⟨d',e,h'⟩|⟨d',e,h'⟩|⟨n,_,h'⟩
  ·cases e
  ·cases e
  ·exact (n d1 rfl).elim
 ·rcases un h with ⟨d',e,h'⟩|⟨d',e,h'⟩|⟨_,n,h'⟩
  ·cases e
  ·cases e
  ·exact (n d rfl).elim
 ·rcases un h1 with ⟨d',e,h'⟩|⟨d',e,h'⟩|⟨_,n,h'⟩
  ·cases e
  ·cases e
  ·exact (n d1 rfl).elim
theorem Fr.shared     (f:Fr K H0 Hs0 la ρ σ H Hs):∃ Hs',Fr K H0 Hs0 la (dE ρ) σ H Hs':=by
 obtain ⟨Hs',h|h⟩:=f.share
 ·exact ⟨Hs',h.1⟩
 ·exact ⟨Hs',h⟩
section
variable {c:C}{e a b:bY}{g ga gb:aD->R D}{pos:Pos}{x:Str}{st:db}{cp:List db}{gs gr:aD->R Fl}
def aX (g h:aD->R Fl):aD->R Fl:=fun ρ=>(g ρ).bind fun fl=>match fl with
 |.nx ρ'=>h ρ'
 |fl=>.ok fl
theorem cF:IM c [] (fun ρ=>.ok (.nx ρ)):=.of fun ρ=>Ym Qt fun D σ H h_1=>by obtain ⟨H0,Hs0,la,Hs,f,q⟩:=h_1;exact q σ H Hs f
theorem aK (h:JS c st gs):IM c [st] gs:=.of fun ρ=>Ct (h ρ)
theorem ay (h:JS c st gs) (hr:IM c cp gr):IM c (st::cp) (aX gs gr):=.of fun ρ pins s σ H D I h_2=>by
 obtain ⟨H0,Hs0,la,Hs,f,q⟩:=h_2;unfold aX at q;cases hg:gs ρ with
 |no=>rw [hg] at q;exact q.elim
 |ex x n =>
  rw [hg] at q;refine r6 (h ρ) (sf (X:=c.X) (sts:=cp)) pins s σ H D I ⟨H0,Hs0,la,Hs,f,?_⟩;rw [hg];exact q
 |ok fl =>
  rw [hg,bind_ok] at q;cases fl with
  |nx ρ' =>
   refine r6 (h ρ) (hr ρ') pins s σ H D I ⟨H0,Hs0,la,Hs,f,?_⟩;rw [hg];exact fun σ' H' Hs' f'=>⟨H0,Hs0,la,Hs',f',q⟩
  |rt d =>
   refine r6 (h ρ) (sf (X:=c.X) (sts:=cp)) pins s σ H D I ⟨H0,Hs0,la,Hs,f,?_⟩;rw [hg];exact q
  |bk ρ' =>
   refine r6 (h ρ) (sf (X:=c.X) (sts:=cp)) pins s σ H D I ⟨H0,Hs0,la,Hs,f,?_⟩;rw [hg];exact q
  |ct ρ' =>
   refine r6 (h ρ) (sf (X:=c.X) (sts:=cp)) pins s σ H D I ⟨H0,Hs0,la,Hs,f,?_⟩;rw [hg];exact q
theorem sE            (f:Fr K H0 Hs0 la ρ σ H Hs)
  (h:oO K cls E H0 Hs0 la D' (r.bind k)) (m:∀ d v H' Hs',r=.ok d->cP H Hs H' Hs'->Fr K H0 Hs0 la ρ σ H' Hs'->RD K Hs' v d->Q v H'):TR K cls E ρ r σ H Q:=by
 refine ⟨H0,Hs0,la,Hs,f,?_⟩;cases r with
 |ok d=>exact fun v H' Hs' s r=>m d v H' Hs' rfl s (f.step s) r
 |ex c n=>exact fun H' Hs' s=>h H' Hs' (f.st.trans s)
 |no=>exact h
theorem sT            (f:Fr K H0 Hs0 la ρ σ H Hs)
  (h:oO K cls E H0 Hs0 la D' (r.bind k)) (m:∀ d H' Hs',r=.ok d->cP H Hs H' Hs'->Fr K H0 Hs0 la ρ σ H' Hs'->Q d H'):KI K cls E ρ r σ H Q:=by
 refine ⟨H0,Hs0,la,Hs,f,?_⟩;cases r with
 |ok d=>exact fun H' Hs' s=>m d H' Hs' rfl s (f.step s)
 |ex c n=>exact fun H' Hs' s=>h H' Hs' (f.st.trans s)
 |no=>exact h
def cH (g:aD->R D):aD->R Fl:=fun ρ=>(g (dE ρ)).bind fun d=>.ok (.rt d)
theorem bz (h:JE c e g):JS c (.Return (some e) pos) (cH g):=.of fun ρ=>As (Mo (h (dE ρ))) fun D σ H h_3=>by
 obtain ⟨H0,Hs0,la,Hs,f,q⟩:=h_3;obtain ⟨Hs',f'⟩:=f.shared;refine sE f' q fun d v H1 Hs1 e1 s1 f1 r1=>?_;unfold cH at q;rw [e1,bind_ok] at q;exact q v H1 Hs1 f1.st r1
def ft (t:aD->R Bool) (g h:aD->R Fl):aD->R Fl:=fun ρ=>(t ρ).bind fun b=>if b then g ρ else h ρ
theorem fu    (ht:JT c t gt) (hA:IM c A gA) (hB:IM c B gB):JS c (.If t A B pos) (ft gt gA gB):=.of fun ρ=>As (VA (ht ρ) (hA ρ) (hB ρ)) fun D σ H h_5=>by
 obtain ⟨H0,Hs0,la,Hs,f,q⟩:=h_5;refine sT f q fun d H1 Hs1 e1 s1 f1=>?_;unfold ft at q;rw [e1,bind_ok] at q;cases d with
 |true=>exact AL ⟨H0,Hs0,la,Hs1,f1,q⟩
 |false=>exact AK ⟨H0,Hs0,la,Hs1,f1,q⟩
def gP (i:Nat) (g:aD->R D):aD->R Fl:=fun ρ=>(g ρ).bind fun d=>.ok (.nx (ρ.set i (.shr d)))
theorem dO (i:Nat) (h:JE c e g) (hN:c.X.N.Nodup) (hi:c.X.N[i]?=some x:=by rfl) (hx:S7 c.X.env.scope x:=by first|exact iz rfl|exact e_ rfl) (hs:iq e (some (.Name x pos')) pos.line c.X.env=pure false:=by rfl)
  (hf:c.X.fn x=true\/c.X.env.scope.names.lookup x=some .local:=by first|exact .inl rfl|exact .inr rfl|assumption):JS c (.Assign [.Name x pos'] e pos) (gP i g):=.of fun ρ=>As (GD hN hi hx (h ρ) hs hf) fun D σ H h_6=>by
 obtain ⟨H0,Hs0,la,Hs,f,q⟩:=h_6;refine sE f q fun d v H1 Hs1 e1 s1 f1 r1=>?_;unfold gP at q;rw [e1,bind_ok] at q;exact q _ H1 Hs1 (f1.set i r1)
def rz (g:aD->R D):aD->R Fl:=fun ρ=>(g ρ).bind fun _=>.ok (.nx ρ)
theorem nB (h:JE c e g) (hs:iq e none pos.line c.X.env=pure false:=by rfl):JS c (.Expr e pos) (rz g):=.of fun ρ=>As (Cu (h ρ) hs) fun D σ H h_7=>by
 obtain ⟨H0,Hs0,la,Hs,f,q⟩:=h_7;refine sE f q fun d v H1 Hs1 e1 s1 f1 r1=>?_;unfold rz at q;rw [e1,bind_ok] at q;exact q _ H1 Hs1 f1
def Z1 (K:a8) (H0 Hs0:Hp) (la:Nat->Option am) (H Hs:Hp) (Q:St->Hp->Prop) (r:R aD):Prop:=match r with
 |.ok ρ'=>∀ σ',Fr K H0 Hs0 la ρ' σ' H Hs->Q σ' H
 |_=>False
inductive Wh (K:a8) (ρ:aD) (d:D) (r:R aD) (v:V) (σ:St) (H:Hp) (Q:St->Hp->Prop):Prop
 |mk (H0 Hs0:Hp) (la:Nat->Option am) (Hs:Hp) (f:Fr K H0 Hs0 la ρ σ H Hs) (rd:RD K Hs v d) (q:Z1 K H0 Hs0 la H Hs Q r):Wh K ρ d r v σ H Q
def Uw (K:a8) (ρ:aD) (d:D) (r:R aD):TG:=Wh K ρ d r
inductive SF (K:a8) (ρ:aD) (ds:List D) (r:R aD) (vs:List V) (σ:St) (H:Hp) (Q:St->Hp->Prop):Prop
 |mk (H0 Hs0:Hp) (la:Nat->Option am) (Hs:Hp) (f:Fr K H0 Hs0 la ρ σ H Hs) (rd:RDs K Hs vs ds) (q:Z1 K H0 Hs0 la H Hs Q r):SF K ρ ds r vs σ H Q
def Wi (K:a8) (ρ:aD) (ds:List D) (r:R aD):Qu:=SF K ρ ds r
structure JG (c:C) (t:bY) (k:D->aD->R aD):Prop where of ::
 run:∀ ρ d,PG c.X t (Uw c.X.K ρ d (k d ρ))
instance {c:C}{t:bY}{k:D->aD->R aD}:CoeFun (JG c t k) (fun _=>∀ ρ d,PG c.X t (Uw c.X.K ρ d (k d ρ))):=⟨JG.run⟩
structure Vm (c:C) (t:List bY) (k:List D->aD->R aD):Prop where of ::
 run:∀ ρ d,S9 c.X t (Wi c.X.K ρ d (k d ρ))
instance {c:C}{t:List bY}{k:List D->aD->R aD}:CoeFun (Vm c t k) (fun _=>∀ ρ d,S9 c.X t (Wi c.X.K ρ d (k d ρ))):=⟨Vm.run⟩
theorem Z2   (h:PG X e t) (m:∀ v σ H Q,t' v σ H Q->t v σ H Q):PG X e t':=fun pins s σ H v u Q I r q=>h pins s σ H v u Q I r (m v σ H Q q)
theorem Yr {X:Cx}{e:List bY}{t t':Qu} (h:S9 X e t) (m:∀ v σ H Q,t' v σ H Q->t v σ H Q):S9 X e t':=fun pins s σ H v u Q I r q=>h pins s σ H v u Q I r (m v σ H Q q)
def cb (i:Nat):D->aD->R aD:=fun d ρ=>.ok (ρ.set i (.shr d))
theorem de (i:Nat) (hN:c.X.N.Nodup) (hi:c.X.N[i]?=some x:=by rfl) (hx:S7 c.X.env.scope x:=by first|exact iz rfl|exact e_ rfl) (hf:c.X.fn x=true\/c.X.env.scope.names.lookup x=some .local:=by first|exact .inl rfl|exact .inr rfl|assumption) :
  JG c (.Name x pos) (cb i):=.of fun ρ d=>Z2 (cB hN hi hx hf) fun v σ H Q h_11=>by obtain ⟨H0,Hs0,la,Hs,f,r,q⟩:=h_11;exact q _ (f.set i r)
def pK:List D->aD->R aD:=fun ds ρ=>match ds with
 |[]=>.ok ρ
 |_=>.no
def da (k:D->aD->R aD) (ks:List D->aD->R aD):List D->aD->R aD:=fun ds ρ=>match ds with
 |d::r=>(k d ρ).bind fun ρ'=>ks r ρ'
 |_=>.no
theorem nC:Vm c [] pK:=.of fun ρ ds=>Yr Cv fun vs σ H Q h_12=>by
 obtain ⟨H0,Hs0,la,Hs,f,r,q⟩:=h_12;cases r with
 |nil=>exact ⟨rfl,q σ f⟩
 |cons _ _=>exact q.elim
theorem dG (h:JG c t kt) (hr:Vm c ts kts) (hs:(iN (t::ts) c.X.env).map (·.2)=qR t c.X.env::(iN ts c.X.env).map (·.2):=by rfl):Vm c (t::ts) (da kt kts):=.of fun ρ ds pins s σ H vs us Q I rv h_13=>by
 obtain ⟨H0,Hs0,la,Hs,f,r,q⟩:=h_13;cases r with
 |nil=>exact q.elim
 | @cons v vr d dr r1 r2 =>
  unfold da at q;cases hk:kt d ρ with
  |ok ρ' =>
   simp only [hk,bind_ok] at q;refine r9 (h ρ d) (hr ρ' dr) hs pins s σ H _ us Q I rv ⟨v,vr,rfl,H0,Hs0,la,Hs,f,r1,?_⟩;rw [hk];exact fun σ' f'=>⟨H0,Hs0,la,Hs,f',r2,q⟩
  |ex x n=>simp only [hk,bind_ex] at q;exact q.elim
  |no=>simp only [hk,bind_no] at q;exact q.elim
def oh (n:Nat) (ks:List D->aD->R aD):D->aD->R aD:=fun d ρ=>match d with
 |.tuple ds=>if ds.length=n then ks ds ρ else .no
 |_=>.no
theorem rA (hc:c.X.calm=true) (h:Vm c ts kts) (hn:(iN ts c.X.env).length=n:=by rfl) (hst:(iN ts c.X.env).findIdx? (·.1)=none:=by rfl):JG c (.Tuple ts k pos) (oh n kts):=.of fun ρ d=>by
 cases d with
 |tuple ds =>
  refine Z2 (GC hc (h ρ ds) hn hst) fun v σ H Q h_14=>?_;obtain ⟨H0,Hs0,la,Hs,f,r,q⟩:=h_14;cases r with
  | @tuple p xs _ hq rs =>
   unfold oh at q;by_cases hl:ds.length=n
   ·simp only [if_pos hl] at q;exact ⟨p,xs,rfl,(lu.of (f.st.sub _ _ hq)),by rw [rs.length];exact hl,H0,Hs0,la,Hs,f,rs,q⟩
   ·simp only [if_neg hl] at q;exact q.elim
 |_=>exact fun pins s σ H v u Q I rv h_15=>by obtain ⟨H0,Hs0,la,Hs,f,r,q⟩:=h_15;exact q.elim
def AV (g:aD->R D) (k:D->aD->R aD):aD->R Fl:=fun ρ=>(g ρ).bind fun d=>match k d ρ with
 |.ok ρ'=>.ok (.nx ρ')
 |_=>.no
theorem yV (h:JE c e g) (hg:JG c t kt) (hs:xZ [t] e pos.line c.X.env=pure false:=by rfl) (hw:x_ [t] e c.X.env=pure none:=by rfl) (h1:(iN [t] c.X.env).map (·.2)=[qR t c.X.env]:=by rfl) :
  JS c (.Assign [t] e pos) (AV g kt):=.of fun ρ=>by
 cases hr:g ρ with
 |ok d =>
  refine As (Mq (h ρ) (hg ρ d) hs hw h1) fun D σ H h_16=>?_;obtain ⟨H0,Hs0,la,Hs,f,q⟩:=h_16;refine sE (k:=fun d=>match kt d ρ with | .ok ρ'=>.ok (.nx ρ')|_=>.no) f q fun d' v H1 Hs1 e1 s1 f1 r1=>?_;rw [hr] at e1;cases e1;unfold AV at q;rw [hr,bind_ok] at q;refine ⟨H0,Hs0,la,Hs1,f1,r1,?_⟩;cases hk:kt d ρ with
  |ok ρ'=>rw [hk] at q;exact fun σ' f'=>q σ' H1 Hs1 f'
  |ex x n=>rw [hk] at q;exact q.elim
  |no=>rw [hk] at q;exact q.elim
 |ex x n =>
  refine As (Mq (h ρ) (hg ρ .none) hs hw h1) fun D σ H h_17=>?_;obtain ⟨H0,Hs0,la,Hs,f,q⟩:=h_17;refine sE (k:=fun _=>.no) (D':=D) f (by unfold AV at q;rw [hr] at q ⊢;exact q) fun d' v H1 Hs1 e1 s1 f1 r1=>?_;rw [hr] at e1;cases e1
 |no =>
  refine fun pins s σ H D I h_18=>?_;obtain ⟨H0,Hs0,la,Hs,f,q⟩:=h_18;unfold AV at q;rw [hr] at q;exact q.elim
end
end
section
def PY (K:a8) (J:It) (ds:List D) (Hn Hs:Hp):Prop:=∀ H2 Hs2,dD Hn H2->dD Hs Hs2->dD Hs2 H2 ->
 (∀ i,i<ds.length->J.go i H2)/\(∀ i,ds.length<=i->J.stop i H2)/\∀ i x H3,i<ds.length->J.yld i H2 x H3->∃ d Hs3,ds[i]?=some d/\cP H2 Hs2 H3 Hs3/\RD K Hs3 x d
theorem D1     (h:qB K Hn a vs) (r:RDs K Hs vs ds):PY K (XT K a) ds Hn Hs:=fun H2 Hs2 e1 e2 e3=>by
 have q:=e1.seq h;refine ⟨fun i hi=>?_,fun i hi=>⟨vs,q,by rw [r.length];exact hi⟩,fun i x H3 hi y=>?_⟩
 ·have hi':i<vs.length:=by rw [r.length];exact hi
  exact ⟨vs,vs[i],q,bc hi'⟩
 ·obtain ⟨rfl,y⟩:=y;obtain ⟨d,k1,k2⟩:=r.get (y vs q);exact ⟨d,Hs2,k1,.refl e3,k2.same e2⟩
theorem Nl     (h:lu K Hn a vs) (r:RDs K Hs vs ds):PY K (XU K a) ds Hn Hs:=fun H2 Hs2 e1 e2 e3=>by
 have q:=e1.tup h;refine ⟨fun i hi=>?_,fun i hi=>⟨vs,q,by rw [r.length];exact hi⟩,fun i x H3 hi y=>?_⟩
 ·have hi':i<vs.length:=by rw [r.length];exact hi
  exact ⟨vs,vs[i],q,bc hi'⟩
 ·obtain ⟨rfl,y⟩:=y;obtain ⟨d,k1,k2⟩:=r.get (y vs q);exact ⟨d,Hs2,k1,.refl e3,k2.same e2⟩
theorem Nm  (x:Str):PY K (VX x) (og x) Hn Hs:=fun H2 Hs2 e1 e2 e3=>by
 have hl:(og x).length=x.cps.size:=by simp [og]
 refine ⟨fun i hi=>by rw [hl] at hi;exact hi,fun i hi=>by rw [hl] at hi;exact hi,fun i v H3 hi y=>?_⟩;obtain ⟨rfl,c,k1,rfl⟩:=y;refine ⟨.str ⟨#[c]⟩,Hs2,?_,.refl e3,.str _⟩;unfold og;rw [aU,aQ,k1];rfl
def rE (lo:Int) (n:Nat):List D:=(bx n).map fun (k:Nat)=>eK (lo+k)
theorem No  (lo:Int) (n:Nat):PY K (Xp lo n) (rE lo n) Hn Hs:=fun H2 Hs2 e1 e2 e3=>by
 have hl:(rE lo n).length=n:=by simp [rE]
 refine ⟨fun i hi=>by rw [hl] at hi;exact hi,fun i hi=>by rw [hl] at hi;exact hi,fun i v H3 hi y=>?_⟩;obtain ⟨rfl,rfl⟩:=y;refine ⟨.int (lo+i),Hs2,?_,.refl e3,.int _⟩;rw [hl] at hi;unfold rE;rw [aU,Kb hi];rfl
def qD (n:Nat):List D->List D
 |[]=>[]
 |d::r=>.tuple [.int n,d]::qD (n+1) r
theorem BF:∀ (ds:List D) (n i:Nat),(qD n ds)[i]?=(ds[i]?).map fun d=>fK [.int ((n+i:Nat):Int),d]
 |[],_,_=>by simp [qD]
 |d::r,n,0=>by simp [qD]
 |d::r,n,i+1=>by
  simp only [qD,jW];rw [BF r (n+1) i,show n+1+i=n+(i+1) by omega]
theorem BG:∀ (ds:List D) (n:Nat),(qD n ds).length=ds.length
 |[],_=>rfl
 |d::r,n=>by simp [qD,BG r]
theorem R4     (h:lu K Hn a vs) (r:RDs K Hs vs ds):PY K (Yf K a) (qD 0 ds) Hn Hs:=fun H2 Hs2 e1 e2 e3=>by
 have q:=e1.tup h;have hl:=BG ds 0;refine ⟨fun i hi=>?_,fun i hi=>⟨vs,q,by rw [r.length];omega⟩,fun i x H3 hi y=>?_⟩
 ·have hi':i<vs.length:=by rw [r.length];omega
  exact ⟨vs,vs[i],q,bc hi'⟩
 ·obtain ⟨p,hp,rfl,y⟩:=y;obtain ⟨x,k0,rfl⟩:=y vs q;obtain ⟨d,k1,k2⟩:=r.get k0;have st:=cP.new (o:=.tup [.int i,x]) e3 hp;refine ⟨.tuple [.int i,d],_,?_,st,.tuple b9 (.cons (.int _) (.cons ((k2.same e2).same st.sh) .nil))⟩;rw [BF,k1];simp
def xT:List D->List D->List D
 |x::xs,y::ys=>.tuple [x,y]::xT xs ys
 |_,_=>[]
theorem EC:∀ (xs ys:List D) (i:Nat) (x y:D),xs[i]?=some x->ys[i]?=some y->(xT xs ys)[i]?=some (.tuple [x,y])
 |x::xs,y::ys,0,_,_,h1,h2=>by simp at h1 h2;subst h1 h2;rfl
 |_::xs,_::ys,i+1,x,y,h1,h2=>by
  simp only [jW] at h1 h2;simp only [xT,jW];exact EC xs ys i x y h1 h2
 |[],_,_,_,_,h1,_=>by simp at h1
 |_::_,[],_,_,_,_,h2=>by simp at h2
theorem ED:∀ (xs ys:List D),(xT xs ys).length=min xs.length ys.length
 |x::xs,y::ys=>by simp [xT,ED xs ys]
 |[],_=>by simp [xT]
 |_::_,[]=>by simp [xT]
theorem Ux     (h:lu K Hn a vs) (r:RDs K Hs vs ds) (h':lu K Hn b ws) (r':RDs K Hs ws es):PY K (Yg K a b) (xT ds es) Hn Hs:=fun H2 Hs2 e1 e2 e3=>by
 have q:=e1.tup h;have q':=e1.tup h';have hl:=ED ds es;refine ⟨fun i hi=>?_,fun i hi=>⟨vs,ws,q,q',by rw [r.length,r'.length];omega⟩,fun i x H3 hi y=>?_⟩
 ·have h1:i<vs.length:=by rw [r.length];omega
  have h2:i<ws.length:=by rw [r'.length];omega
  exact ⟨vs,ws,vs[i],ws[i],q,q',bc h1,bc h2⟩
 ·obtain ⟨p,hp,rfl,y⟩:=y;obtain ⟨x,z,k0,k0',rfl⟩:=y vs ws q q';obtain ⟨d,k1,k2⟩:=r.get k0;obtain ⟨d',k1',k2'⟩:=r'.get k0';have st:=cP.new (o:=.tup [x,z]) e3 hp;exact ⟨.tuple [d,d'],_,EC ds es i d d' k1 k1',st,.tuple b9 (.cons ((k2.same e2).same st.sh) (.cons ((k2'.same e2).same st.sh) .nil))⟩
inductive Wj (K:a8) (cls:Str->am) (E:XK) (ρ:aD) (r:R (List D)) (σ:St) (H:Hp) (Q:It->Hp->Prop):Prop
 |mk (H0 Hs0:Hp) (la:Nat->Option am) (Hs:Hp) (f:Fr K H0 Hs0 la ρ σ H Hs) (q:Fin K cls E H Hs r fun ds=>∀ J H' Hs' Hn,cP H Hs H' Hs'->dD Hn H'->PY K J ds Hn Hs'->Q J H'):Wj K cls E ρ r σ H Q
def Xy (K:a8) (cls:Str->am) (E:XK) (ρ:aD) (r:R (List D)):TI:=Wj K cls E ρ r
inductive Wk (K:a8) (cls:Str->am) (E:XK) (ρ:aD) (r:R (List D)) (σ:St) (H:Hp) (Q:It->Hp->Prop):Prop
 |mk (H0 Hs0:Hp) (la:Nat->Option am) (Hs:Hp) (f:Fr K H0 Hs0 la ρ σ H Hs) (q:Fin K cls E H Hs r fun ds=>∀ J H' Hs',cP H Hs H' Hs'->PY K J ds Hs' Hs'->Q J H'):Wk K cls E ρ r σ H Q
def Z3 (K:a8) (cls:Str->am) (E:XK) (ρ:aD) (r:R (List D)):TI:=Wk K cls E ρ r
structure JI (c:C) (tg it:bY) (g:aD->R (List D)):Prop where of ::
 run:∀ ρ,PI c.X tg it (Xy c.X.K c.cls c.E ρ (g ρ))
instance {c:C}{tg it:bY}{g:aD->R (List D)}:CoeFun (JI c tg it g) (fun _=>∀ ρ,PI c.X tg it (Xy c.X.K c.cls c.E ρ (g ρ))):=⟨JI.run⟩
structure Np (c:C) (tg it:bY) (g:aD->R (List D)):Prop where of ::
 run:∀ ρ,PI c.X tg it (Z3 c.X.K c.cls c.E ρ (g ρ))
instance {c:C}{tg it:bY}{g:aD->R (List D)}:CoeFun (Np c tg it g) (fun _=>∀ ρ,PI c.X tg it (Z3 c.X.K c.cls c.E ρ (g ρ))):=⟨Np.run⟩
theorem KP   (h:PI X tg e t) (m:∀ σ H Q,t' σ H Q->t σ H Q):PI X tg e t':=fun pins s σ H Q I q=>h pins s σ H Q I (m σ H Q q)
section
def yW:D->R (List D)
 |.list ds=>.ok ds
 |.tuple ds=>.ok ds
 |.str x=>.ok (og x)
 |_=>.no
def k7 (g:aD->R D):aD->R (List D):=fun ρ=>(g ρ).bind yW
theorem eB (h:JB c l g):JI c tg l (k7 g):=.of fun ρ=>by
 cases hr:g ρ with
 |no=>exact fun pins s σ H Q I h_0=>by obtain ⟨H0,Hs0,la,Hs,f,q⟩:=h_0;exact by unfold k7 at q;rw [hr] at q;exact q.elim
 |ex x n =>
  refine KP (uW (h ρ)) fun σ H Q h_1=>?_;obtain ⟨H0,Hs0,la,Hs,f,q⟩:=h_1;refine one f q fun d v H1 Hs1 e1 s1 f1 r1=>?_;rw [hr] at e1;cases e1
 |ok d =>
  cases d with
  |list ds =>
   refine KP (uW (h ρ)) fun σ H Q h_2=>?_;obtain ⟨H0,Hs0,la,Hs,f,q⟩:=h_2;refine one f q fun d v H1 Hs1 e1 s1 f1 r1=>?_;rw [hr] at e1;cases e1;unfold k7 at q;rw [hr,bind_ok] at q;obtain ⟨a,vs,rfl,qa,ra⟩:=r1.list f1.st.sub;exact ⟨a,rfl,⟨vs,qa⟩,q _ H1 Hs1 H1 s1 (.refl _) (D1 qa ra)⟩
  |tuple ds =>
   refine KP (Ms (h ρ)) fun σ H Q h_3=>?_;obtain ⟨H0,Hs0,la,Hs,f,q⟩:=h_3;refine one f q fun d v H1 Hs1 e1 s1 f1 r1=>?_;rw [hr] at e1;cases e1;unfold k7 at q;rw [hr,bind_ok] at q;obtain ⟨a,vs,rfl,qa,ra,_⟩:=r1.tuple f1.st.sub;exact ⟨a,rfl,⟨vs,qa⟩,q _ H1 Hs1 H1 s1 (.refl _) (Nl qa ra)⟩
  |str x =>
   refine KP (MY (h ρ)) fun σ H Q h_4=>?_;obtain ⟨H0,Hs0,la,Hs,f,q⟩:=h_4;refine one f q fun d v H1 Hs1 e1 s1 f1 r1=>?_;rw [hr] at e1;cases e1;unfold k7 at q;rw [hr,bind_ok] at q;exact ⟨x,r1.str,q _ H1 Hs1 H1 s1 (.refl _) (Nm x)⟩
  |none=>exact fun pins s σ H Q I h_5=>by obtain ⟨H0,Hs0,la,Hs,f,q⟩:=h_5;exact by unfold k7 at q;rw [hr] at q;exact q.elim
  |bool _=>exact fun pins s σ H Q I h_6=>by obtain ⟨H0,Hs0,la,Hs,f,q⟩:=h_6;exact by unfold k7 at q;rw [hr] at q;exact q.elim
  |int _=>exact fun pins s σ H Q I h_7=>by obtain ⟨H0,Hs0,la,Hs,f,q⟩:=h_7;exact by unfold k7 at q;rw [hr] at q;exact q.elim
  |dict _=>exact fun pins s σ H Q I h_8=>by obtain ⟨H0,Hs0,la,Hs,f,q⟩:=h_8;exact by unfold k7 at q;rw [hr] at q;exact q.elim
theorem D2 (h:JE c l g):Np c tg l (k7 g):=.of fun ρ=>by
 cases hr:g ρ with
 |no=>exact fun pins s σ H Q I h_9=>by obtain ⟨H0,Hs0,la,Hs,f,q⟩:=h_9;exact by unfold k7 at q;rw [hr] at q;exact q.elim
 |ex x n =>
  refine KP (uW (h ρ)) fun σ H Q h_10=>?_;obtain ⟨H0,Hs0,la,Hs,f,q⟩:=h_10;refine AT f q fun d v H1 Hs1 e1 s1 f1 r1=>?_;rw [hr] at e1;cases e1
 |ok d =>
  cases d with
  |list ds =>
   refine KP (uW (h ρ)) fun σ H Q h_11=>?_;obtain ⟨H0,Hs0,la,Hs,f,q⟩:=h_11;refine AT f q fun d v H1 Hs1 e1 s1 f1 r1=>?_;rw [hr] at e1;cases e1;unfold k7 at q;rw [hr,bind_ok] at q;cases r1 with
   |list qa ra=>exact ⟨_,rfl,⟨_,f1.st.sub.seq qa⟩,q _ H1 Hs1 s1 (D1 qa ra)⟩
  |tuple ds =>
   refine KP (Ms (h ρ)) fun σ H Q h_12=>?_;obtain ⟨H0,Hs0,la,Hs,f,q⟩:=h_12;refine AT f q fun d v H1 Hs1 e1 s1 f1 r1=>?_;rw [hr] at e1;cases e1;unfold k7 at q;rw [hr,bind_ok] at q;cases r1 with
   |tuple qa ra=>exact ⟨_,rfl,⟨_,(lu.of (f1.st.sub _ _ qa))⟩,q _ H1 Hs1 s1 (Nl (.of qa) ra)⟩
  |str x =>
   refine KP (MY (h ρ)) fun σ H Q h_13=>?_;obtain ⟨H0,Hs0,la,Hs,f,q⟩:=h_13;refine AT f q fun d v H1 Hs1 e1 s1 f1 r1=>?_;rw [hr] at e1;cases e1;unfold k7 at q;rw [hr,bind_ok] at q;cases r1 with
   |str _=>exact ⟨x,rfl,q _ H1 Hs1 s1 (Nm x)⟩
  |none=>exact fun pins s σ H Q I h_14=>by obtain ⟨H0,Hs0,la,Hs,f,q⟩:=h_14;exact by unfold k7 at q;rw [hr] at q;exact q.elim
  |bool _=>exact fun pins s σ H Q I h_15=>by obtain ⟨H0,Hs0,la,Hs,f,q⟩:=h_15;exact by unfold k7 at q;rw [hr] at q;exact q.elim
  |int _=>exact fun pins s σ H Q I h_16=>by obtain ⟨H0,Hs0,la,Hs,f,q⟩:=h_16;exact by unfold k7 at q;rw [hr] at q;exact q.elim
  |dict _=>exact fun pins s σ H Q I h_17=>by obtain ⟨H0,Hs0,la,Hs,f,q⟩:=h_17;exact by unfold k7 at q;rw [hr] at q;exact q.elim
theorem Np.i (h:Np c tg l gs):JI c tg l gs:=.of fun ρ=>KP (h ρ) fun σ H Q ⟨H0,Hs0,la,Hs,f,q⟩=>⟨H0,Hs0,la,Hs,f,by
 cases hr:gs ρ with
 |ok ds=>rw [hr] at q;exact fun J H' Hs' s i=>q J H' Hs' Hs' s s.sub i
 |ex x n=>rw [hr] at q;exact q
 |no=>rw [hr] at q;exact q⟩
def Hd:List D->R (List D)
 |[.int j]=>if -(2 ^ 62)<=j/\j<2 ^ 62 then .ok (rE 0 j.toNat) else .no
 |_=>.no
def yX (gs:aD->R (List D)):aD->R (List D):=fun ρ=>(gs ρ).bind Hd
theorem pL (hg:Gl c.X "range") (hm:c.X.mg "range"=none) (ha:SA c [a] gs) (hs:aJ [a] c.X.env=[(false,eD a c.X.env)]:=by rfl):Np c tg (.Call (.Name "range" p) [a] [] pos) (yX gs):=.of fun ρ=>KP (Kn hg hm (ha ρ) hs) fun σ H Q h_18=>by
 obtain ⟨H0,Hs0,la,Hs,f,q⟩:=h_18;refine N8 f q fun ds vs H1 Hs1 e1 s1 f1 r1=>?_;unfold yX at q;rw [e1,bind_ok] at q;unfold Hd at q;split at q
 ·rename_i j
  by_cases hj:-(2 ^ 62)<=j/\j<2 ^ 62
  ·rw [if_pos hj] at q;obtain ⟨x,rfl,rx⟩:=r1.one;exact ⟨j,by rw [rx.int],hj.1,hj.2,q _ H1 Hs1 s1 (No 0 _)⟩
  ·rw [if_neg hj] at q;exact q.elim
 ·exact q.elim
def Xz:List D->R (List D)
 |[.tuple ds]=>.ok (qD 0 ds)
 |_=>.no
def He (gs:aD->R (List D)):aD->R (List D):=fun ρ=>(gs ρ).bind Xz
theorem RDs.one    (h:RDs K H xs [d]):∃ x,xs=[x]/\RD K H x d:=by
 cases h with|cons a t=>cases t;exact ⟨_,rfl,a⟩
theorem RDs.two {K:a8}{H:Hp}{xs:List V}{d e:D} (h:RDs K H xs [d,e]):∃ x y,xs=[x,y]/\RD K H x d/\RD K H y e:=by
 cases h with|cons a t=>cases t with|cons b t=>cases t;exact ⟨_,_,rfl,a,b⟩
theorem yY {x1} (hg:Gl c.X "enumerate") (hm:c.X.mg "enumerate"=none) (ha:Ge c [a] gs) (hs:aJ [a] c.X.env=[(false,eD a c.X.env)]:=by rfl):Np c (.Tuple elts x1 tpos) (.Call (.Name "enumerate" p) [a] [] pos) (He gs):=.of fun ρ=>KP (QR hg hm (ha ρ) hs) fun σ H Q h_20=>by
 obtain ⟨H0,Hs0,la,Hs,f,q⟩:=h_20;refine CU f q fun ds vs H1 Hs1 e1 s1 f1 r1=>?_;unfold He at q;rw [e1,bind_ok] at q;unfold Xz at q;split at q
 ·obtain ⟨x,rfl,rx⟩:=r1.one;cases rx with
  |tuple qa ra=>exact ⟨_,_,rfl,(lu.of (f1.st.sub _ _ qa)),q _ H1 Hs1 s1 (R4 (.of qa) ra)⟩
 ·exact q.elim
def zp:List D->R (List D)
 |[.tuple ds,.tuple es]=>.ok (xT ds es)
 |_=>.no
def R5 (gs:aD->R (List D)):aD->R (List D):=fun ρ=>(gs ρ).bind zp
theorem R6 {x1} (hg:Gl c.X "zip") (hm:c.X.mg "zip"=none) (ha:Ge c [a,b] gs) (hs:aJ [a,b] c.X.env=[(false,eD a c.X.env),(false,eD b c.X.env)]:=by rfl) (hs2:aJ [b] c.X.env=[(false,eD b c.X.env)]:=by rfl) :
  Np c (.Tuple elts x1 tpos) (.Call (.Name "zip" p) [a,b] [] pos) (R5 gs):=.of fun ρ=>KP (Uo hg hm (ha ρ) hs hs2) fun σ H Q h_21=>by
 obtain ⟨H0,Hs0,la,Hs,f,q⟩:=h_21;refine CU f q fun ds vs H1 Hs1 e1 s1 f1 r1=>?_;unfold R5 at q;rw [e1,bind_ok] at q;unfold zp at q;split at q
 ·obtain ⟨x,y,rfl,rx,ry⟩:=r1.two;cases rx with
  |tuple qa ra =>
   cases ry with
   |tuple qb rb=>exact ⟨_,_,_,_,rfl,(lu.of (f1.st.sub _ _ qa)),(lu.of (f1.st.sub _ _ qb)),q _ H1 Hs1 s1 (Ux (.of qa) ra (.of qb) rb)⟩
 ·exact q.elim
end
end
section
inductive Z4 (K:a8) (cls:Str->am) (E:XK) (ρ:aD) (r:R D) (σ:St) (H:Hp) (Q:VK):Prop
 |mk (H0 Hs0:Hp) (la:Nat->Option am) (Hs:Hp) (f:Fr K H0 Hs0 la ρ σ H Hs) (q:Fin K cls E H Hs r fun d=>∀ a o H' Hs',cP H Hs H' Hs'->H' a=none->n8 K Hs' o d->Q (.ref a) (upd H' a o)):Z4 K cls E ρ r σ H Q
def TN (K:a8) (cls:Str->am) (E:XK) (ρ:aD) (r:R D):TE:=Z4 K cls E ρ r
structure JN (c:C) (e:bY) (g:aD->R D):Prop where of ::
 run:∀ ρ,PE c.X e (TN c.X.K c.cls c.E ρ (g ρ))
instance {c:C}{e:bY}{g:aD->R D}:CoeFun (JN c e g) (fun _=>∀ ρ,PE c.X e (TN c.X.K c.cls c.E ρ (g ρ))):=⟨JN.run⟩
section
variable {c:C}{e a b l tg:bY}{g ga gb:aD->R D}{pos p:Pos}{gs:aD->R (List D)}{es:List bY}{x:Str}
theorem Ys        (q:TR K cls E ρ r σ H Q):TN K cls E ρ r σ H Q:=by
 obtain ⟨H0,Hs0,la,Hs,f,q⟩:=q;refine ⟨H0,Hs0,la,Hs,f,?_⟩;cases r with
 |ok d=>exact fun a o H' Hs' s n r=>q _ _ _ (s.trans (.new s.sub n)) (r.share (s.sub.free n))
 |ex x n=>exact q
 |no=>exact q
theorem JN.je (h:JN c e g):JE c e g:=.of fun ρ=>sv (h ρ) fun σ H Q q=>Ys q
theorem wB (h:Ge c es gs):JN c (.List es pos) (fj gs .list):=.of fun ρ=>sv (u7 (h ρ)) fun σ H Q h_0=>by
 obtain ⟨H0,Hs0,la,Hs,f,q⟩:=h_0;refine CU f q fun ds vs H1 Hs1 e1 s1 f1 r1=>?_;unfold fj at q;rw [e1,bind_ok] at q;by_cases hl:ds.length<=1000
 ·rw [if_pos hl] at q;exact ⟨cm (eI (by rw [r1.length];exact hl)),fun p hp=>q p _ H1 Hs1 s1 hp (.lst r1)⟩
 ·rw [if_neg hl] at q;exact q.elim
theorem IN:JN c (.Dict [] [] pos) (fun _=>.ok (.dict [])):=.of fun ρ=>sv ML fun σ H Q h_1=>by obtain ⟨H0,Hs0,la,Hs,f,q⟩:=h_1;exact fun p hp=>q p _ H Hs (.refl f.st.sub) hp (.dK .nil)
def gU (i:Nat) (g:aD->R D):aD->R Fl:=fun ρ=>(g ρ).bind fun d=>.ok (.nx (ρ.set i (.own d)))
theorem sN            (f:Fr K H0 Hs0 la ρ σ H Hs)
  (h:oO K cls E H0 Hs0 la D' (r.bind k)) (m:∀ d a o H' Hs',r=.ok d->Fr K H0 Hs0 la ρ σ H' Hs'->H' a=none->n8 K Hs' o d->Q (.ref a) (upd H' a o)):TN K cls E ρ r σ H Q:=by
 refine ⟨H0,Hs0,la,Hs,f,?_⟩;cases r with
 |ok d=>exact fun a o H' Hs' s n r=>m d a o H' Hs' rfl (f.step s) n r
 |ex c n=>exact fun H' Hs' s=>h H' Hs' (f.st.trans s)
 |no=>exact h
theorem kW (i:Nat) (h:JN c e g) (hN:c.X.N.Nodup) (hi:c.X.N[i]?=some x:=by rfl) (hx:S7 c.X.env.scope x:=by first|exact iz rfl|exact e_ rfl) (hs:iq e (some (.Name x pos')) pos.line c.X.env=pure false:=by rfl)
  (hf:c.X.fn x=true\/c.X.env.scope.names.lookup x=some .local:=by first|exact .inl rfl|exact .inr rfl|assumption):JS c (.Assign [.Name x pos'] e pos) (gU i g):=.of fun ρ=>As (GD hN hi hx (h ρ) hs hf) fun D σ H h_2=>by
 obtain ⟨H0,Hs0,la,Hs,f,q⟩:=h_2;refine sN f q fun d a o H1 Hs1 e1 f1 n1 r1=>?_;unfold gU at q;rw [e1,bind_ok] at q;exact q _ _ Hs1 (f1.setO i n1 r1)
def yZ {α:Type}:R α->R α
 |.ex _ _=>.no
 |r=>r
theorem IP {α:Type}{r:R α}{a:α} (h:yZ r=.ok a):r=.ok a:=by
 cases r<;>first|exact h|cases h
def hG (f:D->R (Option D)):List D->R (List D)
 |[]=>.ok []
 |d::r=>(f d).bind fun o=>(hG f r).bind fun ys=>.ok (match o with
  |some y=>y::ys
  |none=>ys)
theorem y_   (h:hG f (d::r)=.ok ys):∃ o zs,f d=.ok o/\hG f r=.ok zs/\ys=o.toList++zs:=by
 unfold hG at h;cases hf:f d with
 |ok o =>
  rw [hf,bind_ok] at h;cases hm:hG f r with
  |ok zs =>
   rw [hm,bind_ok] at h;cases h;cases o<;>exact ⟨_,zs,rfl,rfl,rfl⟩
  |ex x n=>rw [hm] at h;cases h
  |no=>rw [hm] at h;cases h
 |ex x n=>rw [hf] at h;cases h
 |no=>rw [hf] at h;cases h
def R7:Sl->Sl
 |.own d=>.lck d
 |.ow2 _=>.no
 |s=>s
def oP (nt:Nat) (ix:List Nat) (ρ:aD):aD:=tx nt Sl.no++ix.map fun i=>R7 ((ρ[i]?).getD .no)
def Wl (nt:Nat):D->aD->R aD:=match nt with
 | 1=>cb 0
 | 2=>oh 2 (da (cb 0) (da (cb 1) pK))
 |_=>fun _ _=>.no
def iE (nt:Nat) (ρ:aD) (gt:aD->R Bool) (ge:aD->R D):D->R (Option D):=fun d=>yZ ((Wl nt d ρ).bind fun ρ'=>(gt ρ').bind fun b=>if b then (ge ρ').bind fun y=>.ok (some y) else .ok none)
def dY (nt:Nat) (ix:List Nat) (gi:aD->R (List D)) (gt:aD->R Bool) (ge:aD->R D):aD->R D:=fun ρ=>(gi ρ).bind fun ds=>if ds.length<=1000 then (hG (iE nt (oP nt ix ρ) gt ge) ds).bind fun ys=>.ok (.list ys) else .no
structure Wm (c:C) (ifs:List bY) (g:aD->R Bool):Prop where of ::
 run:∀ ρ,PU c.X ifs (KI c.X.K c.cls c.E ρ (g ρ))
instance {c:C}{ifs:List bY}{g:aD->R Bool}:CoeFun (Wm c ifs g) (fun _=>∀ ρ,PU c.X ifs (KI c.X.K c.cls c.E ρ (g ρ))):=⟨Wm.run⟩
theorem fg:Wm c [] (fun _=>.ok true):=.of fun ρ pins s σ H Q I h_3=>by obtain ⟨H0,Hs0,la,Hs,f,q⟩:=h_3;exact QN pins s σ H Q I (q H Hs (.refl f.st.sub))
theorem k8 (h:JT c e gt):Wm c [e] gt:=.of fun ρ=>QO (h ρ)
def KQ (K:a8) (nt:Nat):TG:=match nt with
 | 1=>xk 0
 |_=>TX K 2 (L2.ae (xk 0) (L2.ae (xk 1) L2.aI))
theorem D3 {K:a8}{nt:Nat} (h:nt=1\/nt=2):Sw nt (KQ K nt):=by
 rcases h with rfl|rfl
 ·exact MN (by decide)
 ·exact QP (by decide) (by decide)
theorem EE {K:a8}{nt:Nat}{H0 Hs0 H Hs:Hp}{la:Nat->Option am}{ρ ρ':aD}{σ:St}{v:V}{d:D}{Q:St->Hp->Prop} (hnt:nt=1\/nt=2) (f:Fr K H0 Hs0 la ρ σ H Hs) (r:RD K Hs v d) (hb:Wl nt d ρ=.ok ρ')
  (q:∀ σ',Fr K H0 Hs0 la ρ' σ' H Hs->Q σ' H):KQ K nt v σ H Q:=by
 rcases hnt with rfl|rfl
 ·cases hb;exact q _ (f.set 0 r)
 ·unfold Wl oh at hb;simp only at hb;cases r with
  | @tuple p xs ds hq rs =>
   simp only at hb;split at hb
   ·rename_i hl
    cases rs with
    |nil=>cases hl
    |cons r1 rs =>
     cases rs with
     |nil=>cases hl
     |cons r2 rs =>
      cases rs with
      |nil =>
       cases hb;exact ⟨p,_,rfl,(lu.of (f.st.sub _ _ hq)),rfl,_,_,rfl,_,_,rfl,rfl,q _ ((f.set 0 r1).set 1 r2)⟩
      |cons _ _=>simp at hl
   ·cases hb
  |none=>cases hb
  |bool _=>cases hb
  |int _=>cases hb
  |str _=>cases hb
  |list _ _=>cases hb
  |dictK _ _=>cases hb
  |dictT _ _ _=>cases hb
  |dictF _ _ _=>cases hb
theorem Fr.block     (f:Fr K H0 Hs0 la ρ σ H Hs) (nt:Nat) (ix:List Nat):∃ la',Fr K H Hs la' (oP nt ix ρ) (L2.jS nt ix σ) H Hs:=by
 have lk:∀ (j:Nat) (d:D),(oP nt ix ρ)[j]?=some (Sl.lck d)->∃ a o,(L2.jS nt ix σ)[j]?=some (some (V.ref a))/\H a=some o/\Hs a=none/\n8 K Hs o d:=fun j d h=>by
  unfold oP at h;by_cases hj:j<nt
  ·rw [bO (by simpa using hj),cn,if_pos hj] at h;cases h
  ·have hj:nt<=j:=by omega
   rw [ba (by simpa using hj),c_,aU] at h;cases hi:ix[j-nt]? with
   |none=>rw [hi] at h;cases h
   |some i =>
    rw [hi] at h;have at_:∀ v,σ[i]?=some (some v)->(L2.jS nt ix σ)[j]?=some (some v):=fun v k1=>by
     unfold L2.jS;rw [ba (by simpa using hj),c_,aU,hi];simp [k1]
    cases hr:ρ[i]? with
    |none=>simp only [cR,hr,hX,R7] at h;cases h
    |some s =>
     simp only [cR,hr,kS] at h;cases s with
     |own d' =>
      cases h;obtain ⟨a,o,k1,k2,k3,k4,k5⟩:=f.ow i d hr;exact ⟨a,o,at_ _ k1,k2,k3,k5⟩
     |lck d' =>
      cases h;obtain ⟨a,o,k1,k2,k3,k4,k5,k6⟩:=f.lk i d hr;exact ⟨a,o,at_ _ k1,k3,k4,k6⟩
     |no=>cases h
     |shr _=>cases h
     |ow2 _=>cases h
 have no2:∀ (j:Nat) (d:List (List D)),¬ (oP nt ix ρ)[j]?=some (Sl.ow2 d):=fun j d h=>by
  unfold oP at h;by_cases hj:j<nt
  ·rw [bO (by simpa using hj),cn,if_pos hj] at h;cases h
  ·have hj:nt<=j:=by omega
   rw [ba (by simpa using hj),c_,aU] at h;cases hi:ix[j-nt]? with
   |none=>rw [hi] at h;cases h
   |some i =>
    rw [hi] at h;cases hr:ρ[i]? with
    |none=>simp only [cR,hr,hX,R7] at h;cases h
    |some s =>
     simp only [cR,hr,kS] at h;cases s<;>cases h
 refine ⟨fun j=>match (oP nt ix ρ)[j]?,(L2.jS nt ix σ)[j]? with
  |some (Sl.lck _),some (some (V.ref a))=>some a
  |_,_=>none,.refl f.st.sub,by simp [oP,L2.jS],fun j d h=>?_,fun j d h=>?_,fun j d h=>?_,fun j k d1 d2 a h1 h2 _ _=>?_,fun j a h=>?_,fun j d h=>(no2 j d h).elim,fun j k d1 d2 h1 _=>(no2 j d1 h1).elim⟩
 case refine_3 =>
  obtain ⟨a,o,k1,k2,k3,k4⟩:=lk j d h;exact ⟨a,o,k1,by rw [h,k1],k2,k3,k2,k4⟩
 case refine_5 =>
  split at h
  ·rename_i d a' h1 h2
   cases h;obtain ⟨a',o,k1,k2,_⟩:=lk j d h1;rw [h2] at k1;cases k1;exact ⟨o,k2⟩
  ·cases h
 all_goals
  unfold oP at *
 ·have h:=h;by_cases hj:j<nt
  ·rw [bO (by simpa using hj),cn,if_pos hj] at h;cases h
  ·have hj:nt<=j:=by omega
   rw [ba (by simpa using hj),c_,aU] at h;cases hi:ix[j-nt]? with
   |none=>rw [hi] at h;cases h
   |some i =>
    rw [hi] at h;cases hr:ρ[i]? with
    |none=>simp only [cR,hr,hX,R7] at h;cases h
    |some s =>
     simp only [cR,hr,kS] at h;cases s with
     |shr d' =>
      cases h;obtain ⟨v,k1,k2⟩:=f.sh i d hr;refine ⟨v,?_,k2⟩;unfold L2.jS;rw [ba (by simpa using hj),c_,aU,hi];simp [k1]
     |no=>cases h
     |own _=>cases h
     |lck _=>cases h
     |ow2 _=>cases h
 ·have h:=h;by_cases hj:j<nt
  ·rw [bO (by simpa using hj),cn,if_pos hj] at h;cases h
  ·have hj:nt<=j:=by omega
   rw [ba (by simpa using hj),c_,aU] at h;cases hi:ix[j-nt]? with
   |none=>rw [hi] at h;cases h
   |some i =>
    rw [hi] at h;cases hr:ρ[i]? with
    |none=>simp only [cR,hr,hX,R7] at h;cases h
    |some s =>
     simp only [cR,hr,kS] at h;cases s<;>cases h
 ·have h1:=h1;by_cases hj:j<nt
  ·rw [bO (by simpa using hj),cn,if_pos hj] at h1;cases h1
  ·have hj:nt<=j:=by omega
   rw [ba (by simpa using hj),c_,aU] at h1;cases hi:ix[j-nt]? with
   |none=>rw [hi] at h1;cases h1
   |some i =>
    rw [hi] at h1;cases hr:ρ[i]? with
    |none=>simp only [cR,hr,hX,R7] at h1;cases h1
    |some s =>
     simp only [cR,hr,kS] at h1;cases s<;>cases h1
theorem z0 (h:∀ d c n,f d≠.ex c n):∀ (ds:List D) (c:Str) (n:Option D),hG f ds≠.ex c n
 |[],c,n=>fun e=>by cases e
 |d::r,c,n=>fun e=>by
  unfold hG at e;cases hf:f d with
  |ok o =>
   rw [hf,bind_ok] at e;cases hm:hG f r with
   |ok zs=>rw [hm,bind_ok] at e;cases e
   |ex x k=>exact z0 h r x k hm
   |no=>rw [hm] at e;cases e
  |ex x k=>exact h d x k hf
  |no=>rw [hf] at e;cases e
theorem EF (nt:Nat) (ρ:aD) (gt:aD->R Bool) (ge:aD->R D) (d:D) (c:Str) (n:Option D):iE nt ρ gt ge d≠.ex c n:=by
 unfold iE yZ;split<;>first|exact fun e=>by cases e|skip
 rename_i h
 exact fun e=>h c n e
inductive Z5 (K:a8) (f:D->R (Option D)) (ds ys:List D) (H1 Hs1:Hp) (i m:Nat) (acc:List V) (H':Hp):Prop
 |mk (done cp zs ya Hs':_) (h0:ds=done++cp) (h1:done.length=i) (h2:cp.length=m) (h3:cP H1 Hs1 H' Hs') (h4:RDs K Hs' acc ya) (h5:ya.length<=i) (h6:hG f cp=.ok zs) (h7:ys=ya++zs):Z5 K f ds ys H1 Hs1 i m acc H'
theorem IQ {K:a8}{cls:Str->am}{E:XK}{nt:Nat}{ix:List Nat}{gi:aD->R (List D)}{gt:aD->R Bool}{ge:aD->R D}{ρ:aD}{σ:St}{H:Hp}{Q:VK} (hnt:nt=1\/nt=2)
  (q:TN K cls E ρ (dY nt ix gi gt ge ρ) σ H Q) :
  MM nt ix (Xy K cls E ρ (gi ρ)) (KQ K nt) (fun σ H Q=>∃ ρ',KI K cls E0 ρ' (gt ρ') σ H Q) (fun σ H Q=>∃ ρ',TR K cls E0 ρ' (ge ρ') σ H Q) σ H Q:=by
 obtain ⟨H0,Hs0,la,Hs,f,q⟩:=q;refine ⟨H0,Hs0,la,Hs,f,?_⟩;unfold dY at q;cases hi:gi ρ with
 |no=>rw [hi] at q;exact q
 |ex x n=>rw [hi] at q;exact q
 |ok ds =>
  rw [hi,bind_ok] at q;intro J H1 Hs1 Hn s1 sn it;by_cases hl:ds.length<=1000
  ·rw [if_pos hl] at q;cases hm:hG (iE nt (oP nt ix ρ) gt ge) ds with
   |no=>rw [hm] at q;exact q.elim
   |ex x n=>exact (z0 (EF _ _ _ _) _ _ _ hm).elim
   |ok ys =>
    rw [hm,bind_ok] at q;obtain ⟨lb,fb⟩:=(f.step s1).block nt ix;refine ⟨Z5 K (iE nt (oP nt ix ρ) gt ge) ds ys H1 Hs1,
     ⟨ds.length,[],ds,ys,[],Hs1,rfl,rfl,rfl,.refl s1.sub,.nil,cJ _,hm,rfl⟩,?_⟩
    rintro i m acc H' ⟨done,cp,zs,ya,Hs',hds,hdl,hrl,st,ra,yl,hz,hy⟩;obtain ⟨igo,istop,iyld⟩:=it H' Hs' (sn.trans st.all) st.sh st.sub;cases cp with
    |nil =>
     left;cases hz;rw [cS] at hds hy;subst hy hds;exact ⟨istop i (by omega),fun p hp=>q p _ H' Hs' (s1.trans st) hp (.lst ra)⟩
    |cons d cp =>
     right;have hil:i<ds.length:=by rw [hds,aR,aP];omega
     refine ⟨igo i hil,eI (by rw [ra.length];omega),fun x H2 hyl=>?_⟩;obtain ⟨d',Hs2,hd,s2,r2⟩:=iyld i x H2 hil hyl;have hdd:d'=d:=by
      rw [hds,ba (by omega)] at hd;simp [hdl] at hd;exact hd.symm
     subst hdd;obtain ⟨o,zs',hf,hz',rfl⟩:=y_ hz;have hf:=IP hf;cases hb:Wl nt d' (oP nt ix ρ) with
     |no=>rw [hb] at hf;cases hf
     |ex x n=>rw [hb] at hf;cases hf
     |ok ρ' =>
      rw [hb,bind_ok] at hf;refine EE hnt ((fb.step st).step s2) r2 hb fun σ2 f2=>⟨ρ',?_⟩;refine ⟨_,_,_,Hs2,f2,?_⟩;cases ht:gt ρ' with
      |no=>rw [ht] at hf;cases hf
      |ex x n=>rw [ht] at hf;cases hf
      |ok b =>
       rw [ht,bind_ok] at hf;intro H3 Hs3 s3;cases b with
       |false =>
        rw [if_neg bf] at hf;cases hf;refine AK ⟨cp.length,by rw [<- hrl];simp,done++[d'],cp,zs',ya,Hs3,by rw [hds];simp,by simp [hdl],rfl,(st.trans s2).trans s3,ra.same (s2.trans s3).sh,by omega,hz',by simpa using hy⟩
       |true =>
        rw [if_pos rfl] at hf;refine AL ⟨ρ',_,_,_,Hs3,f2.step s3,?_⟩;cases he:ge ρ' with
        |no=>rw [he] at hf;cases hf
        |ex x n=>rw [he] at hf;cases hf
        |ok y =>
         rw [he,bind_ok] at hf;cases hf;intro v H4 Hs4 s4 r4;exact ⟨cp.length,by rw [<- hrl];simp,done++[d'],cp,zs',ya++[y],Hs4,by rw [hds];simp,by simp [hdl],rfl,((st.trans s2).trans s3).trans s4,(ra.same ((s2.trans s3).trans s4).sh).append (.cons r4 .nil),by simp;omega,hz',by rw [hy];simp⟩
  ·rw [if_neg hl] at q;exact q.elim
def C.comp (c:C) (N':List Str) (scope:ij) (cl:List (Str×am)) (A:am) (s₀:al) (H₀:Hp) (ex:List am) (pn:List (am×Obj)):C:=⟨cW c.X N' scope cl A s₀ H₀ ex pn,c.cls,E0⟩
variable {elt iter:bY}{ifs:List bY}{scope:ij}{N':List Str}{nt:Nat}{ix:List Nat}{gi:aD->R (List D)}{gt:aD->R Bool}{ge:aD->R D}
def vm (c:C) (N':List Str) (scope:ij) (nt:Nat) (tg:bY) (ifs:List bY) (elt:bY) (gt:aD->R Bool) (ge:aD->R D):Prop :=
 ∀ cl A s₀ H₀ ex pn,PG (c.comp N' scope cl A s₀ H₀ ex pn).X tg (KQ c.X.K nt)/\Wm (c.comp N' scope cl A s₀ H₀ ex pn) ifs gt/\JE (c.comp N' scope cl A s₀ H₀ ex pn) elt ge
theorem vm.at (h:vm c N' scope nt tg ifs elt gt ge):∀ cl A s₀ H₀ ex pn,PG (cW c.X N' scope cl A s₀ H₀ ex pn) tg (KQ c.X.K nt)/\PU (cW c.X N' scope cl A s₀ H₀ ex pn) ifs (fun σ H Q=>∃ ρ',KI c.X.K c.cls E0 ρ' (gt ρ') σ H Q) /\
  PE (cW c.X N' scope cl A s₀ H₀ ex pn) elt (fun σ H Q=>∃ ρ',TR c.X.K c.cls E0 ρ' (ge ρ') σ H Q):=fun cl A s₀ H₀ ex pn=>by
 obtain ⟨h1,h2,h3⟩:=h cl A s₀ H₀ ex pn;exact ⟨h1,fun pins s σ H Q I h_4=>by obtain ⟨ρ',q⟩:=h_4;exact h2 ρ' pins s σ H Q I q,fun pins s σ H Q I h_5=>by obtain ⟨ρ',q⟩:=h_5;exact h3 ρ' pins s σ H Q I q⟩
theorem d_ (nt:Nat) (hnt:nt=1\/nt=2) (hc:c.X.calm=true) (S:n_ c.X scope N' nt ix) (hi:JI c tg iter gi) (hb:vm c N' scope nt tg ifs elt gt ge) (hs:∀ x,eF iter c.X.env x=pure x:=by intro _;rfl) :
  JN c (.ListComp elt [⟨tg,iter,ifs,0⟩] scope pos) (dY nt ix gi gt ge):=.of fun ρ=>sv (Ej hc S (D3 hnt) (hi ρ) hb.at hs) fun σ H Q q=>IQ hnt q
theorem jy (i:Nat) {spos py:Pos} (nt:Nat) (hnt:nt=1\/nt=2) (hN:c.X.N.Nodup) (hc:c.X.calm=true) (S:n_ c.X scope N' nt ix) (hi:JI c tg iter gi) (hb:vm c N' scope nt tg ifs elt gt ge)
  (hiN:c.X.N[i]?=some x:=by rfl) (hy:c.X.env.scope.names.lookup x=some .local:=by rfl)
  (hsw:iq (.ListComp elt [⟨tg,iter,ifs,0⟩] scope pos) (some (.Name x py)) spos.line c.X.env=pure true:=by rfl)
  (hs:∀ x,eF iter c.X.env x=pure x:=by intro _;rfl):JS c (.Assign [.Name x py] (.ListComp elt [⟨tg,iter,ifs,0⟩] scope pos) spos) (gU i (dY nt ix gi gt ge)):=.of fun ρ=>As (GN hN hiN hy hc S (D3 hnt) (hi ρ) hb.at hsw hs) fun D σ H h_6=>by
 obtain ⟨H0,Hs0,la,Hs,f,q⟩:=h_6;refine IQ (Q:=fun x H1=>D.nx (σ.set i (some x)) H1) hnt (sN f q fun d a o H1 Hs1 e1 f1 n1 r1=>?_);unfold gU at q;rw [e1,bind_ok] at q;exact q _ _ Hs1 (f1.setO i n1 r1)
end
end
section
theorem Nq   (h:PS X.nox st t):PS X st t:=fun pins s σ H D I hw =>
 bA (h pins s σ H D (I.wish _) hw) (fun _ _ q=>q.unwish) fun _ _ z=>iY z
def C.nox (c:C):C:=⟨c.X.nox,c.cls,E0⟩
def jo (k:D->aD->R aD) (b:aD->R Fl):List D->aD->R Fl
 |[],ρ=>.ok (.nx ρ)
 |d::r,ρ=>match k d ρ with
  |.ok ρ1=>match b ρ1 with
   |.ok (.nx ρ')=>jo k b r ρ'
   |.ok (.ct ρ')=>jo k b r ρ'
   |.ok (.bk ρ')=>.ok (.nx ρ')
   |.ok (.rt d)=>.ok (.rt d)
   |_=>.no
  |_=>.no
def D4 (i:Nat) (ρ:aD):aD:=match ρ[i]? with
 |some (Sl.own d)=>ρ.set i (.lck d)
 |_=>ρ
def zc (i:Nat) (ρ0 ρ:aD):aD:=match ρ0[i]?,ρ[i]? with
 |some (Sl.own _),some (Sl.lck d)=>ρ.set i (.own d)
 |_,_=>ρ
def Z6 (i:Nat) (ρ0:aD):R Fl->R Fl
 |.ok (.nx ρ)=>.ok (.nx (zc i ρ0 ρ))
 |.ok (.bk ρ)=>.no
 |.ok (.ct ρ)=>.no
 |r=>r
section
inductive Z7 (K:a8) (cls:Str->am) (E:XK) (H0 Hs0:Hp) (la:Nat->Option am) (D':E5) (kt:D->aD->R aD) (gb:aD->R Fl) (ds:List D) (i m:Nat) (σ:St) (H:Hp):Prop
 |mk (done cp ρ Hs:_) (h0:ds=done++cp) (h1:done.length=i) (h2:cp.length=m) (h3:Fr K H0 Hs0 la ρ σ H Hs) (h4:oO K cls E H0 Hs0 la D' (jo kt gb cp ρ)):Z7 K cls E H0 Hs0 la D' kt gb ds i m σ H
theorem Nr
  (it:PY K J ds Hn Hs0) (hn:dD Hn H0) (f:Fr K H0 Hs0 la ρ σ H Hs)
  (htg:∀ ρ d v σ H Q,Uw K ρ d (kt d ρ) v σ H Q->tg v σ H Q) (htb:∀ ρ D σ H,SR K cls E0 ρ (gb ρ) D σ H->tb D σ H)
  (q:oO K cls E H0 Hs0 la D' (jo kt gb ds ρ)) :
  XX tg tb D' σ J H:=by
 refine ⟨Z7 K cls E H0 Hs0 la D' kt gb ds,⟨ds.length,[],ds,ρ,Hs,rfl,rfl,rfl,f,q⟩,?_⟩;rintro i m σ H ⟨done,cp,ρ,Hs,hds,hdl,hrl,f,q⟩;obtain ⟨igo,istop,iyld⟩:=it H Hs (hn.trans f.st.all) f.st.sh f.st.sub;cases cp with
 |nil =>
  rw [cS] at hds;subst hds;exact .inl ⟨istop i (by omega),q σ H Hs f⟩
 |cons d cp =>
  have hil:i<ds.length:=by rw [hds,aR,aP];omega
  refine .inr ⟨igo i hil,fun σ' H'=>∃ ρ' Hs',Fr K H0 Hs0 la ρ' σ' H' Hs'/\oO K cls E H0 Hs0 la D' (jo kt gb cp ρ'),fun σ' H' ⟨ρ',Hs',f',q'⟩=>⟨cp.length,by rw [<- hrl];simp,done++[d],cp,ρ',Hs',by rw [hds];simp,by simp [hdl],rfl,f',q'⟩,fun x H2 hyl=>?_⟩;obtain ⟨d',Hs2,hd,s2,r2⟩:=iyld i x H2 hil hyl;have hdd:d'=d:=by
   rw [hds,ba (by omega)] at hd;simp [hdl] at hd;exact hd.symm
  subst hdd;unfold jo at q;refine htg ρ d' x σ H2 _ ⟨H0,Hs0,la,Hs2,f.step s2,r2,?_⟩;cases hk:kt d' ρ with
  |ex c n=>rw [hk] at q;exact q
  |no=>rw [hk] at q;exact q
  |ok ρ1 =>
   rw [hk] at q;intro σ2 f2;refine htb ρ1 _ σ2 H2 ⟨H0,Hs0,la,Hs2,f2,?_⟩;cases hg:gb ρ1 with
   |no=>simp only [hg] at q;exact q.elim
   |ex c n=>simp only [hg] at q;exact q.elim
   |ok fl =>
    simp only [hg] at q;cases fl with
    |nx ρ'=>exact fun σ' H' Hs' f'=>⟨ρ',Hs',f',q⟩
    |ct ρ'=>exact fun σ' H' Hs' f'=>⟨ρ',Hs',f',q⟩
    |bk ρ'=>exact fun σ' H' Hs' f'=>q σ' H' Hs' f'
    |rt d=>exact q
def tm (A B:Hp):Hp:=fun b=>match A b with
 |some o=>some o
 |none=>B b
theorem k9:dD A (tm A B):=fun b o e=>by unfold tm;rw [e]
theorem jH  (h:A b=none):tm A B b=B b:=by unfold tm;rw [h]
theorem EG (h1:dD A H) (h2:dD B H):dD (tm A B) H:=fun b o e=>by
 cases h:A b with
 |some u=>unfold tm at e;rw [h] at e;cases e;exact h1 b o h
 |none=>rw [jH h] at e;exact h2 b o e
theorem Nt (h1:dD A H) (h2:dD B H):dD B (tm A B):=fun b o e=>by
 cases h:A b with
 |some u =>
  unfold tm;rw [h];have:=h1 b u h;rw [h2 b o e] at this;exact this.symm
 |none=>rw [jH h];exact e
theorem Fr.into    (f:Fr K H0 Hs0 la ρ σ H Hs):Fr K (tm H0 Hs) Hs la ρ σ H Hs:=by
 have sub:=EG f.st.all f.st.sub;refine ⟨⟨sub,.refl _,f.st.sub,fun a o e _ z=>z⟩,f.len,f.sh,fun i d h=>?_,fun i d h=>?_,f.dj,fun i a e=>let ⟨o,k⟩:=f.lh i a e;⟨o,k9 _ _ k⟩,fun i d h=>?_,f.u2⟩
 ·obtain ⟨a,o,h1,h2,h3,h4,h5⟩:=f.ow i d h;exact ⟨a,o,h1,h2,h3,by rw [jH h4];exact h3,h5⟩
 ·obtain ⟨a,o,h1,h2,h3,h4,h5,h6⟩:=f.lk i d h;exact ⟨a,o,h1,h2,h3,h4,k9 _ _ h5,h6⟩
 ·obtain ⟨a,as,O⟩:=f.o2 i d h;exact ⟨a,as,O.at_,O.ob,O.nd,fun b hb=>⟨(O.out b hb).1,by rw [jH (O.out b hb).2];exact (O.out b hb).1⟩,O.dj,O.inn⟩
theorem cP.outof (s:cP H0 Hs0 H1 Hs1) (t:cP (tm H0 Hs1) Hs1 H' Hs'):cP H0 Hs0 H' Hs' :=
 ⟨k9.trans t.all,s.sh.trans t.sh,t.sub,fun a o e n z=>t.out a o (k9 _ _ e) n (s.out a o e n z)⟩
theorem Fr.outof    (f1:Fr K H0 Hs0 la ρ1 σ1 H1 Hs1) (f:Fr K (tm H0 Hs1) Hs1 la ρ σ H' Hs'):Fr K H0 Hs0 la ρ σ H' Hs':=by
 refine ⟨f1.st.outof f.st,f.len,f.sh,fun i d h=>?_,fun i d h=>?_,f.dj,f1.lh,fun i d h=>?_,f.u2⟩
 ·obtain ⟨a,o,h1,h2,h3,h4,h5⟩:=f.ow i d h;exact ⟨a,o,h1,h2,h3,k9.free h4,h5⟩
 ·obtain ⟨a,o,h1,h2,h3,h4,h5,h6⟩:=f.lk i d h;obtain ⟨o',e⟩:=f1.lh i a h2;have e':=k9 (B:=Hs1) _ _ e;rw [h5] at e';cases e';exact ⟨a,o,h1,h2,h3,h4,e,h6⟩
 ·obtain ⟨a,as,O⟩:=f.o2 i d h;exact ⟨a,as,O.at_,O.ob,O.nd,fun b hb=>⟨(O.out b hb).1,k9.free (O.out b hb).2⟩,O.dj,O.inn⟩
end
end
section
section
theorem oO.into      (f1:Fr K H0 Hs0 la ρ1 σ1 H1 Hs1) (q:oO K cls E H0 Hs0 la D' r):oO K cls E (tm H0 Hs1) Hs1 la D' r:=by
 cases r with
 |no=>exact q
 |ex c n=>exact fun H' Hs' s=>q H' Hs' (f1.st.outof s)
 |ok fl =>
  cases fl with
  |nx ρ=>exact fun σ' H' Hs' f=>q σ' H' Hs' (f1.outof f)
  |bk ρ=>exact fun σ' H' Hs' f=>q σ' H' Hs' (f1.outof f)
  |ct ρ=>exact fun σ' H' Hs' f=>q σ' H' Hs' (f1.outof f)
  |rt d=>exact fun v H' Hs' s r=>q v H' Hs' (f1.st.outof s) r
theorem Fr.lock    (f:Fr K H0 Hs0 la ρ σ H Hs)    (hi:ρ[i]?=some (Sl.own d)) (k1:σ[i]?=some (some (V.ref a))) (k2:H a=some o) (k3:Hs a=none) (k4:H0 a=none) (k5:n8 K Hs o d) :
  Fr K (tm H0 (upd Hs a o)) Hs (fun j=>if j=i then some a else la j) (ρ.set i (.lck d)) σ H Hs:=by
 have hil:i<ρ.length:=(List.getElem?_eq_some_iff.mp hi).1;have sub:dD (upd Hs a o) H:=fun b u q=>by
  by_cases hb:b=a
  ·subst hb;rw [b9] at q;cases q;exact k2
  ·rw [bd hb] at q;exact f.st.sub b u q
 have nx:∀ {j:Nat}{s:Sl},(∀ d,s≠.lck d)->(ρ.set i (.lck d))[j]?=some s->ρ[j]?=some s/\i≠j:=fun {j s} hs e=>by
  by_cases hj:i=j
  ·subst hj;rw [aG hil] at e;exact absurd (bQ e).symm (hs d)
  ·rw [aj hj] at e;exact ⟨e,hj⟩
 refine ⟨⟨EG f.st.all sub,.refl _,f.st.sub,fun a o e _ z=>z⟩,by simp [f.len],fun j e h=>?_,fun j e h=>?_,fun j e h=>?_,fun j k d1 d2 b h1 h2 h3 h4=>?_,fun j b h=>?_,fun j e h=>?_,fun j k d1 d2 h1 h2=>?_⟩
 ·obtain ⟨h,_⟩:=nx (fun _ z=>by cases z) h;exact f.sh j e h
 ·obtain ⟨h,hj⟩:=nx (fun _ z=>by cases z) h;obtain ⟨b,u,q1,q2,q3,q4,q5⟩:=f.ow j e h;refine ⟨b,u,q1,q2,q3,?_,q5⟩;rw [jH q4,bd (fun z=>hj ?_)]
  ·exact q3
  ·subst z;exact f.dj i j d e b hi h k1 q1
 ·by_cases hj:i=j
  ·subst hj;rw [aG hil] at h;cases h;exact ⟨a,o,k1,if_pos rfl,k2,k3,by rw [jH k4,b9],k5⟩
  ·rw [aj hj] at h;obtain ⟨b,u,q1,q2,q3,q4,q5,q6⟩:=f.lk j e h;exact ⟨b,u,q1,by rw [if_neg (cY hj)];exact q2,q3,q4,k9 _ _ q5,q6⟩
 ·obtain ⟨h1,_⟩:=nx (fun _ z=>by cases z) h1;obtain ⟨h2,_⟩:=nx (fun _ z=>by cases z) h2;exact f.dj j k d1 d2 b h1 h2 h3 h4
 ·by_cases hj:j=i
  ·simp only [if_pos hj] at h;cases h;exact ⟨o,by rw [jH k4,b9]⟩
  ·simp only [if_neg hj] at h;obtain ⟨u,e⟩:=f.lh j b h;exact ⟨u,k9 _ _ e⟩
 ·obtain ⟨h,hj⟩:=nx (fun _ z=>by cases z) h;obtain ⟨b,as,O⟩:=f.o2 j e h;refine ⟨b,as,O.at_,O.ob,O.nd,fun c hc=>⟨(O.out c hc).1,?_⟩,fun c hc k e' hk=>O.dj c hc k e' (nx (fun _ z=>by cases z) hk).1,O.inn⟩;rw [jH (O.out c hc).2,bd (fun z=>?_)]
  ·exact (O.out c hc).1
  ·subst z;exact O.dj c hc i d hi k1
 ·exact f.u2 j k d1 d2 (nx (fun _ z=>by cases z) h1).1 (nx (fun _ z=>by cases z) h2).1
theorem cP.unlock   (s:cP H0 Hs0 H Hs) (t:cP (tm H0 (upd Hs a o)) Hs H' Hs'):cP H0 Hs0 H' Hs' :=
 ⟨k9.trans t.all,s.sh.trans t.sh,t.sub,fun b u e n z=>t.out b u (k9 _ _ e) n (s.out b u e n z)⟩
theorem Fr.unlock    (f:Fr K H0 Hs0 la ρ σ H Hs)    (hi:ρ[i]?=some (Sl.own d)) (k4:H0 a=none)
  (f':Fr K (tm H0 (upd Hs a o)) Hs (fun j=>if j=i then some a else la j) ρ' σ' H' Hs'):Fr K H0 Hs0 la (zc i ρ ρ') σ' H' Hs':=by
 have st:=f.st.unlock f'.st;have own:∀ (j:Nat) (e:D),ρ'[j]?=some (Sl.own e)->∃ b u,σ'[j]?=some (some (V.ref b))/\H' b=some u/\Hs' b=none/\H0 b=none/\n8 K Hs' u e/\(tm H0 (upd Hs a o)) b=none:=fun j e h=>by
  obtain ⟨b,u,q1,q2,q3,q4,q5⟩:=f'.ow j e h;exact ⟨b,u,q1,q2,q3,k9.free q4,q5,q4⟩
 have lck:∀ (j:Nat) (e:D),j≠i->ρ'[j]?=some (Sl.lck e)->∃ b u,σ'[j]?=some (some (V.ref b))/\la j=some b/\H' b=some u/\Hs' b=none/\H0 b=some u/\n8 K Hs' u e:=fun j e hj h=>by
  obtain ⟨b,u,q1,q2,q3,q4,q5,q6⟩:=f'.lk j e h;simp only [if_neg hj] at q2;obtain ⟨u',e'⟩:=f.lh j b q2;have:=k9 (B:=upd Hs a o) _ _ e';rw [q5] at this;cases this;exact ⟨b,u,q1,q2,q3,q4,e',q6⟩
 have two:∀ (j:Nat) (e:List (List D)),ρ'[j]?=some (Sl.ow2 e)->∃ b as,O2 K H0 H' Hs' ρ' σ' j e b as:=fun j e h=>by
  obtain ⟨b,as,O⟩:=f'.o2 j e h;exact ⟨b,as,O.at_,O.ob,O.nd,fun c hc=>⟨(O.out c hc).1,k9.free (O.out c hc).2⟩,O.dj,O.inn⟩
 unfold zc;cases hl:ρ'[i]? with
 |none =>
  simp only [hi];refine ⟨st,f'.len,f'.sh,fun j e h=>let ⟨b,u,q1,q2,q3,q4,q5,_⟩:=own j e h;⟨b,u,q1,q2,q3,q4,q5⟩,fun j e h=>lck j e (fun z=>by rw [z,hl] at h;cases h) h,f'.dj,f.lh,two,f'.u2⟩
 |some s =>
  cases s with
  |no=>simp only [hi];exact ⟨st,f'.len,f'.sh,fun j e h=>let ⟨b,u,q1,q2,q3,q4,q5,_⟩:=own j e h;⟨b,u,q1,q2,q3,q4,q5⟩,fun j e h=>lck j e (fun z=>by rw [z,hl] at h;cases h) h,f'.dj,f.lh,two,f'.u2⟩
  |shr _=>simp only [hi];exact ⟨st,f'.len,f'.sh,fun j e h=>let ⟨b,u,q1,q2,q3,q4,q5,_⟩:=own j e h;⟨b,u,q1,q2,q3,q4,q5⟩,fun j e h=>lck j e (fun z=>by rw [z,hl] at h;cases h) h,f'.dj,f.lh,two,f'.u2⟩
  |own _=>simp only [hi];exact ⟨st,f'.len,f'.sh,fun j e h=>let ⟨b,u,q1,q2,q3,q4,q5,_⟩:=own j e h;⟨b,u,q1,q2,q3,q4,q5⟩,fun j e h=>lck j e (fun z=>by rw [z,hl] at h;cases h) h,f'.dj,f.lh,two,f'.u2⟩
  |ow2 _=>simp only [hi];exact ⟨st,f'.len,f'.sh,fun j e h=>let ⟨b,u,q1,q2,q3,q4,q5,_⟩:=own j e h;⟨b,u,q1,q2,q3,q4,q5⟩,fun j e h=>lck j e (fun z=>by rw [z,hl] at h;cases h) h,f'.dj,f.lh,two,f'.u2⟩
  |lck d' =>
   simp only [hi];have hil:i<ρ'.length:=(List.getElem?_eq_some_iff.mp hl).1;have nx:∀ {j:Nat}{s:Sl},(∀ d,s≠.own d)->(ρ'.set i (.own d'))[j]?=some s->ρ'[j]?=some s/\i≠j:=fun {j s} hs e=>by
    by_cases hj:i=j
    ·subst hj;rw [aG hil] at e;exact absurd (bQ e).symm (hs d')
    ·rw [aj hj] at e;exact ⟨e,hj⟩
   obtain ⟨b,u,q1,q2,q3,q4,q5,q6⟩:=f'.lk i d' hl;simp only [if_pos rfl] at q2;cases q2;have ne:∀ (j:Nat) (e:D),ρ'[j]?=some (Sl.own e)->σ'[j]?≠some (some (V.ref a)):=fun j e h z=>by
    obtain ⟨b,u,p1,_,_,_,_,p6⟩:=own j e h;rw [z] at p1;cases p1;rw [q5] at p6;cases p6
   refine ⟨st,by simp [f'.len],fun j e h=>?_,fun j e h=>?_,fun j e h=>?_,fun j k d1 d2 c h1 h2 h3 h4=>?_,f.lh,fun j e h=>?_,fun j k d1 d2 h1 h2=>?_⟩
   ·obtain ⟨h,_⟩:=nx (fun _ z=>by cases z) h;exact f'.sh j e h
   ·by_cases hj:i=j
    ·subst hj;rw [aG hil] at h;cases h;exact ⟨a,u,q1,q3,q4,k4,q6⟩
    ·rw [aj hj] at h;obtain ⟨b,u,p1,p2,p3,p4,p5,_⟩:=own j e h;exact ⟨b,u,p1,p2,p3,p4,p5⟩
   ·obtain ⟨h,hj⟩:=nx (fun _ z=>by cases z) h;exact lck j e (cY hj) h
   ·by_cases hj:i=j
    ·by_cases hk:i=k
     ·exact hj.symm.trans hk
     ·rw [aj hk] at h2;subst hj;rw [q1] at h3;cases h3;exact (ne k d2 h2 h4).elim
    ·rw [aj hj] at h1;by_cases hk:i=k
     ·subst hk;rw [q1] at h4;cases h4;exact (ne j d1 h1 h3).elim
     ·rw [aj hk] at h2;exact f'.dj j k d1 d2 c h1 h2 h3 h4
   ·obtain ⟨h,hj⟩:=nx (fun _ z=>by cases z) h;obtain ⟨b,as,O⟩:=two j e h;refine ⟨b,as,O.at_,O.ob,O.nd,O.out,fun c hc k e' hk=>?_,O.inn⟩;by_cases nk:i=k
    ·subst nk;intro z;rw [q1] at z;cases z;obtain ⟨b',as',O'⟩:=f'.o2 j e h;have hh:=O.at_;rw [O'.at_] at hh;cases hh;have hs:as'=as:=by
      have h1:=O.ob;rw [O'.ob] at h1;injection h1 with h1;injection h1 with h1;exact LU (fun x y z=>by cases z;rfl) |>.mp h1
     subst hs;have:=(O'.out _ hc).2;rw [q5] at this;cases this
    ·rw [aj nk] at hk;exact O.dj c hc k e' hk
   ·exact f'.u2 j k d1 d2 (nx (fun _ z=>by cases z) h1).1 (nx (fun _ z=>by cases z) h2).1
end
section
def rF (gi:aD->R (List D)) (kt:D->aD->R aD) (gb:aD->R Fl):aD->R Fl:=fun ρ=>match gi ρ with
 |.ok ds=>jo kt gb ds ρ
 |_=>.no
theorem pM (hc:c.X.calm=true) (hi:Np c.nox tg iter gi) (hg:JG c.nox tg kt) (hb:IM c.nox body gbd) (hs:∀ x,eF iter c.X.env x=pure x:=by intro _;rfl):JS c (.For tg iter body [] pos) (rF gi kt gbd):=.of fun ρ=>by
 refine Nq (As (Mu wk hc (hi ρ) (g:=fun v σ H Q=>∃ ρ d,Uw c.X.K ρ d (kt d ρ) v σ H Q) (tb:=fun D σ H=>∃ ρ,SR c.X.K c.cls E0 ρ (gbd ρ) D σ H) ?_ ?_ hs) fun D σ H ⟨H0,Hs0,la,Hs,f,q⟩=>?_)
 ·exact fun pins s σ H v u Q I r h_0=>by obtain ⟨ρ,d,q⟩:=h_0;exact hg ρ d pins s σ H v u Q I r q
 ·exact fun pins s σ H D I h_1=>by obtain ⟨ρ,q⟩:=h_1;exact hb ρ pins s σ H D I q
 ·refine ⟨H0,Hs0,la,Hs,f,?_⟩;unfold rF at q;cases hr:gi ρ with
  |no=>rw [hr] at q;exact q
  |ex x n=>rw [hr] at q;exact q.elim
  |ok ds =>
   rw [hr] at q;intro J H1 Hs1 s1 it;have f1:=f.step s1;exact Nr (E:=c.E) (cls:=c.cls) (kt:=kt) (gb:=gbd) (tg:=fun v σ H Q=>∃ ρ d,Uw c.X.K ρ d (kt d ρ) v σ H Q) (tb:=fun D σ H=>∃ ρ,SR c.X.K c.cls E0 ρ (gbd ρ) D σ H) it (Nt f1.st.all f1.st.sub) f1.into (fun ρ d v σ H Q h=>⟨ρ,d,h⟩) (fun ρ D σ H h=>⟨ρ,h⟩) (oO.into f1 q)
def tO (i:Nat) (kt:D->aD->R aD) (gb:aD->R Fl):aD->R Fl:=fun ρ=>match ρ[i]? with
 |some (Sl.own (.list ds))=>Z6 i ρ (jo kt gb ds (D4 i ρ))
 |_=>rF (k7 fun ρ=>Gf ρ i) kt gb ρ
theorem zd {kt:D->aD->R aD}{gb:aD->R Fl}:∀ (ds:List D) (ρ:aD) (fl:Fl),jo kt gb ds ρ=.ok fl->(∃ ρ',fl=.nx ρ')\/∃ d,fl=.rt d
 |[],ρ,fl,h=>by cases h;exact .inl ⟨_,rfl⟩
 |d::r,ρ,fl,h=>by
  unfold jo at h;split at h
  ·split at h
   ·exact zd r _ _ h
   ·exact zd r _ _ h
   ·cases h;exact .inl ⟨_,rfl⟩
   ·cases h;exact .inr ⟨_,rfl⟩
   ·cases h
  ·cases h
theorem D5 {kt:D->aD->R aD}{gb:aD->R Fl}:∀ (ds:List D) (ρ:aD) (c:Str) (n:Option D),jo kt gb ds ρ≠.ex c n
 |[],ρ,c,n,h=>by cases h
 |d::r,ρ,c,n,h=>by
  unfold jo at h;split at h
  ·split at h
   ·exact D5 r _ _ _ h
   ·exact D5 r _ _ _ h
   ·cases h
   ·cases h
   ·cases h
  ·cases h
theorem IR (i:Nat) (hc:c.X.calm=true) (hg:JG c.nox tg kt) (hb:IM c.nox body gbd) (hN:c.X.N[i]?=some x:=by rfl) (hv:Ml c.X.env.scope x:=by first|exact iz rfl|exact e_ (iz rfl)|exact e_ (e_ rfl)) (hd:(x==("__debug__" : Str))=false:=by decide)
  (hcd:(x==("__classdict__" : Str))=false:=by decide) (hs:∀ y,eF (.Name x p) c.X.env y=pure y:=by intro _;rfl):JS c (.For tg (.Name x p) body [] pos) (tO i kt gbd):=.of fun ρ=>by
 by_cases ho:∃ ds,ρ[i]?=some (Sl.own (.list ds))
 ·obtain ⟨ds,ho⟩:=ho;refine Nq (As (Mu (tg:=tg) wk hc (uW (X:=c.nox.X) (q_ hN hv hd hcd)) (g:=fun v σ H Q=>∃ ρ d,Uw c.X.K ρ d (kt d ρ) v σ H Q) (tb:=fun D σ H=>∃ ρ,SR c.X.K c.cls E0 ρ (gbd ρ) D σ H) ?_ ?_ hs) fun D σ H ⟨H0,Hs0,la,Hs,f,q⟩=>?_)
  ·exact fun pins s σ H v u Q I r h_2=>by obtain ⟨ρ,d,q⟩:=h_2;exact hg ρ d pins s σ H v u Q I r q
  ·exact fun pins s σ H D I h_3=>by obtain ⟨ρ,q⟩:=h_3;exact hb ρ pins s σ H D I q
  ·obtain ⟨a,o,k1,k2,k3,k4,k5⟩:=f.ow i _ ho;cases k5 with
   | @lst vs _ r =>
    refine ⟨_,k1,a,rfl,⟨_,.of k2⟩,?_⟩;have hn:qB c.X.K (upd Hs a (.lst vs)) a vs:=.of b9;unfold tO at q;simp only [ho] at q;have fl:=f.lock ho k1 k2 k3 k4 (.lst r);have sub:dD (upd Hs a (.lst vs)) H:=fun b u q=>by
     by_cases hb:b=a
     ·subst hb;rw [b9] at q;cases q;exact k2
     ·rw [bd hb] at q;exact f.st.sub b u q
    refine Nr (E:=c.E) (cls:=c.cls) (kt:=kt) (gb:=gbd) (ρ:=D4 i ρ) (Hs:=Hs) (la:=fun i'=>if i'=i then some a else la i') (tg:=fun v σ H Q=>∃ ρ d,Uw c.X.K ρ d (kt d ρ) v σ H Q) (tb:=fun D σ H=>∃ ρ,SR c.X.K c.cls E0 ρ (gbd ρ) D σ H) (D1 hn r) (Nt f.st.all sub) ?_ (fun ρ d v σ H Q h=>⟨ρ,d,h⟩) (fun ρ D σ H h=>⟨ρ,h⟩) ?_
    ·unfold D4;rw [ho];exact fl
    ·cases hr:jo kt gbd ds (D4 i ρ) with
     |no=>rw [hr] at q;exact q
     |ex c n=>exact (D5 _ _ _ _ hr).elim
     |ok fl =>
      rw [hr] at q;rcases zd _ _ _ hr with ⟨ρ',rfl⟩|⟨d,rfl⟩
      ·exact fun σ' H' Hs' f'=>q σ' H' Hs' (f.unlock ho k4 f')
      ·exact fun v H' Hs' s r=>q v H' Hs' (f.st.unlock s) r
 ·have e:tO i kt gbd ρ=rF (k7 fun ρ=>Gf ρ i) kt gbd ρ:=by
   unfold tO;split
   ·rename_i ds h;exact (ho ⟨ds,h⟩).elim
   ·rfl
  rw [e];exact pM hc (D2 (c:=c.nox) (ag (c:=c.nox) i hN hv hd hcd)) hg hb hs ρ
def mF (t:aD->R Bool) (b:aD->R Fl):Nat->aD->R Fl
 | 0,_=>.no
 |n+1,ρ=>match t ρ with
  |.ok true=>match b ρ with
   |.ok (.nx ρ')=>mF t b n ρ'
   |.ok (.ct ρ')=>mF t b n ρ'
   |.ok (.bk ρ')=>.ok (.nx ρ')
   |.ok (.rt d)=>.ok (.rt d)
   |_=>.no
  |.ok false=>.ok (.nx ρ)
  |_=>.no
theorem Nu (n:Nat)  (ht:JT c.nox t gt) (hb:IM c.nox body gbd):JS c (.While t body [] pos) (mF gt gbd n):=.of fun ρ=>by
 refine Nq (As (Mr wk (tc:=fun σ H Q=>∃ ρ,KI c.X.K c.cls E0 ρ (gt ρ) σ H Q) (tb:=fun D σ H=>∃ ρ,SR c.X.K c.cls E0 ρ (gbd ρ) D σ H) ?_ ?_) fun D σ H ⟨H0,Hs0,la,Hs,f,q⟩=>?_)
 ·exact fun pins s σ H Q I h_4=>by obtain ⟨ρ,q⟩:=h_4;exact ht ρ pins s σ H Q I q
 ·exact fun pins s σ H D I h_5=>by obtain ⟨ρ,q⟩:=h_5;exact hb ρ pins s σ H D I q
 ·refine ⟨fun m σ H=>∃ ρ Hs,Fr c.X.K H0 Hs0 la ρ σ H Hs/\oO c.X.K c.cls c.E H0 Hs0 la D (mF gt gbd m ρ),⟨n,ρ,Hs,f,q⟩,?_⟩;rintro m σ H ⟨ρ,Hs,f,q⟩;cases m with
  |zero=>exact q.elim
  |succ m =>
   unfold mF at q;refine ⟨ρ,H0,Hs0,la,Hs,f,?_⟩;cases hg:gt ρ with
   |no=>rw [hg] at q;exact q
   |ex x n=>rw [hg] at q;exact q.elim
   |ok b =>
    rw [hg] at q;intro H1 Hs1 s1;cases b with
    |false=>exact AK (q σ H1 Hs1 (f.step s1))
    |true =>
     refine AL ⟨fun σ' H'=>∃ ρ' Hs',Fr c.X.K H0 Hs0 la ρ' σ' H' Hs'/\oO c.X.K c.cls c.E H0 Hs0 la D (mF gt gbd m ρ'),fun σ' H' h=>⟨m,f_ _,h⟩,ρ,H0,Hs0,la,Hs1,f.step s1,?_⟩;cases hb':gbd ρ with
     |no=>simp only [hb'] at q;exact q
     |ex x n=>simp only [hb'] at q;exact q.elim
     |ok fl =>
      simp only [hb'] at q;cases fl with
      |nx ρ'=>exact fun σ' H' Hs' f'=>⟨ρ',Hs',f',q⟩
      |ct ρ'=>exact fun σ' H' Hs' f'=>⟨ρ',Hs',f',q⟩
      |bk ρ'=>exact fun σ' H' Hs' f'=>q σ' H' Hs' f'
      |rt d=>exact q
end
end
section
section
def rG (i:Nat) (g:aD->R D):aD->R Fl:=fun ρ=>match ρ[i]? with
 |some (Sl.own (.list ds))=>(g ρ).bind fun d=>if ds.length<1000 then .ok (.nx (ρ.set i (.own (.list (ds++[d]))))) else .no
 |_=>.no
theorem oQ (i:Nat) (h:JE c e g) (hN:c.X.N[i]?=some x:=by rfl) (hv:Ml c.X.env.scope x:=by first|exact iz rfl|exact e_ (iz rfl)|exact e_ (e_ rfl)) (hd:(x==("__debug__" : Str))=false:=by decide)
  (hcd:(x==("__classdict__" : Str))=false:=by decide)
  (hbase:K4 (.Name x p) "append" c.X.env (eD (.Name x p) c.X.env)=eD (.Name x p) c.X.env:=by rfl)
  (hfew:((iM cpos (aJ [e] c.X.env)).all (fun x=>!x.1)&&(backToKw cpos (Q1 [] c.X.env)).all (fun x=>x.1.isSome)
   && decide ([e].length+([] : List G5).length+(if ([] : List G5).isEmpty then 0 else 1)<30))=true:=by rfl)
  (hline:(apos.endLine==cpos.line)=true:=by rfl) (hst:aJ [e] c.X.env=(false,eD e c.X.env)::aJ [] c.X.env:=by rfl) (hplain:(iM cpos (aJ [] c.X.env)).any (·.1)=false:=by rfl)
  (hs:iq (.Call (.Attribute (.Name x p) "append" apos) [e] [] cpos) none pos.line c.X.env=pure false:=by rfl) :
  JS c (.Expr (.Call (.Attribute (.Name x p) "append" apos) [e] [] cpos) pos) (rG i g):=.of fun ρ=>by
 refine As (Cu (So Bk AC AD Bu (q_ hN hv hd hcd) (iB (h ρ) kH hst) hbase hfew hline hst hplain) hs) fun D σ H h_0=>?_;obtain ⟨H0,Hs0,la,Hs,f,q⟩:=h_0;replace q:oO c.X.K c.cls c.E H0 Hs0 la D (rG i g ρ):=q;unfold rG at q;split at q
 ·rename_i ds ho
  obtain ⟨a,o,k1,k2,k3,k4,k5⟩:=f.ow i _ ho;cases k5 with
  | @lst vs _ r =>
   refine ⟨_,k1,.inl ⟨rfl,_,.of k2⟩,?_⟩;refine sE f q fun d v H1 Hs1 e1 s1 f1 r1=>?_;rw [e1,bind_ok] at q;by_cases hl:ds.length<1000
   ·rw [if_pos hl] at q;have r':=r.same s1.sh;exact ⟨a,vs,v,rfl,rfl,s1.all _ _ k2,eI (by rw [r.length];omega),q _ _ Hs1 (f1.write i ho k1 (.lst (r'.append (.cons r1 .nil))))⟩
   ·rw [if_neg hl] at q;exact q.elim
 ·exact q.elim
def tP:D->Option gD
 |.int i=>some (.inl i)
 |.str x=>some (.inr x)
 |_=>none
theorem ze  (h:tP d=some y):d=kD y:=by
 cases d<;>cases h<;>rfl
@[simp] theorem keyOf_of (y:gD):tP (kD y)=some y:=by cases y<;>rfl
def xU (kvs:List (D×D)) (k d:D):List (D×D):=if kvs.any (fun kv=>aY kv.1 k) then kvs.map (fun kv=>if aY kv.1 k then (kv.1,d) else kv) else kvs++[(k,d)]
theorem D6 (a b:gD):aY (kD a) (kD b)=decide (a=b):=by
 cases a<;>cases b<;>simp [kD,aY,r_]
theorem RDk.any   (y:gD):∀ {ds:List (D×D)},RDk K H kvs ds->(ds.any fun kv=>aY kv.1 (kD y))=kvs.any fun kv=>decide (kv.1=y):=by
 induction kvs with
 |nil=>intro ds h;cases h;rfl
 |cons x r ih=>intro ds h;cases h with|cons h t=>rw [ed,ed,ih t,D6]
theorem RDk.repl  (y:gD)  (rv:RD K H v d):∀ {kvs:List (gD×V)}{ds:List (D×D)},RDk K H kvs ds ->
  RDk K H (kvs.map fun kv=>if kv.1=y then (kv.1,v) else kv) (ds.map fun kv=>if aY kv.1 (kD y) then (kv.1,d) else kv)
 |_,_,.nil=>.nil
 |_,_,.cons (k:=k) h t=>by
  rw [av,av];have e:=D6 k y;by_cases hk:k=y
  ·subst hk;rw [show (if k=k then (k,v) else (k,_))=(k,v) from if_pos rfl,show (if aY (kD k) (kD k)=true then (kD k,d) else (kD k,_))=(kD k,d) from if_pos (by rw [e];simp)];exact .cons rv (RDk.repl k rv t)
  ·simp only [e,hk,if_neg,decide_false,bu,not_false_eq_true];exact .cons h (RDk.repl y rv t)
theorem RDk.snoc  (y:gD)  (rv:RD K H v d):∀ {kvs:List (gD×V)}{ds:List (D×D)},RDk K H kvs ds->RDk K H (kvs++[(y,v)]) (ds++[(kD y,d)])
 |_,_,.nil=>.cons rv .nil
 |_,_,.cons h t=>.cons h (RDk.snoc y rv t)
theorem RDk.put    (r:RDk K H kvs ds) (y:gD)  (rv:RD K H v d):RDk K H (n6 kvs y v) (xU ds (kD y) d):=by
 unfold n6 xU;rw [r.any y];split
 ·exact r.repl y rv
 ·exact r.snoc y rv
def il (kvs:List (D×D)):Bool:=kvs.all fun kv=>(tP kv.1).isSome
def D7 (i:Nat) (gk g:aD->R D):aD->R Fl:=fun ρ=>match ρ[i]? with
 |some (Sl.own (.dict kvs))=>(g ρ).bind fun d=>(gk ρ).bind fun k=>match tP k with
  |some _=>if kvs.length<1000/\il kvs=true then .ok (.nx (ρ.set i (.own (.dict (xU kvs k d))))) else .no
  |none=>.no
 |_=>.no
theorem Hf    (h:RD K H v (kD y)):v=kV y:=by
 cases y<;>cases h<;>rfl
theorem RDt.flat    (h:RDt K H kvs ds) (f:il ds=true):kvs=[]/\ds=[]:=by
 cases h with
 |nil=>exact ⟨rfl,rfl⟩
 |cons h t=>simp [il,tD,tP] at f
theorem IS (i:Nat) (h:JE c e g) (hk:JE c k gk) (hu:c.X.A.units+1<gK) (hN:c.X.N[i]?=some x:=by rfl) (hv:Ml c.X.env.scope x:=by first|exact iz rfl|exact e_ (iz rfl)|exact e_ (e_ rfl)) (hd:(x==("__debug__" : Str))=false:=by decide)
  (hcd:(x==("__classdict__" : Str))=false:=by decide) (hs:iq e (some (.Subscript (.Name x p) k apos)) pos.line c.X.env=pure false:=by rfl):JS c (.Assign [.Subscript (.Name x p) k apos] e pos) (D7 i gk g):=.of fun ρ=>by
 refine As (IE hu (q_ hN hv hd hcd) (hk ρ) (h ρ) hs) fun D σ H h_1=>?_
 obtain ⟨H0,Hs0,la,Hs,f,q⟩:=h_1
 replace q:oO c.X.K c.cls c.E H0 Hs0 la D (D7 i gk g ρ):=q
 unfold D7 at q
 split at q
 ·rename_i kvs ho
  obtain ⟨a,o,k1,k2,k3,k4,k5⟩:=f.ow i _ ho
  have main:∀ {H:Hp}{vs:List (gD×V)},Fr c.X.K H0 Hs0 la ρ σ H Hs->H a=some (.dK vs)->RDk c.X.K Hs vs kvs->Su (Vs i) (TR c.X.K c.cls c.E ρ (gk ρ)) (TR c.X.K c.cls c.E ρ (g ρ)) D σ H:=fun {H vs} f k2 r=>by
   refine sE f q fun d v H1 Hs1 e1 s1 f1 r1=>?_
   rw [e1,bind_ok] at q
   refine ⟨_,k1,sE f1 q fun y w H2 Hs2 e2 s2 f2 r2=>?_⟩
   rw [e2,bind_ok] at q
   split at q
   ·rename_i ky hy
    obtain rfl:=ze hy
    by_cases hl:kvs.length<1000/\il kvs=true
    ·rw [if_pos hl] at q
     have ha:=s2.all _ _ (s1.all _ _ k2)
     have r':=(r.same s1.sh).same s2.sh
     rw [Hf r2]
     exact ⟨a,_,rfl,Ef.k ha (eI (by rw [r.length];omega)),q _ _ Hs2 (f2.write i ho k1 (.dK (r'.put ky (r1.same s2.sh))))⟩
    ·rw [if_neg hl] at q;exact q.elim
   ·exact q.elim
  cases k5 with
  |dK r=>exact main f k2 r
  |dT n r =>
   refine sE f q fun d v H1 Hs1 e1 s1 f1 r1=>?_
   rw [e1,bind_ok] at q
   refine ⟨_,k1,sE f1 q fun y w H2 Hs2 e2 s2 f2 r2=>?_⟩
   rw [e2,bind_ok] at q
   split at q
   ·rw [if_neg (fun z=>n (r.flat z.2).1)] at q;exact q.elim
   ·exact q.elim
  |dF n r =>
   refine sE f q fun d v H1 Hs1 e1 s1 f1 r1=>?_
   rw [e1,bind_ok] at q
   refine ⟨_,k1,sE f1 q fun y w H2 Hs2 e2 s2 f2 r2=>?_⟩
   rw [e2,bind_ok] at q
   split at q
   ·rw [if_neg (fun z=>by cases z.2)] at q;exact q.elim
   ·exact q.elim
 ·exact q.elim
def lU (kvs:List (D×D)) (k:D):Option D:=(kvs.find? fun kv=>aY kv.1 k).map (·.2)
theorem RDk.val  : ∀ {kvs:List (gD×V)}{ds:List (D×D)},RDk K H kvs ds->∀ (y:gD),(oM kvs y=none/\lU ds (kD y)=none)\/∃ v d,oM kvs y=some v/\lU ds (kD y)=some d/\RD K H v d
 |_,_,.nil,y=>.inl ⟨rfl,rfl⟩
 |_,_,.cons (k:=k) h t,y=>by
  unfold oM lU;rw [bI,bI,D6];by_cases hk:k=y
  ·simp only [hk,decide_true,cR];exact .inr ⟨_,_,rfl,rfl,h⟩
  ·simp only [hk,decide_false];exact RDk.val t y
def a_:D->D->R D
 |.dict kvs,k=>match tP k with
  |some _=>if il kvs=true then (match lU kvs k with
   |some d=>.ok d
   |none=>.no) else .no
  |none=>.no
 |x,k=>EA x k
theorem b_ (hu:c.X.A.units+1<gK) (ha:JB c a ga) (hb:JB c b gb) (hs:u_ b:=by exact fun _ _=>rfl):JE c (.Subscript a b pos) (g2 ga gb a_):=.of fun ρ=>by
 by_cases hx:∃ kvs,ga ρ=.ok (.dict kvs)
 ·obtain ⟨kvs,hx⟩:=hx;refine sv (ID hu (ha ρ) (hb ρ) hs) fun σ H Q h_2=>?_;obtain ⟨H0,Hs0,la,Hs,f,q⟩:=h_2;refine one f q fun d v H1 Hs1 e1 s1 f1 r1=>?_;rw [hx] at e1;cases e1;unfold g2 at q;rw [hx,bind_ok] at q;refine one f1 (q.on s1 (q':=fun _=>True) fun _ _=>trivial) fun y w H2 Hs2 e2 s2 f2 r2=>?_;rw [e2,bind_ok] at q;unfold a_ at q;simp only at q;split at q
  ·rename_i ky hy
   obtain rfl:=ze hy;by_cases hf:il kvs=true
   ·rw [if_pos hf] at q;obtain ⟨p,rfl,h⟩:=(r1.step s2).dict f2.st.sub;have rk:w=kV ky:=by
     rcases r2 with r2|⟨_,o,rfl,_,_,ow⟩
     ·exact Hf r2
     ·cases ky<;>cases ow
    subst rk;rcases h with ⟨vs,h1,h2⟩|⟨vs,h1,hn,h2⟩|⟨o,vs,es,rfl,h1,hn,h2⟩
    ·rcases h2.val ky with ⟨_,h3⟩|⟨u,d,h3,h4,h5⟩
     ·rw [h3] at q;exact q.elim
     ·rw [h4] at q;exact ⟨p,u,rfl,by rw [<- h3];exact xP.k h1,q _ H2 Hs2 (s1.trans s2) h5⟩
    ·exact (hn (h2.flat hf).1).elim
    ·cases hf
   ·rw [if_neg hf] at q;exact q.elim
  ·exact q.elim
 ·refine sv (Wd ha hb hs ρ) fun σ H Q q=>?_;have e:g2 ga gb a_ ρ=g2 ga gb EA ρ:=by
   unfold g2;cases hr:ga ρ with
   |ok d =>
    cases d with
    |dict kvs=>exact (hx ⟨kvs,hr⟩).elim
    |_=>rfl
   |_=>rfl
  rw [e] at q;exact q
def kX:D->R D
 |.dict kvs=>if il kvs=true then .ok (.list (kvs.map (·.1))) else .no
 |x=>BE x
theorem EH  : ∀ {kvs:List (gD×V)}{ds:List (D×D)},RDk K H kvs ds->RDs K H (kvs.map fun p=>kV p.1) (ds.map (·.1))
 |_,_,.nil=>.nil
 |_,_,.cons (k:=k) h t=>.cons (by cases k<;>constructor) (EH t)
theorem zf (hc:X.calm=true):LY X (.type "list") (iD kX):=by
 refine uf (fun d c n=>?_) fun pins s σ H x u Q Hs d d' I ru sub rx hd q=>?_
 ·unfold kX BE;split<;>(try split)<;>(try split)<;>exact fun h=>by cases h
 ·by_cases hx:∃ kvs,d=.dict kvs
  ·obtain ⟨kvs,rfl⟩:=hx;unfold kX at hd;simp only at hd;split at hd
   ·rename_i hf
    cases hd;obtain ⟨a,rfl,⟨vs,h1,h2⟩|⟨vs,h1,n,h2⟩|⟨o,vs,es,rfl,h1,n,h2⟩⟩:=rx.dict sub
    ·exact yQ hc pins s σ H _ _ Q I (.cons ru .nil) ⟨a,vs,rfl,h1,fun l hl=>q _ _ _ (.new sub hl) (.list (.of b9) ((EH h2).same (cP.new sub hl).sh))⟩
    ·exact (n (h2.flat hf).1).elim
    ·cases hf
   ·cases hd
  ·have e:kX d=BE d:=by
    cases d with
    |dict kvs=>exact (hx ⟨kvs,rfl⟩).elim
    |_=>rfl
   rw [e] at hd;exact (R0 (X:=X)).1 pins s σ H [x] [u] Q I (.cons ru .nil) ⟨Hs,[d],sub,.cons rx .nil,d',hd,q⟩
end
end
section
open PyProof.Rows (envOfC)
section
variable {c:C}{e a b d:bY}{g ga gb gc:aD->R D}{pos p cpos:Pos}{x:Str}
theorem Nv        (hx:∀ x y c n,h x y≠.ex c n) (hx':∀ x y c n,h' x y≠.ex c n) (q:TR K cls E ρ (ro ga gb gc h h' ρ) σ H Q) :
  GG (rD K h) (rD K h') (TB K cls E ρ (ga ρ)) (TB K cls E ρ (gb ρ)) (TB K cls E ρ (gc ρ)) σ H Q:=by
 obtain ⟨H0,Hs0,la,Hs,f,q⟩:=q;refine one f q fun x v H1 Hs1 e1 s1 f1 r1=>?_;unfold ro at q;rw [e1,bind_ok] at q;refine one f1 (q.on s1 (q':=fun _=>True) fun _ _=>trivial) fun y u H2 Hs2 e2 s2 f2 r2=>?_;rw [e2,bind_ok] at q;cases hr:h x y with
 |ex c n=>exact (hx x y c n hr).elim
 |no=>rw [hr] at q;exact q.elim
 |ok z =>
  rw [hr,bind_ok] at q;refine ⟨Hs2,x,y,f2.st.sub,r1.step s2,r2,z,hr,fun w H3 Hs3 s3 r3=>?_⟩;cases r3 with
  |bool k =>
   refine ⟨k,rfl,?_⟩;have f3:=f2.step s3;cases k with
   |false=>exact AK (q _ H3 Hs3 (s1.trans (s2.trans s3)) (.bool _))
   |true =>
    refine AL (one f3 (q.on (s1.trans (s2.trans s3)) (q':=fun _=>True) fun _ _=>trivial) fun t u' H4 Hs4 e4 s4 f4 r4=>?_);simp only [e4,bind_ok] at q;cases hr':h' y t with
    |ex c n=>exact (hx' y t c n hr').elim
    |no=>rw [hr'] at q;exact q.elim
    |ok z' =>
     rw [hr'] at q;exact ⟨Hs4,y,t,f4.st.sub,(r2.step s3).step s4,r4,z',hr',fun w H5 Hs5 s5 r5=>q w H5 Hs5 (s1.trans (s2.trans (s3.trans (s4.trans s5)))) r5⟩
  |none=>exact q.elim
  |int _=>exact q.elim
  |str _=>exact q.elim
  |list _ _=>exact q.elim
  |tuple _ _=>exact q.elim
  |dictK _ _=>exact q.elim
  |dictT _ _ _=>exact q.elim
  |dictF _ _ _=>exact q.elim
theorem EI  (ho:xn c.X (bC op) h) (ho':xn c.X (bC op') h') (ha:JB c a ga) (hb:JB c b gb) (hc:JB c d gc) (hm:LK [op,op'] [b,d]=false:=by with_unfolding_all rfl):JE c (.Compare a [op,op'] [b,d] pos) (ro ga gb gc h h') :=
 .of fun ρ=>sv (Mw ho.1 ho'.1 (ha ρ) (hb ρ) (hc ρ) hm) fun σ H Q q=>Nv ho.2 ho'.2 q
theorem Nw  (ho:xn c.X (bC op) h) (ho':xn c.X (bC op') h') (ha:JB c a ga) (hb:JB c b gb) (hc:JB c d gc) (hm:LK [op,op'] [b,d]=false:=by with_unfolding_all rfl):JT c (.Compare a [op,op'] [b,d] pos) (g9 (ro ga gb gc h h')) :=
 .of fun ρ=>W8 (Mx ho.1 ho'.1 (ha ρ) (hb ρ) (hc ρ) hm) fun σ H Q q=>Nv ho.2 ho'.2 (Vk q)
def Uy:D->R D
 |.int i=>.ok (.int (-i))
 |_=>.no
def zg (g:aD->R D):aD->R D:=fun ρ=>(g ρ).bind Uy
theorem Nx (h:JE c e g):JE c (.UnaryOp .USub e pos) (zg g):=.of fun ρ=>sv (VG U6 (h ρ)) fun σ H Q h_0=>by
 obtain ⟨H0,Hs0,la,Hs,f,q⟩:=h_0;refine AT f q fun d v H1 Hs1 e1 s1 f1 r1=>?_;unfold zg at q;rw [e1,bind_ok] at q;cases r1 with
 |int i=>exact ⟨i,rfl,q _ H1 Hs1 s1 (.int _)⟩
 |_=>exact q.elim
inductive Wn (K:a8) (w:bL) (cls:Str->am) (E:XK) (ρ:aD) (r:R (List Str)) (σ:St) (H:Hp) (Q:VK):Prop
 |mk (H0 Hs0:Hp) (la:Nat->Option am) (Hs:Hp) (f:Fr K H0 Hs0 la ρ σ H Hs) (q:Fin K cls E H Hs r fun ss=>∀ p H' Hs',cP H Hs H' Hs'->H' p=none->Q (.ref p) (upd H' p (lW w p ss))):Wn K w cls E ρ r σ H Q
def XA (K:a8) (w:bL) (cls:Str->am) (E:XK) (ρ:aD) (r:R (List Str)):TE:=Wn K w cls E ρ r
structure R8 (c:C) (e:bY) (g:aD->R (List Str)):Prop where of ::
 run:∀ ρ,PE c.X e (XA c.X.K c.X.w c.cls c.E ρ (g ρ))
instance {c:C}{e:bY}{g:aD->R (List Str)}:CoeFun (R8 c e g) (fun _=>∀ ρ,PE c.X e (XA c.X.K c.X.w c.cls c.E ρ (g ρ))):=⟨R8.run⟩
theorem IT {K:a8}{w:bL}{cls:Str->am}{E:XK}{ρ:aD}{r:R (List Str)}{β:Type}{k:List Str->R β}{σ:St}{H:Hp}{H0 Hs0 Hs:Hp}{la:Nat->Option am}{Q:V->Hp->Prop}{q:β->Prop} (f:Fr K H0 Hs0 la ρ σ H Hs)
  (h:Fin K cls E H Hs (r.bind k) q) (m:∀ ss p H' Hs',r=.ok ss->cP H Hs H' Hs'->Fr K H0 Hs0 la ρ σ H' Hs'->H' p=none->Q (.ref p) (upd H' p (lW w p ss))):XA K w cls E ρ r σ H Q:=by
 refine ⟨H0,Hs0,la,Hs,f,?_⟩;cases r with
 |ok d=>exact fun p H' Hs' s n=>m d p H' Hs' rfl s (f.step s) n
 |ex c n=>exact h
 |no=>exact h
variable {gset:aD->R (List Str)}
def ug:D->R (List Str)
 |.list ds=>match fm ds with
  |some ss=>if ss.length<60 then .ok (dn [] ss) else .no
  |none=>.no
 |.tuple ds=>match fm ds with
  |some ss=>if ss.length<60 then .ok (dn [] ss) else .no
  |none=>.no
 |_=>.no
def pO (g:aD->R D):aD->R (List Str):=fun ρ=>(g ρ).bind ug
theorem D8 (hc:c.X.calm=true) (h:JB c e g) (hg2:Gl c.X "set") (hm2:c.X.mg "set"=none) (he:aJ [e] c.X.env=(false,eD e c.X.env)::aJ [] c.X.env:=by rfl) :
  R8 c (.Call (.Name "set" p) [e] [] cpos) (pO g):=.of fun ρ=>by
 refine sv (Bt (Et hc) hg2 hm2 PyProof.Rows.boot_set (iB (h ρ) kH he) (he:=he)) fun σ H Q h_1=>?_;obtain ⟨H0,Hs0,la,Hs,f,q⟩:=h_1;refine one f q fun d v H1 Hs1 e1 s1 f1 r1=>?_;unfold pO at q;rw [e1,bind_ok] at q;unfold ug at q;split at q
 ·split at q
  ·rename_i ss hs
   by_cases hz:ss.length<60
   ·rw [if_pos hz] at q;obtain ⟨a,vs,rfl,qa,ra⟩:=r1.list f1.st.sub;rw [nA hs] at ra;rw [lX ra] at qa;exact ⟨a,ss,rfl,.inl qa,aE (Kc hz 1) (by decide),fun p hp=>q p H1 Hs1 s1 hp⟩
   ·rw [if_neg hz] at q;exact q.elim
  ·exact q.elim
 ·split at q
  ·rename_i ss hs
   by_cases hz:ss.length<60
   ·rw [if_pos hz] at q;obtain ⟨a,vs,rfl,qa,ra,_⟩:=r1.tuple f1.st.sub;rw [nA hs] at ra;rw [lX ra] at qa;exact ⟨a,ss,rfl,.inr qa,aE (Kc hz 1) (by decide),fun p hp=>q p H1 Hs1 s1 hp⟩
   ·rw [if_neg hz] at q;exact q.elim
  ·exact q.elim
 ·exact q.elim
def lw (g:aD->R (List Str)):aD->R D:=fun ρ=>(g ρ).bind fun ss=>if ss.length<64 then .ok (.list ((jY ss).map .str)) else .no
theorem uh (hc:c.X.calm=true) (h:R8 c e gset) (hg:Gl c.X "sorted") (hm:c.X.mg "sorted"=none) (he:aJ [e] c.X.env=(false,eD e c.X.env)::aJ [] c.X.env:=by rfl) :
  JE c (.Call (.Name "sorted" p) [e] [] cpos) (lw gset):=.of fun ρ=>by
 refine sv (uY (xQ hc) hg hm ml (iB (h ρ) kH he) (he:=he)) fun σ H Q h_2=>?_;obtain ⟨H0,Hs0,la,Hs,f,q⟩:=h_2;dsimp only [L2.VM,L2.Mz,L2.Ua];refine IT (w:=c.X.w) f q fun ss p H1 Hs1 e1 s1 f1 n1=>?_;unfold lw at q;rw [e1,bind_ok] at q;by_cases hz:ss.length<64
 ·rw [if_pos hz] at q;have st1:cP H1 Hs1 (upd H1 p (lW c.X.w p ss)) Hs1:=.mine f1.st.sub n1;exact ⟨p,ss,rfl,b9,hz,fun l hl=>q _ _ _ (s1.trans (st1.trans (.new st1.sub hl))) (.list (.of b9) (vi _))⟩
 ·rw [if_neg hz] at q;exact q.elim
def vn (g:aD->R (List Str)):aD->R D:=fun ρ=>(g ρ).bind fun ss=>.ok (.int ss.length)
theorem KR (h:R8 c e gset) (hg:Gl c.X "len") (hm:c.X.mg "len"=none) (he:aJ [e] c.X.env=(false,eD e c.X.env)::aJ [] c.X.env:=by rfl) :
  JE c (.Call (.Name "len" p) [e] [] cpos) (vn gset):=.of fun ρ=>by
 refine sv (uY AR hg hm bF (iB (h ρ) kH he) (he:=he)) fun σ H Q h_3=>?_;obtain ⟨H0,Hs0,la,Hs,f,q⟩:=h_3;dsimp only [L2.VM,L2.Mz,L2.Ua];refine IT (w:=c.X.w) f q fun ss p H1 Hs1 e1 s1 f1 n1=>?_;unfold vn at q;rw [e1,bind_ok] at q;have st1:cP H1 Hs1 (upd H1 p (lW c.X.w p ss)) Hs1:=.mine f1.st.sub n1;exact ⟨p,ss,rfl,b9,q _ _ _ (s1.trans st1) (.int _)⟩
variable {elt iter tg:bY}{ifs:List bY}{scope:ij}{N':List Str}{nt:Nat}{ix:List Nat}{gi:aD->R (List D)}{gt:aD->R Bool}{ge:aD->R D}
def wC (nt:Nat) (ix:List Nat) (gi:aD->R (List D)) (gt:aD->R Bool) (ge:aD->R D):aD->R (List Str):=fun ρ=>(gi ρ).bind fun ds=>if ds.length<=60 then (hG (iE nt (oP nt ix ρ) gt ge) ds).bind fun ys=>match fm ys with
 |some ss=>.ok (dn [] ss)
 |none=>.no else .no
theorem AW  : ∀ {ss:List Str},fm (xs++ys)=some ss->∃ s1 s2,fm xs=some s1/\fm ys=some s2/\ss=s1++s2:=by
 induction xs with
 |nil=>intro ss h;exact ⟨[],ss,rfl,h,rfl⟩
 |cons d r ih =>
  intro ss h;cases d with
  |str b =>
   have h:(fm (r++ys)).map (b::·)=some ss:=h;cases hr:fm (r++ys) with
   |none=>rw [hr] at h;cases h
   |some z =>
    rw [hr] at h;cases h;obtain ⟨s1,s2,h1,h2,rfl⟩:=ih hr;exact ⟨b::s1,s2,by show (fm r).map (b::·)=_;rw [h1];rfl,h2,rfl⟩
  |_=>cases h
theorem zh (z:Str):∀ (l acc:List Str),dn acc (l++[z])=if z∈dn acc l then dn acc l else dn acc l++[z]
 |[],acc=>rfl
 |x::l,acc=>by
  show dn _ (l++[z])=_;rw [zh z l];rfl
inductive Z8 (f:D->R (Option D)) (ds:List D) (ss:List Str) (H1 Hs1:Hp) (i m:Nat) (acc:List Str) (H':Hp):Prop
 |mk (done cp zs sa sz Hs':_) (h0:ds=done++cp) (h1:done.length=i) (h2:cp.length=m) (h3:cP H1 Hs1 H' Hs') (h4:acc=dn [] sa) (h5:sa.length<=i) (h6:hG f cp=.ok zs) (h7:fm zs=some sz) (h8:ss=sa++sz):Z8 f ds ss H1 Hs1 i m acc H'
theorem R9        (hnt:nt=1\/nt=2)
  (q:XA K w cls E ρ (wC nt ix gi gt ge ρ) σ H Q) :
  N7 w nt ix (Xy K cls E ρ (gi ρ)) (KQ K nt) (fun σ H Q=>∃ ρ',KI K cls E0 ρ' (gt ρ') σ H Q) (fun σ H Q=>∃ ρ',TR K cls E0 ρ' (ge ρ') σ H Q) σ H Q:=by
 obtain ⟨H0,Hs0,la,Hs,f,q⟩:=q;refine ⟨H0,Hs0,la,Hs,f,?_⟩;unfold wC at q;cases hi:gi ρ with
 |no=>rw [hi] at q;exact q
 |ex x n=>rw [hi] at q;exact q
 |ok ds =>
  rw [hi,bind_ok] at q;intro J H1 Hs1 Hn s1 sn it;by_cases hl:ds.length<=60
  ·rw [if_pos hl] at q;cases hm:hG (iE nt (oP nt ix ρ) gt ge) ds with
   |no=>rw [hm] at q;exact q.elim
   |ex x n=>exact (z0 (EF _ _ _ _) _ _ _ hm).elim
   |ok ys =>
    rw [hm,bind_ok] at q;cases hs:fm ys with
    |none=>rw [hs] at q;exact q.elim
    |some ss =>
     rw [hs] at q;obtain ⟨lb,fb⟩:=(f.step s1).block nt ix;refine ⟨Z8 (iE nt (oP nt ix ρ) gt ge) ds ss H1 Hs1,
      ⟨ds.length,[],ds,ys,[],ss,Hs1,rfl,rfl,rfl,.refl s1.sub,rfl,cJ _,hm,hs,rfl⟩,?_⟩
     rintro i m acc H' ⟨done,cp,zs,sa,sz,Hs',hds,hdl,hrl,st,rfl,yl,hz,hzs,hy⟩;obtain ⟨igo,istop,iyld⟩:=it H' Hs' (sn.trans st.all) st.sh st.sub;cases cp with
     |nil =>
      left;cases hz;cases hzs;rw [cS] at hds hy;subst hy hds;exact ⟨istop i (by omega),fun p hp=>q p H' Hs' (s1.trans st) hp⟩
     |cons d cp =>
      right;have hil:i<ds.length:=by rw [hds,aR,aP];omega
      have hol:=gF sa [];simp at hol;refine ⟨igo i hil,w9 (show (dn [] sa).length+1<=61 by omega) (by decide),fun x H2 hyl=>?_⟩;obtain ⟨d',Hs2,hd,s2,r2⟩:=iyld i x H2 hil hyl;have hdd:d'=d:=by
       rw [hds,ba (by omega)] at hd;simp [hdl] at hd;exact hd.symm
      subst hdd;obtain ⟨o,zs',hf,hz',rfl⟩:=y_ hz;have hf:=IP hf;obtain ⟨so,sz',hso,hsz,rfl⟩:=AW hzs;cases hb:Wl nt d' (oP nt ix ρ) with
      |no=>rw [hb] at hf;cases hf
      |ex x n=>rw [hb] at hf;cases hf
      |ok ρ' =>
       rw [hb,bind_ok] at hf;refine EE hnt ((fb.step st).step s2) r2 hb fun σ2 f2=>⟨ρ',?_⟩;refine ⟨_,_,_,Hs2,f2,?_⟩;cases ht:gt ρ' with
       |no=>rw [ht] at hf;cases hf
       |ex x n=>rw [ht] at hf;cases hf
       |ok b =>
        rw [ht,bind_ok] at hf;intro H3 Hs3 s3;cases b with
        |false =>
         rw [if_neg bf] at hf;cases hf;cases hso;refine AK ⟨cp.length,by rw [<- hrl];simp,done++[d'],cp,zs',sa,sz',Hs3,by rw [hds];simp,by simp [hdl],rfl,(st.trans s2).trans s3,rfl,by omega,hz',hsz,by simpa using hy⟩
        |true =>
         rw [if_pos rfl] at hf;refine AL ⟨ρ',_,_,_,Hs3,f2.step s3,?_⟩;cases he:ge ρ' with
         |no=>rw [he] at hf;cases hf
         |ex x n=>rw [he] at hf;cases hf
         |ok y =>
          rw [he,bind_ok] at hf;cases hf;intro v H4 Hs4 s4 r4;cases r4 with
          |str z =>
           cases hso;exact ⟨z,cp.length,rfl,by rw [<- hrl];simp,done++[d'],cp,zs',sa++[z],sz',Hs4,by rw [hds];simp,by simp [hdl],rfl,((st.trans s2).trans s3).trans s4,(zh z sa []).symm,by simp;omega,hz',hsz,by rw [hy];simp⟩
          |none=>cases hso
          |bool _=>cases hso
          |int _=>cases hso
          |list _ _=>cases hso
          |tuple _ _=>cases hso
          |dictK _ _=>cases hso
          |dictT _ _ _=>cases hso
          |dictF _ _ _=>cases hso
  ·rw [if_neg hl] at q;exact q.elim
theorem Ny (nt:Nat) (hnt:nt=1\/nt=2) (hc:c.X.calm=true) (S:n_ c.X scope N' nt ix) (hi:JI c tg iter gi) (hb:vm c N' scope nt tg ifs elt gt ge) (hs:∀ x,eF iter c.X.env x=pure x:=by intro _;rfl) :
  R8 c (.SetComp elt [⟨tg,iter,ifs,0⟩] scope pos) (wC nt ix gi gt ge):=.of fun ρ=>sv (GV hc S (D3 hnt) (hi ρ) hb.at hs) fun σ H Q q=>R9 hnt q
end
def bv (n:Nat) (ds:List D):aD:=ds.map Sl.shr++tx (n-ds.length) Sl.no
def eP (n:Nat) (g:aD->R Fl):List D->R D:=fun ds=>match g (bv n ds) with
 |.ok (.nx _)=>.ok .none
 |.ok (.rt d)=>.ok d
 |.ex c m=>.ex c m
 |_=>.no
theorem zi {n:Nat}{ds:List D}{i:Nat}{s:Sl} (h:(bv n ds)[i]?=some s):(∃ d,ds[i]?=some d/\s=.shr d)\/s=.no:=by
 unfold bv at h;by_cases hi:i<ds.length
 ·rw [bO (by simpa using hi),aU] at h;cases hd:ds[i]? with
  |none=>rw [hd] at h;cases h
  |some z=>rw [hd] at h;cases h;exact .inl ⟨z,rfl,rfl⟩
 ·rw [ba (by simp;omega),cn] at h;split at h<;>cases h;exact .inr rfl
theorem KS {N:List Str}{vs:List V}{i:Nat}{v:V} (h:vs[i]?=some v):(L2.start N vs)[i]?=some (some v):=by
 unfold L2.start;have hi:i<vs.length:=(List.getElem?_eq_some_iff.mp h).1;rw [bO (by simpa using hi),aU,h];rfl
theorem Fr.start {K : a8} {H Hs : Hp} {N : List Str} {vs : List V} {ds : List D} (sub : dD Hs H) (r : RDs K Hs vs ds) : Fr K H Hs (fun _ => none) (bv N.length ds) (L2.start N vs) H Hs := by
  have hl := r.length;refine ⟨.refl sub, by simp [bv, L2.start, hl], fun i d h => ?_, fun i d h => ?_, fun i d h => ?_, fun i j d e a h _ _ _ => ?_, fun i a h => (nomatch h), fun i d h => ?_, fun i j d e h _ => ?_⟩
  · rcases zi h with ⟨z, hz, e⟩ | e
    · cases e;obtain ⟨v, k1, k2⟩ := r.get' hz;exact ⟨v, KS k1, k2⟩
    · cases e
  all_goals (rcases zi h with ⟨z, _, e⟩ | e <;> cases e)
theorem SG             (F:IC K x qual st f fd) (S:br N ps (aw st))
  (h:∀ (cdv:af) (A:cy) (outer:List Env) (s:al) (H:Hp) (E:XK),jR k (A.deeper (qT qual (aw st) s.heap.objs.size f cdv))->IM ⟨uX (vh P w) P w K mg base N qual (aw st) f cdv A outer s H E,cls,E⟩ (i8 st) g) :
  pG P w K mg base (vh P w) (k+1) f fd ps (Nk K cls ps.length (eP N.length g)):=by
 obtain ⟨oc,od,kV,doc,pm,an,cdv,ct,osl,rfl,lk,hcd⟩:=F.ex;refine Sg lk hcd S (fun vs H Q E h_4=>by obtain ⟨Hs,ds,sub,hn,r,q⟩:=h_4;exact by rw [r.length];exact hn) fun A outer s H vs Q E hr hsp=>?_;obtain ⟨Hs,ds,sub,hn,r,q⟩:=hsp;refine ⟨_,h cdv A outer s H E hr (bv N.length ds),H,Hs,_,Hs,Fr.start sub r,?_⟩;unfold eP at q;cases hg:g (bv N.length ds) with
 |no=>rw [hg] at q;exact q
 |ex c n=>rw [hg] at q;exact q
 |ok fl =>
  rw [hg] at q;cases fl with
  |nx ρ'=>exact fun σ' H' Hs' f'=>q .non H' Hs' f'.st .none
  |rt d=>exact fun v H' Hs' s r=>q v H' Hs' s r
  |bk ρ'=>exact q.elim
  |ct ρ'=>exact q.elim
theorem Wo             (F:IC K x qual st f fd) (S:br N ps (aw st)) (hm:mg x=some (.ref f)) (hb:jG K fd ps [])
  (h:∀ (cdv:af) (A:cy) (outer:List Env) (s:al) (H:Hp) (E:XK),jR k (A.deeper (qT qual (aw st) s.heap.objs.size f cdv))->IM ⟨uX (vh P w) P w K mg base N qual (aw st) f cdv A outer s H E,cls,E⟩ (i8 st) g) :
  Fn P w K mg base cls x (k+1) ps.length (eP N.length g):=⟨f,fd,ps,SG F S h,hm,F.kp,hb⟩
theorem dQ:mC (vh X.prog X.w) X E0:=fun _ _ _ _ _ _ _ h=>by
 obtain ⟨_,_,_,_,_,_,_,_,_,q⟩:=h;exact q.elim
end
section
def clear2 (ρ:aD):aD:=ρ.map fun s=>match s with
 |.ow2 _=>.no
 |s=>s
section
theorem Fr.clear2    (f:Fr K H0 Hs0 la ρ σ H Hs):Fr K H0 Hs0 la (clear2 ρ) σ H Hs/\∀ (j:Nat) (d:List (List D)),¬ (J.clear2 ρ)[j]?=some (Sl.ow2 d):=by
 have un:∀ {j:Nat}{s:Sl},(J.clear2 ρ)[j]?=some s->(∀ d,s≠.ow2 d)/\(ρ[j]?=some s\/s=.no):=fun {j s} e=>by
  unfold J.clear2 at e;rw [aU] at e;cases h:ρ[j]? with
  |none=>rw [h] at e;cases e
  |some t =>
   rw [h] at e;cases t with
   |ow2 d=>cases e;exact ⟨fun _ z=>(by cases z),.inr rfl⟩
   |no=>cases e;exact ⟨fun _ z=>(by cases z),.inl rfl⟩
   |shr d=>cases e;exact ⟨fun _ z=>(by cases z),.inl rfl⟩
   |lck d=>cases e;exact ⟨fun _ z=>(by cases z),.inl rfl⟩
   |own d=>cases e;exact ⟨fun _ z=>(by cases z),.inl rfl⟩
 have is:∀ {j:Nat}{s:Sl},s≠.no->(J.clear2 ρ)[j]?=some s->ρ[j]?=some s:=fun {j s} n e=>(un e).2.resolve_right n;have no2:∀ (j:Nat) (d:List (List D)),¬ (J.clear2 ρ)[j]?=some (Sl.ow2 d):=fun j d e=>(un e).1 d rfl;exact ⟨⟨f.st,by simp [J.clear2,f.len],fun j d h=>f.sh j d (is (fun z=>by cases z) h),fun j d h=>f.ow j d (is (fun z=>by cases z) h),fun j d h=>f.lk j d (is (fun z=>by cases z) h),fun j k d e a h1 h2=>f.dj j k d e a (is (fun z=>by cases z) h1) (is (fun z=>by cases z) h2),f.lh,fun j d h=>(no2 j d h).elim,fun j k d e h _=>(no2 j d h).elim⟩,no2⟩
end
def rH:List am->Hp->Hp
 |[],H=>H
 |a::as,H=>rH as (upd H a (.lst []))
section
theorem zj:∀ (as:List am) (H:Hp),(∀ a∈as,H a=none)->as.Nodup->dD H (rH as H)
 |[],H,_,_=>.refl H
 |a::as,H,h,nd=>by
  obtain ⟨n1,n2⟩:=List.nodup_cons.mp nd;refine (mD (h a ak)).trans (zj as _ (fun b hb=>?_) n2);rw [bd (fun (z:b=a)=>n1 (z ▸ hb))];exact h b (ai _ hb)
theorem EJ:∀ (as:List am) (H:Hp),as.Nodup->∀ a∈as,rH as H a=some (.lst [])
 |a::as,H,nd,b,hb=>by
  obtain ⟨n1,n2⟩:=List.nodup_cons.mp nd;show rH as (upd H a (.lst [])) b=_;by_cases hm:b∈as
  ·exact EJ as _ n2 b hm
  ·have e:b=a:=(List.mem_cons.mp hb).resolve_right hm;subst e;have:∀ (as:List am) (H:Hp),b∉as->rH as H b=H b:=by
    intro as;induction as with
    |nil=>intro H _;rfl
    |cons c as ih =>
     intro H h;show rH as (upd H c (.lst [])) b=_;rw [ih _ (fun z=>h (ai _ z)),bd (fun (z:b=c)=>h (by rw [z];exact ak))]
   rw [this as _ hm,b9]
theorem mG:∀ (as:List am) (H:Hp) (b:am),rH as H b=none->H b=none/\b∉as
 |[],H,b,h=>⟨h,by simp⟩
 |a::as,H,b,h=>by
  obtain ⟨h1,h2⟩:=mG as (upd H a (.lst [])) b h;by_cases hb:b=a
  ·subst hb;rw [b9] at h1;cases h1
  ·rw [bd hb] at h1;exact ⟨h1,fun z=>(List.mem_cons.mp z).elim hb h2⟩
def Ra (i:Nat):aD->R Fl:=fun ρ=>.ok (.nx ((clear2 ρ).set i (.ow2 [[],[],[],[]])))
theorem Uz (i:Nat)  (hN:c.X.N.Nodup) (hi:c.X.N[i]?=some x:=by rfl) (hx:S7 c.X.env.scope x:=by first|exact iz rfl|exact e_ rfl)
  (hs:iq (.List [.List [] p1,.List [] p2,.List [] p3,.List [] p4] p) (some (.Name x pos')) spos.line c.X.env=pure false:=by rfl)
  (hf:c.X.fn x=true\/c.X.env.scope.names.lookup x=some .local:=by first|exact .inl rfl|exact .inr rfl|assumption)
  (h1:aJ [.List [] p1,.List [] p2,.List [] p3,.List [] p4] c.X.env=(false,eD (.List [] p1) c.X.env)::aJ [.List [] p2,.List [] p3,.List [] p4] c.X.env:=by rfl)
  (h2:aJ [.List [] p2,.List [] p3,.List [] p4] c.X.env=(false,eD (.List [] p2) c.X.env)::aJ [.List [] p3,.List [] p4] c.X.env:=by rfl)
  (h3:aJ [.List [] p3,.List [] p4] c.X.env=(false,eD (.List [] p3) c.X.env)::aJ [.List [] p4] c.X.env:=by rfl)
  (h4:aJ [.List [] p4] c.X.env=(false,eD (.List [] p4) c.X.env)::aJ [] c.X.env:=by rfl) :
  JS c (.Assign [.Name x pos'] (.List [.List [] p1,.List [] p2,.List [] p3,.List [] p4] p) spos) (Ra i):=.of fun ρ=>by
 refine As (GD hN hi hx (u7 (iB (u7 kH) (iB (u7 kH) (iB (u7 kH) (iB (u7 kH) kH h4) h3) h2) h1)) hs hf) fun D σ H h_0=>?_;obtain ⟨H0,Hs0,la,Hs,f,q⟩:=h_0;replace q:oO c.X.K c.cls c.E H0 Hs0 la D (Ra i ρ):=q;obtain ⟨f,no2⟩:=f.clear2;refine ⟨cJ _,fun a1 n1=>⟨cJ _,fun a2 n2=>⟨cJ _,fun a3 n3=>⟨cJ _,fun a4 n4=>⟨cm (eI (show 4<=1000 by decide)),fun a n=>?_⟩⟩⟩⟩⟩;have N:=mG [a1,a2,a3,a4] H a n;have N4:=mG [a1,a2,a3] H a4 n4;have N3:=mG [a1,a2] H a3 n3;have N2:=mG [a1] H a2 n2;simp only [aZ,bi,or_false,not_or] at N N4 N3 N2;have nd:[a1,a2,a3,a4].Nodup:=by
  simp only [jQ,aZ,bi,or_false,not_or,gd,and_true,not_false_eq_true];exact ⟨⟨cY N2.2,cY N3.2.1,cY N4.2.1⟩,⟨cY N3.2.2,cY N4.2.2.1⟩,cY N4.2.2.2⟩
 have free:∀ b∈[a1,a2,a3,a4],H b=none:=fun b hb=>by
  simp only [aZ,bi,or_false] at hb;rcases hb with rfl|rfl|rfl|rfl
  ·exact n1
  ·exact N2.1
  ·exact N3.1
  ·exact N4.1
 have nd5:(a::[a1,a2,a3,a4]).Nodup:=List.nodup_cons.mpr ⟨by simp only [aZ,bi,or_false,not_or];exact N.2,nd⟩;have sm:dD H (rH [a1,a2,a3,a4] H):=zj _ _ free nd;have all:dD H (upd (rH [a1,a2,a3,a4] H) a (.lst [.ref a1,.ref a2,.ref a3,.ref a4])):=sm.trans (mD n);have free5:∀ b∈a::[a1,a2,a3,a4],H b=none:=fun b hb=>(List.mem_cons.mp hb).elim (fun z=>z ▸ N.1) (free b);have st:cP H Hs (upd (rH [a1,a2,a3,a4] H) a (.lst [.ref a1,.ref a2,.ref a3,.ref a4])) Hs:=⟨all,.refl _,f.st.sub.trans all,fun _ _ _ _ z=>z⟩;have f':=f.step st;have hl:i<σ.length\/¬ i<σ.length:=Decidable.em _;have nx:∀ {j:Nat}{s:Sl},(∀ d,s≠.ow2 d)->((clear2 ρ).set i (.ow2 [[],[],[],[]]))[j]?=some s->(clear2 ρ)[j]?=some s/\i≠j:=fun {j s} hs e=>by
  by_cases hj:i=j
  ·subst hj;by_cases hi:i<(clear2 ρ).length
   ·rw [aG hi] at e;exact absurd (bQ e).symm (hs _)
   ·rw [cD (by simpa using hi)] at e;cases e
  ·rw [aj hj] at e;exact ⟨e,hj⟩
 refine q _ _ Hs ⟨f'.st,by simp [f'.len],fun j d h=>?_,fun j d h=>?_,fun j d h=>?_,fun j k d d' b h1 h2 h3 h4=>?_,f'.lh,fun j d h=>?_,fun j k d d' h1 h2=>?_⟩
 ·obtain ⟨h,hj⟩:=nx (fun _ z=>by cases z) h;rw [aj hj];exact f'.sh j d h
 ·obtain ⟨h,hj⟩:=nx (fun _ z=>by cases z) h;rw [aj hj];exact f'.ow j d h
 ·obtain ⟨h,hj⟩:=nx (fun _ z=>by cases z) h;rw [aj hj];exact f'.lk j d h
 ·obtain ⟨h1,hj⟩:=nx (fun _ z=>by cases z) h1;obtain ⟨h2,hk⟩:=nx (fun _ z=>by cases z) h2;rw [aj hj] at h3;rw [aj hk] at h4;exact f'.dj j k d d' b h1 h2 h3 h4
 ·by_cases hj:i=j
  ·subst hj;by_cases hi:i<(clear2 ρ).length
   ·rw [aG hi] at h;cases h;have at4:=EJ [a1,a2,a3,a4] H nd;have ne:∀ b∈[a1,a2,a3,a4],b≠a:=fun b hb z=>(List.nodup_cons.mp nd5).1 (z ▸ hb);have go:∀ b∈[a1,a2,a3,a4],upd (rH [a1,a2,a3,a4] H) a (.lst [.ref a1,.ref a2,.ref a3,.ref a4]) b=some (.lst []):=fun b hb=>by rw [bd (ne b hb)];exact at4 b hb
    refine ⟨a,[a1,a2,a3,a4],aG (by rw [<- f'.len];exact hi),b9,nd5,fun b hb=>⟨f.st.sub.free (free5 b hb),f.st.all.free (free5 b hb)⟩,fun b hb k e hk=>?_,.cons (go _ (by simp)) .nil (.cons (go _ (by simp)) .nil (.cons (go _ (by simp)) .nil (.cons (go _ (by simp)) .nil .nil)))⟩;obtain ⟨hk,nk⟩:=nx (fun _ z=>by cases z) hk;rw [aj nk];intro z;obtain ⟨b',o,k1,k2,_⟩:=f.ow k e hk;rw [z] at k1;cases k1;rw [free5 b hb] at k2;cases k2
   ·rw [cD (by simpa using hi)] at h;cases h
  ·rw [aj hj] at h;exact (no2 j d h).elim
 ·by_cases hj:i=j
  ·by_cases hk:i=k
   ·exact hj.symm.trans hk
   ·rw [aj hk] at h2;exact (no2 k d' h2).elim
  ·rw [aj hj] at h1;exact (no2 j d h1).elim
theorem Nz  (h:JS c st gs):JS c st (fun ρ=>gs (dE ρ)):=.of fun ρ=>As (h (dE ρ)) fun D σ H h_1=>by
 obtain ⟨H0,Hs0,la,Hs,f,q⟩:=h_1;obtain ⟨Hs',f'⟩:=f.shared;exact ⟨H0,Hs0,la,Hs',f',q⟩
def shareAt (i:Nat) (ρ:aD):aD:=match ρ[i]? with
 |some (Sl.own d)=>ρ.set i (.shr d)
 |_=>ρ
theorem Fr.shareAt     (f:Fr K H0 Hs0 la ρ σ H Hs) (i:Nat):∃ Hs',Fr K H0 Hs0 la (J.shareAt i ρ) σ H Hs':=by
 unfold J.shareAt;split
 ·rename_i d ho
  obtain ⟨a,o,k1,k2,k3,k4,k5⟩:=f.ow i d ho;have hil:i<ρ.length:=(List.getElem?_eq_some_iff.mp ho).1;have up:dD Hs (upd Hs a o):=mD k3;have nx:∀ {j:Nat}{s:Sl},(∀ d,s≠.shr d)->(ρ.set i (.shr d))[j]?=some s->ρ[j]?=some s/\i≠j:=fun {j s} hs e=>by
   by_cases hj:i=j
   ·subst hj;rw [aG hil] at e;exact absurd (bQ e).symm (hs d)
   ·rw [aj hj] at e;exact ⟨e,hj⟩
  have ne:∀ (j:Nat) (e:D) (b:am),i≠j->ρ[j]?=some (Sl.own e)->σ[j]?=some (some (V.ref b))->b≠a:=fun j e b hj h hb z=>by
   subst z;exact hj (f.dj i j d e b ho h k1 hb)
  refine ⟨upd Hs a o,⟨f.st.all,f.st.sh.trans up,fun b u e=>?_,fun b u e t z=>?_⟩,by simp [f.len],fun j e h=>?_,fun j e h=>?_,fun j e h=>?_,fun j k d1 d2 b h1 h2 h3 h4=>?_,f.lh,fun j e h=>?_,fun j k d1 d2 h1 h2=>?_⟩
  ·by_cases hb:b=a
   ·subst hb;rw [b9] at e;cases e;exact k2
   ·rw [bd hb] at e;exact f.st.sub b u e
  ·rw [bd (bU e k4)];exact f.st.out b u e t z
  ·by_cases hj:i=j
   ·subst hj;rw [aG hil] at h;cases h;exact ⟨_,k1,k5.share k3⟩
   ·rw [aj hj] at h;obtain ⟨v,q1,q2⟩:=f.sh j e h;exact ⟨v,q1,q2.same up⟩
  ·obtain ⟨h,hj⟩:=nx (fun _ z=>by cases z) h;obtain ⟨b,u,q1,q2,q3,q4,q5⟩:=f.ow j e h;exact ⟨b,u,q1,q2,by rw [bd (ne j e b hj h q1)];exact q3,q4,q5.same up⟩
  ·obtain ⟨h,hj⟩:=nx (fun _ z=>by cases z) h;obtain ⟨b,u,q1,q2,q3,q4,q5,q6⟩:=f.lk j e h;exact ⟨b,u,q1,q2,q3,by rw [bd (bU q5 k4)];exact q4,q5,q6.same up⟩
  ·exact f.dj j k d1 d2 b (nx (fun _ z=>by cases z) h1).1 (nx (fun _ z=>by cases z) h2).1 h3 h4
  ·obtain ⟨h,hj⟩:=nx (fun _ z=>by cases z) h;obtain ⟨b,as,O⟩:=f.o2 j e h;refine ⟨b,as,O.at_,O.ob,O.nd,fun c hc=>⟨?_,(O.out c hc).2⟩,fun c hc k e' hk=>O.dj c hc k e' (nx (fun _ z=>by cases z) hk).1,O.inn.step (.refl _) up⟩;rw [bd (fun z=>O.dj c hc i d ho (by rw [z];exact k1))];exact (O.out c hc).1
  ·exact f.u2 j k d1 d2 (nx (fun _ z=>by cases z) h1).1 (nx (fun _ z=>by cases z) h2).1
 ·exact ⟨Hs,f⟩
theorem Hg (i:Nat)  (h:JS c st gs):JS c st (fun ρ=>gs (shareAt i ρ)):=.of fun ρ=>As (h (shareAt i ρ)) fun D σ H h_2=>by
 obtain ⟨H0,Hs0,la,Hs,f,q⟩:=h_2;obtain ⟨Hs',f'⟩:=f.shareAt i;exact ⟨H0,Hs0,la,Hs',f',q⟩
theorem BA.get    (h:BA K H Hs as dss):∀ {j:Nat}{ds:List D},dss[j]?=some ds->∃ b vs,as[j]?=some b/\H b=some (.lst vs)/\RDs K Hs vs ds:=by
 induction h with
 |nil=>intro j ds e;cases e
 |cons h r t ih =>
  intro j ds e;cases j with
  |zero=>cases e;exact ⟨_,_,rfl,h,r⟩
  |succ j=>have q:=ih (j:=j) e;exact q
theorem BA.set    (r':RDs K Hs vs' ds'):∀ {as:List am}{dss:List (List D)}{j:Nat}{b:am},BA K H Hs as dss->as[j]?=some b->as.Nodup->BA K (L2.upd H b (.lst vs')) Hs as (dss.set j ds')
 |_,_,_,_,.nil,h,_=>by simp at h
 |_,_,0,b,.cons h r t,e,nd=>by
  simp at e;subst e;exact .cons b9 r' (t.upd (List.nodup_cons.mp nd).1)
 |_,_,j+1,b,.cons (a:=a) h r t,e,nd=>by
  have e':_:=e;simp only [jW] at e';obtain ⟨n1,n2⟩:=List.nodup_cons.mp nd;have hb:b∈_:=jb e';exact .cons (by rw [bd (fun z=>n1 (by rw [z];exact hb))];exact h) r (BA.set r' t e' n2)
def oR (i:Nat) (gi g:aD->R D):aD->R Fl:=fun ρ=>match ρ[i]? with
 |some (Sl.ow2 dss)=>(gi ρ).bind fun k=>match k with
  |.int j=>if 0<=j then (match dss[j.toNat]? with
   |some ds=>(g ρ).bind fun d=>if ds.length<1000 then .ok (.nx (ρ.set i (.ow2 (dss.set j.toNat (ds++[d]))))) else .no
   |none=>.no) else .no
  |_=>.no
 |_=>.no
theorem zk (i:Nat) (hie:JE c ie gi) (h:JE c e g) (hN:c.X.N[i]?=some x:=by rfl) (hv:Ml c.X.env.scope x:=by first|exact iz rfl|exact e_ (iz rfl)|exact e_ (e_ rfl)) (hd:(x==("__debug__" : Str))=false:=by decide)
  (hcd:(x==("__classdict__" : Str))=false:=by decide) (hpx:u_ ie:=by exact fun _ _=>rfl)
  (hbase:K4 (.Subscript (.Name x p) ie p3) "append" c.X.env (eD (.Subscript (.Name x p) ie p3) c.X.env)=eD (.Subscript (.Name x p) ie p3) c.X.env:=by rfl)
  (hfew:((iM cpos (aJ [e] c.X.env)).all (fun x=>!x.1)&&(backToKw cpos (Q1 [] c.X.env)).all (fun x=>x.1.isSome)
   && decide ([e].length+([] : List G5).length+(if ([] : List G5).isEmpty then 0 else 1)<30))=true:=by rfl)
  (hline:(apos.endLine==cpos.line)=true:=by rfl) (hst:aJ [e] c.X.env=(false,eD e c.X.env)::aJ [] c.X.env:=by rfl) (hplain:(iM cpos (aJ [] c.X.env)).any (·.1)=false:=by rfl)
  (hs:iq (.Call (.Attribute (.Subscript (.Name x p) ie p3) "append" apos) [e] [] cpos) none pos.line c.X.env=pure false:=by rfl) :
  JS c (.Expr (.Call (.Attribute (.Subscript (.Name x p) ie p3) "append" apos) [e] [] cpos) pos) (oR i gi g):=.of fun ρ=>by
 refine As (Cu (So Bk AC AD Bu (Si sj (q_ hN hv hd hcd) (hie ρ) hpx) (iB (h ρ) kH hst) hbase hfew hline hst hplain) hs) fun D σ H h_3=>?_;obtain ⟨H0,Hs0,la,Hs,f,q⟩:=h_3;replace q:oO c.X.K c.cls c.E H0 Hs0 la D (oR i gi g ρ):=q;unfold oR at q;split at q
 ·rename_i dss ho
  obtain ⟨a,as,O⟩:=f.o2 i dss ho;refine ⟨_,O.at_,?_⟩;refine sE f q fun k v H1 Hs1 e1 s1 f1 r1=>?_;rw [e1,bind_ok] at q;cases r1 with
  |int j =>
   simp only at q;by_cases hj:0<=j
   ·rw [if_pos hj] at q;split at q
    ·rename_i ds hds
     obtain ⟨b,vs,hb,hH,rv⟩:=O.inn.get hds;have hix:DW (as.map V.ref) j=some (.ref b):=by
      have:=si (xs:=as.map V.ref) (j:=j.toNat) (v:=V.ref b) (by rw [aU,hb];rfl)
      rwa [eC hj] at this
     refine ⟨a,_,j,_,rfl,rfl,.of (s1.all _ _ O.ob),hix,.inl ⟨rfl,_,.of (s1.all _ _ hH)⟩,?_⟩;refine sE f1 q fun d w H2 Hs2 e2 s2 f2 r2=>?_;rw [e2,bind_ok] at q;by_cases hl:ds.length<1000
     ·rw [if_pos hl] at q;have st:=s1.trans s2;refine ⟨b,vs,w,rfl,rfl,st.all _ _ hH,eI (by rw [rv.length];omega),?_⟩;have hil:i<ρ.length:=(List.getElem?_eq_some_iff.mp ho).1;obtain ⟨a',as',O2'⟩:=f2.o2 i dss ho;have ea:a'=a:=by
       have:=O2'.at_;rw [O.at_] at this;cases this;rfl
      subst ea;have eas:as'=as:=by
       have h1:=O2'.ob;rw [st.all _ _ O.ob] at h1;injection h1 with h1;injection h1 with h1;exact (LU (fun x y z=>by cases z;rfl) |>.mp h1).symm
      subst eas;have hbm:b∈a'::as':=ai _ (jb hb);have nb:b≠a':=fun z=>(List.nodup_cons.mp O.nd).1 (z ▸ jb hb);obtain ⟨bs,b0⟩:=O2'.out b hbm;have nx:∀ {j':Nat}{s:Sl},(∀ d,s≠.ow2 d)->(ρ.set i (.ow2 (dss.set j.toNat (ds++[d]))))[j']?=some s->ρ[j']?=some s/\i≠j':=fun {j' s} hs e=>by
       by_cases hj:i=j'
       ·subst hj;rw [aG hil] at e;exact absurd (bQ e).symm (hs _)
       ·rw [aj hj] at e;exact ⟨e,hj⟩
      refine q _ _ Hs2 ⟨⟨fun c u e=>?_,f2.st.sh,fun c u e=>?_,f2.st.out⟩,by simp [f2.len],fun j' d' h=>f2.sh j' d' (nx (fun _ z=>by cases z) h).1,fun j' d' h=>?_,fun j' d' h=>?_,fun j' k' d' e' a h1 h2=>f2.dj j' k' d' e' a (nx (fun _ z=>by cases z) h1).1 (nx (fun _ z=>by cases z) h2).1,f2.lh,fun j' d' h=>?_,fun j' k' d' e' h1 h2=>?_⟩
      ·rw [bd (bU e b0)];exact f2.st.all c u e
      ·rw [bd (bU e bs)];exact f2.st.sub c u e
      ·obtain ⟨h,_⟩:=nx (fun _ z=>by cases z) h;obtain ⟨c',u,k1,k2,k3,k4,k5⟩:=f2.ow j' d' h;refine ⟨c',u,k1,?_,k3,k4,k5⟩;rw [bd (fun z=>O2'.dj b hbm j' d' h (by rw [<- z];exact k1))];exact k2
      ·obtain ⟨h,_⟩:=nx (fun _ z=>by cases z) h;obtain ⟨c',u,k1,k2,k3,k4,k5,k6⟩:=f2.lk j' d' h;refine ⟨c',u,k1,k2,?_,k4,k5,k6⟩;rw [bd (bU k5 b0)];exact k3
      ·by_cases hj':i=j'
       ·subst hj';rw [aG hil] at h;cases h;refine ⟨a',as',O2'.at_,by rw [bd (cY nb)];exact O2'.ob,O2'.nd,O2'.out,fun c hc k e' hk=>O2'.dj c hc k e' (nx (fun _ z=>by cases z) hk).1,?_⟩;exact BA.set ((rv.same st.sh).append (.cons r2 .nil)) O2'.inn hb (List.nodup_cons.mp O2'.nd).2
       ·rw [aj hj'] at h;exact (hj' (f2.u2 i j' _ _ ho h)).elim
      ·by_cases hj':i=j'
       ·by_cases hk':i=k'
        ·exact hj'.symm.trans hk'
        ·rw [aj hk'] at h2;exact (hk' (f2.u2 i k' _ _ ho h2)).elim
       ·rw [aj hj'] at h1;exact (hj' (f2.u2 i j' _ _ ho h1)).elim
     ·rw [if_neg hl] at q;exact q.elim
    ·exact q.elim
   ·rw [if_neg hj] at q;exact q.elim
  |none=>exact q.elim
  |bool _=>exact q.elim
  |str _=>exact q.elim
  |list _ _=>exact q.elim
  |tuple _ _=>exact q.elim
  |dictK _ _=>exact q.elim
  |dictT _ _ _=>exact q.elim
  |dictF _ _ _=>exact q.elim
 ·exact q.elim
end
end
section
open PyProof.Rows (OwnCls)
section
end
section
end
section
end
end
section
structure Bi (mg:Str->Option af):Prop where
 len:mg "len"=none
 isinstance:mg "isinstance"=none
 all:mg "all"=none
 any:mg "any"=none
 zip:mg "zip"=none
 tuple:mg "tuple"=none
 list:mg "list"=none
 sorted:mg "sorted"=none
 set:mg "set"=none
 range:mg "range"=none
 enumerate:mg "enumerate"=none
 dict:mg "dict"=none
 sum:mg "sum"=none
 max:mg "max"=none
 min:mg "min"=none
 reversed:mg "reversed"=none
 str:mg "str"=none
 int:mg "int"=none
 bool:mg "bool"=none
end
section
def bits (j:Nat):List Bool:=[decide (0=j),decide (1=j),decide (2=j),decide (3=j),decide (4=j),decide (5=j),decide (6=j),decide (7=j),decide (8=j),decide (9=j),decide (10=j)]
section
end
end
end J
section
namespace J
open PySem L2
section
end
end J
namespace L2
open PySem
end L2
end
namespace J
open PySem L2
section
open PyProof.Rows (OwnCls)
abbrev Rb:List af:=[.type "ValueError",.type "Exception",.type "BaseException",.type "object"]
structure TopC (K:a8) (x:Str) (C:am):Prop where
 ns:i7 K bX x=some (some (.ref C))
 ex:PySem.W.excIn K C Rb "ValueError.__new__"=true
 mb:io K C (.type "BaseException")=some true
inductive Wp (K:a8) (F:List D->R D) (vs:List V) (H:Hp) (Q:VK) (z_3:XK):Prop
 |mk (Hs ds d:_) (h0:dD Hs H) (h1:ds.length=1) (h2:RDs K Hs vs ds) (h3:F ds=.ok d) (h4:∀ v H' Hs',cP H Hs H' Hs'->RD K Hs' v d->Q v H'):Wp K F vs H Q z_3
def Wq (K:a8) (F:List D->R D):Sp:=Wp K F
theorem UA   : ∀ vs H Q E,Wq K F vs H Q E->Nk K cls 1 F vs H Q E:=fun vs H Q E ⟨Hs,ds,d,s,l,r,e,q⟩=>⟨Hs,ds,s,l,r,by rw [e];exact q⟩
def Wr (l:List (Str×am)):Str->am:=fun x=>(l.lookup x).getD 0
theorem UB {K:a8}{F:List D->R D}{H:Hp}{a:am}{ns:List Int} (hF:F [.list (ns.map .int)]=.ok (.bool true)) (h:qB K H a (ns.map V.int)):Wq K F [.ref a] H (fun v _=>v=.bl true) fun _ _ _=>False:=by
 have ri:∀ ns:List Int,RDs K H (ns.map V.int) (ns.map .int):=fun ns=>by
  induction ns with
  |nil=>exact .nil
  |cons x r ih=>exact .cons (.int x) ih
 refine ⟨H,[.list (ns.map .int)],.bool true,.refl H,rfl,.cons (.list h (ri ns)) .nil,hF,?_⟩;intro v H' Hs' _ r;cases r;rfl
theorem UC      (h:vh P w [] H s (fun _ _ _=>False) e s'):False:=by
 obtain ⟨_,_,_,_,_,_,_,_,_,q⟩:=h;exact q
theorem walkF {l:xG}{k:Nat}{q:bq}{loose:List Str}{XP:(Str->Option af)->bT->Prop}{YP:bL->bT->Prop}{d:DefRec}{K:Params->a8}{x:Str}{F0:List D->R D}
  (hn:l.most=some 63) (hdf:d.params.defaults=[]) (hr:jR k xg) (hY:∀ (w:bL) (h:bT),YP w h->(K w.params).In h)
  (F:∀ (w:bL) (mg:Str->Option af) (fa:am) (h:bT),(K w.params).In h->h.Ns bX mg->mg d.name=some (.ref fa) ->
   ∃ fd:fz,(∀ (s:al) (u:af),Av s fd ⟨[u],[]⟩ [(x,u)])/\∀ base:bT,(K w.params).In base->base.Ns bX mg->pG l.prog w (K w.params) mg base (vh l.prog w) k fa fd [x] (Wq (K w.params) F0))
  (hF:∀ ns:List Int,ns.length<=63->F0 [.list (ns.map .int)]=.ok (.bool true)) :
  PK q loose XP YP l.row.toRowW d [] (fun f vs=>K5 f vs) :=
 L2.QK (n:=63) (k:=k) (x:=x) (CX:=fun w=>vh l.prog w) (sp:=fun w=>Wq (K w.params) F0) hn (by decide) hdf hr hY F (fun w H a ns hl _ hS=>UB (hF ns hl) hS) fun _ _ _ _ _ h=>UC h
def SH (i:Nat) (g:aD->R Fl):aD->R Fl:=fun ρ=>g (shareAt i ρ)
theorem Hh (i:Nat)  (h:JS c st gs):JS c st (SH i gs):=Hg i h
end
section
section
theorem zm {α β:Type} (a:α) (f:α->R β):(R.ok a).bind f=f a:=id rfl
def NA (h:aD->R Fl):Fl->R Fl:=fun fl=>match fl with
 |.nx ρ'=>h ρ'
 |fl=>.ok fl
theorem zo (g h:aD->R Fl):aX g h (s::ρ)=(g (s::ρ)).bind (NA h):=id rfl
theorem vo (h:aD->R Fl) (ρ:aD):NA h (.nx ρ)=h ρ:=id rfl
theorem EK (h:aD->R Fl) (d:D):NA h (.rt d)=.ok (.rt d):=id rfl
def Yt (g h:aD->R Fl) (ρ:aD):Bool->R Fl:=fun b=>bif b then g ρ else h ρ
theorem Ws (t:aD->R Bool) (g h:aD->R Fl):ft t g h (s::ρ)=(t (s::ρ)).bind (Yt g h (s::ρ)):=by
 show (t (s::ρ)).bind _=_;congr 1;funext b;cases b<;>rfl
theorem NB (g h:aD->R Fl) (ρ:aD):Yt g h ρ false=h ρ:=id rfl
theorem NC (g h:aD->R Fl) (ρ:aD) (b:Bool):Yt g h ρ b=bif b then g ρ else h ρ:=id rfl
def Z9:D->R Fl:=fun d=>.ok (.rt d)
theorem SJ (g:aD->R D):cH g (s::ρ)=(g (dE (s::ρ))).bind Z9:=id rfl
theorem Wt (d:D):Z9 d=.ok (.rt d):=id rfl
def zq:Sl->Sl
 |.own d=>.shr d
 |.ow2 dss=>.shr (.list (dss.map .list))
 |s=>s
theorem IU:dE (s::ρ)=zq s::dE ρ:=by cases s<;>rfl
theorem EL:dE []=[]:=id rfl
theorem IV:zq .no=.no:=id rfl
theorem EM (d:D):zq (.shr d)=.shr d:=id rfl
theorem EN (d:D):zq (.own d)=.shr d:=id rfl
theorem EO (d:List (List D)):zq (.ow2 d)=.shr (.list (d.map .list)):=id rfl
def Wu (i:Nat) (ρ:aD):D->R Fl:=fun d=>.ok (.nx (ρ.set i (.shr d)))
theorem ND (i:Nat) (g:aD->R D):gP i g (s::ρ)=(g (s::ρ)).bind (Wu i (s::ρ)):=id rfl
theorem NE (i:Nat) (ρ:aD) (d:D):Wu i ρ d=.ok (.nx (ρ.set i (.shr d))):=id rfl
def SK (i:Nat) (ρ:aD):D->R Fl:=fun d=>.ok (.nx (ρ.set i (.own d)))
theorem NF (i:Nat) (g:aD->R D):gU i g (s::ρ)=(g (s::ρ)).bind (SK i (s::ρ)):=id rfl
theorem IW (i:Nat) (ρ:aD) (d:D):SK i ρ d=.ok (.nx (ρ.set i (.own d))):=id rfl
def MI (ρ:aD):D->R Fl:=fun _=>.ok (.nx ρ)
theorem NG (g:aD->R D):rz g (s::ρ)=(g (s::ρ)).bind (J.MI (s::ρ)):=id rfl
theorem IX (ρ:aD) (d:D):J.MI ρ d=.ok (.nx ρ):=id rfl
def Za (gb:aD->R D) (h:D->D->R D) (ρ:aD):D->R D:=fun x=>(gb ρ).bind (h x)
theorem Wv (ga gb:aD->R D) (h:D->D->R D):g2 ga gb h (s::ρ)=(ga (s::ρ)).bind (Za gb h (s::ρ)):=id rfl
theorem SL (gb:aD->R D) (h:D->D->R D) (ρ:aD) (x:D):Za gb h ρ x=(gb ρ).bind (h x):=id rfl
def NH:D->R Bool:=fun d=>match d with
 |.bool b=>.ok b
 |_=>.no
theorem SM (g:aD->R D):g9 g (s::ρ)=(g (s::ρ)).bind NH:=id rfl
theorem NI (b:Bool):NH (.bool b)=.ok b:=id rfl
def Ww:Bool->R Bool:=fun b=>.ok (!b)
theorem SO (g:aD->R Bool):jT g (s::ρ)=(g (s::ρ)).bind Ww:=id rfl
theorem NJ (b:Bool):Ww b=.ok (!b):=id rfl
def Wx (h:aD->R Bool) (ρ:aD):Bool->R Bool:=fun b=>bif b then h ρ else .ok false
def Zb (h:aD->R Bool) (ρ:aD):Bool->R Bool:=fun b=>bif b then .ok true else h ρ
theorem SQ (g h:aD->R Bool):GX g h (s::ρ)=(g (s::ρ)).bind (Wx h (s::ρ)):=by
 show (g (s::ρ)).bind _=_;congr 1;funext b;cases b<;>rfl
theorem Wz (g h:aD->R Bool):KJ g h (s::ρ)=(g (s::ρ)).bind (Zb h (s::ρ)):=by
 show (g (s::ρ)).bind _=_;congr 1;funext b;cases b<;>rfl
theorem NK (h:aD->R Bool) (ρ:aD) (b:Bool):Wx h ρ b=bif b then h ρ else .ok false:=id rfl
theorem SS (h:aD->R Bool) (ρ:aD) (b:Bool):Zb h ρ b=bif b then .ok true else h ρ:=id rfl
def SU:Bool->R D:=fun b=>.ok (.bool (!b))
theorem NL (g:aD->R D):Ex g (s::ρ)=((g (s::ρ)).bind NH).bind SU:=id rfl
theorem IY (b:Bool):SU b=.ok (.bool (!b)):=id rfl
def SW (h:aD->R D) (ρ:aD):Bool->R D:=fun b=>bif b then h ρ else .ok (.bool false)
def WA (h:aD->R D) (ρ:aD):Bool->R D:=fun b=>bif b then .ok (.bool true) else h ρ
theorem NM (g h:aD->R D):tN g h (s::ρ)=((g (s::ρ)).bind NH).bind (SW h (s::ρ)):=by
 show (g9 g (s::ρ)).bind _=(g9 g (s::ρ)).bind _;congr 1;funext b;cases b<;>rfl
theorem SX (g h:aD->R D):QV g h (s::ρ)=((g (s::ρ)).bind NH).bind (WA h (s::ρ)):=by
 show (g9 g (s::ρ)).bind _=(g9 g (s::ρ)).bind _;congr 1;funext b;cases b<;>rfl
theorem IZ (h:aD->R D) (ρ:aD) (b:Bool):SW h ρ b=bif b then h ρ else .ok (.bool false):=id rfl
theorem NN (h:aD->R D) (ρ:aD) (b:Bool):WA h ρ b=bif b then .ok (.bool true) else h ρ:=id rfl
def WB (g h:aD->R D) (ρ:aD):Bool->R D:=fun b=>bif b then g ρ else h ρ
theorem SY (t:aD->R Bool) (g h:aD->R D):Wa t g h (s::ρ)=(t (s::ρ)).bind (WB g h (s::ρ)):=by
 show (t (s::ρ)).bind _=_;congr 1;funext b;cases b<;>rfl
theorem NO (g h:aD->R D) (ρ:aD) (b:Bool):WB g h ρ b=bif b then g ρ else h ρ:=id rfl
def WC (gb gc:aD->R D) (h h':D->D->R D) (ρ:aD):D->R D:=fun x=>(gb ρ).bind fun y=>(h x y).bind fun z=>match z with
 |.bool true=>(gc ρ).bind fun w=>h' y w
 |.bool false=>.ok (.bool false)
 |_=>.no
def WD (gc:aD->R D) (h h':D->D->R D) (ρ:aD) (x:D):D->R D:=fun y=>(h x y).bind fun z=>match z with
 |.bool true=>(gc ρ).bind fun w=>h' y w
 |.bool false=>.ok (.bool false)
 |_=>.no
def WE (gc:aD->R D) (h':D->D->R D) (ρ:aD) (y:D):D->R D:=fun z=>match z with
 |.bool true=>(gc ρ).bind (h' y)
 |.bool false=>.ok (.bool false)
 |_=>.no
theorem I_ (ga gb gc:aD->R D) (h h':D->D->R D):ro ga gb gc h h' (s::ρ)=(ga (s::ρ)).bind (WC gb gc h h' (s::ρ)):=id rfl
theorem NQ (gb gc:aD->R D) (h h':D->D->R D) (ρ:aD) (x:D):WC gb gc h h' ρ x=(gb ρ).bind (WD gc h h' ρ x):=id rfl
theorem NR (gc:aD->R D) (h h':D->D->R D) (ρ:aD) (x y:D):WD gc h h' ρ x y=(h x y).bind (WE gc h' ρ y):=id rfl
theorem NS (gc:aD->R D) (h':D->D->R D) (ρ:aD) (y:D) (b:Bool):WE gc h' ρ y (.bool b)=bif b then (gc ρ).bind (h' y) else .ok (.bool false):=by cases b<;>rfl
def NT (gs:aD->R (List D)) (ρ:aD):D->R (List D):=fun d=>(gs ρ).bind fun ds=>.ok (d::ds)
def NU (d:D):List D->R (List D):=fun ds=>.ok (d::ds)
theorem NV (g:aD->R D) (gs:aD->R (List D)):J.ae g gs (s::ρ)=(g (s::ρ)).bind (NT gs (s::ρ)):=id rfl
theorem EQ (gs:aD->R (List D)) (ρ:aD) (d:D):NT gs ρ d=(gs ρ).bind (NU d):=id rfl
theorem ER (d:D) (ds:List D):NU d ds=.ok (d::ds):=id rfl
theorem SZ (ρ:aD):J.aI ρ=.ok []:=id rfl
def S_ (k:List D->D):List D->R D:=fun ds=>if ds.length<=1000 then .ok (k ds) else .no
theorem NW (gs:aD->R (List D)) (k:List D->D):fj gs k (s::ρ)=(gs (s::ρ)).bind (S_ k):=id rfl
theorem J4 (k:List D->D) (ds:List D):S_ k ds=if ds.length<=1000 then .ok (k ds) else .no:=id rfl
theorem NX (gs:aD->R (List D)) (h:List D->R D):c8 gs h (s::ρ)=(gs (s::ρ)).bind h:=id rfl
def Zc (n:Nat) (F:List D->R D):List D->R D:=fun ds=>if ds.length=n then F ds else .no
theorem WF (n:Nat) (F:List D->R D) (gs:aD->R (List D)):dU n F gs (s::ρ)=(gs (s::ρ)).bind (Zc n F):=id rfl
theorem T1 (n:Nat) (F:List D->R D) (ds:List D):Zc n F ds=if ds.length=n then F ds else .no:=id rfl
theorem T2 (h:D->R D) (d:D):iD h [d]=h d:=id rfl
theorem NY (d:D) (ρ:aD):Gf (.shr d::ρ) 0=.ok d:=id rfl
theorem T3 (s:Sl) (ρ:aD) (n:Nat):Gf (s::ρ) (n+1)=Gf ρ n:=by simp [Gf]
theorem NZ (d:D) (ρ:aD):Gg (.shr d::ρ) 0=.ok d:=id rfl
theorem N_ (d:D) (ρ:aD):Gg (.own d::ρ) 0=.ok d:=id rfl
theorem T4 (s:Sl) (ρ:aD) (n:Nat):Gg (s::ρ) (n+1)=Gg ρ n:=by simp [Gg]
def WG (T:String):D->R D:=fun d=>if rj d then .ok (.bool (C_ T d)) else .no
theorem T5 (g:aD->R D) (T:String):wA g T (s::ρ)=(g (s::ρ)).bind (WG T):=id rfl
theorem O0 (T:String) (d:D):WG T d=if rj d then .ok (.bool (C_ T d)) else .no:=id rfl
def WH (gl gh:aD->R (Option Int)) (ρ:aD):D->R D:=fun x=>(gl ρ).bind fun l=>(gh ρ).bind fun h=>Hc x l h
def WI (gh:aD->R (Option Int)) (ρ:aD) (x:D):Option Int->R D:=fun l=>(gh ρ).bind fun h=>Hc x l h
theorem WJ (g:aD->R D) (gl gh:aD->R (Option Int)):QZ g gl gh (s::ρ)=(g (s::ρ)).bind (WH gl gh (s::ρ)):=id rfl
theorem O1 (gl gh:aD->R (Option Int)) (ρ:aD) (x:D):WH gl gh ρ x=(gl ρ).bind (WI gh ρ x):=id rfl
theorem O3 (gh:aD->R (Option Int)) (ρ:aD) (x:D) (l:Option Int):WI gh ρ x l=(gh ρ).bind (Hc x l):=id rfl
theorem T6 (ρ:aD):Vl ρ=.ok none:=id rfl
def WK:D->R (Option Int):=fun d=>match d with
 |.int i=>.ok (some i)
 |_=>.no
theorem T7 (g:aD->R D):Ni g (s::ρ)=(g (s::ρ)).bind WK:=id rfl
theorem O4 (i:Int):WK (.int i)=.ok (some i):=id rfl
theorem UD (g:aD->R D):k7 g (s::ρ)=(g (s::ρ)).bind yW:=id rfl
theorem O5 (gs:aD->R (List D)):yX gs (s::ρ)=(gs (s::ρ)).bind Hd:=id rfl
theorem T8 (gs:aD->R (List D)):He gs (s::ρ)=(gs (s::ρ)).bind Xz:=id rfl
theorem T9 (gs:aD->R (List D)):R5 gs (s::ρ)=(gs (s::ρ)).bind zp:=id rfl
def Ta (nt:Nat) (ix:List Nat) (gt:aD->R Bool) (ge:aD->R D) (ρ:aD):List D->R D:=fun ds=>if ds.length<=1000 then (hG (iE nt (oP nt ix ρ) gt ge) ds).bind fun ys=>.ok (.list ys) else .no
def Tb:List D->R D:=fun ys=>.ok (.list ys)
theorem O6 (nt:Nat) (ix:List Nat) (gi:aD->R (List D)) (gt:aD->R Bool) (ge:aD->R D):dY nt ix gi gt ge (s::ρ)=(gi (s::ρ)).bind (Ta nt ix gt ge (s::ρ)):=id rfl
theorem J5 (nt:Nat) (ix:List Nat) (gt:aD->R Bool) (ge:aD->R D) (ρ:aD) (ds:List D):Ta nt ix gt ge ρ ds=if ds.length<=1000 then (hG (iE nt (oP nt ix ρ) gt ge) ds).bind Tb else .no:=id rfl
theorem J6 (ys:List D):Tb ys=.ok (.list ys):=id rfl
theorem tQ (gi:aD->R (List D)) (kt:D->aD->R aD) (gb:aD->R Fl) (ds:List D) (h:gi (s::ρ)=.ok ds):rF gi kt gb (s::ρ)=jo kt gb ds (s::ρ):=by unfold rF;rw [h]
def O7 (k:D->aD->R aD) (ρ:aD):D->R Fl:=fun d=>match k d ρ with
 |.ok ρ'=>.ok (.nx ρ')
 |_=>.no
theorem Tc (g:aD->R D) (k:D->aD->R aD):AV g k (s::ρ)=(g (s::ρ)).bind (O7 k (s::ρ)):=id rfl
theorem BH (ds:List D):yW (.list ds)=.ok ds:=id rfl
theorem BI (ds:List D):yW (.tuple ds)=.ok ds:=id rfl
theorem BJ (x:Str):yW (.str x)=.ok (og x):=id rfl
theorem O8 (ds:List D):Xz [.tuple ds]=.ok (qD 0 ds):=id rfl
theorem WL (ds es:List D):zp [.tuple ds,.tuple es]=.ok (xT ds es):=id rfl
def BK (ρ:aD) (i:Nat):Sl:=R7 ((ρ[i]?).getD .no)
def O9 (ix:List Nat) (ρ:aD):aD:=ix.map (BK ρ)
theorem Oa (ix:List Nat) (ρ:aD):oP 1 ix ρ=.no::O9 ix ρ:=id rfl
theorem Ob (ix:List Nat) (ρ:aD):oP 2 ix ρ=.no::.no::O9 ix ρ:=id rfl
theorem Oc (ρ:aD):O9 [] ρ=[]:=id rfl
theorem Od (i:Nat) (ix:List Nat) (ρ:aD):O9 (i::ix) ρ=BK ρ i::O9 ix ρ:=id rfl
theorem Oe (s:Sl) (ρ:aD):BK (s::ρ) 0=R7 s:=id rfl
theorem Of (s:Sl) (ρ:aD) (n:Nat):BK (s::ρ) (n+1)=BK ρ n:=by simp [BK]
theorem BL (d:D):R7 (.shr d)=.shr d:=id rfl
theorem D9   (h:ρ[i]?=some (Sl.own d)):shareAt i ρ=ρ.set i (.shr d):=by unfold shareAt;rw [h]
theorem dq {α:Type} (f:D->R (Option D)) (c:α->D) (h:α->D):∀ (xs:List α),(∀ x∈xs,f (c x)=.ok (some (h x)))->hG f (xs.map c)=.ok (xs.map h)
 |[],_=>rfl
 |x::r,e=>by
  rw [av,av];unfold hG;rw [e x ak,bind_ok,dq f c h r fun y hy=>e y (ai _ hy),bind_ok]
theorem eQ {α:Type} (f:D->R (Option D)) (c:α->D) (h:α->D) (p:α->Bool):∀ (xs:List α),(∀ x∈xs,f (c x)=.ok (if p x then some (h x) else none))->hG f (xs.map c)=.ok ((xs.filter p).map h)
 |[],_=>rfl
 |x::r,e=>by
  rw [av];unfold hG;rw [e x ak,bind_ok,eQ f c h p r fun y hy=>e y (ai _ hy),bind_ok];cases hp:p x<;>simp [hp]
theorem Td    : iE 1 ρ gt ge d=yZ (((gt (ρ.set 0 (.shr d)))).bind fun b=>if b then (ge (ρ.set 0 (.shr d))).bind fun y=>.ok (some y) else .ok none):=id rfl
theorem fh    (h1:gt (ρ.set 0 (.shr d))=.ok true) (h2:ge (ρ.set 0 (.shr d))=.ok y):iE 1 ρ gt ge d=.ok (some y):=by
 rw [Td,h1,bind_ok,if_pos rfl,h2];rfl
theorem lY     (h1:gt (ρ.set 0 (.shr d))=.ok b) (h2:b=true->ge (ρ.set 0 (.shr d))=.ok y):iE 1 ρ gt ge d=.ok (if b then some y else none):=by
 rw [Td,h1,bind_ok];cases b with
 |true=>rw [if_pos rfl,h2 rfl];rfl
 |false=>rfl
theorem Rc (h1:-(2 ^ 62)<=j) (h2:j<2 ^ 62):Hd [.int j]=.ok (rE 0 j.toNat):=by
 have h:-(2 ^ 62)<=j/\j<2 ^ 62:=⟨h1,h2⟩;unfold Hd;split
 ·rename_i j' e
  have e':j=j':=by injection e with e;injection e
  subst e';rw [if_pos h]
 ·rename_i hn
  exact (hn j rfl).elim
end
end
end J
section
namespace L2
open PySem PySem.Spec PyProof.Rows
theorem Og {X:Cx}{CX:LX}{k i:Nat}{f:am}{fd:fz}{ps:List Str}{sp:Sp}{x:Str}{p pos:Pos}{e:bY}{es:List bY}{t:TA}{E:XK}{ds:List af}{dvs:List V}
  (F:pG X.prog X.w X.K X.mg X.base CX k f fd ps sp) (hr:jR k X.A) (hN:X.N[i]?=some x) (hv:Ml X.env.scope x) (hk:dB X.K (.ref f)=true) (hb:jG X.K fd ps ds) (hd:dC dvs ds) (hx:mC CX X E)
  (ha:PA X (e::es) t) (hdb:(x==("__debug__" : Str))=false:=by decide) (hcd:(x==("__classdict__" : Str))=false:=by decide) (he:aJ (e::es) X.env=(false,eD e X.env)::aJ es X.env:=by rfl) (hpl:(iM pos (aJ es X.env)).any (·.1)=false:=by rfl) :
  PE X (.Call (.Name x p) (e::es) [] pos) (fun σ H Q=>σ[i]?=some (some (V.ref f))/\MA sp dvs E t σ H Q):=by
 intro pins s σ H Q I ⟨hi,h⟩;refine pB (fR (q_ hN hv hdb hcd pins s σ H (fun v H'=>v=V.ref f/\H'=H) I ⟨.ref f,hi,rfl,rfl⟩) fun u s0 ⟨v,H0,I0,r0,ev,eh⟩=>?_);subst ev eh;cases r0;refine Gm (h₀:=X.base) I0.ok.mod.kin hk (fR (ha pos pins s0 σ H0 _ I0 h) fun us s1 ⟨vs,H1,I1,r,q⟩=>⟨I1.kIn,?_⟩) he hpl;exact MB F hr hb hd hx I1 r q
end L2
namespace J
open PySem L2
open PyProof.Rows (envOfC)
def Zd (wh:Str->Option Nat):R D->R D
 |.ok d=>.ok d
 |.ex y none=>match wh y with
  |some j=>.ok (.tuple [.str "refused",.int (j:Nat)])
  |none=>.no
 |_=>.no
def Ze (K:a8) (cls:Str->am) (n:Nat) (a:am) (F:List D->R D):Sp:=fun vs H Q E=>∃ vs',vs=V.ref a::vs'/\Nk K cls n F vs' H Q E
structure XB (P:bq) (w:bL) (K:a8) (mg:Str->Option af) (base:bT) (cls:Str->am) (x y:Str) (k n:Nat) (F:List D->R D):Prop where
 ex:∃ f fd ps a,pG P w K mg base (vh P w) k f fd ps (Ze K cls n a F)/\mg x=some (.ref f)/\dB K (.ref f)=true/\jG K fd ps []/\mg y=some (.ref a)
section
theorem Re  (G:XB c.X.prog c.X.w c.X.K c.X.mg c.X.base c.cls x y k n F) (hr:jR k c.X.A) (hg:Gl c.X x) (hgy:Gl c.X y) (hx:mC (vh c.X.prog c.X.w) c.X c.E) (ha:Ge c es gs)
  (hdb:(x==("__debug__" : Str))=false:=by decide) (hdy:(y==("__debug__" : Str))=false:=by decide) (he:aJ (.Name y q::es) c.X.env=(false,eD (.Name y q) c.X.env)::aJ es c.X.env:=by rfl) (hpl:(iM pos (aJ es c.X.env)).any (·.1)=false:=by rfl) :
  JE c (.Call (.Name x p) (.Name y q::es) [] pos) (dU n F gs):=.of fun ρ=>by
 obtain ⟨f,fd,ps,a,hf,hm,hk,hb,hy⟩:=G.ex;refine sv (Iz (E:=c.E) hf hr hg hm hk hb .nil hx (iB (Ix (v:=.ref a) hgy hy rfl hdy) (ha ρ) he) hdb he hpl) fun σ H Q h_0=>?_;obtain ⟨H0,Hs0,la,Hs,fr,q⟩:=h_0;show Vj c.X.K c.cls c.E ρ (gs ρ) σ H fun xs H2=>Ze c.X.K c.cls n a F (V.ref a::xs++[]) H2 Q c.E;refine CU fr q fun ds vs H1 Hs1 e1 s1 f1 r1=>?_;unfold dU at q;rw [e1,bind_ok] at q;by_cases hn:ds.length=n
 ·rw [if_pos hn] at q;rw [cS];exact ⟨vs,rfl,Hs1,ds,f1.st.sub,hn,r1,q.on s1 fun d k v H2 Hs2 s2 r2=>k v H2 Hs2 (s1.trans s2) r2⟩
 ·rw [if_neg hn] at q;exact q.elim
theorem UE {i k n:Nat}{F:List D->R D}{f:am}{fd:fz}{ps:List Str} (hf:pG c.X.prog c.X.w c.X.K c.X.mg c.X.base (vh c.X.prog c.X.w) k f fd ps (Nk c.X.K c.cls n F)) (hk:dB c.X.K (.ref f)=true) (hb:jG c.X.K fd ps []) (hr:jR k c.X.A) (hx:mC (vh c.X.prog c.X.w) c.X c.E) (ha:Ge c (e::es) gs)
  (hN:c.X.N[i]?=some x:=by rfl) (hv:Ml c.X.env.scope x:=by first|exact iz rfl|exact e_ (iz rfl)|exact e_ (e_ rfl)) (hdb:(x==("__debug__" : Str))=false:=by decide) (hcd:(x==("__classdict__" : Str))=false:=by decide) (he:aJ (e::es) c.X.env=(false,eD e c.X.env)::aJ es c.X.env:=by rfl) (hpl:(iM pos (aJ es c.X.env)).any (·.1)=false:=by rfl) (ρ:aD) :
  PS c.X (.Return (some (.Call (.Name x p) (e::es) [] pos)) rpos) (fun D σ H=>σ[i]?=some (some (V.ref f))/\SR c.X.K c.cls c.E ρ (cH (dU n F gs) ρ) D σ H):=by
 refine As (Mo (Og (E:=c.E) hf hr hN hv hk hb .nil hx (ha (dE ρ)) hdb hcd he hpl)) fun D σ H ⟨hi,H0,Hs0,la,Hs,fr,q⟩=>⟨hi,?_⟩;obtain ⟨Hs',f'⟩:=fr.shared;have t:TR c.X.K c.cls c.E (dE ρ) (dU n F gs (dE ρ)) σ H D.rt:=sE f' q fun d v H1 Hs1 e1 s1 f1 r1=>by
  unfold cH at q;rw [e1,bind_ok] at q;exact q v H1 Hs1 f1.st r1
 clear q f' fr;obtain ⟨H0,Hs0,la,Hs,fr,q⟩:=t;show Vj c.X.K c.cls c.E (dE ρ) (gs (dE ρ)) σ H fun xs H2=>Nk c.X.K c.cls n F (xs++[]) H2 D.rt c.E;refine CU fr q fun ds vs H1 Hs1 e1 s1 f1 r1=>?_;unfold dU at q;rw [e1,bind_ok] at q;by_cases hn:ds.length=n
 ·rw [if_pos hn] at q;rw [cS];exact ⟨Hs1,ds,f1.st.sub,hn,r1,q.on s1 fun d k v H2 Hs2 s2 r2=>k v H2 Hs2 (s1.trans s2) r2⟩
 ·rw [if_neg hn] at q;exact q.elim
end
section
variable {c:C}{body:List db}{x n:Str}{np np2 np3 hpos cpos rpos pos:Pos}{gb:aD->R Fl}{names:List Str}{wh:Str->Option Nat}
end
theorem Fr.consNo     (f:Fr K H0 Hs0 (fun _=>none) ρ σ H Hs):Fr K H0 Hs0 (fun _=>none) (.no::ρ) (some v::σ) H Hs:=by
 refine ⟨f.st,congrArg (· + 1) f.len,fun i d h=>?_,fun i d h=>?_,fun i d h=>?_,fun i j d e a h1 h2 h3 h4=>?_,fun i a h=>(nomatch h),fun i d h=>?_,fun i j d e h1 h2=>?_⟩
 ·cases i with
  |zero=>cases h
  |succ i=>exact f.sh i d h
 ·cases i with
  |zero=>cases h
  |succ i=>exact f.ow i d h
 ·cases i with
  |zero=>cases h
  |succ i=>exact f.lk i d h
 ·cases i with
  |zero=>cases h1
  |succ i =>
   cases j with
   |zero=>cases h2
   |succ j=>exact congrArg (· + 1) (f.dj i j d e a h1 h2 h3 h4)
 ·cases i with
  |zero=>cases h
  |succ i =>
   obtain ⟨a,as,o⟩:=f.o2 i d h;refine ⟨a,as,o.at_,o.ob,o.nd,o.out,fun b hb j e h1=>?_,o.inn⟩;cases j with
   |zero=>cases h1
   |succ j=>exact o.dj b hb j e h1
 ·cases i with
  |zero=>cases h1
  |succ i =>
   cases j with
   |zero=>cases h2
   |succ j=>exact congrArg (· + 1) (f.u2 i j d e h1 h2)
def Rf (n:Nat) (g:aD->R Fl):List D->R D:=fun ds=>match g (.no::bv n ds) with
 |.ok (.nx _)=>.ok .none
 |.ok (.rt d)=>.ok d
 |.ex c m=>.ex c m
 |_=>.no
theorem Rg              (Fu:IC K x qual st f fd) (S:br (x0::N) ps (aw st)) (hm:mg x=some (.ref f)) (hb:jG K fd ps []) (hy:mg y=some (.ref a)) (hps:ps.length=n+1)
  (h:∀ (cdv:af) (A:cy) (outer:List Env) (s:al) (H:Hp) (E:XK),jR k (A.deeper (qT qual (aw st) s.heap.objs.size f cdv))->∀ ρ,E6 (uX (vh P w) P w K mg base (x0::N) qual (aw st) f cdv A outer s H E) (i8 st) (fun D σ H=>σ[0]?=some (some (V.ref a))/\SR K cls E ρ (g ρ) D σ H))
  (hF:∀ ds,ds.length=n->Rf N.length g ds=F ds):XB P w K mg base cls x y (k+1) n F:=by
 refine ⟨f,fd,ps,a,?_,hm,Fu.kp,hb,hy⟩;obtain ⟨oc,od,kV,doc,pm,an,cdv,ct,osl,rfl,lk,hcd⟩:=Fu.ex;refine Sg lk hcd S (fun vs H Q E h_2=>by obtain ⟨vs',e,Hs,ds,sub,hn,r,q⟩:=h_2;exact by rw [e,aP,r.length,hn,hps]) fun A outer s H vs Q E hr hsp=>?_;obtain ⟨vs',rfl,Hs,ds,sub,hn,r,q⟩:=hsp;have fs:Fr K H Hs (fun _=>none) (.no::bv N.length ds) (L2.start (x0::N) (V.ref a::vs')) H Hs:=by
  have:=(Fr.start (N:=N) sub r).consNo (v:=V.ref a);have e:L2.start (x0::N) (V.ref a::vs')=some (V.ref a)::L2.start N vs':=by
   unfold L2.start;rw [av,aP,aP,Nat.add_sub_add_right];rfl
  rw [e];exact this
 refine ⟨_,h cdv A outer s H E hr (.no::bv N.length ds),rfl,H,Hs,_,Hs,fs,?_⟩;rw [<- hF ds hn] at q;unfold Rf at q;cases hg:g (.no::bv N.length ds) with
 |no=>rw [hg] at q;exact q
 |ex c n=>rw [hg] at q;exact q
 |ok fl =>
  rw [hg] at q;cases fl with
  |nx ρ'=>exact fun σ' H' Hs' f'=>q .non H' Hs' f'.st .none
  |rt d=>exact fun v H' Hs' s r=>q v H' Hs' s r
  |bk ρ'=>exact q.elim
  |ct ρ'=>exact q.elim
theorem Zp {α:Type}{us:List α} (h:us.length=1):∃ a,us=[a]:=by
 rcases us with _|⟨a0,_|⟨z,r⟩⟩
 ·simp at h
 ·exact ⟨_,rfl⟩
 ·simp at h
theorem Zq {α:Type}{us:List α} (h:us.length=2):∃ a b,us=[a,b]:=by
 rcases us with _|⟨a0,_|⟨a0,_|⟨z,r⟩⟩⟩
 ·simp at h
 ·simp at h
 ·exact ⟨_,_,rfl⟩
 ·simp at h
theorem Zr {α:Type}{us:List α} (h:us.length=3):∃ a b c,us=[a,b,c]:=by
 rcases us with _|⟨a0,_|⟨a0,_|⟨a0,_|⟨z,r⟩⟩⟩⟩
 ·simp at h
 ·simp at h
 ·simp at h
 ·exact ⟨_,_,_,rfl⟩
 ·simp at h
theorem Zt {α:Type}{us:List α} (h:us.length=4):∃ a b c d,us=[a,b,c,d]:=by
 rcases us with _|⟨a0,_|⟨a0,_|⟨a0,_|⟨a0,_|⟨z,r⟩⟩⟩⟩⟩
 ·simp at h
 ·simp at h
 ·simp at h
 ·simp at h
 ·exact ⟨_,_,_,_,rfl⟩
 ·simp at h
theorem Zu {α:Type}{us:List α} (h:us.length=5):∃ a b c d e,us=[a,b,c,d,e]:=by
 rcases us with _|⟨a0,_|⟨a0,_|⟨a0,_|⟨a0,_|⟨a0,_|⟨z,r⟩⟩⟩⟩⟩⟩
 ·simp at h
 ·simp at h
 ·simp at h
 ·simp at h
 ·simp at h
 ·exact ⟨_,_,_,_,_,rfl⟩
 ·simp at h
end J
end
namespace J
open PySem L2
section
section
end
end
end J
section
namespace HT
open PySem PyProof.Rows
section
open PySem.SeqAt
open PySem.AutoSeq1 (wpAny_loadPart')
open PySem.MeetsSeq PySem.MeetsSeq2 PySem.MeetsSeq3
end
end HT
namespace L2
open PySem PySem.Spec PyProof.Rows
section
variable {X:Cx}{e st:bY}{te ts:TE}{pos p2:Pos}
end
end L2
namespace J
open PySem L2
section
variable {c:C}{e:bY}{g:aD->R D}{pos p2 p3 p4:Pos}
end
end J
end
section
namespace L2
open PySem
def L_ (mask:Nat):Nat->Nat×Nat->Nat×Nat
 | 0,x=>x
 |n+1,x=>L_ mask n (SetTable.leap mask x.1 x.2)
theorem J7 (mask:Nat):∀ (n m:Nat) (x:Nat×Nat),L_ mask (n+m) x=L_ mask m (L_ mask n x)
 | 0,m,x=>by rw [eu];rfl
 |n+1,m,x=>by
  rw [Nat.succ_add];exact J7 mask n m _
theorem J8 (mask:Nat):∀ (n:Nat) (x:Nat×Nat),(L_ mask n x).2=x.2 / 32 ^ n
 | 0,x=>by simp [L_]
 |n+1,x=>by
  show (L_ mask n _).2=_;rw [J8 mask n];show x.2 / 32 / 32 ^ n=_;rw [Nat.div_div_eq_div_mul,Nat.pow_succ,Gw]
theorem J9 (mask:Nat):∀ (n:Nat) (x:Nat×Nat),x.1<=mask->(L_ mask n x).1<=mask
 | 0,x,h=>h
 |n+1,x,h=>J9 mask n _ (by
  show (x.1*5+1+x.2 / 32) % (mask+1)<=mask;exact xI (Ck _ (Gx _)))
theorem BM  : ∀ (fuel i p:Nat),dJ mask owner fuel i p=none->∀ n,n<fuel->(owner.getD (L_ mask n (i,p)).1 (some 0)).isSome=true
 | 0,_,_,_,n,h=>absurd h (Nat.not_lt_zero n)
 |fuel+1,i,p,e,n,h=>by
  unfold dJ at e;split at e
  ·cases e
  ·rename_i hf
   cases n with
   |zero =>
    have h0:=List.find?_eq_none.mp hf 0 (List.mem_range.mpr (by unfold SetTable.runEnd;split<;>omega));simp only [m_] at h0;show (owner.getD i (some 0)).isSome=true;cases q:owner.getD i (some 0) with
    |none=>rw [q] at h0;exact absurd rfl h0
    |some _=>rfl
   |succ n=>exact BM fuel _ _ e n (Gy h)
theorem BN  : ∀ (fuel i p k:Nat),dJ mask owner fuel i p=some k->owner.getD k (some 0)=none
 | 0,_,_,_,e=>nomatch e
 |fuel+1,i,p,k,e=>by
  unfold dJ at e;split at e
  ·rename_i k' hf
   cases e;have:=List.find?_some hf;cases q:owner.getD (i+k') (some 0) with
   |none=>rfl
   |some _=>rw [q] at this;cases this
  ·exact BN fuel _ _ k e
def M0 (mask:Nat):Prop:=mask=7\/mask=15\/mask=31
def WM (mask:Nat):Bool:=(bx (mask+1)).all fun i=>(bx (mask+1)).all fun j=>(bx (mask+1)).any fun n=>decide ((L_ mask n (i,0)).1=j)
theorem Rh (h:M0 mask):WM mask=true:=by
 rcases h with h|h|h<;>subst h<;>decide +kernel
theorem getD_none {owner:Array (Option Nat)}{k:Nat} (h:owner.getD k (some 0)=none):owner.toList[k]?=some none:=by
 by_cases hk:k<owner.size
 ·rw [iJ,bM hk] at h;rw [aQ,bM hk];simpa using h
 ·rw [iJ,dm (by omega)] at h;cases h
theorem KU {mask:Nat} (hm:M0 mask) {owner:Array (Option Nat)}{j:Nat} (hj:j<=mask) (hn:owner.toList[j]?=some none) {i p:Nat} (hi:i<=mask) (hp:p<2 ^ 64) :
  ∃ k,dJ mask owner (qN mask) i p=some k/\owner.toList[k]?=some none:=by
 cases e:dJ mask owner (qN mask) i p with
 |some k=>exact ⟨k,rfl,getD_none (BN _ _ _ _ e)⟩
 |none =>
  exfalso;have hz:(L_ mask 13 (i,p)).2=0:=by
   rw [J8];exact Nat.div_eq_of_lt (aE hp (by decide))
  have h1:=J9 mask 13 (i,p) hi;have g:=Rh hm;unfold WM at g;rw [cf] at g;have g:=g _ (List.mem_range.mpr (kE h1));rw [cf] at g;have g:=g j (List.mem_range.mpr (kE hj));rw [jl] at g;obtain ⟨n,hn1,hn2⟩:=g;have hn1:=List.mem_range.mp hn1;have hn2:=of_decide_eq_true hn2;have hs:(L_ mask (13+n) (i,p)).1=j:=by
   rw [J7,<- hn2,<- hz]
  have:=BM _ _ _ e (13+n) (by unfold qN;omega);rw [hs] at this;have hq:owner.getD j (some 0)=none:=by
   rw [aQ] at hn;rw [iJ,hn];rfl
  rw [hq] at this;cases this
theorem Ri (h:Int):nr h<2 ^ 64:=by
 unfold nr;have:=nZ h (show (0:Int)<2 ^ 64 by decide);have:=s9 h (show (2 ^ 64:Int)≠0 by decide);omega
theorem ES:∀ {l:List (Option Nat)}{j:Nat},l[j]?=some none->((l.set j (some k)).filterMap id).Perm (k::l.filterMap id)
 |[],_,h=>nomatch h
 |x::r,0,h=>by
  cases h;exact .refl _
 |x::r,j+1,h=>by
  have ih:=ES (k:=k) (l:=r) (j:=j) h;cases x with
  |none=>exact ih
  |some y=>exact (ih.cons y).trans (.swap k y _)
theorem ET:∀ {l:List (Option Nat)},(l.filterMap id).length<l.length->∃ j,j<l.length/\l[j]?=some none
 |[],h=>absurd h (bN 0)
 |none::r,_=>⟨0,Gx _,rfl⟩
 |some y::r,h=>by
  obtain ⟨j,h1,h2⟩:=ET (l:=r) (Gy h);exact ⟨j+1,Nat.succ_lt_succ h1,h2⟩
def Ja (mask:Nat) (acc:Option (Array (Option Nat)×Nat)) (h:Int):Option (Array (Option Nat)×Nat):=acc.bind fun x=>(dJ mask x.1 (qN mask) (nr h % (mask+1)) (nr h)).bind fun j=>some (x.1.setIfInBounds j (some x.2),x.2+1)
theorem EU (mask:Nat) (hs:Array Int):uM mask hs=(hs.toList.foldl (Ja mask) (some (yC (mask+1) none,0))).map (·.1):=by
 rw [Array.foldl_toList];rfl
theorem Jb (hm:M0 mask):∀ (l:List Int) (owner:Array (Option Nat)) (k:Nat),owner.size=mask+1->(owner.toList.filterMap id).Perm (bx k)->k+l.length<=mask ->
  ∃ o',l.foldl (Ja mask) (some (owner,k))=some (o',k+l.length)/\o'.size=mask+1/\(o'.toList.filterMap id).Perm (bx (k+l.length))
 |[],owner,k,h1,h2,_=>⟨owner,rfl,h1,h2⟩
 |h::r,owner,k,h1,h2,h3=>by
  simp only [aP] at h3 ⊢;obtain ⟨j,j1,j2⟩:=ET (l:=owner.toList) (by rw [h2.length_eq,fo,ap,h1];omega);rw [ap,h1] at j1;obtain ⟨m,m1,m2⟩:=KU hm (xI j1) j2 (i:=nr h % (mask+1)) (xI (Ck _ (Gx _))) (Ri h);have e:Ja mask (some (owner,k)) h=some (owner.setIfInBounds m (some k),k+1):=by
   unfold Ja;simp only [xi,m1]
  rw [eE,e];obtain ⟨o',a1,a2,a3⟩:=Jb hm r (owner.setIfInBounds m (some k)) (k+1) (by rw [Cq];exact h1) (by
   rw [AE];refine (ES m2).trans ?_;rw [List.range_succ];exact ((h2.cons k).trans (List.perm_append_singleton k _).symm)) (by omega)
  rw [show k+1+r.length=k+(r.length+1) by omega] at a1 a3;exact ⟨o',a1,a2,a3⟩
theorem Jc {n:Nat}{o:Array (Option Nat)} (h:o.size=n):(bx n).filterMap (fun j=>o.getD j none)=o.toList.filterMap id:=by
 have e:(bx n).map (fun j=>o.getD j none)=o.toList:=by
  refine y9 (by simp [h]) fun i h1 h2=>?_;simp only [ao,fo] at h1;rw [ye,LV,iJ,bM (by omega)];simp
 rw [<- e,ni];rfl
theorem Jd {mask finger moves:Nat}{led plain:Bool}{hs:Array Int} (hm:M0 mask) (hl:hs.size<=mask):∃ place order,Ao mask finger moves led plain hs=some ({ mask,place,dummies:=#[],finger,led,moves,plain },order)/\place.size=hs.size/\order.toList.Perm (bx hs.size):=by
 obtain ⟨o,h1,h2,h3⟩:=Jb hm hs.toList (yC (mask+1) none) 0 (by simp) (by
  have:(yC (mask+1) (none:Option Nat)).toList.filterMap id=[]:=by
   rw [Array.toList_replicate,List.filterMap_eq_nil_iff];intro x hx;rw [(List.mem_replicate.mp hx).2];rfl
  rw [this];exact .refl _) (by rw [ap];omega)
 have hc:uM mask hs=some o:=by
  rw [EU,h1];rfl
 rw [eu,ap] at h3;refine ⟨_,_,by unfold Ao;rw [hc];rfl,?_,?_⟩
 ·have e:=congrArg lQ (Jc h2);rw [h3.length_eq,fo] at e;rw [aT,ao,<- e];rw [xJ,xJ];congr 1;funext j;cases o.getD j none<;>rfl
 ·rw [List.map_filterMap];refine .trans (.of_eq ?_) h3;rw [<- Jc h2];show List.filterMap _ _=List.filterMap _ _;congr 1;funext j;cases o.getD j none<;>rfl
end L2
namespace L2
open PySem
section
theorem Oh:∀ n:_root_.Fin 31,n.val<cx n.val/\(cx n.val=8\/cx n.val=16\/cx n.val=32):=by decide +kernel
theorem Oi (h:n<=30):n<=cx n-1/\M0 (cx n-1)/\cx n<=32:=by
 obtain ⟨h1,h2⟩:=Oh ⟨n,by omega⟩;simp only at h1 h2;unfold M0;omega
theorem zr {es:Array (Int×af)}{order:Array Nat} (h:order.toList.Perm (bx es.size)):(order.filterMap (es[·]?)).toList.Perm es.toList:=by
 rw [Array.toList_filterMap];refine (h.filterMap _).trans (.of_eq ?_);have e:(bx es.size).map (fun i=>es[i]?)=es.toList.map some:=by
  refine y9 (by simp) fun i h1 h2=>?_;simp only [ao,fo] at h1;rw [ye,LV,ye,Array.getElem_toList];exact bM h1
 have e2:(bx es.size).filterMap (fun i=>es[i]?)=((bx es.size).map (fun i=>es[i]?)).filterMap id:=by rw [ni];rfl
 rw [e2,e,ni];simp
theorem cZ.of     (I:cZ w h a es ep t) (p:es'.toList.Perm es.toList) (f:t'.fits es'.size=true) (l:t'.led=t.led) (pl:t'.plain=t.plain):cZ w (h.update a (qW es' t')) a es' (ep+1) t':=by
 have sz:es'.size=es.size:=by rw [<- ap,p.length_eq,ap]
 refine ⟨sk I,fun e he=>I.txt e (p.mem_iff.mp he),(p.map ku).nodup_iff.mpr I.nd,by rw [sz];exact I.few,f,l.trans I.led,?_⟩;rw [sz,pl];exact I.pl
theorem zt {t:lI}{n:Nat} (h:t.fits n=true):t.place.size=n/\t.fill<=t.mask:=by
 unfold nl at h;rw [aS] at h;exact ⟨eq_of_beq h.1,of_decide_eq_true h.2⟩
theorem Je {mask finger moves:Nat}{led plain:Bool}{place:Array Nat}{n:Nat} (h:place.size=n) (hm:n<=mask):nl { mask,place,dummies:=#[],finger,led,moves,plain } n=true:=by
 unfold nl M8;subst h;simp only [beq_self_eq_true,uU,decide_eq_true_eq];exact hm
theorem Hi {a:am}{es:Array (Int×af)}{ep:Nat}{t:lI}{wanted:Nat}{Q:Unit->al->Prop} (I:cZ w s.heap a es ep t) (hw:wanted<=30) (hz:es.size<=wanted)
  (h:∀ h' es' ep' t',bG a s.heap h'->cZ w h' a es' ep' t'->es'.toList.Perm es.toList->M0 t'.mask->wanted<=t'.mask->Q () { s with heap:=h' }):au (az P w) A (setRelay a wanted) Q E s:=by
 obtain ⟨w1,w2,w3⟩:=Oi hw;obtain ⟨place,order,e,hp,ho⟩:=Jd (finger:=t.finger) (moves:=t.movedTo (cx wanted-1)) (led:=t.led) (plain:=t.plain) (hs:=es.map (·.1)) w2 (by rw [kr];omega);rw [kr] at hp ho;have pm:=zr ho;have sz:(order.filterMap (es[·]?)).size=es.size:=by rw [<- ap,pm.length_eq,ap]
 unfold setRelay;refine a7 (bw I.at_ rfl I.fits ?_);show au _ _ (if cx wanted > sizeLine then _ else _) _ _ s;have h32:(32:Nat)<=sizeLine:=by decide
 rw [if_neg (by omega)];refine a7 ?_;unfold K6;rw [e];show au _ _ (if ((order.filterMap (es[·]?)).size != es.size)=true then _ else pure (order.filterMap (es[·]?),_)) _ _ s;rw [if_neg (by rw [sz];simp)];refine a9 ?_;have fit:nl { mask:=cx wanted-1,place,dummies:=#[],finger:=t.finger,led:=t.led,moves:=t.movedTo (cx wanted-1),plain:=t.plain } (order.filterMap (es[·]?)).size=true:=Je (by rw [sz];exact hp) (by rw [sz];omega);refine jk I.at_ rfl ?_ (by rw [sz];exact fP I.few);exact h _ _ _ _ (bE s.heap a _) (I.of pm fit rfl rfl) pm w2 w1
theorem Da {a:am}{es:Array (Int×af)}{ep:Nat}{t:lI}{more:Nat}{Q:Unit->al->Prop} (I:cZ w s.heap a es ep t) (hz:es.size+more<=15) (hm:es.size≠0\/M0 t.mask)
  (h:∀ h' es' ep' t',bG a s.heap h'->cZ w h' a es' ep' t'->es'.toList.Perm es.toList->(es.size≠0\/M0 t'.mask)->more<=t'.mask->Q () { s with heap:=h' }):au (az P w) A (setRoomFor a more) Q E s:=by
 obtain ⟨f1,f2⟩:=zt I.fits;unfold setRoomFor;refine a7 (bw I.at_ rfl I.fits ?_);dsimp only;unfold SetTable.roomFor;by_cases hc:(t.fill+more)*5 ≥ t.mask*3
 ·rw [if_pos hc];refine Hi I (by rw [f1];omega) (by rw [f1];omega) fun h' es' ep' t' a1 a2 a3 a4 a5=>?_;exact h h' es' ep' t' a1 a2 a3 (.inr a4) (by rw [f1] at a5;omega)
 ·rw [if_neg hc];exact a9 (h s.heap es ep t (.refl ..) I (.refl _) hm (by omega))
end
end L2
namespace L2
open PySem
theorem yk {α σ:Type}{M:Model}{A:cy}{E:af->al->Prop}{Q:σ->al->Prop}{f:α->σ->Sem (ForInStep σ)}{b:σ} (I:List α->al->Prop)
  (step:∀ x r s,I (x::r) s->au M A (f x b) (fun st s'=>st=.yield b/\I r s') E s) (fin:∀ s,I [] s->Q b s):∀ (l:List α) (s:al),I l s->au M A (forIn l b f) Q E s
 |[],s,h=>by rw [nj];exact a9 (fin s h)
 |x::r,s,h=>by
  rw [jM];refine a7 (bA (step x r s h) (fun st s' q=>?_) fun _ _ e=>e);obtain ⟨rfl,q⟩:=q;exact yk I step fin r s' q
section
theorem EV  (h:∀ a∈l,∃ es ep t,cZ w s.heap a es ep t) (q:Q true s):au (az P w) A (setsQuiet l) Q E s:=by
 unfold setsQuiet;refine a7 (yk (fun r s'=>s'=s/\∀ a∈r,∃ es ep t,cZ w s.heap a es ep t) (fun a r s' hI=>?_) (fun s' hI=>?_) l s ⟨rfl,h⟩)
 ·obtain ⟨rfl,hI⟩:=hI;obtain ⟨es,ep,t,I⟩:=hI a ak;unfold setEntries;refine a7 (a7 (bw I.at_ rfl I.fits (a9 ?_)));dsimp only;rw [<- Ke];refine a7 (yk (fun r2 s2=>s2=s'/\∀ e∈r2,ua w e) (fun e r2 s2 h2=>?_) (fun s2 h2=>?_) es.toList s' ⟨rfl,I.txt⟩)
  ·obtain ⟨rfl,h2⟩:=h2;obtain ⟨x,tk,rfl⟩:=h2 e ak;exact a9 ⟨rfl,rfl,fun e he=>h2 e (ai _ he)⟩
  ·obtain ⟨rfl,_⟩:=h2;exact a9 ⟨rfl,rfl,fun b hb=>hI b (ai _ hb)⟩
 ·obtain ⟨rfl,_⟩:=hI;exact a9 q
theorem KW     (I:cZ w s.heap o es ep t) (hb:w.params.followText "set-order"=true\/t.plain=true\/es.size<=1)
  (q:∀ es',es'.toList.Perm es.toList->Q es' s):au (az P w) A (setWalk o) Q E s:=by
 unfold setWalk;refine a7 (bw I.at_ rfl I.fits (a7 (fM ?_)));cases hw:w.params.followText "set-order" with
 |true =>
  simp only [if_true];exact a7 (ir (a9 (q _ (wv _ _))))
 |false =>
  simp only [bu,if_false];have hd:(!t.plain&&decide (es.size > 1))=false:=by
   rcases hb with h|h|h
   ·rw [hw] at h;cases h
   ·rw [h];rfl
   ·rw [decide_eq_false (by omega),tF]
  have hl:t.led=true:=by rw [I.led,hw];rfl
  show au _ _ (if (!t.plain&&decide (es.size > 1))=true then _ else _) _ _ s;rw [hd,if_neg bf];refine a7 ?_;show au _ _ (if (!t.led&&decide (es.size > 1))=true then _ else pure ()) _ _ s;rw [hl,if_neg (by simp)];exact a9 (a9 (q _ (.refl _)))
theorem xV     (I:cZ w s.heap o eo epo to) (J:cZ w s.heap a es ep t)
  (q:∀ h' es' ep' t',bG a s.heap h'->cZ w h' a es ep' t'->es'.toList.Perm eo.toList->Q es' { s with heap:=h' }):au (az P w) A (setWalkUnseen o [a] (some a)) Q E s:=by
 unfold setWalkUnseen;refine a7 (bw I.at_ rfl I.fits (a7 (fM ?_)));cases hc:(w.params.followText "set-order" || to.led&&to.plain||decide (eo.size<=1)) with
 |true =>
  rw [if_pos rfl];refine KW I ?_ fun es' p=>q s.heap es' ep t (.refl ..) J p;rw [jP,jP,aS,decide_eq_true_eq] at hc;rcases hc with (h|h)|h
  ·exact .inl h
  ·exact .inr (.inl h.2)
  ·exact .inr (.inr h)
 |false =>
  rw [if_neg bf];rw [Ir,Ir,decide_eq_false_iff_not] at hc;obtain ⟨⟨c1,_⟩,c3⟩:=hc;refine a7 (EV (fun b hb=>?_) ?_)
  ·rcases List.mem_cons.mp hb with h|h
   ·rw [h];exact ⟨_,_,_,I⟩
   ·rw [List.mem_singleton.mp h];exact ⟨_,_,_,J⟩
  rw [if_neg (by simp)];refine a7 (df ?_);dsimp only;refine a7 (bw J.at_ rfl J.fits ?_);dsimp only;have hpl:to.plain=false:=I.pl.resolve_left (by omega);have hled:(t.led&&to.led)=t.led:=by rw [I.led,J.led,pv]
  split
  ·refine a7 (jk J.at_ rfl ?_ (fP J.few));refine a9 (q _ _ _ _ (bE s.heap a _) (⟨sk J,J.txt,J.nd,J.few,?_,?_,?_⟩:cZ w _ a es (ep+1) _) (.refl _))
   ·exact J.fits
   ·exact hled.trans J.led
   ·exact .inr (by show (t.plain&&to.plain)=false;rw [hpl,tF])
  ·exact a9 (q s.heap eo ep t (.refl ..) J (.refl _))
end
end L2
namespace L2
open PySem
section
theorem cZ.but     (I:cZ w h o eo epo to) (ne:a≠o) (sb:bG a h h'):cZ w h' o eo epo to:=I.keep fun _ e=>(sb.2 o (cY ne)).trans e
theorem zu {a o:am}{es eo:Array (Int×af)}{ep epo:Nat}{t to:lI}{each:Sem Unit}{Q:Unit->al->Prop} (ne:a≠o) (J:cZ w s.heap a es ep t) (I:cZ w s.heap o eo epo to)
  (hz:es.size+eo.size<=15) (hm:es.size≠0\/M0 t.mask) (he:∀ (s':al) (Q':Unit->al->Prop),cZ w s'.heap o eo epo to->Q' () s'->au (az P w) A each Q' E s')
  (q:∀ h' tk' es' ep' t',bG a s.heap h'->cZ w h' a es' ep' t'->(∀ x,x∈es'.toList.map ku↔x∈es.toList.map ku\/x∈eo.toList.map ku)->(es'.size≠0\/M0 t'.mask)->Q () { s with heap:=h',toks:=tk' }) :
  au (az P w) A (setMerge a o each) Q E s:=by
 unfold setMerge;rw [if_neg (by simpa using ne)];refine a7 (bw I.at_ rfl I.fits ?_);dsimp only;by_cases h0:eo.size=0
 ·rw [if_pos (by simpa [Array.isEmpty] using h0)];have e0:eo=#[]:=ll h0;exact a9 (q s.heap s.toks es ep t (.refl ..) J (fun x=>by rw [e0];simp) hm)
 rw [if_neg (by simpa [Array.isEmpty] using h0)];refine a7 (Da J hz hm fun h1 es1 ep1 t1 sb1 J1 p1 m1 r1=>?_);have I1:=I.but ne sb1;have sz1:es1.size=es.size:=by rw [<- ap,p1.length_eq,ap]
 refine a7 (bw (s:={ s with heap:=h1 }) J1.at_ rfl J1.fits ?_);dsimp only;obtain ⟨f1,f2⟩:=zt J1.fits;have hpl:to.plain=false:=I.pl.resolve_left h0;have hled:(t1.led&&to.led)=t1.led:=by rw [I.led,J1.led,pv]
 have kp:∀ x,x∈es1.toList.map ku↔x∈es.toList.map ku:=fun x=>(p1.map ku).mem_iff;by_cases hf:t1.fill=0
 ·have e1:es.size=0:=by
   unfold M8 at hf;omega
  have mk:M0 t1.mask:=m1.resolve_left (by omega);have ee:es=#[]:=ll e1;unfold M9;rw [if_neg (by rw [hf];decide)];split
  ·refine jk (s:={ s with heap:=h1 }) J1.at_ rfl ?_ (fP I.few);refine q _ s.toks _ _ _ (sb1.trans (bE h1 a _)) (⟨sk J1,I.txt,I.nd,I.few,?_,?_,?_⟩:cZ w _ a eo (ep1+1) _) (fun x=>by rw [ee];simp) (.inl h0)
   ·exact I.fits
   ·exact hled.trans J1.led
   ·exact .inr (by show (t1.plain&&to.plain)=false;rw [hpl,tF])
  ·obtain ⟨place,order,e,hp,ho⟩:=Jd (finger:=t1.finger) (moves:=t1.moves) (led:=t1.led&&to.led) (plain:=t1.plain&&to.plain) (hs:=eo.map (·.1)) mk (by rw [kr];exact r1);rw [kr] at hp ho;have pm:=zr ho;have sz:(order.filterMap (eo[·]?)).size=eo.size:=by rw [<- ap,pm.length_eq,ap]
   refine a7 ?_;rw [e];show au _ _ (if ((order.filterMap (eo[·]?)).size != eo.size)=true then _ else pure (order.filterMap (eo[·]?),_)) _ _ _;rw [if_neg (by rw [sz];simp)];refine a9 ?_;refine jk (s:={ s with heap:=h1 }) J1.at_ rfl ?_ (by rw [sz];exact fP I.few);refine q _ s.toks _ _ _ (sb1.trans (bE h1 a _)) (⟨sk J1,fun x hx=>I.txt x (pm.mem_iff.mp hx),(pm.map ku).nodup_iff.mpr I.nd,by rw [sz];exact I.few,Je (by rw [sz];exact hp) (by rw [sz];exact r1),hled.trans J1.led,.inr ?_⟩:cZ w _ a (order.filterMap (eo[·]?)) (ep1+1) _) (fun x=>?_) (.inl (by rw [sz];exact h0))
   ·show (t1.plain&&to.plain)=false;rw [hpl,tF]
   ·rw [(pm.map ku).mem_iff,ee];simp
  ·rename_i hq
   split at hq<;>cases hq
 ·unfold M9;rw [if_pos (by simpa using hf)];dsimp only;refine a7 (xV (s:={ s with heap:=h1 }) I1 J1 fun h2 es2 ep2 t2 sb2 J2 p2=>?_);rw [<- Ke];have hl:es2.toList.length=eo.size:=by rw [p2.length_eq,ap]
  refine a7 (yk (fun r s'=>∃ h' tk' e' p' t',s'={ s with heap:=h',toks:=tk' }/\bG a s.heap h'/\cZ w h' a e' p' t'/\e'.size+r.length<=15/\(∀ e∈r,ua w e)/\∀ x,(x∈e'.toList.map ku\/x∈r.map ku)↔x∈es.toList.map ku\/x∈eo.toList.map ku) ?_ ?_ es2.toList _ ⟨h2,s.toks,es1,ep2,t2,rfl,sb1.trans sb2,J2,by omega,fun e he=>I.txt e (p2.mem_iff.mp he),fun x=>by rw [kp,(p2.map ku).mem_iff]⟩)
  ·rintro e r s' ⟨h',tk',e',p',t',rfl,sb',J',z',tx',k'⟩;obtain ⟨x,tk,rfl⟩:=tx' e ak;simp only [aP] at z';dsimp only;refine a7 (dw (Bx (s:={ s with heap:=h',toks:=tk' }) (⟨e',p',t',J',.refl _⟩:lK w h' a (e'.toList.map ku)) (by rw [ao,ap];exact aE (show e'.size+1<100 by omega) (by decide)) fun h'' tk'' sb'' S''=>?_));obtain ⟨e'',p'',t'',J'',pm''⟩:=S'';have sb3:=sb'.trans sb'';have I3:=I.but ne sb3;refine a7 (he _ _ I3 ?_);refine a7 (bw (s:={ s with heap:=h'',toks:=tk'' }) I3.at_ rfl I3.fits ?_);dsimp only;rw [if_neg (by simp)];refine a9 ⟨rfl,h'',tk'',e'',p'',t'',rfl,sb3,J'',?_,fun e he=>tx' e (ai _ he),fun y=>?_⟩
   ·have:=pm''.length_eq;rw [ao,ap] at this;have l2:(if x∈e'.toList.map ku then e'.toList.map ku else e'.toList.map ku++[x]).length<=e'.size+1:=by
     split<;>simp
    omega
   ·rw [<- k' y,pm''.mem_iff];have ek:ku (hashStr w x,jU x tk)=x:=rfl;rw [av,aZ,ek];split
    ·rename_i hx
     constructor
     ·rintro (h|h)
      ·exact .inl h
      ·exact .inr (.inr h)
     ·rintro (h|h|h)
      ·exact .inl h
      ·rw [h];exact .inl hx
      ·exact .inr h
    ·rw [fw,c6];constructor
     ·rintro ((h|h)|h)
      ·exact .inl h
      ·exact .inr (.inl h)
      ·exact .inr (.inr h)
     ·rintro (h|h|h)
      ·exact .inl (.inl h)
      ·exact .inl (.inr h)
      ·exact .inr h
  ·rintro s' ⟨h',tk',e',p',t',rfl,sb',J',z',tx',k'⟩;refine a9 (q h' tk' e' p' t' sb' J' (fun x=>?_) (.inl ?_))
   ·rw [<- k' x];simp
   ·intro e0;obtain ⟨e,hh⟩:∃ e,e∈eo.toList:=by
     cases hq:eo.toList with
     |nil=>rw [<- ap,hq] at h0;exact absurd rfl h0
     |cons e r=>exact ⟨e,ak⟩
    have:=(k' (ku e)).mpr (.inr (bn hh));rw [ll e0] at this;simp at this
end
end L2
namespace L2
open PySem PyProof.Rows
theorem Db:Q7 table "set.__or__"=some jN.«frozenset.__or__»:=Gq (id':="frozenset.__or__") (by kernel_rfl) rfl (by decide +kernel) (by kernel_rfl)
section
variable {P:bq}{w:bL}{A:cy}{E:af->al->Prop}{s:al}
theorem cZ.ty    (I:cZ w s.heap a es ep t):s.TypeIs (.ref a) "set":=⟨_,I.at_,rfl⟩
theorem ui     (I:cZ w s.heap a es ep t) (q:Q true s):au (az P w) A (s_ (.ref a)) Q E s:=by
 unfold s_;refine a7 (gC I.ty M4 ?_);exact a9 q
theorem Oj  (e:h.get? a=some (fD w)):cZ w h a #[] 0 (.fresh 0 0 (!w.params.followText "set-order")) :=
 ⟨e,(fun _ h=>nomatch h),gd,by decide,rfl,rfl,.inl rfl⟩
theorem Rj   (ha:lK w s.heap a xs) (hb:lK w s.heap b ys) (ne:a≠b) (hz:xs.length+ys.length<=15)
  (q:∀ h' tk',bG s.heap.objs.size (s.heap.push (fD w)) h'->lK w h' s.heap.objs.size (dn xs ys)->Q (.ref s.heap.objs.size) { s with heap:=h',toks:=tk' }) :
  au (az P w) A (gJ .BitOr (.ref a) (.ref b)) Q E s:=by
 obtain ⟨ea,pa,ta,Ia,ma⟩:=ha;obtain ⟨eb,pb,tb,Ib,mb⟩:=hb;have sa:ea.size=xs.length:=by rw [<- ma.length_eq,ao,ap]
 have sb:eb.size=ys.length:=by rw [<- mb.length_eq,ao,ap]
 refine wpAny_binaryOp_same Ia.ty Ib.ty F.fills_set_or F.slot_set_or (bD F.slot_set_or Ia.ty Db ?_ (F.args_set_or_2 _ _));have lt1:a<s.heap.objs.size:=ar Ia.at_;have lt2:b<s.heap.objs.size:=ar Ib.at_;show au _ _ (Qg "__or__" ⟨[.ref a,.ref b],[]⟩ >>= _) _ _ s;refine a7 (a7 (a9 (a9 ?_)));dsimp only;refine a7 (a7 (ui Ia (ui Ib ?_)));rw [if_neg (by simp)];refine a7 (a9 (a7 ?_));show au _ _ (u5 a >>= _) _ _ s;refine a7 ?_;unfold u5 Qh;refine a7 (a7 (gC Ia.ty M4 (a9 ?_)));rw [if_pos rfl];refine a7 (tL ?_);have g0:(s.heap.push (fD w)).get? s.heap.objs.size=some (fD w):=ax _ rfl;have J0:=Oj g0;have Ia1:cZ w (s.heap.push (fD w)) a ea pa ta:=Ia.keep fun _ e=>ac _ e;have Ib1:cZ w (s.heap.push (fD w)) b eb pb tb:=Ib.keep fun _ e=>ac _ e;have na:s.heap.objs.size≠a:=cY (aH lt1);have nb:s.heap.objs.size≠b:=cY (aH lt2);refine a7 (a9 (a7 (zu (s:={ s with heap:=s.heap.push (fD w) }) na J0 Ia1 (by show 0+ea.size<=15;omega) (.inr (.inl rfl)) (fun _ _ _ q=>a9 q) fun h1 tk1 e1 p1 t1 sb1 J1 k1 m1=>a9 ?_)));have Ib2:=Ib1.but nb sb1;have n1:(e1.toList.map ku).length<=ea.size:=by
  have:=(nu J1.nd Ia.nd).mpr fun x=>by rw [k1];simp
  rw [this.length_eq,ao,ap];exact aq _
 rw [ao,ap] at n1;show au _ _ (if (bt b != bt a)=true then _ else _) _ _ _;rw [if_pos (by simp;exact cY ne)];refine a7 (a9 (a7 (dw ?_)));show au _ _ (jO _ s.heap.objs.size (bt b)) _ _ _;unfold jO;refine a7 (ui (s:={ s with heap:=h1,toks:=tk1 }) Ib2 ?_);rw [if_pos rfl];refine a7 (a9 ?_);unfold Qi setEpoch;refine a7 (a7 (bw (s:={ s with heap:=h1,toks:=tk1 }) Ib2.at_ rfl Ib2.fits (a9 ?_)));refine zu (s:={ s with heap:=h1,toks:=tk1 }) nb J1 Ib2 (by omega) m1 (fun s' Q' I' q'=>?_) fun h2 tk2 e2 p2 t2 sb2 J2 k2 m2=>?_
 ·unfold Qj setEpoch;refine a7 (a7 (bw I'.at_ rfl I'.fits (a9 ?_)));dsimp only;rw [if_neg (by simp)];exact a9 q'
 ·refine a9 (a9 ⟨_,rfl,(fun z=>nomatch z),q h2 tk2 (sb1.trans sb2) ⟨e2,p2,t2,J2,?_⟩⟩);refine (nu J2.nd (iQ _ _ (ma.nodup_iff.mp Ia.nd))).mpr fun x=>?_;rw [k2,iZ,k1,ma.mem_iff,mb.mem_iff];simp
end
end L2
namespace L2
open PySem PyProof.Rows
theorem UF:qQ X (gJ .BitOr) (fun x y H Q=>∃ a b xs ys,x=.ref a/\y=.ref b/\a≠b/\H a=some (lW X.w a xs)/\H b=some (lW X.w b ys)/\xs.length+ys.length<=15/\∀ p,H p=none->Q (.ref p) (upd H p (lW X.w p (dn xs ys)))):=by
 intro pins s σ H x y v u Q I rx ry h;obtain ⟨a,b,xs,ys,rfl,rfl,ne,ha,hb,hz,q⟩:=h;cases rx;cases ry;have Sa:=(show dz X.prog X.w H s.heap a (lW X.w a xs) from I.hok a _ ha).1;have Sb:=(show dz X.prog X.w H s.heap b (lW X.w b ys) from I.hok b _ hb).1;refine Rj Sa Sb ne hz fun h' tk' sb S=>?_;refine ⟨.ref s.heap.objs.size,_,I.laid (t':=tk') (fun b o e=>?_) (aq _) (CO S),rfl,q _ (I.hok.fresh (aq _))⟩;exact (sb.2 b (aH (ar e))).trans (ac _ e)
end L2
namespace J
open PySem L2
section
def UG (xs ys:List Str):R (List Str):=if xs.length+ys.length<=15 then .ok (dn xs ys) else .no
def Ol (ga gb:aD->R (List Str)):aD->R (List Str):=fun ρ=>(ga ρ).bind fun xs=>(gb ρ).bind (J.UG xs)
theorem UH (ha:R8 c a ga) (hb:R8 c b gb):R8 c (.BinOp a .BitOr b pos) (Ol ga gb):=.of fun ρ=>sv (Sd UF (ha ρ) (hb ρ)) fun σ H Q h_0=>by
 obtain ⟨H0,Hs0,la,Hs,f,q⟩:=h_0;refine IT (w:=c.X.w) f q fun xs p H1 Hs1 e1 s1 f1 n1=>?_;unfold Ol at q;rw [e1,bind_ok] at q;have s2:cP H1 Hs1 (upd H1 p (lW c.X.w p xs)) Hs1:=.mine f1.st.sub n1;refine IT (w:=c.X.w) (f1.step s2) (q.on (s1.trans s2) (q':=fun _=>True) fun _ _=>trivial) fun ys p2 H2 Hs2 e2 s3 f2 n2=>?_;rw [e2,bind_ok] at q;unfold J.UG at q;by_cases hz:xs.length+ys.length<=15
 ·rw [if_pos hz] at q;have k1:H2 p=some (lW c.X.w p xs):=s3.all p _ b9;have ne:p≠p2:=fun z=>by rw [z,n2] at k1;cases k1
  have s4:cP H2 Hs2 (upd H2 p2 (lW c.X.w p2 ys)) Hs2:=.mine f2.st.sub n2;exact ⟨p,p2,xs,ys,rfl,rfl,ne,by rw [bd ne];exact k1,b9,hz,fun l hl=>q l _ _ (s1.trans (s2.trans (s3.trans s4))) hl⟩
 ·rw [if_neg hz] at q;exact q.elim
end
end J
namespace J
open PySem L2
section
def Yu (i j:Nat) (ρ:aD):List D->R Fl
 |[d,e]=>.ok (.nx ((ρ.set i (.shr d)).set j (.shr e)))
 |_=>.no
def Om (i j:Nat) (gs:aD->R (List D)):aD->R Fl:=fun ρ=>(gs ρ).bind (Yu i j ρ)
theorem UI (i j:Nat) (hc:c.X.calm=true) (hN:c.X.N.Nodup) (ha:Ge c [a,b] gs) (hi:c.X.N[i]?=some x:=by rfl) (hj:c.X.N[j]?=some y:=by rfl) (hij:i≠j:=by decide)
  (hx:c.X.env.scope.names.lookup x=some .local:=by rfl) (hy:c.X.env.scope.names.lookup y=some .local:=by rfl) (hw:x_ [.Tuple [.Name x px,.Name y py] kt pt] (.Tuple [a,b] k2 pt2) c.X.env=pure (some [x,y]):=by rfl)
  (hs:xZ [.Tuple [.Name x px,.Name y py] kt pt] (.Tuple [a,b] k2 pt2) pos.line c.X.env=pure false:=by rfl):JS c (.Assign [.Tuple [.Name x px,.Name y py] kt pt] (.Tuple [a,b] k2 pt2) pos) (Om i j gs):=.of fun ρ=>As (TY hc hN hi hj hij hx hy (ha ρ) hw hs) fun D σ H h_0=>by
 obtain ⟨H0,Hs0,la,Hs,f,q⟩:=h_0;refine ⟨H0,Hs0,la,Hs,f,?_⟩;unfold Om at q;cases hr:gs ρ with
 |ok ds =>
  rw [hr,bind_ok] at q;intro vs H' Hs' s r
  match ds,r,q with
  |[],_,q=>exact q.elim
  |[_],_,q=>exact q.elim
  |[d,e],.cons r1 (.cons r2 .nil),q=>exact ⟨_,_,rfl,q _ _ Hs' (((f.step s).set i r1).set j r2)⟩
  |_::_::_::_,_,q=>exact q.elim
 |ex z n =>
  rw [hr] at q;exact fun H' Hs' s=>q H' Hs' (f.st.trans s)
 |no=>rw [hr] at q;exact q.elim
end
end J
namespace J
open PySem L2
end J
end
section
namespace L2
open PySem PySem.Spec PyProof.Rows
section
end
end L2
namespace L2
open PySem PySem.Spec PyProof.Rows
section
end
end L2
namespace L2
open PySem PySem.Spec PyProof.Rows
end L2
namespace J
open PySem L2
section
end
end J
namespace L2
open PySem PySem.Spec PyProof.Rows
end L2
namespace J
open PySem L2
section
end
end J
namespace L2
open PySem PySem.Spec PyProof.Rows
end L2
namespace J
open PySem L2
section
end
end J
namespace J
open PySem L2
theorem oS  : JS c s (fun _=>.no):=.of fun ρ pins s σ H D I h=>by
 obtain ⟨H0,Hs0,la,Hs,f,q⟩:=h;exact q.elim
end J
end
namespace J
open PySem L2 PyProof.Rows
section
structure En where
 P:bq
 w:bL
 K:a8
 mg:Str->Option af
 base:bT
 cls:Str->am
abbrev FN (e:En):=Fn e.P e.w e.K e.mg e.base e.cls
abbrev FT (e:En):=XB e.P e.w e.K e.mg e.base e.cls
abbrev Cn (mg:Str->Option af) (x:Str) (n:Int):Prop:=∃ t,mg x=some (.int n t)
structure fZ (K:a8) (mg:Str->Option af) (x:Str) (st:db):Prop where
 ex:∃ f fd,IC K x x st f fd/\mg x=some (.ref f)
section
variable {K:a8}{h:bT}{mg:Str->Option af}{x:Str}
theorem d_in {st:db}{A:am}{od an:Option am}{sl:Array (Option af)}{oc kV dc pm cv ct:af} (X:K.In h) (G:h.Ns bX mg) (a:i7 K bX x=some (some (.ref A)))
  (l:K.lookup A=some ⟨oc,od,.func (gz x x (kU st) (i8 st) (aw st) .none kV dc pm an cv ct),sl⟩) (c:mz K cv x=true) (k:dB K (.ref A)=true):fZ K mg x st :=
 ⟨_,_,MH l c k,tG X G a⟩
theorem cn_in  (X:K.In h) (G:h.Ns bX mg) (t:i7 K bX x=some (some (.int n tk))):Cn mg x n:=⟨_,tG X G t⟩
inductive Zs (K:a8):List Str->Prop
 |nil:Zs K []
 |cons {x:Str}{r:List Str}:i7 K bX x=some none->Zs K r->Zs K (x::r)
theorem Zs.get (z:Zs K r):∀ x∈r,i7 K bX x=some none:=by
 induction z with
 |nil=>exact fun _ h=>nomatch h
 |cons a _ ih =>
  intro y hy;rcases List.mem_cons.mp hy with e|e
  ·rw [e];exact a
  ·exact ih y e
abbrev zn:List Str:=["len","isinstance","all","any","zip","tuple","list","sorted","set","range","enumerate","dict","sum","max","min","reversed","str","int","bool","ValueError"]
theorem WN (X:K.In h) (G:h.Ns bX mg) (z:Zs K zn):Bi mg:=by
 have q:∀ x∈zn,mg x=none:=fun x hx=>PySem.W.mg_none_of X G (z.get x hx);exact ⟨q _ (by decide),q _ (by decide),q _ (by decide),q _ (by decide),q _ (by decide),q _ (by decide),q _ (by decide),q _ (by decide),q _ (by decide),q _ (by decide),q _ (by decide),q _ (by decide),q _ (by decide),q _ (by decide),q _ (by decide),q _ (by decide),q _ (by decide),q _ (by decide),q _ (by decide)⟩
end
section
variable {P:bq}{w:bL}{K:a8}{mg:Str->Option af}{base:bT}{N:List Str}{qual:Str}{scope:ij}{f:am}{cd:af}{A:cy}{outer:List Env}{s:al}{H:Hp}{E:XK}
theorem px:mC (vh P w) (uX (vh P w) P w K mg base N qual scope f cd A outer s H E) E:=Eu fun _ _ h=>h
end
section
theorem jc  (G:Fn c.X.prog c.X.w c.X.K c.X.mg c.X.base c.cls x k n F) (hr:jR j c.X.A) (hx:mC (vh c.X.prog c.X.w) c.X c.E) (ha:Ge c (e::es) gs)
  (hk:k<=j:=by decide) (hg:Gl c.X x:=by exact rfl) (hdb:(x==("__debug__" : Str))=false:=by decide) (he:aJ (e::es) c.X.env=(false,eD e c.X.env)::aJ es c.X.env:=by rfl) (hpl:(iM pos (aJ es c.X.env)).any (·.1)=false:=by rfl) :
  JE c (.Call (.Name x p) (e::es) [] pos) (dU n F gs):=R1 G (hr.mono hk) hg hx ha hdb he hpl
theorem jd  (G:XB c.X.prog c.X.w c.X.K c.X.mg c.X.base c.cls x y k n F) (hr:jR j c.X.A) (hx:mC (vh c.X.prog c.X.w) c.X c.E) (ha:Ge c es gs)
  (hk:k<=j:=by decide) (hg:Gl c.X x:=by exact rfl) (hgy:Gl c.X y:=by exact rfl) (hdb:(x==("__debug__" : Str))=false:=by decide) (hdy:(y==("__debug__" : Str))=false:=by decide) (he:aJ (.Name y q::es) c.X.env=(false,eD (.Name y q) c.X.env)::aJ es c.X.env:=by rfl) (hpl:(iM pos (aJ es c.X.env)).any (·.1)=false:=by rfl) :
  JE c (.Call (.Name x p) (.Name y q::es) [] pos) (dU n F gs):=Re G (hr.mono hk) hg hgy hx ha hdb hdy he hpl
end
abbrev Bq (x:Str) (st:db) (us:List af) (r:List (Str×af)):Prop:=∀ (kV doc pm:af) (an:Option am) (cdv ct:af),Q0 (gz x x (kU st) (i8 st) (aw st) .none kV doc pm an cdv ct) ⟨us,[]⟩=pure r
section
variable {K:a8}{x:Str}{st:db}{f:am}{fd:fz}
theorem b1 (F:IC K x x st f fd) (h:∀ u,Bq x st [u] [(a,u)]:=by exact fun _ _ _ _ _ _ _=>rfl):jG K fd [a] []:=F.binds fun _ _ _ _ _ _ us hl=>by obtain ⟨_,rfl⟩:=Zp hl;exact h ..
theorem b2 (F:IC K x x st f fd) (h:∀ u v,Bq x st [u,v] [(a,u),(b,v)]:=by exact fun _ _ _ _ _ _ _ _=>rfl):jG K fd [a,b] []:=F.binds fun _ _ _ _ _ _ us hl=>by obtain ⟨_,_,rfl⟩:=Zq hl;exact h ..
theorem b3 (F:IC K x x st f fd) (h:∀ u v w,Bq x st [u,v,w] [(a,u),(b,v),(c,w)]:=by exact fun _ _ _ _ _ _ _ _ _=>rfl):jG K fd [a,b,c] []:=F.binds fun _ _ _ _ _ _ us hl=>by obtain ⟨_,_,_,rfl⟩:=Zr hl;exact h ..
theorem b4 (F:IC K x x st f fd) (h:∀ u v w z,Bq x st [u,v,w,z] [(a,u),(b,v),(c,w),(d,z)]:=by exact fun _ _ _ _ _ _ _ _ _ _=>rfl):jG K fd [a,b,c,d] []:=F.binds fun _ _ _ _ _ _ us hl=>by obtain ⟨_,_,_,_,rfl⟩:=Zt hl;exact h ..
theorem b5 (F:IC K x x st f fd) (h:∀ u v w z y,Bq x st [u,v,w,z,y] [(a,u),(b,v),(c,w),(d,z),(e,y)]:=by exact fun _ _ _ _ _ _ _ _ _ _ _=>rfl):jG K fd [a,b,c,d,e] []:=F.binds fun _ _ _ _ _ _ us hl=>by obtain ⟨_,_,_,_,_,rfl⟩:=Zu hl;exact h ..
end
theorem nc {e:En}{x:Str}{st:db}{N ps:List Str}{k:Nat}{g:aD->R Fl} (D:fZ e.K e.mg x st) (S:br N ps (aw st)) (b:∀ {f:am}{fd:fz},IC e.K x x st f fd->jG e.K fd ps [])
  (h:∀ (f:am) (cdv:af) (A:cy) (outer:List Env) (s:al) (H:Hp) (E:XK),jR k (A.deeper (qT x (aw st) s.heap.objs.size f cdv))->IM ⟨uX (vh e.P e.w) e.P e.w e.K e.mg e.base N x (aw st) f cdv A outer s H E,e.cls,E⟩ (i8 st) g) :
  FN e x (k+1) ps.length (eP N.length g):=by
 obtain ⟨f,fd,F,hm⟩:=D.ex;exact Wo F S hm (b F) (h f)
def Zf (N P:List Str) (sc:ij):Bool:=decide (sc.kind=.function) && !sc.isCoroutine && !sc.isGenerator&&decide N.Nodup&&decide (N.take P.length=P)&&P.all (fun x=>decide (sc.names.lookup x=some .local)||decide (sc.names.lookup x=some .cell))&&sc.names.all fun y=>decide (y.2≠.free)
theorem dg  (h:Zf N P sc=true):br N P sc:=by
 unfold Zf at h;simp only [aS,decide_eq_true_eq,Ma,cf,jP] at h;obtain ⟨⟨⟨⟨⟨⟨a,b⟩,c⟩,d⟩,e⟩,f⟩,g⟩:=h;exact ⟨a,b,c,d,e,f,g⟩
structure Cw (K:a8) (x:Str) (C:am):Prop where
 ns:i7 K bX x=some (some (.ref C))
 cl:∃ cd,AF K C=some cd
 ty:Mb K (.ref C)=some (.type "type")
theorem cw_in {K:a8}{x:Str}{C:am}{cd:ClassData} (a:i7 K bX x=some (some (.ref C))) (i:AF K C=some cd) (y:Mb K (.ref C)=some (.type "type")):Cw K x C:=⟨a,⟨_,i⟩,y⟩
inductive Sb (K:a8) (C:am):List (am×Bool)->Prop
 |nil:Sb K C []
 |cons {D:am}{b:Bool}{l:List (am×Bool)}:PM K (.ref C) (.ref D)=some b->(b=false->C≠D)->Sb K C l->Sb K C ((D,b)::l)
structure Wy (K:a8) (C CP:am) (l:List (am×Bool)):Prop where
 x1:my K (.ref C) "__getattribute__"=some (some (.builtin "BaseException.__getattribute__"))
 x2:my K (.ref C) "__getattr__"=some none
 x3:my K (.ref C) "__class__"=some (some (.builtin "object.__class__"))
 x4:Il K (.builtin "object.__class__") "__get__"=some (some (.builtin "getset_descriptor.__get__"))
 x5:LL K (.builtin "object.__class__")=some true
 x6:io K C (.type "object")=some true
 x7:io K C (.ref CP)=some true
 x8:PM K (.ref C) (.type "ValueError")=some true
 x9:(bt CP==bt C)=false
 sb:Sb K C l
end
end J
section
namespace L2
open PySem PySem.Spec PyProof.Rows
section
theorem Jf  (hit:s.heap.IsKeyIter it d i es.size ep) (hd:s.heap.get? d=some o) (ho:o.data=.dict es ep) (he:es[i]?=some e)
  (h:∀ h':bT,h'.IsKeyIter it d (i+1) es.size ep->bG it s.heap h'->Q (some e.key) { s with heap:=h' }) :
  au (az prog w) A (lF (.ref it)) Q E s:=by
 obtain ⟨⟨c0,d0,dt,sl⟩,q1,q2,q3⟩:=id hit;simp only at q2 q3;subst q2 q3;unfold lF;refine a7 (kq ?_);refine cu (name:=gW "__next__") hit.typeIs fQ ?_;refine bD fQ hit.typeIs tH ?_ (t4 _);refine a7 (fA (a:=.ref it) rfl ?_);refine a7 (a7 (a7 (iK hit.typeIs (a9 ?_))));refine a7 (Gs q1 rfl ?_);show au _ _ (if (bt d==e8)=true then _ else _) _ _ s;rw [if_neg (by simp)];refine a7 (fA (a:=d) rfl ?_);refine a7 (AG hd ho ?_);show au _ _ (if ((es.size:Int) != (es.size:Int))=true then _ else _) _ _ s;rw [if_neg (by simp)];refine a7 (fA (a:=d) rfl ?_);refine a7 (DZ hd ho ?_);show au _ _ (if ((ep:Int) != (ep:Int))=true then _ else _) _ _ s;rw [if_neg (by simp)];refine a9 ?_;have e0:(if (i:Int)<0 then none else es[(i:Int).toNat]?)=some e:=by
  rw [if_neg (by omega)];simpa using he
 simp only [e0];refine a7 (a7 (iK hit.typeIs (a9 ?_)));refine a7 (PN hit.typeIs ?_);refine a7 (gL q1 rfl (by simp [mn]) ?_);have st:∀ k x,k=1->x=cr ((i:Int)+1)->(s.heap.update it (eg (·.setIfInBounds k x))).IsKeyIter it d (i+1) es.size ep:=fun k x hk hx=>by
  subst hk hx;have q:=gm (eg (·.setIfInBounds 1 (cr ((i:Int)+1)))) q1 rfl;refine ⟨_,q,rfl,?_⟩;show Data.fields ((#[.ref d,.int i 0,.int es.size 0,.int ep 0] : Array af).setIfInBounds 1 (cr ((i:Int)+1)))=_;simp [cr]
 have st1:=st _ _ rfl rfl;refine a7 (dw (a7 (PN st1.typeIs ?_)));refine a9 ?_;exact a9 ⟨_,rfl,a9 (h _ st1 (bE ..))⟩
theorem On (hh:A.handled=none) (hit:s.heap.IsKeyIter it d i es.size ep) (hd:s.heap.get? d=some o) (ho:o.data=.dict es ep) (he:es.size<=i)
  (h:∀ h':bT,Ip it s.heap h'->Q none { s with heap:=h' }) :
  au (az prog w) A (lF (.ref it)) Q E s:=by
 obtain ⟨⟨c0,d0,dt,sl⟩,q1,q2,q3⟩:=id hit;simp only at q2 q3;subst q2 q3;unfold lF;refine a7 (kq ?_);refine cu (name:=gW "__next__") hit.typeIs fQ ?_;refine bD fQ hit.typeIs tH ?_ (t4 _);refine a7 (fA (a:=.ref it) rfl ?_);refine a7 (a7 (a7 (iK hit.typeIs (a9 ?_))));refine a7 (Gs q1 rfl ?_);show au _ _ (if (bt d==e8)=true then _ else _) _ _ s;rw [if_neg (by simp)];refine a7 (fA (a:=d) rfl ?_);refine a7 (AG hd ho ?_);show au _ _ (if ((es.size:Int) != (es.size:Int))=true then _ else _) _ _ s;rw [if_neg (by simp)];refine a7 (fA (a:=d) rfl ?_);refine a7 (DZ hd ho ?_);show au _ _ (if ((ep:Int) != (ep:Int))=true then _ else _) _ _ s;rw [if_neg (by simp)];refine a9 ?_;have e0:(if (i:Int)<0 then none else es[(i:Int).toNat]?)=none:=by
  rw [if_neg (by omega)];simpa using he
 simp only [e0];refine a7 (a7 (iK hit.typeIs (a9 ?_)));refine a7 (gL q1 rfl (by simp [mn]) ?_);show au _ _ (u0 (.type "StopIteration") [] >>= _) _ _ _;refine a7 ?_;simp only [u0,Q8];refine a7 (bH ?_ (by size_fits));refine a7 (m:=lJ _ _) (fA (a:=e8) ?_ ?_)
 ·first
   |rfl
   |(simp only [lJ];rfl)
 refine bH ?_ (by size_fits);simp only [sZ];refine a7 (K8 ?_);rw [show A.in1.handled=none from hh];refine a7 (a9 (Q9 ?_));refine a7 (gC (T:="StopIteration") (b:=true) ⟨_,ax _ rfl,rfl⟩ wf ?_);exact a9 (h _ (((bE ..).extBut.push _).push _))
theorem Oo (hs:(d==fi)=false) (hd:s.heap.get? d=some o) (hx:o.ExactDict) (ho:o.data=.dict es ep)
  (h:Q (.ref s.heap.objs.size) { s with heap:=s.heap.push { cls:=.type "dict_keyiterator",data:=.fields #[.ref d,.int 0 0,.int es.size 0,.int ep 0] } }) :
  au (az prog w) A (yz (.ref d)) Q E s:=by
 have ty:s.TypeIs (.ref d) "dict":=⟨o,hd,hx.1⟩;refine Az ty Cr (bD Cr ty PySem.F.entry_dict_iter ?_ (PySem.F.args_dict_iter_1 _));refine a7 (a7 (wpAny_notOrdered_dict ty (a7 (fA (a:=(bt d,[])) rfl (a9 ?_)))));refine a7 (fA (a:=d) rfl ?_);refine a7 (fA (a:=()) (by unfold Builtin.Dict.showsAll;rw [hs];rfl) ?_);refine a7 (AG hd ho ?_);refine a7 (DZ hd ho ?_);refine a7 (bH ?_ (by size_fits));exact a9 ⟨_,rfl,"dict_keyiterator",_,⟨_,ax _ rfl,rfl⟩,PySem.F.slot_dict_keyiterator_next.lookup,h⟩
end
def Yv (a:am) (o:Obj) (kvs:List (List gD×V)):It :=
 ⟨fun i H=>H a=some (.frz o (.dT kvs))/\i<kvs.length,fun i H x H'=>H'=H/\∃ k v b,kvs[i]?=some (k,v)/\x=.ref b/\H b=some (.tup (k.map kV)),fun i H=>H a=some (.frz o (.dT kvs))/\kvs.length<=i⟩
theorem KY {α β:Type}{F:α->β->Prop}{l:List α}{m:List β} (h:Gi F l m):∀ {i:Nat}{x:α},l[i]?=some x->∃ y,m[i]?=some y/\F x y:=by
 induction h with
 |nil=>intro i x e;simp at e
 |cons a _ ih =>
  intro i x e;cases i with
  |zero=>cases e;exact ⟨_,rfl,a⟩
  |succ i=>exact ih e
theorem vp       (ok:qP P w H h) (e:H a=some (.frz o (.dT kvs))):(a==fi)=false/\h.get? a=some o/\o.ExactDict/\∃ es ep,o.data=.dict es ep/\es.size=kvs.length /\
  ∀ (i:Nat) (k:List gD) (v:V),kvs[i]?=some (k,v)->∃ (en:sY) (b:am),es[i]?=some en/\en.key=bt b/\H b=some (.tup (k.map kV)):=by
 obtain ⟨h0,z,y,xs,r,o',es,ep,h1,h2,h3,h4,h5⟩:=(show dz P w H h a (.frz o (.dT kvs)) from ok a _ e);rw [h0] at h1;cases h1;refine ⟨y,h0,h2,es,ep,h3,?_,fun i k v hk=>?_⟩
 ·rw [<- ap,h4,ao];exact (jq r).symm
 ·obtain ⟨q,q1,q2⟩:=KY r hk;refine ⟨entryOfKey (sX (gE P w)) q,q.2.1,?_,?_,q2.2.1⟩
  ·rw [<- aQ,h4,aU,q1];rfl
  ·rfl
theorem KZ {P:bq}{w:bL}{K:a8}{tg:bY}{a it:am}{o:Obj}{kvs:List (List gD×V)}{es:Array sY}{ep:Nat} (hd:o.data=.dict es ep) (hn:es.size=kvs.length) :
  AI P w K tg (Yv a o kvs) [it] it (fun i h=>h.IsKeyIter it a i es.size ep) where
 mem:=by simp
 obj:=fun i h st b hb=>by
  have e:b=it:=by simpa using hb
  subst e;obtain ⟨o,e,c,d⟩:=st;exact ⟨o,e,fun v z=>by rw [d] at z;cases z⟩
 keep:=fun i h h' st k=>st.at fun o e=>k it (by simp) o e
 item:=by
  intro X hP hw hK hc i pins s σ H E I hf st hg;subst hP hw hK;obtain ⟨hq,hi⟩:=hg;obtain ⟨_,g1,_,es',ep',g2,g3,g4⟩:=vp I.hok hq;rw [hd] at g2;cases g2;obtain ⟨en,b,e1,e2,e3⟩:=g4 i _ _ (bc hi);obtain ⟨f0,f1,f2,f3,f4,f5⟩:=hf it (by simp);refine Jf st g1 hd e1 fun h' st' sb=>?_;have I1:bP X pins σ H { s with heap:=h' }:=I.turned (t':=s.toks) (fun b o hb e=>(sb.2 b hb).trans e) f0 f1 f3 f4 f5;obtain ⟨o',e,c,d⟩:=id st';refine ⟨_,rfl,Iy (s:={ s with heap:=h' }) e c d (by decide) ⟨.ref b,H,I1,?_,⟨rfl,_,_,b,bc hi,rfl,e3⟩,st',fun b hb=>(hf b hb).1⟩⟩;rw [e2];rfl
 done:=by
  intro X hP hw hK hc i pins s σ H E I hf st hg;subst hP hw hK;obtain ⟨hq,hi⟩:=hg;obtain ⟨_,g1,_,es',ep',g2,g3,g4⟩:=vp I.hok hq;obtain ⟨f0,f1,f2,f3,f4,f5⟩:=hf it (by simp);exact On (I.ok.hd hc) st g1 hd (by omega) fun h' eb=>⟨rfl,I.turned (t':=s.toks) (fun b o hb e=>eb b o hb e) f0 f1 f3 f4 f5⟩
 self:=fun _ _ _ _ _ st h=>Qk st h
def WO (tl:TE):TI:=fun σ H R=>tl σ H fun x H1=>∃ a o kvs,x=.ref a/\H1 a=some (.frz o (.dT kvs))/\R (Yv a o kvs) H1
theorem Rk {X:Cx}{tg l:bY}{tl:TE} (hl:PE X l tl):PI X tg l (WO tl):=by
 intro pins s σ H R I h;refine fR (hl pins s σ H _ I h) fun v s1 h1=>?_;obtain ⟨x,H1,I1,r1,q1⟩:=h1;obtain ⟨a,o,kvs,e,hq,q⟩:=q1;subst e;cases r1;obtain ⟨y,g1,g0,es,ep,g2,g3,g4⟩:=vp I1.hok hq;refine Oo y g1 g0 g2 ?_;refine ⟨s1.heap.objs.size,[s1.heap.objs.size],_,_,H1,rfl,I1.kept (t':=s1.toks) fun b o e=>ac _ e,KZ g2 g3,⟨_,ax _ rfl,rfl,rfl⟩,fun b hb=>?_,q⟩;rw [List.mem_singleton.mp hb];exact I1.fpOk (aq _) (I1.hok.fresh (aq _))
def Zv (tk tv:TE):TE:=fun σ H Q=>∀ p,H p=none->tk σ (upd H p (.dT [])) fun y H1=>tv σ H1 fun v H2=>∃ kvs k b,H2 p=some (.dT kvs)/\y=.ref b/\H2 b=some (.tup (k.map kV))/\kvs.length<sizeLine/\Q (.ref p) (upd H2 p (.dT (n6 kvs k v)))
theorem Op    (hu:X.A.units+1<gK) (hk:PE X k tk) (hv:PE X v tv):PE X (.Dict [some k] [v] pos) (Zv tk tv):=by
 intro pins s σ H Q I h;refine wpAny_Dict_any rfl rfl (by simp) (by simp) ?_;have I0:bP X pins σ (upd H s.heap.objs.size (.dT [])) { s with heap:=s.heap.push { cls:=.type "dict",data:=.dict #[] } }:=I.laid (a:=s.heap.objs.size) (o:=.dT []) (t':=s.toks) (fun _ _ q=>ac _ q) (aq _) (MK s.heap I.big);have h0:=h s.heap.objs.size (I.hok.fresh (aq _));simp only [pairTrees,evalPairs];refine a7 (fR (hk pins _ σ _ _ I0 h0) fun u1 s1 h1=>?_);obtain ⟨y,H1,I1,r1,q1⟩:=h1;refine a7 (dw (a7 (fR (hv pins s1 σ H1 _ I1 q1) fun u2 s2 h2=>?_)));obtain ⟨z,H2,I2,r2,q2⟩:=h2;obtain ⟨kvs,ks,b,e1,e2,e3,e4,q⟩:=q2;refine a7 (j9 (a9 ?_));refine a7 (dw (a9 (a9 ?_)));subst e2;cases r1;unfold storeAll;simp only [jM,nj,bind_assoc];obtain ⟨z1,hd,xs,rel,dd⟩:=Sr I2.hok e1;have hz:xs.length<=sizeLine:=by rw [<- jq rel];exact z1
 have hl:(n6 kvs ks z).length<=sizeLine:=by have:=rg kvs ks z;omega
 refine a7 (wpAny_dictSet_heap (by show X.A.units<gK;omega) (wt I2.hok e3) dd (fun h' dd' hs=>?_) hz);obtain ⟨o',es,ep,hq,g2,g3,g4,_,g5⟩:=dd';have I3:=CD (t':=s2.toks+(sX (gE X.prog X.w)).draws ks) I2 (by rw [e1];exact ja) hs ⟨o',hq⟩ (ob:=.dT (n6 kvs ks z)) ⟨hl,hd,_,(rel.put ks e3 r2).keeps fun c ys ec=>(by rw [bd (Mj ec e1 (fun z=>nomatch z))];exact ec),o',es,ep,hq,g2,g3,g4,g5⟩;exact a9 ⟨.ref s.heap.objs.size,_,I3,rfl,q⟩
end L2
namespace J
open PySem L2
def keysOf:List D->Option (List gD)
 |[]=>some []
 |d::r=>(tP d).bind fun k=>(keysOf r).map (k::·)
def qE:D->Option (List gD)
 |.tuple ds=>keysOf ds
 |_=>none
theorem BO:∀ {ds:List D}{ks:List gD},keysOf ds=some ks->ds=ks.map kD
 |[],ks,h=>by cases h;rfl
 |d::r,ks,h=>by
  unfold keysOf at h;cases hk:tP d with
  |none=>rw [hk] at h;cases h
  |some y =>
   rw [hk,xi] at h;cases hr:keysOf r with
   |none=>rw [hr] at h;cases h
   |some l =>
    rw [hr] at h;cases h;rw [av,<- ze hk,<- BO hr]
theorem vq  (h:qE d=some ks):d=tD ks:=by
 cases d<;>first|(cases h;done)|skip
 rename_i ds
 unfold tD;rw [<- BO (show keysOf ds=some ks from h)]
theorem BP:∀ ks:List gD,keysOf (ks.map kD)=some ks
 |[]=>rfl
 |k::r=>by rw [av,keysOf,keyOf_of,BP r];rfl
theorem Oq (ks:List gD):qE (tD ks)=some ks:=BP ks
theorem Jg:∀ a b:List gD,eU (a.map kD) (b.map kD)=decide (a=b)
 |[],[]=>by simp [eU]
 |[],_::_=>by simp [eU]
 |_::_,[]=>by simp [eU]
 |x::a,y::b=>by
  rw [av,av];simp only [eU];rw [D6,Jg a b];by_cases h:x=y<;>by_cases h2:a=b<;>simp [h,h2]
theorem Dc (a b:List gD):aY (tD a) (tD b)=decide (a=b):=by
 unfold tD;simp only [aY];exact Jg a b
theorem RDt.any   (y:List gD):∀ {ds:List (D×D)},RDt K H kvs ds->(ds.any fun kv=>aY kv.1 (tD y))=kvs.any fun kv=>decide (kv.1=y):=by
 induction kvs with
 |nil=>intro ds h;cases h;rfl
 |cons x r ih=>intro ds h;cases h with|cons h t=>rw [ed,ed,ih t,Dc]
theorem RDt.repl  (y:List gD)  (rv:RD K H v d):∀ {ds:List (D×D)},RDt K H kvs ds ->
  RDt K H (kvs.map fun kv=>if kv.1=y then (kv.1,v) else kv) (ds.map fun kv=>if aY kv.1 (tD y) then (kv.1,d) else kv):=by
 induction kvs with
 |nil=>intro ds h;cases h;exact .nil
 |cons x r ih =>
  intro ds h;cases h with
  | @cons k _ _ _ _ h t =>
   rw [av,av];have e:=Dc k y;by_cases hk:k=y
   ·subst hk;rw [show (if k=k then (k,v) else (k,_))=(k,v) from if_pos rfl,show (if aY (tD k) (tD k)=true then (tD k,d) else (tD k,_))=(tD k,d) from if_pos (by rw [e];simp)];exact .cons rv (ih t)
   ·simp only [e,hk,if_neg,decide_false,bu,not_false_eq_true];exact .cons h (ih t)
theorem RDt.snoc  (y:List gD)  (rv:RD K H v d):∀ {ds:List (D×D)},RDt K H kvs ds->RDt K H (kvs++[(y,v)]) (ds++[(tD y,d)]):=by
 induction kvs with
 |nil=>intro ds h;cases h;exact .cons rv .nil
 |cons x r ih=>intro ds h;cases h with|cons h t=>exact .cons h (ih t)
theorem RDt.put    (r:RDt K H kvs ds) (y:List gD)  (rv:RD K H v d):RDt K H (n6 kvs y v) (xU ds (tD y) d):=by
 unfold n6 xU;rw [r.any y];split
 ·exact r.repl y rv
 ·exact r.snoc y rv
theorem UJ {κ:Type} [DecidableEq κ] {kvs:List (κ×V)}{y:κ}{v:V}:n6 kvs y v≠[]:=by
 unfold n6;split
 ·rename_i h
  intro z;have:=List.map_eq_nil_iff.mp z;subst this;cases h
 ·simp
theorem RDt.val   (y:List gD):∀ {ds:List (D×D)},RDt K H kvs ds->(oM kvs y=none/\lU ds (tD y)=none)\/∃ v d,oM kvs y=some v/\lU ds (tD y)=some d/\RD K H v d:=by
 induction kvs with
 |nil=>intro ds h;cases h;exact .inl ⟨rfl,rfl⟩
 |cons x r ih =>
  intro ds h;cases h with
  | @cons k _ _ _ _ h t =>
   unfold oM lU;rw [bI,bI,Dc];by_cases hk:k=y
   ·simp only [hk,decide_true,cR];exact .inr ⟨_,_,rfl,rfl,h⟩
   ·simp only [hk,decide_false];exact ih t
def Jh:List (D×D)->List (D×D)
 |(.none,_)::r=>r
 |l=>l
def ka (ds:List (D×D)):Bool:=!ds.isEmpty&&ds.all fun kv=>(qE kv.1).isSome
theorem RDk.notT    (h:RDk K H kvs ds) (e:ka (Jh ds)=true):False:=by
 cases h with
 |nil=>cases e
 | @cons k _ _ _ _ h t =>
  cases k<;>simp [Jh,ka,kD,qE] at e
theorem RDt.un    (h:RDt K H kvs ds):Jh ds=ds:=by
 cases h<;>rfl
theorem ym    (sub:dD Hs H) (h:RB K H Hs v (tD ks)):∃ b,v=.ref b/\H b=some (.tup (ks.map kV)):=by
 rcases h with h|⟨_,o,rfl,_,_,ow⟩
 ·cases h with
  |tuple q r =>
   have:=CT (c:=kD) (k:=kV) (fun h=>Hf h) r;subst this;exact ⟨_,rfl,sub _ _ q⟩
 ·cases ow
theorem Ji    (sub:dD Hs H) (h:RB K H Hs v (.dict ds)) (e:ka (Jh ds)=true):∃ a kvs,v=.ref a/\RDt K Hs kvs (Jh ds)/\∀ (b:am) (k:List gD),H b=some (.tup (k.map kV))->xP H a (.ref b) (oM kvs k):=by
 obtain ⟨a,ea,hh⟩:=h.dict sub;clear h;subst ea;rcases hh with ⟨kvs,h1,h2⟩|⟨kvs,h1,hn,h2⟩|⟨o,kvs,es,rfl,h1,hn,h2⟩
 ·exact (h2.notT e).elim
 ·exact ⟨a,kvs,rfl,by rw [h2.un];exact h2,fun b k hb=>xP.t h1 hb⟩
 ·exact ⟨a,kvs,rfl,h2,fun b k hb=>.inr ⟨kvs,k,b,.inr ⟨o,h1⟩,rfl,hb,rfl⟩⟩
def Gh:D->D->R D
 |.dict ds,k=>match qE k with
  |some _=>if ka (Jh ds)=true then (match lU (Jh ds) k with
   |some d=>.ok d
   |none=>.no) else .no
  |none=>.no
 |_,_=>.no
section
variable {c:C}{a b e k:bY}{ga gb g gk:aD->R D}{pos p apos:Pos}{x:Str}
theorem Dd (hu:c.X.A.units+1<gK) (ha:JB c a ga) (hb:JB c b gb) (hs:u_ b:=by exact fun _ _=>rfl):JE c (.Subscript a b pos) (g2 ga gb Gh):=.of fun ρ=>by
 refine sv (ID hu (ha ρ) (hb ρ) hs) fun σ H Q h_2=>?_;obtain ⟨H0,Hs0,la,Hs,f,q⟩:=h_2;refine one f q fun d v H1 Hs1 e1 s1 f1 r1=>?_;unfold g2 at q;rw [e1,bind_ok] at q;refine one f1 (q.on s1 (q':=fun _=>True) fun _ _=>trivial) fun y w H2 Hs2 e2 s2 f2 r2=>?_;rw [e2,bind_ok] at q;unfold Gh at q;split at q
 ·rename_i ds
  split at q
  ·rename_i ky hy
   obtain rfl:=vq hy;by_cases hf:ka (Jh ds)=true
   ·rw [if_pos hf] at q;obtain ⟨p,kvs,rfl,h2,h3⟩:=Ji f2.st.sub (r1.step s2) hf;obtain ⟨b,rfl,hb⟩:=ym f2.st.sub r2;rcases h2.val ky with ⟨_,h4⟩|⟨u,d,h4,h5,h6⟩
    ·rw [h4] at q;exact q.elim
    ·rw [h5] at q;exact ⟨p,u,rfl,by rw [<- h4];exact h3 b ky hb,q _ H2 Hs2 (s1.trans s2) h6⟩
   ·rw [if_neg hf] at q;exact q.elim
  ·exact q.elim
 ·exact q.elim
def inT (neg:Bool):D->D->R D
 |k,.dict ds=>match qE k with
  |some _=>if ka (Jh ds)=true then .ok (.bool (if neg then !(lU (Jh ds) k).isSome else (lU (Jh ds) k).isSome)) else .no
  |none=>.no
 |_,_=>.no
theorem K_ (hu:c.X.A.units+1<gK):xn c.X (bC .NotIn) (inT true):=by
 refine ⟨fun pins s σ H x y v u Q I rv ru h=>?_,fun x y c n=>?_⟩
 ·obtain ⟨Hs,dx,dy,sub,rx,ry,d,hd,q⟩:=h;unfold inT at hd;split at hd
  ·rename_i ds
   split at hd
   ·rename_i ky hy
    obtain rfl:=vq hy;split at hd
    ·rename_i hf
     cases hd;obtain ⟨p,kvs,rfl,h2,h3⟩:=Ji sub ry hf;obtain ⟨b,rfl,hb⟩:=ym sub rx;cases ru;refine L2.QL hu I (h3 b ky hb) rv fun s' I'=>⟨.bl _,H,I',rfl,?_⟩;have e:(oM kvs ky).isSome=(lU (Jh ds) (tD ky)).isSome:=by
      rcases h2.val ky with ⟨h4,h5⟩|⟨u,d,h4,h5,h6⟩<;>rw [h4,h5]<;>rfl
     rw [e];exact q _ H Hs (.refl sub) (.bool _)
    ·cases hd
   ·cases hd
  ·cases hd
 ·unfold inT;split<;>(try split)<;>(try split)<;>exact fun h=>by cases h
def xp (i:Nat) (gk g:aD->R D):aD->R Fl:=fun ρ=>match ρ[i]? with
 |some (Sl.own (.dict kvs))=>(g ρ).bind fun d=>(gk ρ).bind fun k=>match qE k with
  |some _=>if kvs.length<1000/\ka kvs=true then .ok (.nx (ρ.set i (.own (.dict (xU kvs k d))))) else .no
  |none=>.no
 |_=>.no
theorem Os (i:Nat) (h:JE c e g) (hk:JE c k gk) (hu:c.X.A.units+1<gK) (hN:c.X.N[i]?=some x:=by rfl) (hv:Ml c.X.env.scope x:=by first|exact iz rfl|exact e_ (iz rfl)|exact e_ (e_ rfl)) (hd:(x==("__debug__" : Str))=false:=by decide)
  (hcd:(x==("__classdict__" : Str))=false:=by decide) (hs:iq e (some (.Subscript (.Name x p) k apos)) pos.line c.X.env=pure false:=by rfl):JS c (.Assign [.Subscript (.Name x p) k apos] e pos) (xp i gk g):=.of fun ρ=>by
 refine As (IE hu (q_ hN hv hd hcd) (hk ρ) (h ρ) hs) fun D σ H h_1=>?_;obtain ⟨H0,Hs0,la,Hs,f,q⟩:=h_1;replace q:oO c.X.K c.cls c.E H0 Hs0 la D (xp i gk g ρ):=q;unfold xp at q;split at q
 ·rename_i kvs ho
  obtain ⟨a,o,k1,k2,k3,k4,k5⟩:=f.ow i _ ho;refine sE f q fun d v H1 Hs1 e1 s1 f1 r1=>?_;rw [e1,bind_ok] at q;refine ⟨_,k1,sE f1 q fun y w H2 Hs2 e2 s2 f2 r2=>?_⟩;rw [e2,bind_ok] at q;split at q
  ·rename_i ky hy
   obtain rfl:=vq hy;by_cases hl:kvs.length<1000/\ka kvs=true
   ·rw [if_pos hl] at q;cases k5 with
    |dK r=>exact (r.notT (by cases r with|nil=>exact hl.2 | @cons k _ _ _ _ _ _=>cases k<;>exact hl.2)).elim
    |dF n r=>cases hl.2
    |dT n r =>
     have ha:=s2.all _ _ (s1.all _ _ k2);have r':=(r.same s1.sh).same s2.sh;obtain ⟨b,rfl,hb⟩:=ym f2.st.sub (.inl r2);exact ⟨a,_,rfl,Ef.t ha hb (eI (by rw [r.length];omega)),q _ _ Hs2 (f2.write i ho k1 (.dT UJ (r'.put ky (r1.same s2.sh))))⟩
   ·rw [if_neg hl] at q;exact q.elim
  ·exact q.elim
 ·exact q.elim
end
end J
namespace J
open PySem L2
def lz (i:Nat) (ρ:aD):aD:=match ρ[i]? with
 |some (Sl.own (.dict ((.tuple ks,v)::r)))=>ρ.set i (.own (.dict ((.none,.none)::(.tuple ks,v)::r)))
 |_=>ρ
theorem Rl       (I:bP X pins σ H s) (h:H a=some (.dT kvs)):∃ o,bP X pins σ (upd H a (.frz o (.dT kvs))) s:=by
 obtain ⟨z,y,xs,pr,o,es,ep,e1,e2,e3,e4,e5⟩:=(show dz X.prog X.w H s.heap a (.dT kvs) from I.hok a _ h);have new:dz X.prog X.w (upd H a (.frz o (.dT kvs))) s.heap a (.frz o (.dT kvs)) :=
  ⟨e1,z,y,xs,Paired.mapP pr fun p q w=>⟨w.1,by rw [bd (Mj w.2.1 h (fun z=>nomatch z))];exact w.2.1,w.2.2⟩,o,es,ep,e1,e2,e3,e4,e5⟩
 have:=I.write (x:=a) (e:=a) (h':=s.heap) (t':=s.toks) (by rw [h];trivial) (.inl rfl) (fun b u _ q=>q) ⟨o,e1⟩ new;exact ⟨o,this⟩
theorem WP   (h:PS X st t):PS X st (fun D σ H=>t D σ H\/∃ a kvs,H a=some (.dT kvs)/\∀ o,t D σ (upd H a (.frz o (.dT kvs)))):=fun pins s σ H D I q=>by
 rcases q with q|⟨a,kvs,ha,q⟩
 ·exact h pins s σ H D I q
 ·obtain ⟨o,I'⟩:=Rl I ha;exact h pins s σ _ D I' (q o)
theorem UK (i:Nat)  (h:JS c st gs):JS c st (fun ρ=>gs (lz i ρ)):=.of fun ρ=>As (WP (h (lz i ρ))) fun D' σ H hh=>by
 obtain ⟨H0,Hs0,la,Hs,f,q⟩:=hh;by_cases hx:∃ ks v r,ρ[i]?=some (Sl.own (.dict ((.tuple ks,v)::r)))
 ·obtain ⟨ks,v,r,ho⟩:=hx;have e:lz i ρ=ρ.set i (.own (.dict ((.none,.none)::(.tuple ks,v)::r))):=by unfold lz;rw [ho]
  obtain ⟨a,o,k1,k2,k3,k4,k5⟩:=f.ow i _ ho;generalize hd:G9 ((.tuple ks,v)::r)=d0 at k5;cases k5 with
  |lst r=>cases hd
  |dK rk =>
   cases hd;generalize hd:((.tuple ks,v)::r:List (D×D))=d1 at rk;cases rk with
   |nil=>cases hd
   | @cons k _ _ _ _ _ _=>cases k<;>cases hd
  |dF n r=>cases hd
  |dT n r =>
   cases hd;exact .inr ⟨a,_,k2,fun o=>⟨H0,Hs0,la,Hs,by rw [e];exact f.write i ho k1 (.dF n r),q⟩⟩
 ·have e:lz i ρ=ρ:=by
   unfold lz;split
   ·rename_i ks v r ho;exact (hx ⟨ks,v,r,ho⟩).elim
   ·rfl
  refine .inl ⟨H0,Hs0,la,Hs,by rw [e];exact f,q⟩
def De:D->R (List D)
 |.dict ((.none,.none)::ds)=>.ok (ds.map (·.1))
 |_=>.no
def Rm (g:aD->R D):aD->R (List D):=fun ρ=>(g ρ).bind De
theorem RDt.get   : ∀ {ds:List (D×D)}{i:Nat}{k:List gD}{v:V},RDt K H kvs ds->kvs[i]?=some (k,v)->∃ d,ds[i]?=some (tD k,d):=by
 induction kvs with
 |nil=>intro ds i k v h e;simp at e
 |cons x r ih =>
  intro ds i k v h e;cases h with
  |cons h t =>
   cases i with
   |zero=>cases e;exact ⟨_,rfl⟩
   |succ i=>have q:=ih (i:=i) t e;exact q
theorem Ot  : ∀ ks:List gD,RDs K H (ks.map kV) (ks.map kD)
 |[]=>.nil
 |k::r=>.cons (by cases k<;>constructor) (Ot r)
theorem Rn      (h:Hn a=some (.frz o (.dT kvs))) (r:RDt K Hs kvs ds):PY K (Yv a o kvs) (ds.map (·.1)) Hn Hs:=fun H2 Hs2 e1 e2 e3=>by
 have q:=e1 _ _ h;have hl:=r.length;refine ⟨fun i hi=>⟨q,?_⟩,fun i hi=>⟨q,?_⟩,fun i x H3 hi y=>?_⟩
 ·rw [ao] at hi;omega
 ·rw [ao] at hi;omega
 ·obtain ⟨rfl,k,v,b,y1,rfl,y3⟩:=y;obtain ⟨d,y4⟩:=r.get y1;have same:dD Hs2 (upd Hs2 b (.tup (k.map kV))):=fun c u e=>by
   by_cases hc:c=b
   ·subst hc;have:=e3 _ _ e;rw [y3] at this;cases this;exact b9
   ·rw [bd hc];exact e
  refine ⟨tD k,upd Hs2 b (.tup (k.map kV)),by rw [aU,y4];rfl,⟨.refl _,same,fun c u e=>?_,fun c u e t z=>?_⟩,.tuple b9 (Ot k)⟩
  ·by_cases hc:c=b
   ·subst hc;rw [b9] at e;cases e;exact y3
   ·rw [bd hc] at e;exact e3 _ _ e
  ·by_cases hc:c=b
   ·subst hc;rw [y3] at e;cases e;cases t
   ·rw [bd hc];exact z
section
theorem Ro (h:JB c l g):JI c tg l (Rm g):=.of fun ρ=>by
 refine KP (Rk (h ρ)) fun σ H Q hh=>?_;obtain ⟨H0,Hs0,la,Hs,f,q⟩:=hh;refine one f q fun d v H1 Hs1 e1 s1 f1 r1=>?_;unfold Rm at q;rw [e1,bind_ok] at q;unfold De at q;split at q
 ·obtain ⟨a,ea,hh⟩:=r1.dict f1.st.sub;rcases hh with ⟨kvs,h1,h2⟩|⟨kvs,h1,hn,h2⟩|⟨o,kvs,es,he,h1,hn,h2⟩
  ·generalize hd:((.none,.none)::_:List (D×D))=d0 at h2;cases h2 with
   |nil=>cases hd
   | @cons k _ _ _ _ _ _=>cases k<;>cases hd
  ·generalize hd:((.none,.none)::_:List (D×D))=d0 at h2;cases h2<;>cases hd
  ·cases he;exact ⟨a,o,kvs,ea,h1,q _ H1 Hs1 H1 s1 (.refl _) (Rn h1 h2)⟩
 ·exact q.elim
def Vn (gk gv:aD->R D):aD->R D:=fun ρ=>(gk ρ).bind fun k=>(gv ρ).bind fun v=>match qE k with
 |some _=>.ok (.dict [(k,v)])
 |none=>.no
theorem Ou (hu:c.X.A.units+1<gK) (hk:JE c k gk) (hv:JE c v gv):JN c (.Dict [some k] [v] pos) (Vn gk gv):=.of fun ρ=>by
 refine sv (Op hu (hk ρ) (hv ρ)) fun σ H Q hh=>?_;obtain ⟨H0,Hs0,la,Hs,f,q⟩:=hh;intro p hp;have sm:cP H Hs (upd H p (.dT [])) Hs:=.mine f.st.sub hp;have np:Hs p=none:=f.st.sub.free hp;unfold Vn at q;refine AT (f.step sm) (q.on sm (q':=fun _=>True) fun _ _=>trivial) fun y w H1 Hs1 e1 s1 f1 r1=>?_;rw [e1,bind_ok] at q;refine AT f1 (q.on (sm.trans s1) (q':=fun _=>True) fun _ _=>trivial) fun z u H2 Hs2 e2 s2 f2 r2=>?_;rw [e2,bind_ok] at q;split at q
 ·rename_i ky hy
  obtain rfl:=vq hy;obtain ⟨b,rfl,hb⟩:=ym f1.st.sub (.inl r1);have s12:=s1.trans s2;have hp2:H2 p=some (.dT []):=s12.all _ _ b9;have hn2:Hs2 p=none:=s12.out _ _ b9 rfl np;let H3:Hp:=fun x=>if x=p then none else H2 x
  have h3:∀ x,x≠p->H3 x=H2 x:=fun x hx=>if_neg hx;have st:cP H Hs H3 Hs2:=by
   refine ⟨fun x o e=>?_,s12.sh,fun x o e=>?_,fun x o e t n=>?_⟩
   ·have hx:=bU e hp;rw [h3 x hx];exact s12.all _ _ (by rw [bd hx];exact e)
   ·have hx:x≠p:=fun z=>by rw [z,hn2] at e;cases e
    rw [h3 x hx];exact f2.st.sub _ _ e
   ·have hx:=bU e hp;exact s12.out _ _ (by rw [bd hx];exact e) t n
  have:=q p (.dT [(ky,u)]) H3 Hs2 st (if_pos rfl) (.dT (by simp) (.cons r2 .nil));have e3:upd H3 p (.dT [(ky,u)])=upd H2 p (.dT (n6 [] ky u)):=by
   funext x;by_cases hx:x=p
   ·subst hx;rw [b9,b9];rfl
   ·rw [bd hx,bd hx,h3 x hx]
  rw [e3] at this;exact ⟨[],ky,b,hp2,rfl,s2.all _ _ hb,by rw [jw];decide,this⟩
 ·exact q.elim
def AX (g:aD->R D):aD->R Bool:=fun ρ=>(g ρ).bind fun d=>match d with
 |.list ds=>.ok (!ds.isEmpty)
 |_=>.no
theorem Ov (h:JB c e g) (he:∀ whole,vZ e c.X.env whole=(do let v <- whole;xc e.pos;holding [v] (truthy v)):=by intro _;rfl):JT c e (AX g):=.of fun ρ=>W8 (My (h ρ) he) fun σ H Q hh=>by
 obtain ⟨H0,Hs0,la,Hs,f,q⟩:=hh;refine one f q fun d v H1 Hs1 e1 s1 f1 r1=>?_;unfold AX at q;rw [e1,bind_ok] at q;split at q
 ·obtain ⟨a,vs,rfl,qa,ra⟩:=r1.list f1.st.sub;refine ⟨_,.inl ⟨vs,qa,rfl⟩,?_⟩;cases ra with
  |nil=>exact q H1 Hs1 s1
  |cons _ _=>exact q H1 Hs1 s1
 ·exact q.elim
end
end J
namespace L2
open PySem PySem.Spec PyProof.Rows
end L2
namespace J
open PySem L2
end J
namespace J
open PySem L2
def WQ (i:Nat) (g:aD->R Fl):aD->R Fl:=fun ρ=>g (lz i ρ)
theorem UL (i:Nat)  (h:JS c st gs):JS c st (WQ i gs):=UK i h
end J
namespace J
open PySem L2
end J
namespace J
open PySem L2
def rS (i:Nat) (ρ:aD):R D:=Gf ρ i
def rB (i:Nat) (ρ:aD):R D:=Gg ρ i
def kI (n:Int) (_:aD):R D:=.ok (.int n)
def kB (b:Bool) (_:aD):R D:=.ok (.bool b)
def kN (_:aD):R D:=.ok .none
def kT (_:aD):R Bool:=.ok true
theorem WR (i:Nat) (ρ:aD):rS i ρ=Gf ρ i:=id rfl
theorem UM (i:Nat) (ρ:aD):rB i ρ=Gg ρ i:=id rfl
theorem WS (n:Int) (ρ:aD):kI n ρ=.ok (.int n):=id rfl
theorem WT (b:Bool) (ρ:aD):kB b ρ=.ok (.bool b):=id rfl
theorem WU (ρ:aD):kN ρ=.ok .none:=id rfl
end J
end
section
namespace L2
open PySem PySem.Spec PyProof.Rows
section
end
end L2
namespace J
open PySem L2
section
end
end J
end
namespace L2
open PySem PySem.Spec PyProof.Rows
section
open Builtin Builtin.ObjectAttr
inductive Jj (h:bT) (bmB:List af) (nms:List Str):List af->Prop
 |base:Jj h bmB nms bmB
 |own {A:am}{c0:af}{dd:Option am}{cd:ClassData}{sl:Array (Option af)}{mA:Str->Option af}{tl:List af} :
   h.get? A=some { cls:=c0,dict:=dd,data:=.cls cd,slots:=sl }->h.Ns cd.ns mA->(∀ n∈nms,mA n=none)->Jj h bmB nms tl->Jj h bmB nms (.ref A::tl)
section
variable {M:Model}{A:cy}{E:af->al->Prop}{h:bT}{g:Array Gj}{d:LJ}{t:Nat}{os:OsState}
variable {nm q:Str}{C N x:am}{bs bm bmB:List af}{hdct:Bool}{sn:List Str}{sub:List af}{ab:Bool}{col:Option Bool}{dd:Option am}{k0 k1 k2 k3 k5:Option af}{B newId initId sa owner:String}{nms:List Str}{name:Str}{v:af}{mN:Str->Option af}
end
section
variable {prog:bq}{w:bL}{A:cy}{E:af->al->Prop}{h:bT}{g:Array Gj}{d:LJ}{t:Nat}{os:OsState}
variable {nm q:Str}{C N x:am}{bs bm bmB:List af}{sn:List Str}{sub:List af}{ab:Bool}{col:Option Bool}{dd:Option am}{k0 k1 k2 k3 k5:Option af}{B newId initId sa owner:String}{nms:List Str}{name:Str}{v:af}{mN:Str->Option af}
end
end
section
section
variable {prog:bq}{w:bL}{A:cy}{E:af->al->Prop}{h:bT}{g:Array Gj}{d:LJ}{t:Nat}{os:OsState}
variable {nm q:Str}{C N:am}{bs bm bmB:List af}{hdct:Bool}{sn:List Str}{sub:List af}{ab:Bool}{col:Option Bool}{dd:Option am}{k0 k1 k2 k3 k5:Option af}{B newId initId:String}
end
section
end
section
end
end
section
structure UN (h:bT) (fI:am):Prop where
 ex:∃ (oI:Obj) (fd:fz) (p1 p2 p3 p4:Pos),h.get? fI=some oI/\oI.cls=.type "function"/\oI.data=.func fd/\h.CodeRec fd.code fd.qualname/\fd.scope.isCoroutine=false/\fd.scope.isGenerator=false/\fd.scope.kind=.function /\
  fd.scope.names=[(("self" : Str),qO),(("number" : Str),qO)]/\fd.body=.stmts [.Assign [.Attribute (.Name "self" p1) "number" p2] (.Name "number" p3) p4]/\∀ (s:al) (e v:af),(∀ b o,h.get? b=some o->s.heap.get? b=some o)->Av s fd ⟨[e,v],[]⟩ [("self",e),("number",v)]
section
end
section
end
end
section
structure Yw (x:Str) (C:am) (mg:Str->Option af) (base:bT):Prop where
 bound:mg x=some (.ref C)
 obj:∃ nm q N bs bm sn sub ab col dd k0 k1 k2 k3 k5 mN fI,base.get? C=some (excClassObj nm q C N bs bm true sn sub ab col dd k0 k1 k2 k3 k5 "ValueError.__new__")/\base.Ns N mN/\mN "__init__"=some (.ref fI)/\mN "__setattr__"=none/\mN "number"=none /\
  Jj base [.type "ValueError",.type "Exception",.type "BaseException",.type "object"] ["__init__","__setattr__","number"] bm/\UN base fI
section
variable {P:bq}{w:bL}{K:a8}{mg:Str->Option af}{base:bT}{N:List Str}{qual:Str}{scope:ij}{f:am}{cd:af}{A:cy}{outer:List Env}{s:al}{H:Hp}{E:XK}
end
end
end L2
namespace J
open PySem L2
section
open PySem.W (nsIn nsOkIn codeIn fnOf)
theorem WV      (X:K.In h) (G:h.Ns N mg) (e:nsIn K N n=some (some v)):mg n=some v:=by
 obtain ⟨o,es,ep,ho,hd,_,hf⟩:=G;unfold i7 at e;split at e
 ·rename_i c d es' n' sl q
  have:=X _ _ q;rw [ho] at this;cases this;cases hd;split at e
  ·rename_i he
   rw [<- hf];unfold nsFind findBy;rw [<- K0,he];cases e;rfl
  ·split at e<;>cases e
 ·cases e
structure Yx (K:a8) (x:Str) (C:am) (st:db):Prop where
 ns:nsIn K bX x=some (some (.ref C))
 own:∀ {h:bT}{mg:Str->Option af},K.In h->h.Ns bX mg->Yw x C mg h
 mb:io K C (.type "BaseException")=some true
 ox:∀ {h:bT},K.In h->∃ bm,Yk h C bm/\∀ v,(v==bt C)=false->io K C v=some true->bm.contains v=true
theorem topN {K:a8}{x:Str}{C CP fI T0 Nn NP:am}{st:db}{nm qn nmP qnP fq:Str}{bs bsP mroP subP sub:List af}{sn snP:List Str}{ab abP hdP delP:Bool}{col colP:Option Bool}{dd dP od dT an:Option am}{k0 k1 k2 k3 k5:Option af}{c0 kV doc pm cdv ct cT:af}{slP slF slT:Array (Option af)}{nT:Nat}{p1 p2 p3 p4:Pos}{cN cM:af}{dN dM:Option am}{esN esM:Array sY}{epN epM:Nat}{slN slM:Array (Option af)}
  (a1:nsIn K bX x=some (some (.ref C))) (a4:io K C (.type "BaseException")=some true)
  (a2:K.lookup C=some ⟨.type "type",dd,.cls ⟨nm,bs,[.ref C,.ref CP,.type "ValueError",.type "Exception",.type "BaseException",.type "object"],Nn,qn,true,sn,sub,ab,col,false⟩,#[k0,k1,k2,k3,some (.builtin "ValueError.__new__"),k5]⟩)
  (a3:K.lookup CP=some ⟨c0,dP,.cls ⟨nmP,bsP,mroP,NP,qnP,hdP,snP,subP,abP,colP,delP⟩,slP⟩)
  (b1:nsIn K Nn "__init__"=some (some (.ref fI))) (b2:nsIn K Nn "__setattr__"=some none) (b3:nsIn K Nn "number"=some none)
  (c1:nsIn K NP "__init__"=some none) (c2:nsIn K NP "__setattr__"=some none) (c3:nsIn K NP "number"=some none)
  (d1:K.lookup fI=some ⟨.type "function",od,.func (fnOf "__init__" fq (kU st) (i8 st) (aw st) (.ref T0) kV doc pm an cdv ct),slF⟩)
  (d2:K.lookup T0=some ⟨cT,dT,.seq #[.none] nT,slT⟩) (d3:codeIn K cdv fq=true)
  (g1:K.lookup Nn=some ⟨cN,dN,.dict esN epN,slN⟩) (g2:K.lookup NP=some ⟨cM,dM,.dict esM epM,slM⟩) (g3:(esN.toList.all fun e=>match e.key with | .str _ _=>true|_=>false)=true) (g4:(esM.toList.all fun e=>match e.key with | .str _ _=>true|_=>false)=true)
  (f1:i8 st=[.Assign [.Attribute (.Name "self" p1) "number" p2] (.Name "number" p3) p4]) (f2:(aw st).names=[(("self" : Str),qO),(("number" : Str),qO)])
  (f3:(aw st).isCoroutine=false) (f4:(aw st).isGenerator=false) (f5:(aw st).kind=.function)
  (f6:∀ e v,∃ k,Q0 (fnOf "__init__" fq (kU st) (i8 st) (aw st) (.ref T0) kV doc pm an cdv ct) ⟨[e,v],[]⟩=LP (.ref T0) >>= k/\k (some #[.none])=pure [(("self" : Str),e),(("number" : Str),v)]):Yx K x C st:=by
 have e1:nsOkIn K Nn=true:=by unfold Mc;rw [g1];show esN.all _=true;rw [<- xK];exact g3
 have e2:nsOkIn K NP=true:=by unfold Mc;rw [g2];show esM.all _=true;rw [<- xK];exact g4
 refine ⟨a1,fun {h mg} X G=>⟨tG X G a1,nm,qn,Nn,bs,_,sn,sub,ab,col,dd,k0,k1,k2,k3,k5,h.nsMap Nn,fI,X _ _ a2,.of_isNs (u6 X e1),?_,gM X e1 b2,gM X e1 b3,?_,⟨_,_,p1,p2,p3,p4,X _ _ d1,rfl,rfl,Gn X d3,f3,f4,f5,f2,congrArg FuncBody.stmts f1,fun s e v kb=>?_⟩⟩,a4,fun {h} X=>⟨_,⟨⟨nm,qn,Nn,bs,true,sn,sub,ab,col,dd,k0,k1,k2,k3,k5,_,X _ _ a2⟩,rfl⟩,fun v nv hv=>?_⟩⟩
 ·exact WV X (.of_isNs (u6 X e1)) b1
 ·refine .own (X _ _ a3) (.of_isNs (u6 X e2)) (fun n hn=>?_) .base;rcases List.mem_cons.mp hn with z|hn
  ·rw [z];exact gM X e2 c1
  rcases List.mem_cons.mp hn with z|hn
  ·rw [z];exact gM X e2 c2
  ·rw [List.mem_singleton.mp hn];exact gM X e2 c3
 ·obtain ⟨k,k1,k2⟩:=f6 e v;exact BindsTo.of_defaults rfl (kb _ _ (X _ _ d2)) rfl k1 k2
 ·unfold io AF at hv;rw [a2] at hv;have:(bt C::[bt CP,.type "ValueError",.type "Exception",.type "BaseException",.type "object"]).contains v=true:=by simpa using hv
  rw [List.contains_cons,nv,Bool.false_or] at this;exact this
section
end
end
section
section
end
end
end J
section
namespace L2
open PySem PySem.Spec PyProof.Rows
end L2
namespace L2
open PySem PySem.Spec PyProof.Rows
end L2
namespace J
open PySem L2
end J
end
namespace J
open PySem L2
section
end
end J
namespace L2
open PySem PySem.Spec PyProof.Rows
section
section
end
def Tks (H H':Hp):Prop:=∀ b ys,H b=some (.tup ys)->H' b=some (.tup ys)
end
end L2
namespace J
open PySem L2
section
section
variable {c:C}{pos:Pos}{x:Str}{kx vx iter tg:bY}{ifs:List bY}{scope:ij}{N':List Str}{nt:Nat}{ix:List Nat}{gi:aD->R (List D)}{gt:aD->R Bool}{gk gv:aD->R D}
end
end
end J
section
namespace L2
open PySem PySem.Spec PyProof.Rows
end L2
namespace J
open PySem L2
section
end
end J
end
namespace J
open PySem L2
section
end
section
end
section
def Yy (p:HO->Bool) (H Hs:Hp):Hp:=fun b=>match Hs b,H b with
 |some o,_=>some o
 |none,some o=>if p o then some o else none
 |none,none=>none
def Zw (p:HO->Bool) (H Hs Hs1:Hp):Hp:=fun b=>match Hs b,H b with
 |none,some o=>if p o then none else Hs1 b
 |_,_=>Hs1 b
section
end
inductive WW (p:HO->Bool) (K:a8) (cls:Str->am) (E:XK) (ρ:aD) (r:R (List D)) (σ:St) (H:Hp) (Q:List V->Hp->Prop):Prop
 |mk (H0 Hs0:Hp) (la:Nat->Option am) (Hs:Hp) (f:Fr K H0 Hs0 la ρ σ H Hs) (q:Fin K cls E H Hs r fun d=>∀ v H' Hs',cP H Hs H' Hs'->RDs K (Yy p H' Hs') v d->Q v H'):WW p K cls E ρ r σ H Q
structure JL (p:HO->Bool) (c:C) (es:List bY) (g:aD->R (List D)):Prop where of ::
 run:∀ ρ,PA c.X es (WW p c.X.K c.cls c.E ρ (g ρ))
section
end
end
section
section
end
end
end J
section
namespace L2
open PySem PySem.Spec PyProof.Rows
end L2
namespace J
open PySem L2
end J
end
namespace J
open PySem L2
section
section
end
end
end J
section
namespace L2
open PySem PySem.Spec PyProof.Rows
inductive WX (X:Cx) (CX:LX) (E:XK) (t:TA) (σ:St) (Q:VK) (v:V) (H1:Hp):Prop
 |mk (k:Nat) (f:am) (fd:fz) (ps:List Str) (sp:Sp) (h0:v=.ref f) (F:pG X.prog X.w X.K X.mg X.base CX k f fd ps sp) (hr:jR k X.A) (hk:dB X.K (.ref f)=true) (hb:jG X.K fd ps []) (q:MA sp [] E t σ H1 Q):WX X CX E t σ Q v H1
end L2
namespace J
open PySem L2
inductive EW (c:C) (n j:Nat):List bY->List (List D->R D)->List am->Prop
 |nil:EW c n j [] [] []
 |cons {x:Str}{p:Pos}{F:List D->R D}{k:Nat}{f:am}{fd:fz}{ps:List Str}{es:List bY}{Fs:List (List D->R D)}{as:List am} (hf:pG c.X.prog c.X.w c.X.K c.X.mg c.X.base (vh c.X.prog c.X.w) k f fd ps (Nk c.X.K c.cls n F)) (hm:c.X.mg x=some (.ref f)) (hk:dB c.X.K (.ref f)=true) (hb:jG c.X.K fd ps []) (hj:k<=j) (hg:Gl c.X x) (hdb:(x==("__debug__" : Str))=false) (r:EW c n j es Fs as):EW c n j (.Name x p::es) (F::Fs) (f::as)
section
inductive Ow (c:C) (n j:Nat) (F:List D->R D) (f:am):Prop
 |mk (k:Nat) (fd:fz) (ps:List Str) (hf:pG c.X.prog c.X.w c.X.K c.X.mg c.X.base (vh c.X.prog c.X.w) k f fd ps (Nk c.X.K c.cls n F)) (hk:dB c.X.K (.ref f)=true) (hb:jG c.X.K fd ps []) (hj:k<=j):Ow c n j F f
theorem L0 (h:EW c n j es Fs as):∀ {i:Nat}{F:List D->R D},Fs[i]?=some F->∃ f,as[i]?=some f/\Ow c n j F f:=by
 induction h with
 |nil=>intro i F e;simp at e
 | @cons x p F k f fd ps es Fs as hf hm hk hb hj hg hdb r ih =>
  intro i F e;cases i with
  |zero=>cases e;exact ⟨f,rfl,k,fd,ps,hf,hk,hb,hj⟩
  |succ i=>have q:=ih (i:=i) e;exact q
def Te (Fs:List (List D->R D)) (n:Nat) (gi:aD->R D) (gs:aD->R (List D)) (ρ:aD):R Fl:=(gi ρ).bind fun d=>match d with
 |.int k=>if 0<=k then (match Fs[k.toNat]? with
  |some F=>(gs ρ).bind fun ds=>if ds.length=n then (F ds).bind fun d=>.ok (.rt d) else .no
  |none=>.no) else .no
 |_=>.no
theorem CI       (P:EW c n j es Fs as) (hr:jR j c.X.A) (f:Fr c.X.K H0 Hs0 la ρ σ H Hs) (ha:H a=some (.lst (as.map V.ref))) (q:oO c.X.K c.cls c.E H0 Hs0 la D' (Te Fs n gi gs ρ)) :
  TR c.X.K c.cls c.E ρ (gi ρ) σ H fun y H2=>VR c.X.K (.ref a) y H2 (WX c.X (vh c.X.prog c.X.w) c.E (Vj c.X.K c.cls c.E ρ (gs ρ)) σ D'.rt):=by
 refine sE f q fun d v H2 Hs2 e1 s1 f2 r1=>?_;unfold Te at q;rw [e1,bind_ok] at q;cases r1 with
 |int k =>
  simp only at q;by_cases hk:0<=k
  ·rw [if_pos hk] at q;split at q
   ·rename_i F hF
    obtain ⟨g,h1,k',fd,ps,hf,hkp,hb,hj⟩:=L0 P hF;have hix:DW (as.map V.ref) k=some (.ref g):=by
     have:=si (xs:=as.map V.ref) (j:=k.toNat) (v:=V.ref g) (by rw [aU,h1];rfl)
     rwa [eC hk] at this
    refine ⟨a,as.map V.ref,k,.ref g,rfl,rfl,.of (s1.all _ _ ha),hix,k',g,fd,ps,_,rfl,hf,hr.mono hj,hkp,hb,H0,Hs0,la,Hs2,f2,?_⟩;cases hg:gs ρ with
    |no=>rw [hg] at q;exact q.elim
    |ex y m=>rw [hg] at q;exact fun H3 Hs3 s3=>q H3 Hs3 (f2.st.trans s3)
    |ok ds =>
     rw [hg,bind_ok] at q;intro vs H3 Hs3 s3 r3;have f3:=f2.step s3;by_cases hn:ds.length=n
     ·rw [if_pos hn] at q;show Nk _ _ _ _ (vs++[]) _ _ _;rw [cS];refine ⟨Hs3,ds,f3.st.sub,hn,r3,?_⟩;cases hFd:F ds with
      |no=>rw [hFd] at q;exact q.elim
      |ex y m=>rw [hFd] at q;exact fun H4 Hs4 s4=>q H4 Hs4 (f3.st.trans s4)
      |ok d=>rw [hFd] at q;exact fun v H4 Hs4 s4 r4=>q v H4 Hs4 (f3.st.trans s4) r4
     ·rw [if_neg hn] at q;exact q.elim
   ·exact q.elim
  ·rw [if_neg hk] at q;exact q.elim
 |list _ _=>exact q.elim
 |none=>exact q.elim
 |bool _=>exact q.elim
 |str _=>exact q.elim
 |tuple _ _=>exact q.elim
 |dictK _ _=>exact q.elim
 |dictT _ _ _=>exact q.elim
 |dictF _ _ _=>exact q.elim
end
end J
namespace J
open PySem L2
end J
end
namespace TS
open PySem PyProof.Rows
section
def Rp:Bool->cA->Array cA->Nat->Nat->Nat->StateT eA Sem (Option Nat):=sortPriv% PySem.Builtin.gallop
section
variable {prog:bq}{w:bL}{A:cy}{E:af->al->Prop}{s:al}{kd:n5}{rk:af->Nat}{L:List cA}
def Cp (prog:bq) (w:bL) (A:cy) (s:al) (kd:n5) (rk:af->Nat) (L:List cA):Prop :=
 ∀ x∈L,∀ y∈L,∀ (Q:Bool->al->Prop) (E:af->al->Prop),Q (decide (rk x.1<rk y.1)) s->au (az prog w) A (keyLt' kd x.1 y.1) Q E s
theorem Ox {x y:cA}{Q:Option Bool->eA->Prop}{st:eA} (hC:Cp prog w A s kd rk L) (hk:kindOf st=kd) (hx:x∈L) (hy:y∈L)
  (h:Q (some (decide (rk x.1<rk y.1))) st):wpS (az prog w) A E s (lt' x y) Q st:=by
 rw [lt'_eq];refine aA (mX ?_);rw [hk];exact aA (t5 (kq (hC x hx y hy _ _ ⟨rfl,aN h⟩)))
theorem fU {a:Array cA}{i:Nat}{p:cA}{Q:cA->eA->Prop}{st:eA} (hi:a[i]?=some p) (h:Q p st):wpS (az prog w) A E s (elem' a i) Q st:=by
 rw [elem'_eq,hi];exact aN h
structure WY (rk:af->Nat) (L:List cA) (a:Array cA) (b n:Nat) (g:Nat->Nat):Prop where
 at_:∀ i,i<n->∃ p,a[b+i]?=some p/\p∈L/\rk p.1=g i
 up:∀ i j,i<j->j<n->g i<g j
variable {l:Bool}{k:cA}{a:Array cA}{b n h i:Nat}{g:Nat->Nat}{st:eA}
theorem Jk (hC:Cp prog w A s kd rk L) (hk:kindOf st=kd) (hr:WY rk L a b n g) (hx:k∈L) (hne:∀ i,i<n->g i≠rk k.1) (hi:i<n)
  (h:Q (some (decide (g i<rk k.1))) st):wpS (az prog w) A E s (do
   let x <- elem' a (b+i)
   if l=true then lt' x k else do
    let o <- lt' k x
    pure (o.map (fun x=>!x))) Q st:=by
 obtain ⟨p,e,m,r⟩:=hr.at_ i hi;refine aA (fU e ?_);cases l with
 |true=>rw [if_pos rfl];refine Ox hC hk m hx ?_;rw [r];exact h
 |false =>
  rw [if_neg (by decide)];refine aA (Ox hC hk hx m (aN ?_));have e:(!decide (rk k.1<rk p.1))=decide (g i<rk k.1):=by
   have:=hne i hi;rw [r];rcases Nat.lt_trichotomy (g i) (rk k.1) with h|h|h
   ·simp [h,cm h]
   ·exact absurd h this
   ·simp [h,Nat.not_lt.2 (cm h)]
  rw [cR,e];exact h
theorem oT (hC:Cp prog w A s kd rk L) (hk:kindOf st=kd) (hr:WY rk L a b n g) (hx:k∈L) (hne:∀ i,i<n->g i≠rk k.1) (hh:h<n)
  (q:∀ m,m<=n->(∀ i,i<m->g i<rk k.1)->(∀ i,m<=i->i<n->rk k.1<g i)->Q (some m) st):wpS (az prog w) A E s (Rp l k a b n h) Q st:=by
 have lo_of:∀ j,j<n->g j<rk k.1->∀ i,i<j+1->g i<rk k.1:=fun j hj hl i hi=>by
  rcases cO i j with h|h
  ·exact fe (hr.up i j h hj) hl
  ·rw [show i=j by omega];exact hl
 have hi_of:∀ j,j<n->¬ g j<rk k.1->∀ i,j<=i->i<n->rk k.1<g i:=fun j hj hl i hi hn=>by
  have h1:=hne j hj;have h2:rk k.1<g j:=by omega
  rcases cO j i with h|h
  ·exact fe h2 (hr.up j i h hn)
  ·rw [show i=j by omega];exact h2
 refine aA (Jk hC hk hr hx hne hh ?_);dsimp (config:={ zeta:=false }) only;extract_lets jp;have J:∀ x y lo hi,lo<=hi->hi<=n->(∀ i,i<lo->g i<rk k.1)->(∀ i,hi<=i->i<n->rk k.1<g i)->wpS (az prog w) A E s (jp () x y lo hi) Q st:=by
  intro x y lo hi h1 h2 h3 h4;refine aA (eG (cV (I:=fun x c st'=>st'=st/\∃ l r,c=(none,l,r)/\l<=r/\r<=n/\r-l<=n-x/\(∀ i,i<l->g i<rk k.1)/\(∀ i,r<=i->i<n->rk k.1<g i))
   (Q:=fun c st'=>st'=st/\∃ l,c=(none,l,l)/\l<=n/\(∀ i,i<l->g i<rk k.1)/\(∀ i,l<=i->i<n->rk k.1<g i)) ?_ ?_ ⟨rfl,lo,hi,rfl,h1,h2,by omega,h3,h4⟩) ?_)
  ·rintro x c st' - hx' ⟨rfl,l,r,rfl,a1,a2,a3,a4,a5⟩;dsimp only;by_cases hge:l ≥ r
   ·rw [if_pos hge];have:l=r:=by omega
    subst this;exact aN ⟨rfl,l,rfl,a2,a4,a5⟩
   ·rw [if_neg hge];refine aA (Jk hC hk hr hx hne (by omega) ?_);dsimp only;by_cases hb:g (l+(r-l) / 2)<rk k.1
    ·rw [if_pos (by simpa using hb)];exact aN ⟨rfl,_,r,rfl,by omega,a2,by omega,lo_of _ (by omega) hb,a5⟩
    ·rw [if_neg (by simpa using hb)];exact aN ⟨rfl,l,_,rfl,by omega,by omega,by omega,a4,hi_of _ (by omega) hb⟩
  ·rintro c st' ⟨rfl,l,r,rfl,a1,a2,a3,a4,a5⟩;have:l=r:=by omega
   subst this;exact ⟨rfl,l,rfl,a2,a4,a5⟩
  ·rintro c st' ⟨rfl,l,rfl,a2,a4,a5⟩;exact aN (q l a2 a4 a5)
 by_cases hb:g h<rk k.1
 ·rw [if_pos (by simpa using hb)];refine aA (eG (cV (I:=fun x c st'=>st'=st/\∃ u v,c=(none,u,v)/\u<v/\x<v/\h+u<n/\g (h+u)<rk k.1)
   (Q:=fun c st'=>st'=st/\∃ u v,c=(none,u,v)/\u<v/\h+u<n/\g (h+u)<rk k.1/\(n-h<=v\/(h+v<n/\¬ g (h+v)<rk k.1))) ?_ ?_ ⟨rfl,0,1,rfl,by omega,by omega,by omega,hb⟩) ?_)
  ·rintro x c st' - hx' ⟨rfl,u,v,rfl,a1,a2,a3,a4⟩;dsimp only;by_cases hge:v ≥ n-h
   ·rw [if_pos hge];exact aN ⟨rfl,u,v,rfl,a1,a3,a4,.inl hge⟩
   ·rw [if_neg hge];refine aA (Jk hC hk hr hx hne (by omega) ?_);dsimp only;by_cases hc:g (h+v)<rk k.1
    ·rw [if_neg (by simp [hc])];exact aN ⟨rfl,v,_,rfl,by omega,by omega,by omega,hc⟩
    ·rw [if_pos (by simp [hc])];exact aN ⟨rfl,u,v,rfl,a1,a3,a4,.inr ⟨by omega,hc⟩⟩
  ·rintro c st' ⟨rfl,u,v,rfl,a1,a2,a3,a4⟩;exact ⟨rfl,u,v,rfl,a1,a3,a4,.inl (by omega)⟩
  ·rintro c st' ⟨rfl,u,v,rfl,a1,a3,a4,a5⟩;refine J u v (h+u+1) (h+min v (n-h)) (by omega) (by omega) (lo_of _ a3 a4) ?_;rcases Nat.le_total (n-h) v with h1|h1
   ·intro i h2 h3;rw [Nat.min_eq_right h1] at h2;omega
   ·rcases a5 with a5|⟨a5,a6⟩
    ·intro i h2 h3;rw [mB h1] at h2;omega
    ·rw [mB h1];exact hi_of _ a5 a6
 ·rw [if_neg (by simpa using hb)];refine aA (eG (cV (I:=fun x c st'=>st'=st/\∃ u v,c=(none,u,v)/\u<v/\x<v/\u<=h/\¬ g (h-u)<rk k.1)
   (Q:=fun c st'=>st'=st/\∃ u v,c=(none,u,v)/\u<v/\u<=h/\¬ g (h-u)<rk k.1/\(h+1<=v\/(v<=h/\g (h-v)<rk k.1))) ?_ ?_ ⟨rfl,0,1,rfl,by omega,by omega,by omega,hb⟩) ?_)
  ·rintro x c st' - hx' ⟨rfl,u,v,rfl,a1,a2,a3,a4⟩;dsimp only;by_cases hge:v ≥ h+1
   ·rw [if_pos hge];exact aN ⟨rfl,u,v,rfl,a1,a3,a4,.inl hge⟩
   ·rw [if_neg hge];refine aA (Jk hC hk hr hx hne (by omega) ?_);dsimp only;by_cases hc:g (h-v)<rk k.1
    ·rw [if_pos (by simp [hc])];exact aN ⟨rfl,u,v,rfl,a1,a3,a4,.inr ⟨by omega,hc⟩⟩
    ·rw [if_neg (by simp [hc])];exact aN ⟨rfl,v,_,rfl,by omega,by omega,by omega,hc⟩
  ·rintro c st' ⟨rfl,u,v,rfl,a1,a2,a3,a4⟩;exact ⟨rfl,u,v,rfl,a1,a3,a4,.inl (by omega)⟩
  ·rintro c st' ⟨rfl,u,v,rfl,a1,a3,a4,a5⟩;refine J u v (h+1-min v (h+1)) (h-u) (by omega) (by omega) ?_ (hi_of _ (by omega) a4);rcases a5 with a5|⟨a5,a6⟩
   ·intro i h2;omega
   ·intro i h2;exact lo_of (h-v) (by omega) a6 i (by omega)
end
end
section
structure Mg {α:Type} (lt:α->α->Prop) (T out ra rb:List α):Prop where
 perm:(out++ra++rb).Perm T
 so:out.Pairwise lt
 sa:ra.Pairwise lt
 sb:rb.Pairwise lt
 oa:∀ x∈out,∀ y∈ra,lt x y
 ob:∀ x∈out,∀ y∈rb,lt x y
section
variable {α:Type}{lt:α->α->Prop}{T out ra rb p:List α}
theorem Mg.comm (h:Mg lt T out ra rb):Mg lt T out rb ra :=
 ⟨by
  refine pz ?_ h.perm;rw [gR,gR];exact List.Perm.append_left _ List.perm_append_comm,h.so,h.sb,h.sa,h.ob,h.oa⟩
theorem Mg.take (h:Mg lt T out (p++ra) rb) (hp:∀ x∈p,∀ y∈rb,lt x y):Mg lt T (out++p) ra rb:=by
 have s2:=gT.1 h.sa;refine ⟨by simpa [gR] using h.perm,gT.2 ⟨h.so,s2.1,fun x hx y hy=>h.oa x hx y (bV _ hy)⟩,s2.2.1,h.sb,?_,?_⟩
 ·intro x hx y hy;rcases fw.1 hx with hx|hx
  ·exact h.oa x hx y (aL _ hy)
  ·exact s2.2.2 x hx y hy
 ·intro x hx y hy;rcases fw.1 hx with hx|hx
  ·exact h.ob x hx y hy
  ·exact hp x hx y hy
theorem Mg.fin (h:Mg lt T out ra rb) (hp:∀ x∈ra,∀ y∈rb,lt x y):(out++ra++rb).Perm T/\(out++ra++rb).Pairwise lt :=
 ⟨h.perm,gT.2 ⟨gT.2 ⟨h.so,h.sa,h.oa⟩,h.sb,fun x hx y hy=>(fw.1 hx).elim (fun hx=>h.ob x hx y hy) fun hx=>hp x hx y hy⟩⟩
end
section
variable {a:Array cA}{i k:Nat}{x:cA}
theorem EX (h:x∈a.toList.drop i):∃ j,i<=j/\a[j]?=some x:=by
 obtain ⟨n,hn⟩:=lm.1 h;rw [vV] at hn;exact ⟨i+n,by omega,by rw [<- aQ];exact hn⟩
theorem oj (h:x∈(a.toList.drop i).take k):∃ j,i<=j/\j<i+k/\a[j]?=some x:=by
 obtain ⟨n,hn⟩:=lm.1 h;rw [LW] at hn;split at hn
 ·rw [vV] at hn;exact ⟨i+n,by omega,by omega,by rw [<- aQ];exact hn⟩
 ·cases hn
theorem EY (h:x∈a.toList.take k):∃ j,j<k/\a[j]?=some x:=by
 obtain ⟨j,_,h1,h2⟩:=oj (i:=0) (k:=k) h;exact ⟨j,by omega,h2⟩
theorem eW (h:a[i]?=some x):x∈a.toList:=by
 rw [<- aQ] at h;exact jb h
theorem Jl (h:a[i]?=some x):a.toList.drop i=[x]++a.toList.drop (i+1):=by
 rw [<- aQ] at h;obtain ⟨hl,rfl⟩:=oF.1 h;exact Cj hl
theorem Jm (h:a[i]?=some x):a.toList.take (i+1)=a.toList.take i++[x]:=by
 rw [<- aQ] at h;rw [Md,h];rfl
theorem BQ:a.toList.drop i=(a.toList.drop i).take k++a.toList.drop (i+k):=by
 rw [<- Bl];exact (gq k _).symm
theorem fV (h:i<a.size):∃ p,a[i]?=some p:=⟨a[i],bM h⟩
theorem EZ:(a.extract i (i+k)).toList=(a.toList.drop i).take k:=by
 rw [gN,el,List.take_drop]
theorem sx:(a.extract i a.size).toList=a.toList.drop i:=by
 rw [gN,el];rw [kA (by simp)]
end
def Rq (rk:af->Nat) (a:Array cA):Prop:=∀ (i j:Nat) (p q:cA),i<j->a[i]?=some p->a[j]?=some q->rk p.1<rk q.1
def dH (rk:af->Nat) (a:Array cA) (i:Nat):Nat:=(a[i]?.map fun p=>rk p.1).getD 0
section
variable {rk:af->Nat}{a:Array cA}{L:List cA}
theorem bB  (h:a[i]?=some p):dH rk a i=rk p.1:=by unfold dH;rw [h];rfl
theorem Rq.pw (h:Rq rk a):a.toList.Pairwise fun x y=>rk x.1<rk y.1:=by
 rw [oG];intro i j hi hj hij;exact h i j _ _ hij (by rw [<- aQ];exact bc hi) (by rw [<- aQ];exact bc hj)
theorem Rq.run (h:Rq rk a) (hL:∀ p∈a.toList,p∈L) (hn:b+n<=a.size):WY rk L a b n (fun i=>dH rk a (b+i)):=by
 refine ⟨fun i hi=>?_,fun i j hij hj=>?_⟩
 ·obtain ⟨p,hp⟩:=fV (a:=a) (i:=b+i) (by omega);exact ⟨p,hp,hL p (eW hp),(bB hp).symm⟩
 ·obtain ⟨p,hp⟩:=fV (a:=a) (i:=b+i) (by omega);obtain ⟨q,hq⟩:=fV (a:=a) (i:=b+j) (by omega);show dH rk a _<dH rk a _;rw [bB hp,bB hq];exact h _ _ p q (by omega) hp hq
end
end
section
def Oy:Array cA->Array cA->StateT eA Sem (Array cA):=sortPriv% PySem.Builtin.mergeLo
def WZ:Nat->StateT eA Sem Unit:=sortPriv% PySem.Builtin.setMinGallop
def Sm (st st':eA):Prop:=kindOf st'=kindOf st/\aM st'=aM st/\bK st'=bK st/\wl st'=wl st
section
variable {prog:bq}{w:bL}{A:cy}{E:af->al->Prop}{s:al}{kd:n5}{rk:af->Nat}{L:List cA}{st st':eA}
theorem Sm.rfl:Sm st st:=⟨Ql _,Ql _,Ql _,Ql _⟩
theorem Df   (hm:Sm st0 st) (h:∀ st',Sm st0 st'->Q () st'):wpS (az prog w) A E s (WZ n) Q st :=
 pF (h _ hm)
structure Oz (rk:af->Nat) (L:List cA) (a b:Array cA):Prop where
 sa:Rq rk a
 sb:Rq rk b
 la:∀ p∈a.toList,p∈L
 lb:∀ p∈b.toList,p∈L
 ne:∀ p∈a.toList,∀ q∈b.toList,rk p.1≠rk q.1
def UO (rk:af->Nat) (x y:cA):Prop:=rk x.1<rk y.1
def oU (rk:af->Nat) (a b r:Array cA):Prop:=r.toList.Perm (a.toList++b.toList)/\r.toList.Pairwise (UO rk)
def V (rk:af->Nat) (a b out:Array cA) (ia ib:Nat):Prop:=Mg (UO rk) (a.toList++b.toList) out.toList (a.toList.drop ia) (b.toList.drop ib)
variable {a b out:Array cA}{ia ib k:Nat}{p q:cA}
theorem yn {x y:cA} (t:Rq rk b) (hq:b[ib]?=some q) (h:rk x.1<rk q.1) (hy:y∈b.toList.drop ib):rk x.1<rk y.1:=by
 obtain ⟨j,hj,e⟩:=EX hy;rcases cO ib j with h1|h1
 ·exact fe h (t _ _ _ _ h1 hq e)
 ·rw [show j=ib by omega,hq] at e;cases e;exact h
theorem V.pushA (v:V rk a b out ia ib) (t:Oz rk L a b) (hp:a[ia]?=some p) (hq:b[ib]?=some q) (h:rk p.1<rk q.1):V rk a b (out.push p) (ia+1) ib:=by
 unfold V at *;rw [iF];rw [Jl hp] at v;exact v.take fun x hx y hy=>by
  rw [c6.1 hx];exact yn t.sb hq h hy
theorem V.pushB (v:V rk a b out ia ib) (t:Oz rk L a b) (hp:a[ia]?=some p) (hq:b[ib]?=some q) (h:rk q.1<rk p.1):V rk a b (out.push q) ia (ib+1):=by
 unfold V at *;rw [iF];rw [Jl hq] at v;exact (v.comm.take fun x hx y hy=>by
  rw [c6.1 hx];exact yn t.sa hp h hy).comm
theorem V.moreA (v:V rk a b out ia ib) (t:Oz rk L a b) (hq:b[ib]?=some q) (h:∀ i,i<k->dH rk a (ia+i)<rk q.1):V rk a b (out++a.extract ia (ia+k)) (ia+k) ib:=by
 unfold V at *;rw [cq,EZ];rw [BQ (k:=k)] at v;exact v.take fun x hx y hy=>by
  obtain ⟨j,h1,h2,e⟩:=oj hx;refine yn t.sb hq ?_ hy;have:=h (j-ia) (by omega)
  rwa [show ia+(j-ia)=j by omega,bB e] at this
theorem V.moreB (v:V rk a b out ia ib) (t:Oz rk L a b) (hp:a[ia]?=some p) (h:∀ i,i<k->dH rk b (ib+i)<rk p.1):V rk a b (out++b.extract ib (ib+k)) ia (ib+k):=by
 unfold V at *;rw [cq,EZ];rw [BQ (a:=b) (k:=k)] at v;exact (v.comm.take fun x hx y hy=>by
  obtain ⟨j,h1,h2,e⟩:=oj hx;refine yn t.sa hp ?_ hy;have:=h (j-ib) (by omega)
  rwa [show ib+(j-ib)=j by omega,bB e] at this).comm
theorem V.done (v:V rk a b out ia ib) (h:ib=b.size):oU rk a b (out++a.extract ia a.size++b.extract ib b.size):=by
 unfold V at v;have e:b.toList.drop ib=[]:=List.drop_eq_nil_of_le (by simp [h]);unfold oU;rw [cq,cq,sx,sx];exact v.fin fun x _ y hy=>by rw [e] at hy;cases hy
theorem V.last (v:V rk a b out ia ib) (hp:a[ia]?=some p) (h:ia+1=a.size) (hl:∀ y∈b.toList,rk y.1<rk p.1):oU rk a b (out++b.extract ib b.size++a.extract ia a.size):=by
 unfold V at v;unfold oU;rw [cq,cq,sx,sx];refine v.comm.fin fun x hx y hy=>?_;obtain ⟨j,hj,e⟩:=EX hy;have:j<a.size:=by
  rcases cO j a.size with h|h
  ·exact h
  ·rw [dm h] at e;cases e
 rw [show j=ia by omega,hp] at e;cases e;exact hl x (List.mem_of_mem_drop hx)
theorem eL {β:Type}{c:Prop} [Decidable c] {m1 m2:StateT eA Sem β}{Q:β->eA->Prop} (h1:c->wpS (az prog w) A E s m1 Q st) (h2:¬ c->wpS (az prog w) A E s m2 Q st):wpS (az prog w) A E s (if c then m1 else m2) Q st:=by
 by_cases h:c
 ·rw [if_pos h];exact h1 h
 ·rw [if_neg h];exact h2 h
theorem kc {β:Type}{m n:Nat}{m1 m2:StateT eA Sem β}{Q:β->eA->Prop} (h1:m=n->wpS (az prog w) A E s m1 Q st) (h2:m≠n->wpS (az prog w) A E s m2 Q st):wpS (az prog w) A E s (if (m==n)=true then m1 else m2) Q st :=
 eL (fun h=>h1 (beq_iff_eq.1 h)) fun h=>h2 fun e=>h (beq_iff_eq.2 e)
def GP (rk:af->Nat) (a b:Array cA) (x:Nat) (st:eA) (r:ForInStep (Option (Array cA)×Array cA×Nat×Nat×Nat×Nat×Nat)) (st':eA):Prop:=Sm st st'/\match r with
 |.done c=>(∃ r z,c=(some r,z)/\oU rk a b r)\/∃ out ia ib g n1 n2,c=(none,out,ia,ib,g,n1,n2)/\V rk a b out ia ib/\ia+1<a.size/\ib<b.size/\x+2<=ia+ib
 |.yield c=>∃ out ia ib g n1 n2,c=(none,out,ia,ib,g,n1,n2)/\V rk a b out ia ib/\ia+1<a.size/\ib<b.size/\x+2<=ia+ib
theorem L3 (hC:Cp prog w A s kd rk L) (hk:kindOf st=kd) (t:Oz rk L a b)
  (hp0:a[0]?=some p0) (hq0:b[0]?=some q0) (h0:rk q0.1<rk p0.1) (hl:∀ p,a[a.size-1]?=some p->∀ y∈b.toList,rk y.1<rk p.1)
  (h:∀ r st',Sm st st'->oU rk a b r->Q r st'):wpS (az prog w) A E s (Oy a b) Q st:=by
 have lastp:∀ {ia p out ib},V rk a b out ia ib->ia+1=a.size->a[ia]?=some p->oU rk a b (out++b.extract ib b.size++a.extract ia a.size):=fun v e hp=>v.last hp e (hl _ (by rw [<- e];exact hp));have V0:V rk a b #[q0] 0 1:=V.pushB (out:=#[]) ⟨by simp,by simp,t.sa.pw,t.sb.pw,by simp,by simp⟩ t hp0 hq0 h0;have sza:0<a.size:=by
  rcases gn a.size with e|e
  ·rw [dm (by omega)] at hp0;cases hp0
  ·exact e
 have szb:0<b.size:=by
  rcases gn b.size with e|e
  ·rw [dm (by omega)] at hq0;cases hq0
  ·exact e
 refine aA (t5 (df ⟨rfl,?_⟩));refine aA (fU hq0 ?_);refine kc (m:=1) (n:=b.size) (fun e1=>aN (h _ _ .rfl (V0.done e1))) fun e1=>?_;refine kc (m:=0+1) (n:=a.size) (fun e2=>aN (h _ _ .rfl (lastp V0 e2 hp0))) fun e2=>?_;refine aA (mX ?_);refine aA (eG (cV
  (I:=fun x c st'=>Sm st st'/\∃ out ia ib g,c=(none,out,ia,ib,g)/\V rk a b out ia ib/\ia+1<a.size/\ib<b.size/\x+1<=ia+ib)
  (Q:=fun c st'=>Sm st st'/\∃ r z,c=(some r,z)/\oU rk a b r) ?step ?fin ⟨.rfl,_,0,1,_,rfl,V0,by omega,by omega,by omega⟩) ?post)
 case fin =>
  rintro c st' ⟨_,out,ia,ib,g,rfl,v,h1,h2,h3⟩;omega
 case post =>
  rintro c st' ⟨m,r,z,rfl,f⟩;exact aN (h r st' m f)
 case step =>
  rintro x c st1-hx ⟨m1,out,ia,ib,g,rfl,v,h1,h2,h3⟩;refine aA (eG (cV
   (I:=fun y c st'=>Sm st st'/\∃ out ia ib n1 n2,c=(none,out,ia,ib,n1,n2)/\V rk a b out ia ib/\ia+1<a.size/\ib<b.size/\x+1+y<=ia+ib)
   (Q:=fun c st'=>Sm st st'/\((∃ r z,c=(some r,z)/\oU rk a b r)\/∃ out ia ib n1 n2,c=(none,out,ia,ib,n1,n2)/\V rk a b out ia ib/\ia+1<a.size/\ib<b.size/\x+2<=ia+ib))
   ?istep ?ifin ⟨m1,out,ia,ib,0,0,rfl,v,h1,h2,by omega⟩) ?ipost)
  case ifin =>
   rintro c st' ⟨m,out,ia,ib,n1,n2,rfl,v,h1,h2,h3⟩;exact ⟨m,.inr ⟨out,ia,ib,n1,n2,rfl,v,h1,h2,by omega⟩⟩
  case istep =>
   rintro y c st' - hy ⟨m,out,ia,ib,n1,n2,rfl,v,h1,h2,h3⟩;dsimp only;obtain ⟨p,hp⟩:=fV (a:=a) (i:=ia) (by omega);obtain ⟨q,hq⟩:=fV h2;refine aA (fU hq (aA (fU hp (aA (Ox hC (m.1.trans hk) (t.lb q (eW hq)) (t.la p (eW hp)) ?_)))));dsimp only;by_cases hlt:rk q.1<rk p.1
   ·rw [if_pos (by simpa using hlt)];refine aA (fU hq ?_);have v':=v.pushB t hp hq hlt;by_cases e3:ib+1=b.size
    ·rw [if_pos (by simpa using e3)];exact aN ⟨m,.inl ⟨_,_,rfl,v'.done e3⟩⟩
    rw [if_neg (by simpa using e3)];by_cases e4:n2+1 ≥ g
    ·rw [if_pos e4];exact aN ⟨m,.inr ⟨_,_,_,_,_,rfl,v',h1,by omega,by omega⟩⟩
    ·rw [if_neg e4];exact aN ⟨m,_,_,_,_,_,rfl,v',h1,by omega,by omega⟩
   ·rw [if_neg (by simpa using hlt)];have hlt':rk p.1<rk q.1:=by have:=t.ne p (eW hp) q (eW hq);omega
    refine aA (fU hp ?_);have v':=v.pushA t hp hq hlt';by_cases e3:ia+1+1=a.size
    ·rw [if_pos (by simpa using e3)];obtain ⟨p',hp'⟩:=fV (a:=a) (i:=ia+1) (by omega);exact aN ⟨m,.inl ⟨_,_,rfl,lastp v' e3 hp'⟩⟩
    rw [if_neg (by simpa using e3)];by_cases e4:n1+1 ≥ g
    ·rw [if_pos e4];exact aN ⟨m,.inr ⟨_,_,_,_,_,rfl,v',by omega,h2,by omega⟩⟩
    ·rw [if_neg e4];exact aN ⟨m,_,_,_,_,_,rfl,v',by omega,h2,by omega⟩
  case ipost =>
   rintro c st2 ⟨m2,⟨r,z,rfl,f⟩|⟨out,ia,ib,n1,n2,rfl,v,h1,h2,h3⟩⟩
   ·exact aN ⟨m2,r,_,rfl,f⟩
   refine aA (t5 (df ⟨rfl,?_⟩));refine aA (eG (cV
    (I:=fun y c st'=>Sm st st'/\∃ out ia ib g n1 n2,c=(none,out,ia,ib,g,n1,n2)/\V rk a b out ia ib/\ia+1<a.size/\ib<b.size/\x+2<=ia+ib)
    (Q:=fun c st'=>Sm st st'/\((∃ r z,c=(some r,z)/\oU rk a b r)\/∃ out ia ib g n1 n2,c=(none,out,ia,ib,g,n1,n2)/\V rk a b out ia ib/\ia+1<a.size/\ib<b.size/\x+2<=ia+ib))
    ?gstep ?gfin ⟨m2,out,ia,ib,_,n1,n2,rfl,v,h1,h2,by omega⟩) ?gpost)
   case gfin =>
    rintro c st' ⟨m,out,ia,ib,g,n1,n2,rfl,v,h1,h2,h3⟩;exact ⟨m,.inr ⟨out,ia,ib,g,n1,n2,rfl,v,h1,h2,h3⟩⟩
   case gpost =>
    rintro c st2 ⟨m2,⟨r,z,rfl,f⟩|⟨out,ia,ib,g,n1,n2,rfl,v,h1,h2,h3⟩⟩
    ·exact aN ⟨m2,r,_,rfl,f⟩
    exact aA (Df m2 fun st' m'=>aN ⟨m',out,ia,ib,_,rfl,v,h1,h2,h3⟩)
   case gstep =>
    rintro y c st' - hy ⟨m,out,ia,ib,g,n1,n2,rfl,v,h1,h2,h3⟩;extract_lets s1 out' s2 ia' s3 ib' s4 g' s5 n1' n2' ib1 jp;have J:∀ g,wpS (az prog w) A E s (jp () g) (GP rk a b x st) st':=by
     intro g;obtain ⟨q,hq⟩:=fV h2;have sa:=t.sa.run (b:=ia) (n:=a.size-ia) t.la (by omega);have na:∀ i,i<a.size-ia->dH rk a (ia+i)≠rk q.1:=fun i hi=>by
      obtain ⟨p,hp⟩:=fV (a:=a) (i:=ia+i) (by omega);rw [bB hp];exact t.ne p (eW hp) q (eW hq)
     refine aA (Df m fun st' m'=>?_);refine aA (fU (a:=b) (i:=ib) hq ?_);refine aA (oT (a:=a) (b:=ia) (n:=a.size-ia) (h:=0) hC (m'.1.trans hk) sa (t.lb q (eW hq)) na (by omega) fun k k1 k2 k3=>?_);have v1:=v.moreA t hq k2;have k4:ia+k<a.size:=by
      obtain ⟨p,hp⟩:=fV (a:=a) (i:=a.size-1) (by omega);rcases cO (ia+k) a.size with h|h
      ·exact h
      ·have h4:=k2 (a.size-1-ia) (by omega);have h5:=hl p hp q (eW hq);rw [show ia+(a.size-1-ia)=a.size-1 by omega,bB hp] at h4;omega
     obtain ⟨p,hp⟩:=fV k4;have hpq:rk q.1<rk p.1:=by
      have:=k3 k (by omega) (by omega)
      rwa [bB hp] at this
     dsimp (config:={ zeta:=false }) only;extract_lets nn jp1;have J1:∀ out,V rk a b out (ia+k) ib->ia+k+1<a.size->wpS (az prog w) A E s (jp1 () out (ia+k)) (GP rk a b x st) st':=by
      intro out v1 k5;refine aA (fU (a:=b) (i:=ib) hq ?_);have v2:=v1.pushB t hp hq hpq;refine kc (m:=ib+1) (n:=b.size) (fun e=>aN ⟨m',.inl ⟨_,_,rfl,v2.done e⟩⟩) fun e=>?_;refine aA (fU (a:=a) (i:=ia+k) hp ?_);have sb:=t.sb.run (b:=ib+1) (n:=b.size-(ib+1)) t.lb (by omega);have nb:∀ i,i<b.size-(ib+1)->dH rk b (ib+1+i)≠rk p.1:=fun i hi=>by
       obtain ⟨q',hq'⟩:=fV (a:=b) (i:=ib+1+i) (by omega);rw [bB hq'];exact fun e=>t.ne p (eW hp) q' (eW hq') e.symm
      refine aA (oT (a:=b) (b:=ib+1) (n:=b.size-(ib+1)) (h:=0) hC (m'.1.trans hk) sb (t.la p (eW hp)) nb (by omega) fun k' c1 c2 c3=>?_);have v3:=v2.moreB t hp c2;dsimp (config:={ zeta:=false }) only;extract_lets nn' ia1 jp2;have J2:∀ out,V rk a b out (ia+k) (ib+1+k')->ib+1+k'<b.size->wpS (az prog w) A E s (jp2 () out (ib+1+k')) (GP rk a b x st) st':=by
       intro out v3 c5;obtain ⟨q',hq'⟩:=fV c5;have hqp:rk p.1<rk q'.1:=by
        have:=c3 k' (by omega) (by omega)
        rwa [bB hq'] at this
       have v4:=v3.pushA t hp hq' hqp;refine aA (fU (a:=a) (i:=ia+k) hp ?_);refine kc (m:=ia+k+1+1) (n:=a.size) (fun e=>?_) fun e=>?_
       ·obtain ⟨p',hp'⟩:=fV (a:=a) (i:=ia+k+1) (by omega);exact aN ⟨m',.inl ⟨_,_,rfl,lastp v4 e hp'⟩⟩
       ·refine eL (fun _=>aN ⟨m',.inr ⟨_,ia+k+1,ib+1+k',_,_,_,rfl,v4,by omega,by omega,by omega⟩⟩) fun _=>aN ⟨m',_,ia+k+1,ib+1+k',_,_,_,rfl,v4,by omega,by omega,by omega⟩
      refine eL (fun _=>?_) fun hz=>?_
      ·refine kc (m:=ib+1+k') (n:=b.size) (fun e=>aN ⟨m',.inl ⟨_,_,rfl,v3.done e⟩⟩) fun e=>J2 _ v3 (by omega)
      ·obtain rfl:k'=0:=by omega
       exact J2 _ v2 (by omega)
     refine eL (fun _=>?_) fun hz=>?_
     ·refine kc (m:=ia+k+1) (n:=a.size) (fun e=>aN ⟨m',.inl ⟨_,_,rfl,lastp v1 e hp⟩⟩) fun e=>?_;refine kc (m:=ia+k) (n:=a.size) (fun e=>by omega) fun e=>J1 _ v1 (by omega)
     ·obtain rfl:k=0:=by omega
      exact J1 _ v (by omega)
    exact eG (eL (fun _=>J _) fun _=>J _) fun r _ hh=>by cases r<;>exact hh
end
end
section
def OA:Array cA->Array cA->StateT eA Sem (Array cA):=sortPriv% PySem.Builtin.mergeHi
section
variable {prog:bq}{w:bL}{A:cy}{E:af->al->Prop}{s:al}{kd:n5}{rk:af->Nat}{L:List cA}{st st':eA}
def W (rk:af->Nat) (a b out:Array cA) (na nb:Nat):Prop:=Mg (fun x y=>UO rk y x) (a.toList++b.toList) out.toList (a.toList.take na).reverse (b.toList.take nb).reverse
variable {a b out:Array cA}{n m k:Nat}{p q:cA}
theorem yo {x y:cA} (t:Rq rk b) (hq:b[m]?=some q) (h:rk q.1<rk x.1) (hy:y∈(b.toList.take (m+1)).reverse):rk y.1<rk x.1:=by
 obtain ⟨j,hj,e⟩:=EY (lE.1 hy);rcases cO j m with h1|h1
 ·exact fe (t _ _ _ _ h1 e hq) h
 ·rw [show j=m by omega,hq] at e;cases e;exact h
theorem W.pushA (v:W rk a b out (n+1) (m+1)) (t:Oz rk L a b) (hp:a[n]?=some p) (hq:b[m]?=some q) (h:rk q.1<rk p.1):W rk a b (out.push p) n (m+1):=by
 unfold W at *;rw [iF];rw [Jm hp,uO] at v;exact v.take fun x hx y hy=>by
  rw [Ga] at hx;rw [c6.1 hx];exact yo t.sb hq h hy
theorem W.pushB (v:W rk a b out (n+1) (m+1)) (t:Oz rk L a b) (hp:a[n]?=some p) (hq:b[m]?=some q) (h:rk p.1<rk q.1):W rk a b (out.push q) (n+1) m:=by
 unfold W at *;rw [iF];rw [Jm hq,uO] at v;exact (v.comm.take fun x hx y hy=>by
  rw [Ga] at hx;rw [c6.1 hx];exact yo t.sa hp h hy).comm
theorem BR {l:List cA} (h:k<=n):(l.take n).reverse=((l.take n).drop k).reverse++(l.take k).reverse:=by
 rw [<- uO];conv=>lhs;rw [<- gq k (l.take n)]
 rw [List.take_take,mB h]
theorem Jn:(a.extract k n).reverse.toList=((a.toList.take n).drop k).reverse:=by
 rw [tf,gN,el,List.take_eq_take_min]
theorem oV:(a.extract 0 n).toList=a.toList.take n:=by
 rw [gN,el];simp
theorem tR (h:x∈(a.toList.take n).drop k):∃ j,k<=j/\j<n/\a[j]?=some x:=by
 obtain ⟨i,hi⟩:=lm.1 h;rw [vV,LW] at hi;split at hi
 ·exact ⟨k+i,by omega,by omega,by rw [<- aQ];exact hi⟩
 ·cases hi
theorem W.moreA (v:W rk a b out n (m+1)) (t:Oz rk L a b) (hq:b[m]?=some q) (hk:k<=n) (h:∀ i,k<=i->i<n->rk q.1<dH rk a (0+i)):W rk a b (out++(a.extract k n).reverse) k (m+1):=by
 unfold W at *;rw [cq,Jn];rw [BR hk] at v;exact v.take fun x hx y hy=>by
  obtain ⟨j,h1,h2,e⟩:=tR (lE.1 hx);refine yo t.sb hq ?_ hy;have:=h j h1 h2
  rwa [eu,bB e] at this
theorem W.moreB (v:W rk a b out (n+1) m) (t:Oz rk L a b) (hp:a[n]?=some p) (hk:k<=m) (h:∀ i,k<=i->i<m->rk p.1<dH rk b (0+i)):W rk a b (out++(b.extract k m).reverse) (n+1) k:=by
 unfold W at *;rw [cq,Jn];rw [BR (n:=m) hk] at v;exact (v.comm.take fun x hx y hy=>by
  obtain ⟨j,h1,h2,e⟩:=tR (lE.1 hx);refine yo t.sa hp ?_ hy;have:=h j h1 h2
  rwa [eu,bB e] at this).comm
theorem W.done (v:W rk a b out n m) (h:n=0):oU rk a b (a.extract 0 n++b.extract 0 m++out.reverse):=by
 subst h;have f:=v.comm.fin fun x _ y hy=>by rw [List.take_zero] at hy;cases hy
 unfold oU;rw [cq,cq,oV,oV,tf];refine ⟨?_,?_⟩
 ·refine pz ?_ f.1;refine (oJ _).symm.trans ?_;simp
 ·have:=lr.2 f.2;simpa using this
theorem W.last (v:W rk a b out n m) (hq:b[0]?=some q) (h:m=1) (hl:∀ y∈a.toList,rk q.1<rk y.1):oU rk a b (b.extract 0 m++a.extract 0 n++out.reverse):=by
 subst h;have f:=v.fin fun x hx y hy=>by
  obtain ⟨j,hj,e⟩:=EY (lE.1 hy);rw [show j=0 by omega,hq] at e;cases e;exact hl x (List.mem_of_mem_take (lE.1 hx))
 unfold oU;rw [cq,cq,oV,oV,tf];refine ⟨?_,?_⟩
 ·refine pz ?_ f.1;refine (oJ _).symm.trans ?_;simp
 ·have:=lr.2 f.2;simpa using this
def HP (rk:af->Nat) (a b:Array cA) (x:Nat) (st:eA) (r:ForInStep (Option (Array cA)×Nat×Nat×Array cA×Nat×Nat×Nat)) (st':eA):Prop:=Sm st st'/\match r with
 |.done c=>(∃ r z,c=(some r,z)/\oU rk a b r)\/∃ out na nb g n1 n2,c=(none,na+1,nb+2,out,g,n1,n2)/\W rk a b out (na+1) (nb+2)/\na+1<=a.size/\nb+2<=b.size/\na+nb+3+x+2<=a.size+b.size
 |.yield c=>∃ out na nb g n1 n2,c=(none,na+1,nb+2,out,g,n1,n2)/\W rk a b out (na+1) (nb+2)/\na+1<=a.size/\nb+2<=b.size/\na+nb+3+x+2<=a.size+b.size
theorem L4 (hC:Cp prog w A s kd rk L) (hk:kindOf st=kd) (t:Oz rk L a b)
  (hp0:a[a.size-1]?=some p0) (hq0:b[b.size-1]?=some q0) (h0:rk q0.1<rk p0.1) (hq1:b[0]?=some q1) (hl:∀ y∈a.toList,rk q1.1<rk y.1)
  (h:∀ r st',Sm st st'->oU rk a b r->Q r st'):wpS (az prog w) A E s (OA a b) Q st:=by
 have sza:0<a.size:=by
  rcases gn a.size with e|e
  ·rw [dm (by omega)] at hp0;cases hp0
  ·exact e
 have szb:0<b.size:=by
  rcases gn b.size with e|e
  ·rw [dm (by omega)] at hq0;cases hq0
  ·exact e
 have V0:W rk a b #[p0] (a.size-1) b.size:=by
  have e:b.size=b.size-1+1:=by omega
  rw [e];refine W.pushA (out:=#[]) ?_ t hp0 hq0 h0;rw [<- e,show a.size-1+1=a.size by omega];unfold W;rw [kA (by simp),kA (by simp)];refine ⟨?_,by simp,lr.2 t.sa.pw,lr.2 t.sb.pw,by simp,by simp⟩;exact (oJ _).append (oJ _)
 refine aA (t5 (df ⟨rfl,?_⟩));refine aA (fU hp0 ?_);refine kc (m:=a.size-1) (n:=0) (fun e1=>aN (h _ _ .rfl (V0.done e1))) fun e1=>?_;refine kc (m:=b.size) (n:=1) (fun e2=>aN (h _ _ .rfl (V0.last hq1 e2 hl))) fun e2=>?_;refine aA (mX ?_);refine aA (eG (cV
  (I:=fun x c st'=>Sm st st'/\∃ out na nb g,c=(none,na+1,nb+2,out,g)/\W rk a b out (na+1) (nb+2)/\na+1<=a.size/\nb+2<=b.size/\na+nb+3+x+1<=a.size+b.size)
  (Q:=fun c st'=>Sm st st'/\∃ r z,c=(some r,z)/\oU rk a b r) ?step ?fin ⟨.rfl,#[p0],a.size-2,b.size-2,gallopOf st,?e1,?e2,by omega,by omega,by omega⟩) ?post)
 case e1=>rw [show a.size-2+1=a.size-1 by omega,show b.size-2+2=b.size by omega]
 case e2=>rw [show a.size-2+1=a.size-1 by omega,show b.size-2+2=b.size by omega];exact V0
 case fin =>
  rintro c st' ⟨_,out,na,nb,g,rfl,v,h1,h2,h3⟩;omega
 case post =>
  rintro c st' ⟨m,r,z,rfl,f⟩;exact aN (h r st' m f)
 case step =>
  rintro x c st1-hx ⟨m1,out,na,nb,g,rfl,v,h1,h2,h3⟩;refine aA (eG (cV
   (I:=fun y c st'=>Sm st st'/\∃ out na nb n1 n2,c=(none,na+1,nb+2,out,n1,n2)/\W rk a b out (na+1) (nb+2)/\na+1<=a.size/\nb+2<=b.size/\na+nb+3+x+1+y<=a.size+b.size)
   (Q:=fun c st'=>Sm st st'/\((∃ r z,c=(some r,z)/\oU rk a b r)\/∃ out na nb n1 n2,c=(none,na+1,nb+2,out,n1,n2)/\W rk a b out (na+1) (nb+2)/\na+1<=a.size/\nb+2<=b.size/\na+nb+3+x+2<=a.size+b.size))
   ?istep ?ifin ⟨m1,out,na,nb,0,0,rfl,v,h1,h2,by omega⟩) ?ipost)
  case ifin =>
   rintro c st' ⟨m,out,na,nb,n1,n2,rfl,v,h1,h2,h3⟩;exact ⟨m,.inr ⟨out,na,nb,n1,n2,rfl,v,h1,h2,by omega⟩⟩
  case istep =>
   rintro y c st' - hy ⟨m,out,na,nb,n1,n2,rfl,v,h1,h2,h3⟩;dsimp only;obtain ⟨p,hp⟩:=fV (a:=a) (i:=na) (by omega);obtain ⟨q,hq⟩:=fV (a:=b) (i:=nb+1) (by omega);refine aA (fU hq (aA (fU hp (aA (Ox hC (m.1.trans hk) (t.lb q (eW hq)) (t.la p (eW hp)) ?_)))));dsimp only;by_cases hlt:rk q.1<rk p.1
   ·rw [if_pos (by simpa using hlt)];refine aA (fU hp ?_);have v':=v.pushA t hp hq hlt;refine kc (m:=na) (n:=0) (fun e3=>aN ⟨m,.inl ⟨_,_,rfl,v'.done e3⟩⟩) fun e3=>?_;obtain ⟨na,rfl⟩:∃ n,na=n+1:=⟨na-1,by omega⟩;exact eL (fun _=>aN ⟨m,.inr ⟨_,na,nb,_,_,rfl,v',by omega,by omega,by omega⟩⟩) fun _=>aN ⟨m,_,na,nb,_,_,rfl,v',by omega,by omega,by omega⟩
   ·rw [if_neg (by simpa using hlt)];have hlt':rk p.1<rk q.1:=by have:=t.ne p (eW hp) q (eW hq);omega
    refine aA (fU hq ?_);have v':=v.pushB t hp hq hlt';refine kc (m:=nb+1) (n:=1) (fun e3=>aN ⟨m,.inl ⟨_,_,rfl,v'.last hq1 e3 hl⟩⟩) fun e3=>?_;obtain ⟨nb,rfl⟩:∃ n,nb=n+1:=⟨nb-1,by omega⟩;exact eL (fun _=>aN ⟨m,.inr ⟨_,na,nb,_,_,rfl,v',by omega,by omega,by omega⟩⟩) fun _=>aN ⟨m,_,na,nb,_,_,rfl,v',by omega,by omega,by omega⟩
  case ipost =>
   rintro c st2 ⟨m2,⟨r,z,rfl,f⟩|⟨out,na,nb,n1,n2,rfl,v,h1,h2,h3⟩⟩
   ·exact aN ⟨m2,r,_,rfl,f⟩
   refine aA (t5 (df ⟨rfl,?_⟩));refine aA (eG (cV
    (I:=fun y c st'=>Sm st st'/\∃ out na nb g n1 n2,c=(none,na+1,nb+2,out,g,n1,n2)/\W rk a b out (na+1) (nb+2)/\na+1<=a.size/\nb+2<=b.size/\na+nb+3+x+2<=a.size+b.size)
    (Q:=fun c st'=>Sm st st'/\((∃ r z,c=(some r,z)/\oU rk a b r)\/∃ out na nb g n1 n2,c=(none,na+1,nb+2,out,g,n1,n2)/\W rk a b out (na+1) (nb+2)/\na+1<=a.size/\nb+2<=b.size/\na+nb+3+x+2<=a.size+b.size))
    ?gstep ?gfin ⟨m2,out,na,nb,_,n1,n2,rfl,v,h1,h2,by omega⟩) ?gpost)
   case gfin =>
    rintro c st' ⟨m,out,na,nb,g,n1,n2,rfl,v,h1,h2,h3⟩;exact ⟨m,.inr ⟨out,na,nb,g,n1,n2,rfl,v,h1,h2,h3⟩⟩
   case gpost =>
    rintro c st2 ⟨m2,⟨r,z,rfl,f⟩|⟨out,na,nb,g,n1,n2,rfl,v,h1,h2,h3⟩⟩
    ·exact aN ⟨m2,r,_,rfl,f⟩
    exact aA (Df m2 fun st' m'=>aN ⟨m',out,na,nb,_,rfl,v,h1,h2,by omega⟩)
   case gstep =>
    rintro y c st' - hy ⟨m,out,na,nb,g,n1,n2,rfl,v,h1,h2,h3⟩;extract_lets s1 na' s2 nb' s3 out' s4 g' s5 n1' n2' nb1 jp;have J:∀ g,wpS (az prog w) A E s (jp () g) (HP rk a b x st) st':=by
     intro g;obtain ⟨q,hq⟩:=fV (a:=b) (i:=nb+1) (by omega);have sa:=t.sa.run (b:=0) (n:=na+1) t.la (by omega);have ne1:∀ i,i<na+1->dH rk a (0+i)≠rk q.1:=fun i hi=>by
      obtain ⟨p,hp⟩:=fV (a:=a) (i:=0+i) (by omega);rw [bB hp];exact t.ne p (eW hp) q (eW hq)
     refine aA (Df m fun st' m'=>?_);refine aA (fU (a:=b) (i:=nb+1) hq ?_);refine aA (oT (a:=a) (b:=0) (n:=na+1) (h:=na) hC (m'.1.trans hk) sa (t.lb q (eW hq)) ne1 (by omega) fun k k1 k2 k3=>?_);have v1:=v.moreA t hq k1 k3;dsimp (config:={ zeta:=false }) only;extract_lets kk nn jp1;have J1:∀ out i,k=i+1->W rk a b out (i+1) (nb+2)->wpS (az prog w) A E s (jp1 () (i+1) out) (HP rk a b x st) st':=by
      intro out i ei v1;obtain ⟨p,hp⟩:=fV (a:=a) (i:=i) (by omega);have hpq:rk p.1<rk q.1:=by
       have:=k2 i (by omega)
       rwa [eu,bB hp] at this
      refine aA (fU (a:=b) (i:=nb+1) hq ?_);have v2:=v1.pushB t hp hq hpq;refine kc (m:=nb+1) (n:=1) (fun e=>aN ⟨m',.inl ⟨_,_,rfl,v2.last hq1 e hl⟩⟩) fun e=>?_;refine aA (fU (a:=a) (i:=i) hp ?_);have sb:=t.sb.run (b:=0) (n:=nb+1) t.lb (by omega);have ne2:∀ i,i<nb+1->dH rk b (0+i)≠rk p.1:=fun i hi=>by
       obtain ⟨q',hq'⟩:=fV (a:=b) (i:=0+i) (by omega);rw [bB hq'];exact fun e=>t.ne p (eW hp) q' (eW hq') e.symm
      refine aA (oT (a:=b) (b:=0) (n:=nb+1) (h:=nb) hC (m'.1.trans hk) sb (t.la p (eW hp)) ne2 (by omega) fun k' c1 c2 c3=>?_);have v3:=v2.moreB t hp c1 c3;have c4:0<k':=by
       rcases gn k' with e|e
       ·have h4:=c3 0 (by omega) (by omega);rw [bB hq1] at h4;have h5:=hl p (eW hp);omega
       ·exact e
      dsimp (config:={ zeta:=false }) only;extract_lets kk' nn' ia1 jp2;have J2:∀ out j,k'=j+2->W rk a b out (i+1) (j+2)->wpS (az prog w) A E s (jp2 () (j+2) out) (HP rk a b x st) st':=by
       intro out j ej v3;obtain ⟨q',hq'⟩:=fV (a:=b) (i:=j+1) (by omega);have hqp:rk q'.1<rk p.1:=by
        have:=c2 (j+1) (by omega)
        rwa [eu,bB hq'] at this
       have v4:=v3.pushA t hp hq' hqp;refine aA (fU (a:=a) (i:=i) hp ?_);refine kc (m:=i) (n:=0) (fun e=>aN ⟨m',.inl ⟨_,_,rfl,v4.done e⟩⟩) fun e=>?_;obtain ⟨i,rfl⟩:∃ n,i=n+1:=⟨i-1,by omega⟩;exact eL (fun _=>aN ⟨m',.inr ⟨_,i,j,_,_,_,rfl,v4,by omega,by omega,by omega⟩⟩) fun _=>aN ⟨m',_,i,j,_,_,_,rfl,v4,by omega,by omega,by omega⟩
      refine eL (fun _=>?_) fun hz=>?_
      ·refine kc (m:=k') (n:=1) (fun e=>aN ⟨m',.inl ⟨_,_,rfl,v3.last hq1 e hl⟩⟩) fun e=>?_;refine kc (m:=k') (n:=0) (fun e=>by omega) fun e=>?_;obtain ⟨j,rfl⟩:∃ j,k'=j+2:=⟨k' - 2,by omega⟩;exact J2 _ j rfl v3
      ·have hz':¬ nb+1-k' > 0:=hz;obtain ⟨j,rfl⟩:∃ j,nb=j+1:=⟨nb-1,by omega⟩;exact J2 _ j (by omega) v2
     refine eL (fun _=>?_) fun hz=>?_
     ·refine kc (m:=k) (n:=0) (fun e=>aN ⟨m',.inl ⟨_,_,rfl,v1.done e⟩⟩) fun e=>?_;obtain ⟨j,rfl⟩:∃ j,k=j+1:=⟨k-1,by omega⟩;exact J1 _ j rfl v1
     ·have hz':¬ na+1-k > 0:=hz;exact J1 _ na (by omega) v
    exact eG (eL (fun _=>J _) fun _=>J _) fun r _ hh=>by cases r<;>exact hh
end
end
section
def UP:Nat->Nat->StateT eA Sem (Option Nat):=sortPriv% PySem.Builtin.countRun
def Yz:Nat->Nat->Nat->StateT eA Sem Bool:=sortPriv% PySem.Builtin.binarySort
structure Bs (kd:n5) (L:List cA) (st:eA):Prop where
 kind:kindOf st=kd
 perm:(aM st).toList.Perm L
 ok:wl st=none
def Up (rk:af->Nat) (a:Array cA) (lo n:Nat):Prop:=∀ i j,lo<=i->i<j->j<lo+n->dH rk a i<dH rk a j
def Dn (rk:af->Nat) (a:Array cA) (lo n:Nat):Prop:=∀ i j,lo<=i->i<j->j<lo+n->dH rk a j<dH rk a i
section
variable {prog:bq}{w:bL}{A:cy}{E:af->al->Prop}{s:al}{kd:n5}{rk:af->Nat}{L:List cA}{st:eA}{a:Array cA}
theorem Bs.size (B:Bs kd L st):(aM st).size=L.length:=by rw [<- B.perm.length_eq];simp
theorem Bs.get (B:Bs kd L st) (hi:i<L.length):∃ p,(aM st)[i]?=some p/\p∈L:=by
 obtain ⟨p,hp⟩:=fV (a:=aM st) (i:=i) (by rw [B.size];exact hi);exact ⟨p,hp,B.perm.mem_iff.1 (eW hp)⟩
theorem Bs.ne (B:Bs kd L st) (hn:(L.map fun p=>rk p.1).Nodup) (hi:i<L.length) (hj:j<L.length) (h:i≠j):dH rk (aM st) i≠dH rk (aM st) j:=by
 have hn':=(B.perm.map fun p=>rk p.1).nodup_iff.2 hn;obtain ⟨p,hp,_⟩:=B.get hi;obtain ⟨q,hq,_⟩:=B.get hj;rw [bB hp,bB hq];intro e;have h1:((aM st).toList.map fun p=>rk p.1)[i]?=some (rk p.1):=by rw [aU,aQ,hp];rfl
 have h2:((aM st).toList.map fun p=>rk p.1)[j]?=some (rk p.1):=by rw [aU,aQ,hq,e];rfl
 obtain ⟨l1,h1⟩:=oF.1 h1;obtain ⟨l2,h2⟩:=oF.1 h2;exact h ((PH hn').1 (h1.trans h2.symm))
theorem Bs.put (B:Bs kd L st) (h:xs.Perm (aM st)):Bs kd L (setArr st xs):=⟨B.kind,(Array.perm_iff_toList_perm.1 h).trans B.perm,B.ok⟩
theorem wD  (hC:Cp prog w A s kd rk L) (B:Bs kd L st) (hi:i<L.length) (hj:j<L.length)
  (h:Q (some (decide (dH rk (aM st) i<dH rk (aM st) j))) st):wpS (az prog w) A E s (ltAt' i j) Q st:=by
 obtain ⟨p,hp,lp⟩:=B.get hi;obtain ⟨q,hq,lq⟩:=B.get hj;rw [bB hp,bB hq] at h;rw [ltAt'_eq];exact aA (mX (aA (fU hp (aA (fU hq (Ox hC B.kind lp lq h))))))
theorem jz  (h:a[i]?=b[j]?):dH rk a i=dH rk b j:=by unfold dH;rw [h]
theorem xq (hj:j<=a.size) (k:Nat):dH rk (Gz a i j ((j-i) / 2)) k=if i<=k/\k<j then dH rk a (i+j-1-k) else dH rk a k:=by
 have e:=getElem?_mirror_all (i:=i) hj k;by_cases h:i<=k/\k<j
 ·rw [if_pos h] at e ⊢;exact jz e
 ·rw [if_neg h] at e ⊢;exact jz e
theorem xr (hs:src<a.size) (hd:d<=src) (k:Nat) :
  dH rk (bubble a src d) k=if k=src-d then dH rk a src else if src-d<k/\k<=src then dH rk a (k-1) else dH rk a k:=by
 have e:=getElem?_bubble hs d hd k;by_cases h:k=src-d
 ·rw [if_pos h] at e ⊢;exact jz e
 ·rw [if_neg h] at e ⊢;by_cases h2:src-d<k/\k<=src
  ·rw [if_pos h2] at e ⊢;exact jz e
  ·rw [if_neg h2] at e ⊢;exact jz e
theorem Up.more {lo n:Nat} (u:Up rk a lo n) (h:1<=n->dH rk a (lo+n-1)<dH rk a (lo+n)):Up rk a lo (n+1):=by
 intro i j h1 h2 h3;rcases cO j (lo+n) with h4|h4
 ·exact u i j h1 h2 h4
 ·obtain rfl:j=lo+n:=by omega
  rcases cO i (lo+n-1) with h5|h5
  ·exact fe (u i (lo+n-1) h1 h5 (by omega)) (h (by omega))
  ·rw [show i=lo+n-1 by omega];exact h (by omega)
theorem Dn.more {lo n:Nat} (u:Dn rk a lo n) (h:1<=n->dH rk a (lo+n)<dH rk a (lo+n-1)):Dn rk a lo (n+1):=by
 intro i j h1 h2 h3;rcases cO j (lo+n) with h4|h4
 ·exact u i j h1 h2 h4
 ·obtain rfl:j=lo+n:=by omega
  rcases cO i (lo+n-1) with h5|h5
  ·exact fe (h (by omega)) (u i (lo+n-1) h1 h5 (by omega))
  ·rw [show i=lo+n-1 by omega];exact h (by omega)
def Kp (lo:Nat) (a b:Array cA):Prop:=∀ i,i<lo->b[i]?=a[i]?
theorem Jo {lo r:Nat}{Q:Option Nat->eA->Prop} (hC:Cp prog w A s kd rk L) (hn:(L.map fun p=>rk p.1).Nodup) (B:Bs kd L st) (h1:1<=r) (hr:lo+r<=L.length)
  (h:∀ n st',Bs kd L st'->bK st'=bK st->Kp lo (aM st) (aM st')->1<=n->n<=r->Up rk (aM st') lo n->Q (some n) st') :
  wpS (az prog w) A E s (UP lo r) Q st:=by
 refine aA (eG (cV (I:=fun x c st'=>st'=st/\c=(none,x)/\Up rk (aM st) lo x)
  (Q:=fun c st'=>st'=st/\∃ n,c=(none,n)/\1<=n/\n<=r/\Up rk (aM st) lo n/\(n=r\/dH rk (aM st) (lo+n)<dH rk (aM st) (lo+n-1))) ?_ ?_ ⟨rfl,rfl,fun i j h1 h2 h3=>by omega⟩) ?_)
 ·rintro x c st' hx1 hx2 ⟨rfl,rfl,u⟩;refine aA (wD (i:=lo+x) (j:=lo+x-1) hC B (by omega) (by omega) ?_);by_cases hl:dH rk (aM st') (lo+x)<dH rk (aM st') (lo+x-1)
  ·exact eL (fun _=>aN ⟨rfl,x,rfl,hx1,by omega,u,.inr hl⟩) fun h=>absurd (by simpa using hl) h
  ·refine eL (fun h=>absurd (by simpa using h) hl) fun _=>aN ⟨rfl,rfl,u.more fun _=>?_⟩;have:=B.ne hn (i:=lo+x) (j:=lo+x-1) (by omega) (by omega) (by omega);omega
 ·rintro c st' ⟨rfl,rfl,u⟩;rw [show max 1 r=r by omega] at u ⊢;exact ⟨rfl,r,rfl,h1,aq _,u,.inl rfl⟩
 rintro c st' ⟨rfl,n,rfl,n1,n2,u,e⟩;refine kc (m:=n) (n:=r) (fun e=>aN (h n st' B rfl (fun _ _=>rfl) n1 n2 u)) fun ne=>?_;have e:=e.resolve_left ne;extract_lets jp;refine eL (fun hg=>?_) fun hg=>?_
 ·refine aA (wD (i:=lo) (j:=lo+n-1) hC B (by omega) (by omega) ?_);have hl:dH rk (aM st') lo<dH rk (aM st') (lo+n-1):=u lo (lo+n-1) (aq _) (by have:n > 1:=hg;omega) (by have:n > 1:=hg;omega);exact eL (fun _=>aN (h n st' B rfl (fun _ _=>rfl) n1 n2 u)) fun h=>absurd (by simpa using hl) h
 obtain rfl:n=1:=by have:¬ n > 1:=hg;omega
 refine aA (t5 (df ⟨rfl,?_⟩));refine aA (eG (cV (I:=fun x c st''=>st''=st'/\c=(none,x,0)/\Dn rk (aM st') lo x)
  (Q:=fun c st''=>st''=st'/\∃ n,c=(none,n,0)/\1<=n/\n<=r/\Dn rk (aM st') lo n) ?_ ?_ ⟨rfl,rfl,Dn.more (n:=1) (fun i j h1 h2 h3=>by omega) fun _=>e⟩) ?_)
 ·rintro x c st'' hx1 hx2 ⟨rfl,rfl,u⟩;refine aA (wD (i:=lo+x) (j:=lo+x-1) hC B (by omega) (by omega) ?_);by_cases hl:dH rk (aM st'') (lo+x)<dH rk (aM st'') (lo+x-1)
  ·refine eL (fun _=>?_) fun h=>absurd (by simpa using hl) h;exact eL (fun h=>absurd h (bN 0)) fun _=>aN ⟨rfl,rfl,u.more fun _=>hl⟩
  ·refine eL (fun h=>absurd (by simpa using h) hl) fun _=>?_;refine aA (wD (i:=lo+x-1) (j:=lo+x) hC B (by omega) (by omega) ?_);have:=B.ne hn (i:=lo+x) (j:=lo+x-1) (by omega) (by omega) (by omega);have hl':dH rk (aM st'') (lo+x-1)<dH rk (aM st'') (lo+x):=by omega
   exact eL (fun _=>aN ⟨rfl,x,rfl,by omega,by omega,u⟩) fun h=>absurd (by simpa using hl') h
 ·rintro c st'' ⟨rfl,rfl,u⟩;rw [show max (1+1) r=r by omega] at u ⊢;exact ⟨rfl,r,rfl,h1,aq _,u⟩
 rintro c st'' ⟨rfl,n,rfl,n1,n2,d⟩;refine eL (fun h=>absurd h (bN 0)) fun _=>?_;refine aA (pF (f:=fun s=>setArr s (Gz (aM s) lo (lo+n) ((lo+n-lo) / 2))) ?_);have hsz:lo+n<=(aM st'').size:=by rw [B.size];omega
 have B':Bs kd L (setArr st'' (Gz (aM st'') lo (lo+n) ((lo+n-lo) / 2))):=B.put (mirror_perm _ _ _ _);have kp:Kp lo (aM st'') (Gz (aM st'') lo (lo+n) ((lo+n-lo) / 2)):=fun i hi=>by
  rw [getElem?_mirror_all hsz,if_neg (by omega)]
 have up:Up rk (Gz (aM st'') lo (lo+n) ((lo+n-lo) / 2)) lo n:=by
  intro i j h1 h2 h3;rw [xq hsz,xq hsz,if_pos (by omega),if_pos (by omega)];exact d _ _ (by omega) (by omega) (by omega)
 generalize hst:setArr st'' (Gz (aM st'') lo (lo+n) ((lo+n-lo) / 2))=st3 at B';have har:aM st3=Gz (aM st'') lo (lo+n) ((lo+n-lo) / 2):=by rw [<- hst]
 have hpe:bK st3=bK st'':=by rw [<- hst]
 rw [<- har] at kp up;refine aA (eG (cV (I:=fun x c st'=>st'=st3/\c=(none,x)/\Up rk (aM st3) lo x)
  (Q:=fun c st'=>st'=st3/\∃ n,c=(none,n)/\1<=n/\n<=r/\Up rk (aM st3) lo n) ?_ ?_ ⟨rfl,rfl,up⟩) ?_)
 ·rintro x c st' hx1 hx2 ⟨rfl,rfl,u⟩;have hx1:n<=x:=hx1;refine aA (wD (i:=lo+x) (j:=lo+x-1) hC B' (by omega) (by omega) ?_);by_cases hl:dH rk (aM st') (lo+x)<dH rk (aM st') (lo+x-1)
  ·exact eL (fun _=>aN ⟨rfl,x,rfl,by omega,by omega,u⟩) fun h=>absurd (by simpa using hl) h
  ·refine eL (fun h=>absurd (by simpa using h) hl) fun _=>aN ⟨rfl,rfl,u.more fun _=>?_⟩;have:=B'.ne hn (i:=lo+x) (j:=lo+x-1) (by omega) (by omega) (by omega);omega
 ·rintro c st' ⟨rfl,rfl,u⟩;rw [show max n r=r by omega] at u ⊢;exact ⟨rfl,r,rfl,h1,aq _,u⟩
 rintro c st' ⟨rfl,n,rfl,n1,n2,u⟩;exact aN (h n st' B' hpe kp n1 n2 u)
theorem Tf {lo n k0:Nat}{Q:Bool->eA->Prop} (hC:Cp prog w A s kd rk L) (hn:(L.map fun p=>rk p.1).Nodup) (B:Bs kd L st) (hr:lo+n<=L.length) (hk:1<=k0) (hkn:k0<=n) (u:Up rk (aM st) lo k0)
  (h:∀ st',Bs kd L st'->bK st'=bK st->Kp lo (aM st) (aM st')->Up rk (aM st') lo n->Q true st') :
  wpS (az prog w) A E s (Yz lo n k0) Q st:=by
 refine aA (eG (cV (I:=fun k c st'=>c=(none,())/\Bs kd L st'/\bK st'=bK st/\Kp lo (aM st) (aM st')/\Up rk (aM st') lo k)
  (Q:=fun c st'=>c=(none,())/\Bs kd L st'/\bK st'=bK st/\Kp lo (aM st) (aM st')/\Up rk (aM st') lo n) ?step ?fin ⟨rfl,B,rfl,fun _ _=>rfl,by rw [show max k0 1=k0 by omega];exact u⟩) ?post)
 case post =>
  rintro c st' ⟨rfl,B',pe,kp,u⟩;exact aN (h st' B' pe kp u)
 case fin =>
  rintro c st' ⟨rfl,B',pe,kp,u⟩;rw [show max (max k0 1) n=n by omega] at u;exact ⟨rfl,B',pe,kp,u⟩
 case step =>
  rintro k c st1 hk1 hk2 ⟨rfl,B',pe,kp,u⟩;refine aA (eG (cV (I:=fun x c st''=>st''=st1/\∃ l r,c=(none,l,r)/\l<=r/\r<=k/\r-l<=k-x /\
    (∀ i,i<l->dH rk (aM st1) (lo+i)<dH rk (aM st1) (lo+k))/\(∀ i,r<=i->i<k->dH rk (aM st1) (lo+k)<dH rk (aM st1) (lo+i)))
   (Q:=fun c st''=>st''=st1/\∃ l r,c=(none,l,r)/\l<=k /\
    (∀ i,i<l->dH rk (aM st1) (lo+i)<dH rk (aM st1) (lo+k))/\(∀ i,l<=i->i<k->dH rk (aM st1) (lo+k)<dH rk (aM st1) (lo+i))) ?_ ?_ ⟨rfl,0,k,rfl,by omega,by omega,by omega,fun i hi=>by omega,fun i h1 h2=>by omega⟩) ?_)
  ·rintro x c st' - hx ⟨rfl,l,r,rfl,a1,a2,a3,a4,a5⟩;refine eL (fun hg=>?_) fun hg=>?_
   ·have hg:l ≥ r:=hg;obtain rfl:l=r:=by omega
    exact aN ⟨rfl,l,l,rfl,a2,a4,a5⟩
   have hg:¬ l ≥ r:=hg;refine aA (wD (i:=lo+k) (j:=lo+(l+r) / 2) hC B' (by omega) (by omega) ?_);by_cases hl:dH rk (aM st') (lo+k)<dH rk (aM st') (lo+(l+r) / 2)
   ·refine eL (fun _=>aN ⟨rfl,l,(l+r) / 2,rfl,by omega,by omega,by omega,a4,fun i h1 h2=>?_⟩) fun h=>absurd (by simpa using hl) h;rcases cO ((l+r) / 2) i with h3|h3
    ·exact fe hl (u _ _ (by omega) (by omega) (by omega))
    ·rw [show i=(l+r) / 2 by omega];exact hl
   ·refine eL (fun h=>absurd (by simpa using h) hl) fun _=>aN ⟨rfl,(l+r) / 2+1,r,rfl,by omega,by omega,by omega,fun i h1=>?_,a5⟩;have ne:=B'.ne hn (i:=lo+k) (j:=lo+(l+r) / 2) (by omega) (by omega) (by omega);have hl':dH rk (aM st') (lo+(l+r) / 2)<dH rk (aM st') (lo+k):=by omega
    rcases cO i ((l+r) / 2) with h3|h3
    ·exact fe (u _ _ (by omega) (by omega) (by omega)) hl'
    ·rw [show i=(l+r) / 2 by omega];exact hl'
  ·rintro c st' ⟨rfl,l,r,rfl,a1,a2,a3,a4,a5⟩;obtain rfl:l=r:=by omega
   exact ⟨rfl,l,l,rfl,a2,a4,a5⟩
  ·rintro c st' ⟨rfl,l,r,rfl,a2,a4,a5⟩;refine aA (pF (f:=fun s=>setArr s (bubble (aM s) (lo+k) (lo+k-(lo+l)))) (aN ⟨rfl,B'.put (bubble_perm _ _ _),pe,?_,?_⟩))
   ·intro i hi;rw [<- kp i hi];show (bubble (aM st') (lo+k) (lo+k-(lo+l)))[i]?=_;rw [getElem?_bubble (by rw [B'.size];omega) _ (by omega),if_neg (by omega),if_neg (by omega)]
   ·intro i j h1 h2 h3;show dH rk (bubble (aM st') (lo+k) (lo+k-(lo+l))) i<dH rk (bubble (aM st') (lo+k) (lo+k-(lo+l))) j;have hs:lo+k<(aM st').size:=by rw [B'.size];omega
    rw [xr hs (by omega),xr hs (by omega),show lo+k-(lo+k-(lo+l))=lo+l by omega]
    repeat' split
    all_goals first
     |(exfalso;omega)
     |exact u _ _ (by omega) (by omega) (by omega)
     |(have:=a5 (j-1-lo) (by omega) (by omega);rwa [show lo+(j-1-lo)=j-1 by omega] at this)
     |(have:=a4 (i-lo) (by omega);rwa [show lo+(i-lo)=i by omega] at this)
end
end
section
def UQ:Nat->StateT eA Sem Bool:=sortPriv% PySem.Builtin.mergeAt
section
variable {prog:bq}{w:bL}{A:cy}{E:af->al->Prop}{s:al}{kd:n5}{rk:af->Nat}{L:List cA}{st:eA}{a:Array cA}
theorem Jp (c:Nat):∀ (l:List cA) (i:Nat) (a:Array cA),c+i+l.length<=a.size ->
  ((l.zipIdx i).foldl (fun a x=>match x with|(p,j)=>a.setIfInBounds (c+j) p) a).toList=a.toList.take (c+i)++l++a.toList.drop (c+i+l.length)
 |[],i,a,_=>by simp
 |p::l,i,a,h=>by
  have hl:(p::l).length=l.length+1:=rfl;rw [yb,eE,Jp c l (i+1) _ (by rw [Cq];omega)];dsimp only;rw [AE,show c+(i+1)=c+i+1 by omega,hl,show c+i+(l.length+1)=c+i+1+l.length by omega];rw [List.drop_set_of_lt (by omega)];have e:List.take (c+i+1) (a.toList.set (c+i) p)=a.toList.take (c+i)++[p]:=by
   rw [Md,List.take_set_of_le (aq _),aG (by simp;omega)];rfl
  rw [e];simp
theorem W_  (h:Q ⟨⟩ st'):wpS (az prog w) A E s (set st':StateT eA Sem PUnit) Q st:=by
 unfold wpS;exact a9 ⟨rfl,h⟩
theorem Hj  (h:(a.extract i j)[k]?=some p):i+k<j/\a[i+k]?=some p:=by
 rw [ik] at h;split at h
 ·exact ⟨by omega,h⟩
 ·cases h
theorem Up.srt {i j lo n:Nat} (u:Up rk a lo n) (h1:lo<=i) (h2:j<=lo+n):Rq rk (a.extract i j):=by
 intro x y p q hxy hp hq;obtain ⟨l1,e1⟩:=Hj hp;obtain ⟨l2,e2⟩:=Hj hq;rw [<- bB (rk:=rk) e1,<- bB (rk:=rk) e2];exact u _ _ (by omega) (by omega) (by omega)
theorem ke  (h:p∈(a.extract i j).toList):∃ k,i<=k/\k<j/\a[k]?=some p:=by
 obtain ⟨k,hk⟩:=lm.1 h;rw [aQ] at hk;obtain ⟨h1,h2⟩:=Hj hk;exact ⟨i+k,by omega,h1,h2⟩
theorem Bs.ne' (B:Bs kd L st) (hn:(L.map fun p=>rk p.1).Nodup) {i j:Nat}{p q:cA} (hi:(aM st)[i]?=some p) (hj:(aM st)[j]?=some q) (h:i≠j):rk p.1≠rk q.1:=by
 have l1:i<L.length:=by rw [<- B.size];exact (g6.1 hi).1
 have l2:j<L.length:=by rw [<- B.size];exact (g6.1 hj).1
 have:=B.ne hn l1 l2 h
 rwa [bB hi,bB hj] at this
theorem OB (x y z:Nat×Nat×Nat):((#[x,y].setIfInBounds 0 z).eraseIdxIfInBounds (0+1)).size=1:=by
 simp [Array.eraseIdxIfInBounds]
theorem X0 (h:a.toList.Pairwise (UO rk)):Up rk a 0 a.size:=by
 intro i j _ h2 h3;obtain ⟨p,hp⟩:=fV (a:=a) (i:=i) (by omega);obtain ⟨q,hq⟩:=fV (a:=a) (i:=j) (by omega);rw [bB hp,bB hq];rw [oG] at h;have:=h i j (by simp;omega) (by simp;omega) h2;obtain ⟨_,rfl⟩:=g6.1 hp;obtain ⟨_,rfl⟩:=g6.1 hq;exact this
theorem L5 {n m pw:Nat}{Q:Bool->eA->Prop} (hC:Cp prog w A s kd rk L) (hn:(L.map fun p=>rk p.1).Nodup) (B:Bs kd L st)
  (pe:bK st=#[(0,n,pw),(n,m,0)]) (h1:0<n) (h2:0<m) (hr:n+m=L.length) (u1:Up rk (aM st) 0 n) (u2:Up rk (aM st) n m)
  (h:∀ st',Bs kd L st'->(bK st').size=1->Up rk (aM st') 0 L.length->Q true st'):wpS (az prog w) A E s (UQ 0) Q st:=by
 have sz:=B.size;obtain ⟨q0,hq0,lq0⟩:=B.get (i:=n) (by omega);have mem:∀ {i p},(aM st)[i]?=some p->p∈L:=fun e=>B.perm.mem_iff.1 (eW e);refine aA (mX ?_);rw [show (sortPriv% PySem.Builtin.SortState.pending) st=#[(0,n,pw),(n,m,0)] from pe];refine aA (W_ ?_);refine aA (fU hq0 ?_);have r1:WY rk L (aM st) 0 n (fun i=>dH rk (aM st) (0+i)):=⟨fun i hi=>by
  obtain ⟨p,hp,lp⟩:=B.get (i:=0+i) (by omega);exact ⟨p,hp,lp,(bB hp).symm⟩,fun i j hij hj=>u1 _ _ (by omega) (by omega) (by omega)⟩
 have r2:WY rk L (aM st) n m (fun i=>dH rk (aM st) (n+i)):=⟨fun i hi=>by
  obtain ⟨p,hp,lp⟩:=B.get (i:=n+i) (by omega);exact ⟨p,hp,lp,(bB hp).symm⟩,fun i j hij hj=>u2 _ _ (by omega) (by omega) (by omega)⟩
 refine aA (oT (a:=aM st) (b:=0) (n:=n) (h:=0) hC B.kind r1 lq0 (fun i hi=>?_) h1 fun k k1 k2 k3=>?_)
 ·have:=B.ne hn (i:=0+i) (j:=n) (by omega) (by omega) (by omega)
  rwa [bB hq0] at this
 refine kc (m:=n-k) (n:=0) (fun e=>aN (h _ ⟨B.kind,B.perm,B.ok⟩ (OB ..) ?_)) fun e=>?_
 ·intro i j _ hij hj;rcases cO j n with c1|c1
  ·exact u1 i j (by omega) hij (by omega)
  ·rcases cO i n with c2|c2
   ·have c3:=k2 i (by omega);rw [eu] at c3;show dH rk (aM st) i<dH rk (aM st) j;rcases cO n j with c4|c4
    ·have c5:=u2 n j (by omega) c4 (by omega);rw [bB hq0] at c5;omega
    ·rw [show j=n by omega,bB hq0];exact c3
   ·exact u2 i j (by omega) hij (by omega)
 obtain ⟨p0,hp0,lp0⟩:=B.get (i:=n-1) (by omega);refine aA (fU (i:=0+k+(n-k)-1) (by rw [show 0+k+(n-k)-1=n-1 by omega];exact hp0) ?_);refine aA (oT (a:=aM st) (b:=n) (n:=m) (h:=m-1) hC B.kind r2 lp0 (fun i hi=>?_) (by omega) fun k' c1 c2 c3=>?_)
 ·have:=B.ne hn (i:=n+i) (j:=n-1) (by omega) (by omega) (by omega)
  rwa [bB hp0] at this
 have c0:0<k':=by
  rcases gn k' with e0|e0
  ·have c4:=c3 0 (by omega) (by omega);have c5:=k3 (n-1) (by omega) (by omega);rw [eu,bB hp0] at c5;rw [m_,bB hq0] at c4;omega
  ·exact e0
 refine kc (m:=k') (n:=0) (fun e=>by omega) fun _=>?_;have t:Oz rk L ((aM st).extract (0+k) n) ((aM st).extract n (n+k')):=by
  refine ⟨u1.srt (by omega) (by omega),u2.srt (by omega) (by omega),fun p hp=>?_,fun p hp=>?_,fun p hp q hq=>?_⟩
  ·obtain ⟨_,_,_,e⟩:=ke hp;exact mem e
  ·obtain ⟨_,_,_,e⟩:=ke hp;exact mem e
  ·obtain ⟨_,_,_,e1⟩:=ke hp;obtain ⟨_,_,_,e2⟩:=ke hq;exact B.ne' hn e1 e2 (by omega)
 have za:((aM st).extract (0+k) n).size=n-k:=by rw [Kf];omega
 have zb:((aM st).extract n (n+k')).size=k':=by rw [Kf];omega
 obtain ⟨pk,hpk,_⟩:=B.get (i:=0+k) (by omega);obtain ⟨ql,hql,_⟩:=B.get (i:=n+(k' - 1)) (by omega);have e1:((aM st).extract (0+k) n)[0]?=some pk:=by rw [ik,if_pos (by omega)];exact hpk
 have e2:((aM st).extract n (n+k'))[0]?=some q0:=by rw [ik,if_pos (by omega)];exact hq0
 have e3:((aM st).extract (0+k) n)[((aM st).extract (0+k) n).size-1]?=some p0:=by
  rw [za,ik,if_pos (by omega),show 0+k+(n-k-1)=n-1 by omega];exact hp0
 have e4:((aM st).extract n (n+k'))[((aM st).extract n (n+k')).size-1]?=some ql:=by
  rw [zb,ik,if_pos (by omega)];exact hql
 have g1:rk q0.1<rk pk.1:=by
  have:=k3 k (aq _) (by omega)
  rwa [bB hpk] at this
 have g2:∀ y∈((aM st).extract n (n+k')).toList,rk y.1<rk p0.1:=fun y hy=>by
  obtain ⟨j,j1,j2,e⟩:=ke hy;have:=c2 (j-n) (by omega)
  rwa [show n+(j-n)=j by omega,bB e] at this
 have g3:∀ y∈((aM st).extract (0+k) n).toList,rk q0.1<rk y.1:=fun y hy=>by
  obtain ⟨j,j1,j2,e⟩:=ke hy;have:=k3 j (by omega) (by omega)
  rwa [eu,bB e] at this
 extract_lets x y jp;have J:∀ r st',kindOf st'=kd->aM st'=aM st->wl st'=none->(bK st').size=1->oU rk ((aM st).extract (0+k) n) ((aM st).extract n (n+k')) r->wpS (az prog w) A E s (jp r) Q st':=by
  rintro r st' z1 z2 z3 z4 ⟨f1,f2⟩;have rl:r.toList.length=n-k+k':=by rw [f1.length_eq,aR,ap,ap,za,zb]
  have pa:=Jp (0+k) r.toList 0 (aM st') (by rw [z2,rl];omega);refine aA (pF (aA (mX (aN ?_))));have e5:(wl st').isNone=true:=by rw [z3];rfl
  show Q ((wl st').isNone) _;rw [e5];generalize hb:List.foldl (fun a x=>match x with|(p,j)=>a.setIfInBounds (0+k+j) p) (aM st') r.toList.zipIdx=nw at pa;have hT:(aM st').toList.take (0+k+0)=((aM st).extract 0 k).toList:=by rw [z2,oV,m_,eu]
  have hD:(aM st').toList.drop (0+k+0+r.toList.length)=((aM st).extract (n+k') (aM st).size).toList:=by
   rw [z2,sx,rl];congr 1;omega
  rw [hT,hD] at pa;have hpm:nw.toList.Perm L:=by
   refine pz ?_ B.perm;rw [pa];refine ((f1.append_left _).append_right _).trans (Iu ?_);rw [oV,sx,gN,gN,el,el];conv=>rhs;rw [<- gq k (aM st).toList,<- gq (n-k) ((aM st).toList.drop k),Bl,<- gq k' ((aM st).toList.drop (k+(n-k))),Bl]
   rw [show k+(n-k)=n by omega,List.drop_take,List.drop_take,show n+k' - n=k' by omega,eu];simp [gR]
  have low:∀ x∈((aM st).extract 0 k).toList,rk x.1<rk q0.1:=fun x hx=>by
   obtain ⟨i,_,i2,e⟩:=ke hx;have:=k2 i i2
   rwa [eu,bB e] at this
  have high:∀ {j y},n<=j->(aM st)[j]?=some y->rk q0.1<=rk y.1:=fun {j y} hj e=>by
   have lj:j<(aM st).size:=(g6.1 e).1;rcases cO n j with h|h
   ·have:=u2 n j (aq _) h (by omega);rw [bB hq0,bB e] at this;omega
   ·rw [show j=n by omega,hq0] at e;cases e;exact aq _
  refine h _ ⟨z1,hpm,z3⟩ z4 ?_;have up:=X0 (a:=nw) (rk:=rk) ?_
  ·have:nw.size=L.length:=by rw [<- hpm.length_eq];simp
   rwa [this] at up
  rw [pa];refine gT.2 ⟨gT.2 ⟨(u1.srt (by omega) (by omega)).pw,f2,fun x hx y hy=>?_⟩,(u2.srt (by omega) (by omega)).pw,fun x hx y hy=>?_⟩
  ·have l:=low x hx;rcases fw.1 (f1.mem_iff.1 hy) with hy|hy
   ·exact fe l (g3 y hy)
   ·obtain ⟨j,j1,_,e⟩:=ke hy;exact aE l (high j1 e)
  ·obtain ⟨j,j1,j2,e⟩:=ke hy;rcases fw.1 hx with hx|hx
   ·exact aE (low x hx) (high (by omega) e)
   ·rcases fw.1 (f1.mem_iff.1 hx) with hx|hx
    ·obtain ⟨i,i1,i2,e'⟩:=ke hx;have l:=c3 (j-n) (by omega) (by omega);rw [show n+(j-n)=j by omega,bB e] at l;rcases cO i (n-1) with h|h
     ·have:=u1 i (n-1) (by omega) h (by omega);rw [bB hp0,bB e'] at this;exact fe this l
     ·rw [show i=n-1 by omega,hp0] at e';cases e';exact l
    ·obtain ⟨i,i1,i2,e'⟩:=ke hx;have:=u2 i j (by omega) (by omega) (by omega)
     rwa [bB e,bB e'] at this
 refine eL (fun _=>aA (L3 hC B.kind t e1 e2 g1 (fun p hp=>?_) fun r st' m f=>?_)) fun _=>aA (L4 hC B.kind t e3 e4 (g2 ql (eW e4)) e2 g3 fun r st' m f=>?_)
 ·rw [e3] at hp;cases hp;exact g2
 ·exact J r st' (m.1.trans B.kind) m.2.1 (m.2.2.2.trans B.ok) (by rw [m.2.2.1];exact OB ..) f
 ·exact J r st' (m.1.trans B.kind) m.2.1 (m.2.2.2.trans B.ok) (by rw [m.2.2.1];exact OB ..) f
end
end
section
section
variable {prog:bq}{w:bL}{A:cy}{E:af->al->Prop}{s:al}{kd:n5}{rk:af->Nat}{L:List cA}{st:eA}{a:Array cA}
theorem L6 (h2:2<=N) (h64:N<=64):1<=Gb N N 0/\Gb N N 0<=N/\N<=2*Gb N N 0:=by
 obtain ⟨f,hf⟩:∃ f,N=f+1:=⟨N-1,by omega⟩;by_cases h:N<64
 ·have:Gb (f+1) N 0=N:=by rw [minRun'_succ,if_pos h];rfl
  rw [<- hf] at this;rw [this];omega
 ·obtain rfl:N=64:=by omega
  have:Gb 64 64 0=32:=by rfl
  rw [this];omega
theorem UR (hC:Cp prog w A s kd rk L) (hn:(L.map fun p=>rk p.1).Nodup) (B:Bs kd L st) (pe:bK st=#[]) (h2:2<=L.length) (h64:L.length<=64)
  (h:∀ st',Bs kd L st'->Up rk (aM st') 0 L.length->Q () st'):wpS (az prog w) A E s sortRuns' Q st:=by
 obtain ⟨m1,m2,m3⟩:=L6 h2 h64;refine aA (mX ?_);extract_lets size mr lo;have hsz:size=L.length:=B.size;have hmr:mr=Gb L.length L.length 0:=by rw [<- hsz];rfl
 rw [<- hmr] at m1 m2 m3
 clear_value size mr;subst hsz;refine aA (eG (cV
  (I:=fun x c st'=>Bs kd L st'/\((x=0/\c=(none,0)/\bK st'=#[])\/(x=1/\∃ n,c=(none,n)/\bK st'=#[(0,n,0)]/\mr<=n/\n<=L.length/\Up rk (aM st') 0 n) \/
   (∃ n m pw,c=(none,L.length)/\bK st'=#[(0,n,pw),(n,m,0)]/\0<n/\0<m/\n+m=L.length/\Up rk (aM st') 0 n/\Up rk (aM st') n m)))
  (Q:=fun c st'=>Bs kd L st'/\((∃ n,c=(none,n)/\(bK st').size=1/\Up rk (aM st') 0 L.length) \/
   (∃ n m pw,c=(none,L.length)/\bK st'=#[(0,n,pw),(n,m,0)]/\0<n/\0<m/\n+m=L.length/\Up rk (aM st') 0 n/\Up rk (aM st') n m))) ?step ?fin ⟨B,.inl ⟨rfl,rfl,pe⟩⟩) ?post)
 case fin =>
  rintro c st' ⟨B',⟨e,_⟩|⟨e,_⟩|c3⟩
  ·omega
  ·omega
  ·exact ⟨B',.inr c3⟩
 case step =>
  rintro x c st1-hx ⟨B1,⟨rfl,rfl,p1⟩|⟨rfl,n,rfl,p1,n1,n2,u⟩|⟨n,m,pw,rfl,p1,n1,n2,n3,u1,u2⟩⟩
  ·refine eL (fun hg=>?_) fun _=>?_
   ·have hg:0 ≥ L.length:=hg;omega
   refine aA (Jo (lo:=0) (r:=L.length-0) hC hn B1 (by omega) (by omega) fun n st2 B2 p2 k2 n1 n2 u2=>?_);dsimp (config:={ zeta:=false }) only;extract_lets nn jp;have J:∀ n st',Bs kd L st'->bK st'=#[]->mr<=n->n<=L.length->Up rk (aM st') 0 n->wpS (az prog w) A E s (jp () n) (fun r st'=>∃ c,r=.yield c/\Bs kd L st'/\∃ n,c=(none,n)/\bK st'=#[(0,n,0)]/\mr<=n/\n<=L.length/\Up rk (aM st') 0 n) st':=by
    intro n st' B' p' l1 l2 u;refine aA (mX ?_);extract_lets jp1;rw [show (sortPriv% PySem.Builtin.SortState.pending) st'=#[] from p'];refine aA (pF (aN ⟨_,rfl,⟨B'.kind,B'.perm,B'.ok⟩,n,?_,?_,l1,l2,u⟩))
    ·show ((none,0+n):Option Unit×Nat)=(none,n);rw [eu]
    ·show (bK st').push _=_;rw [p'];rfl
   refine eG (Q:=fun r st'=>∃ c,r=.yield c/\Bs kd L st'/\∃ n,c=(none,n)/\bK st'=#[(0,n,0)]/\mr<=n/\n<=L.length/\Up rk (aM st') 0 n) (eL (fun hl=>?_) fun hl=>?_) ?_
   ·have hl:n<mr:=hl;refine aA (t5 (df ⟨rfl,?_⟩));have hf:min (L.length-0) mr=mr:=by omega
    refine aA (Tf (lo:=0) (n:=min (L.length-0) mr) hC hn B2 (by omega) n1 (by omega) u2 fun st3 B3 p3 k3 u3=>?_);refine eL (fun h=>by cases h) fun _=>?_;rw [hf] at u3;exact J (min (L.length-0) mr) st3 B3 (p3.trans (p2.trans p1)) (by omega) (by omega) (by rw [hf];exact u3)
   ·have hl:¬ n<mr:=hl;exact J n st2 B2 (p2.trans p1) (by omega) (by omega) u2
   ·rintro r st' ⟨c,rfl,B',n,rfl,p',l1,l2,u⟩;exact ⟨B',.inr (.inl ⟨rfl,n,rfl,p',l1,l2,u⟩)⟩
  ·refine eL (fun hg=>aN ⟨B1,.inl ⟨n,rfl,by rw [p1];rfl,?_⟩⟩) fun hg=>?_
   ·have hg:n ≥ L.length:=hg;rw [show L.length=n by omega];exact u
   have hg:¬ n ≥ L.length:=hg;refine aA (Jo (lo:=n) (r:=L.length-n) hC hn B1 (by omega) (by omega) fun m st2 B2 p2 k2 m1 m2 u2=>?_);dsimp (config:={ zeta:=false }) only;extract_lets nn jp;have up:∀ {st':eA},Kp n (aM st1) (aM st')->Up rk (aM st') 0 n:=fun {st'} kp i j h1 h2 h3=>by
    rw [jz (rk:=rk) (kp i (by omega)),jz (rk:=rk) (kp j (by omega))];exact u i j h1 h2 h3
   have J:∀ m st',Bs kd L st'->bK st'=#[(0,n,0)]->n+m=L.length->0<m->Up rk (aM st') 0 n->Up rk (aM st') n m->wpS (az prog w) A E s (jp () m) (fun r st'=>∃ c,r=.yield c/\Bs kd L st'/\∃ n m pw,c=(none,L.length)/\bK st'=#[(0,n,pw),(n,m,0)]/\0<n/\0<m/\n+m=L.length/\Up rk (aM st') 0 n/\Up rk (aM st') n m) st':=by
    intro m st' B' p' l1 l2 u1 u2;refine aA (mX ?_);extract_lets jp1;rw [show (sortPriv% PySem.Builtin.SortState.pending) st'=#[(0,n,0)] from p'];refine aA (eG (cV (I:=fun _ c st''=>st''=st'/\c=(none,())) (Q:=fun c st''=>st''=st'/\c=(none,())) ?_ (fun _ _ hh=>hh) ⟨rfl,rfl⟩) ?_)
    ·rintro x c st'' - _ ⟨rfl,rfl⟩;refine aA (mX ?_);rw [show (sortPriv% PySem.Builtin.SortState.pending) st''=#[(0,n,0)] from p'];exact aN ⟨rfl,rfl⟩
    ·rintro c st'' ⟨rfl,rfl⟩;refine aA (pF (aA (pF (aN ⟨_,rfl,⟨B'.kind,B'.perm,B'.ok⟩,n,m,(sortPriv% PySem.Builtin.power) L.length (2*0+n) (2*0+n+n+m) L.length,?_,?_,by omega,l2,l1,u1,u2⟩))))
     ·show ((none,n+m):Option Unit×Nat)=(none,L.length);rw [l1]
     ·show Array.push (Array.modify (bK st'') ((bK st'').size-1) _) _=_;rw [p'];rfl
   refine eG (Q:=fun r st'=>∃ c,r=.yield c/\Bs kd L st'/\∃ n m pw,c=(none,L.length)/\bK st'=#[(0,n,pw),(n,m,0)]/\0<n/\0<m/\n+m=L.length/\Up rk (aM st') 0 n/\Up rk (aM st') n m) (eL (fun hl=>?_) fun hl=>?_) ?_
   ·have hl:m<mr:=hl;refine aA (t5 (df ⟨rfl,?_⟩));have hf:min (L.length-n) mr=L.length-n:=by omega
    refine aA (Tf (lo:=n) (n:=min (L.length-n) mr) hC hn B2 (by omega) m1 (by omega) u2 fun st3 B3 p3 k3 u3=>?_);refine eL (fun h=>by cases h) fun _=>?_;exact J (min (L.length-n) mr) st3 B3 (p3.trans (p2.trans p1)) (by omega) (by omega) (up fun i hi=>(k3 i hi).trans (k2 i hi)) u3
   ·have hl:¬ m<mr:=hl;exact J m st2 B2 (p2.trans p1) (by omega) (by omega) (up k2) u2
   ·rintro r st' ⟨c,rfl,B',hh⟩;exact ⟨B',.inr (.inr hh)⟩
  ·exact eL (fun _=>aN ⟨B1,.inr ⟨n,m,pw,rfl,p1,n1,n2,n3,u1,u2⟩⟩) fun hg=>absurd (aq _) hg
 case post =>
  have fin:∀ {st'},Bs kd L st'->(bK st').size=1->Up rk (aM st') 0 L.length->Bs kd L st'/\(bK st').size=1/\Up rk (aM st') 0 L.length:=fun b p u=>⟨b,p,u⟩;rintro c st1 ⟨B1,hh⟩;obtain ⟨lo,rfl⟩:∃ lo,c=(none,lo):=by
   rcases hh with ⟨n,rfl,_⟩|⟨n,m,pw,rfl,_⟩
   ·exact ⟨_,rfl⟩
   ·exact ⟨_,rfl⟩
  refine aA (eG (cV
   (I:=fun x c st'=>c=(none,())/\Bs kd L st'/\(((bK st').size=1/\Up rk (aM st') 0 L.length)\/(x=0/\∃ n m pw,bK st'=#[(0,n,pw),(n,m,0)]/\0<n/\0<m/\n+m=L.length/\Up rk (aM st') 0 n/\Up rk (aM st') n m)))
   (Q:=fun c st'=>c=(none,())/\Bs kd L st'/\Up rk (aM st') 0 L.length) ?_ ?_ ⟨rfl,B1,?_⟩) ?_)
  ·rintro x c st' - hx ⟨rfl,B',⟨p1,u⟩|⟨rfl,n,m,pw,p1,n1,n2,n3,u1,u2⟩⟩
   ·refine aA (mX (eL (fun _=>aN ⟨rfl,B',u⟩) fun hg=>absurd ?_ hg));show (bK st').size<=1;omega
   ·refine aA (mX ?_);rw [show (sortPriv% PySem.Builtin.SortState.pending) st'=#[(0,n,pw),(n,m,0)] from p1];refine eL (fun h=>?_) fun _=>?_
    ·have h:(2:Nat)<=1:=h;omega
    refine aA (L5 hC hn B' p1 n1 n2 n3 u1 u2 fun st2 B2 p2 u=>?_);exact eL (fun h=>by cases h) fun _=>aN ⟨rfl,B2,.inl ⟨p2,u⟩⟩
  ·rintro c st' ⟨rfl,B',⟨p1,u⟩|⟨e,_⟩⟩
   ·exact ⟨rfl,B',u⟩
   ·omega
  ·rcases hh with ⟨n,_,p,u⟩|⟨n,m,pw,_,hh⟩
   ·exact .inl ⟨p,u⟩
   ·exact .inr ⟨rfl,n,m,pw,hh⟩
  ·rintro c st' ⟨rfl,B',u⟩;exact aN (h st' B' u)
end
end
end TS
namespace TS
open PySem PyProof.Rows PySem.W
section
def Ss:List af->List Str->Prop
 |[],[]=>True
 |v::vs,x::xs=>(∃ t,v=.str x t)/\Ss vs xs
 |_,_=>False
def tl:List Str->List Str->Bool
 |[],[]=>false
 |[],_::_=>true
 |_::_,[]=>false
 |x::xs,y::ys=>if x=y then tl xs ys else decide (x.cps.toList<y.cps.toList)
def Tk (h:bT) (v:af) (x:List Str):Prop:=∃ a o vs n,v=.ref a/\h.get? a=some o/\o.cls=.type "tuple"/\o.data=.seq vs n/\Ss vs.toList x
section
variable {prog:bq}{w:bL}{A:cy}{E:af->al->Prop}{s:al}
theorem vt  : tl (x::xs) (y::ys)=if x=y then tl xs ys else decide (x.cps.toList<y.cps.toList):=rfl
theorem Jq  : ∀ {vs us:List af}{x y:List Str}{i:Nat},Ss vs x->Ss us y->fin=decide (vs.length<us.length)->Q (tl x y) s->KatLex prog w A true fin Q (vs.zip us) i s
 |[],[],[],[],_,_,_,e,q=>by subst e;exact q
 |[],_::_,[],_::_,_,_,_,e,q=>by subst e;rw [List.zip_nil_left];refine kat_nil ?_;simpa [tl] using q
 |_::_,[],_::_,[],_,_,_,e,q=>by subst e;rw [List.zip_nil_right];refine kat_nil ?_;simpa [tl] using q
 |v::vs,u::us,x::xs,y::ys,i,h1,h2,e,q=>by
  obtain ⟨⟨t,rfl⟩,h1⟩:=h1;obtain ⟨⟨t',rfl⟩,h2⟩:=h2;rw [vW];refine kat_cons (Ch ?_);rw [vt] at q;by_cases hxy:x=y
  ·rw [if_pos hxy] at q;have e':(x==y)=true:=by simp [hxy]
   first|rw [e']|(rw [show decide (x=y)=true by simp [hxy]])
   exact kat_yes (Jq h1 h2 (by rw [e];simp) q)
  ·rw [if_neg hxy] at q;have e':(x==y)=false:=by simp [hxy]
   first|rw [e']|(rw [show decide (x=y)=false by simp [hxy]])
   refine kat_no ?_;cases (true&&i==0) with
   |true=>exact oneLt_str q
   |false=>exact kat_one _ _ (lt_str q)
 |[],_,_::_,_,_,h,_,_,_=>h.elim
 |_::_,_,[],_,_,h,_,_,_=>h.elim
 |_,[],_,_::_,_,_,h,_,_=>h.elim
 |_,_::_,_,[],_,_,h,_,_=>h.elim
theorem Rr   (h1:Tk s.heap v x) (h2:Tk s.heap u y) (q:Q (tl x y) s):au (az prog w) A (keyLt' (tuples' true) v u) Q E s:=by
 obtain ⟨a,o,vs,n,rfl,e1,_,e2,e3⟩:=h1;obtain ⟨b,o',us,m,rfl,f1,_,f2,f3⟩:=h2;exact kat_lt e1 e2 f1 f2 (Jq e3 f3 (by simp) q)
theorem tS   (hx:Tk s.heap (.ref a) x) (hy:Tk s.heap (.ref b) y) (h:P (.done (.ret (.bool (tl x y)))) s) :
  au (az prog w) A (jN.«tuple.__lt__» ⟨[.ref a,.ref b],[]⟩) P E s:=by
 obtain ⟨_,oa,xs,na,ea,hoa,hca,hda,hia⟩:=hx;obtain ⟨_,ob,ys,nb,eb,hob,hcb,hdb,hib⟩:=hy;cases ea;cases eb;show au _ _ (isInstance (.ref b) (.type "tuple") >>= _) _ _ s;refine a7 (gC (T:="tuple") ⟨_,hob,hcb⟩ isSubtype_tuple_tuple ?_);simp only [jE,bu,if_false];refine a7 (wpAny_tupleItemsOf hoa hda ?_);refine a7 (wpAny_tupleItemsOf hob hdb ?_);refine a7 ?_;refine wpAny_forIn_list _
  (fun cp r s'=>r.1=none/\s'=s/\∃ x' y' xs' ys',cp=List.zip xs' ys'/\Ss xs' x'/\Ss ys' y'/\tl x' y'=tl x y/\(decide (xs'.length<ys'.length))=(decide (xs.size<ys.size)))
  _ ?_ ?_ _ _ ⟨rfl,rfl,x,y,xs.toList,ys.toList,rfl,hia,hib,rfl,by simp⟩
 ·rintro ⟨u,v⟩ cp r s' ⟨hr,rfl,x',y',xs',ys',hz,hx',hy',hdec,hlen⟩
  match x',y',xs',ys',hz,hx',hy',hdec,hlen with
  |k1::x',k2::y',u'::xs',v'::ys',hz,⟨⟨t,e1⟩,hx'⟩,⟨⟨t',e2⟩,hy'⟩,hdec,hlen =>
   rw [vW] at hz;obtain ⟨e3,rfl⟩:=sd hz;obtain ⟨rfl,rfl⟩:=Prod.mk.inj e3;subst e1;subst e2;refine a7 (Ch ?_);rw [vt] at hdec;by_cases hk:k1=k2
   ·rw [if_pos hk] at hdec;have e':(k1==k2)=true:=by simp [hk]
    first|rw [e']|(rw [show decide (k1=k2)=true by simp [hk]])
    simp only [jE,bu,if_false];refine a9 ⟨rfl,rfl,x',y',xs',ys',rfl,hx',hy',hdec,by simpa using hlen⟩
   ·rw [if_neg hk] at hdec;have e':(k1==k2)=false:=by simp [hk]
    first|rw [e']|(rw [show decide (k1=k2)=false by simp [hk]])
    simp only [jg,if_true];rw [<- hdec] at h;refine a7 (df (a7 (lt_str ?_)));exact a7 (a9 (a9 (a9 h)))
  |[],_,u'::xs',_,_,h,_,_,_=>exact h.elim
  |_::_,_,[],_,hz,h,_,_,_=>exact h.elim
  |[],_,[],_,hz,_,_,_,_=>simp at hz
  |_::_,[],_::_,v'::ys',hz,_,h,_,_=>exact h.elim
  |_::_,_::_,_::_,[],hz,_,h,_,_=>exact h.elim
  |_::_,[],_::_,[],hz,_,_,_,_=>simp at hz
 ·rintro ⟨r1,r2⟩ s' ⟨hr,rfl,x',y',xs',ys',hz,hx',hy',hdec,hlen⟩;simp only at hr;subst hr;refine a9 ?_;have hfin:decide (xs.size<ys.size)=tl x y:=by
   rw [<- hdec,<- hlen]
   match x',y',xs',ys',hz,hx',hy' with
   |[],[],[],[],_,_,_=>simp [tl]
   |[],_::_,[],_::_,_,_,_=>simp [tl]
   |_::_,[],_::_,[],_,_,_=>simp [tl]
   |_::_,_::_,_::_,_::_,hz,_,_=>simp at hz
   |[],_,_::_,_,_,h,_=>exact h.elim
   |_::_,_,[],_,_,h,_=>exact h.elim
   |_,[],_,_::_,_,_,h=>exact h.elim
   |_,_::_,_,[],_,_,h=>exact h.elim
  show P (.done (.ret (.bool (decide (xs.size<ys.size))))) s';rw [hfin];exact h
theorem Tk.typeIs  (h:Tk s.heap v x):s.TypeIs v "tuple":=by
 obtain ⟨a,o,vs,n,rfl,e1,e2,_⟩:=h;exact ⟨_,e1,e2⟩
theorem US   (hu:A.units<gK) (h1:Tk s.heap v x) (h2:Tk s.heap u y) (q:Q (tl x y) s):au (az prog w) A (keyLt' general' v u) Q E s:=by
 have h1':=h1;have h2':=h2;obtain ⟨a,_,_,_,rfl,_⟩:=h1';obtain ⟨b,_,_,_,rfl,_⟩:=h2';refine kat_one _ _ (wpAny_richCompare_same_room (op:=.Lt) h1.typeIs h2.typeIs tJ
  (bD tJ h1.typeIs F.entry_tuple_lt (tS h1 h2 ⟨_,rfl,(fun e=>nomatch e),q⟩) (F.args_tuple_lt_2 _ _)) hu)
theorem UT   (hu:A.units<gK) (h1:Tk s.heap v x) (h2:Tk s.heap u y) (q:Q (tl x y) s):au (az prog w) A (keyLt' oneType' v u) Q E s:=by
 have h1':=h1;have h2':=h2;obtain ⟨a,_,_,_,rfl,_⟩:=h1';obtain ⟨b,_,_,_,rfl,_⟩:=h2';rw [keyLt'_oneType,oneLt'_eq];simp only [if_true];refine a7 (wpAny_cRoomFor_or (.inr hu) ?_);refine a7 (wpAny_callSpecialIfBound?_slot h1.typeIs tJ (bD tJ h1.typeIs F.entry_tuple_lt (tS h1 h2 ⟨_,rfl,?_⟩) (F.args_tuple_lt_2 _ _)));exact cK q
end
end
section
theorem UU {x y:Str} (h:x.cps.toList=y.cps.toList):x=y:=by
 cases x;cases y;exact congrArg _ (xL.1 h)
theorem tl_irrefl:∀ x:List Str,tl x x=false
 |[]=>rfl
 |x::xs=>by rw [vt,if_pos rfl];exact tl_irrefl xs
theorem tl_total:∀ x y:List Str,tl x y=false->tl y x=false->x=y
 |[],[],_,_=>rfl
 |[],_::_,h,_=>by cases h
 |_::_,[],_,h=>by cases h
 |x::xs,y::ys,h1,h2=>by
  rw [vt] at h1 h2;by_cases e:x=y
  ·subst e;rw [if_pos rfl] at h1 h2;rw [tl_total xs ys h1 h2]
  ·rw [if_neg e] at h1;rw [if_neg (cY e)] at h2;exact absurd (UU (PyProof.Rows.strKind.total x.cps.toList y.cps.toList h1 h2)) e
theorem tl_trans:∀ x y z:List Str,tl x y=true->tl y z=true->tl x z=true
 |[],_,[],h1,h2=>by
  rename_i y
  cases y with
  |nil=>cases h1
  |cons=>cases h2
 |[],_,_::_,_,_=>rfl
 |_::_,[],_,h,_=>by cases h
 |_::_,_::_,[],_,h=>by cases h
 |x::xs,y::ys,z::zs,h1,h2=>by
  rw [vt] at h1 h2 ⊢;by_cases e:x=y
  ·subst e;rw [if_pos rfl] at h1;by_cases e':x=z
   ·subst e';rw [if_pos rfl] at h2 ⊢;exact tl_trans xs ys zs h1 h2
   ·rw [if_neg e'] at h2 ⊢;exact h2
  ·rw [if_neg e] at h1;by_cases e':y=z
   ·subst e';rw [if_neg e];exact h1
   ·rw [if_neg e'] at h2;have h3:=PyProof.Rows.strKind.trans x.cps.toList y.cps.toList z.cps.toList h1 h2;rw [if_neg fun e2=>by subst e2;rw [PyProof.Rows.strKind.irrefl] at h3;cases h3];exact h3
theorem BS {α:Type}{p q:α->Bool}:∀ {l:List α}{a:α},(∀ z∈l,p z=true->q z=true)->a∈l->p a=false->q a=true->l.countP p<l.countP q
 |b::l,a,h,ha,pa,qa=>by
  rw [PP,PP];have mono:l.countP p<=l.countP q:=List.countP_mono_left fun z hz=>h z (ai _ hz);rcases aZ.1 ha with rfl|ha
  ·rw [if_neg (by simp [pa]),if_pos qa];omega
  ·have:=BS (fun z hz=>h z (ai _ hz)) ha pa qa;have hb:=h b (ak ..);cases hpb:p b with
   |false=>simp;split<;>omega
   |true=>rw [hb hpb];simp;omega
def E_ (xs:List (List Str)) (x:List Str):Nat:=xs.countP fun y=>tl y x
theorem Jr  (hx:x∈xs) (h:tl x y=true):E_ xs x<E_ xs y :=
 BS (fun z _ hz=>tl_trans z x y hz h) hx (tl_irrefl x) h
theorem vv  (hx:x∈xs) (hy:y∈xs):decide (E_ xs x<E_ xs y)=tl x y:=by
 cases h:tl x y with
 |true=>exact decide_eq_true (Jr hx h)
 |false =>
  refine decide_eq_false fun hl=>?_;cases h2:tl y x with
  |true=>have:=Jr hy h2;omega
  |false=>rw [tl_total x y h h2] at hl;omega
theorem OC  (hx:x∈xs) (hy:y∈xs) (h:E_ xs x=E_ xs y):x=y:=by
 refine tl_total x y ?_ ?_
 ·rw [<- vv hx hy];simp [h]
 ·rw [<- vv hy hx];simp [h]
theorem Ss.inj:∀ {vs:List af}{x y:List Str},Ss vs x->Ss vs y->x=y
 |[],[],[],_,_=>rfl
 |v::vs,x::xs,y::ys,h1,h2=>by
  obtain ⟨⟨t,rfl⟩,h1⟩:=h1;obtain ⟨⟨t',e⟩,h2⟩:=h2;cases e;rw [Ss.inj h1 h2]
 |[],_::_,_,h,_=>h.elim
 |[],[],_::_,_,h=>h.elim
 |_::_,[],_,h,_=>h.elim
 |_::_,_::_,[],_,h=>h.elim
theorem Tk.inj   (h1:Tk h v x) (h2:Tk h v y):x=y:=by
 obtain ⟨a,o,vs,n,rfl,e1,_,e2,e3⟩:=h1;obtain ⟨_,o',us,m,ea,f1,_,f2,f3⟩:=h2;cases ea;rw [e1] at f1;cases f1;rw [e2] at f2;cases f2;exact e3.inj f3
def Tks (h:bT):List af->List (List Str)->Prop
 |[],[]=>True
 |v::vs,x::xs=>Tk h v x/\Tks h vs xs
 |_,_=>False
theorem Tks.len:∀ {vs:List af}{xs:List (List Str)},Tks h vs xs->vs.length=xs.length
 |[],[],_=>rfl
 |_::_,_::_,t=>congrArg (· + 1) t.2.len
 |[],_::_,t=>t.elim
 |_::_,[],t=>t.elim
theorem Tks.mem  : ∀ {vs:List af}{xs:List (List Str)},Tks h vs xs->v∈vs->∃ x∈xs,Tk h v x
 |v'::vs,x::xs,t,hm=>by
  rcases aZ.1 hm with rfl|hm
  ·exact ⟨x,ak ..,t.1⟩
  ·obtain ⟨y,hy,e⟩:=Tks.mem t.2 hm;exact ⟨y,ai _ hy,e⟩
 |[],_,_,hm=>by cases hm
 |_::_,[],t,_=>t.elim
theorem Tks.keep (k:∀ v x,Tk h v x->Tk h' v x):∀ {vs:List af}{xs:List (List Str)},Tks h vs xs->Tks h' vs xs
 |[],[],_=>trivial
 |_::_,_::_,t=>⟨k _ _ t.1,Tks.keep k t.2⟩
 |[],_::_,t=>t.elim
 |_::_,[],t=>t.elim
theorem Tks.perm:∀ {vs us:List af}{xs:List (List Str)},vs.Perm us->Tks h us xs->∃ ys,Tks h vs ys/\ys.Perm xs:=by
 intro vs us xs p;induction p generalizing xs with
 |nil=>exact fun t=>⟨xs,t,.refl _⟩
 |cons v p ih =>
  intro t;cases xs with
  |nil=>exact t.elim
  |cons x xs =>
   obtain ⟨ys,t2,p2⟩:=ih t.2;exact ⟨x::ys,⟨t.1,t2⟩,p2.cons x⟩
 |swap v u l =>
  intro t
  match xs,t with
  |x::y::xs,t=>exact ⟨y::x::xs,⟨t.2.1,t.1,t.2.2⟩,.swap x y xs⟩
  |[_],t=>exact t.2.elim
  |[],t=>exact t.elim
 |trans p q ih1 ih2 =>
  intro t;obtain ⟨ys,t2,p2⟩:=ih2 t;obtain ⟨zs,t3,p3⟩:=ih1 t2;exact ⟨zs,t3,p3.trans p2⟩
open Classical in
noncomputable def L7 (h:bT) (xs:List (List Str)) (v:af):Nat:=if e:∃ x,Tk h v x then E_ xs e.choose else 0
theorem sy    (t:Tk h v x):L7 h xs v=E_ xs x:=by
 have e:∃ x,Tk h v x:=⟨x,t⟩;unfold L7;rw [dif_pos e,e.choose_spec.inj t]
section
def Kd (kd:n5):Prop:=kd=tuples' true\/kd=general'\/kd=oneType'
theorem X1   (hu:A.units<gK) (k:Kd kd) (t:Tks s.heap vs xs):Cp prog w A s kd (L7 s.heap xs) (vs.zip vs):=by
 intro x hx y hy Q E q;obtain ⟨e1,m1⟩:=AH hx;obtain ⟨e2,m2⟩:=AH hy;obtain ⟨a,ha,ta⟩:=t.mem m1;obtain ⟨b,hb,tb⟩:=t.mem m2;rw [sy ta,sy tb,vv ha hb] at q;rcases k with rfl|rfl|rfl
 ·exact Rr ta tb q
 ·exact US hu ta tb q
 ·exact UT hu ta tb q
theorem F1:∀ {vs:List af}{xs ys:List (List Str)}{h:bT},Tks h vs xs->(∀ x∈xs,x∈ys)->xs.Nodup->((vs.zip vs).map fun p=>L7 h ys p.1).Nodup
 |[],[],_,_,_,_,_=>gd
 |v::vs,x::xs,ys,h,t,s,n=>by
  rw [vW,av,jQ];refine ⟨fun hm=>?_,F1 t.2 (fun x hx=>s x (ai _ hx)) (jQ.1 n).2⟩;obtain ⟨p,hp,e⟩:=gS.1 hm;obtain ⟨y,hy,ty⟩:=t.2.mem (AH hp).2;rw [sy ty,sy t.1] at e;rw [OC (s y (ai _ hy)) (s x (ak ..)) e] at hy;exact (jQ.1 n).1 hy
 |[],_::_,_,_,t,_,_=>t.elim
 |_::_,[],_,_,t,_,_=>t.elim
theorem OD   (t:Tk s.heap v x) (q:∀ o,(o=none\/∃ b u,o=some (.str b u))->Q o s):au (az prog w) A (firstOfTuple' v) Q E s:=by
 obtain ⟨a,o,vs,n,rfl,e1,e0,e2,e3⟩:=t;rw [kas_first_eq];refine a7 (Looks.here (show Looks (az prog w) s.heap (typeOf (.ref a)) o.cls from (Looks.ld e1).andThen .now) ?_);rw [e0,if_neg (by first|decide|simp)];refine a7 (listItems_at e1 e2 (a9 (q _ ?_)));rw [<- aQ]
 match vs.toList,x,e3 with
 |[],[],_=>exact .inl rfl
 |v::vs,x::xs,h=>obtain ⟨⟨t,rfl⟩,_⟩:=h;exact .inr ⟨x,t,rfl⟩
theorem BU:∀ {vs:List af}{xs:List (List Str)}{Q:List (Option af)->al->Prop},Tks s.heap vs xs->(∀ os:List (Option af),os.length=vs.length->(∀ o∈os,o=none\/∃ b u,o=some (.str b u))->Q os s)->au (az prog w) A (vs.mapM firstOfTuple') Q E s
 |[],[],_,_,q=>by rw [List.mapM_nil];exact a9 (q [] rfl (by simp))
 |v::vs,x::xs,Q,t,q=>by
  rw [List.mapM_cons];refine a7 (OD t.1 fun o ho=>a7 (BU t.2 fun os hl ha=>a9 (q _ (by simp [hl]) ?_)));intro o' ho';rcases aZ.1 ho' with rfl|ho'
  ·exact ho
  ·exact ha _ ho'
 |[],_::_,_,t,_=>t.elim
 |_::_,[],_,t,_=>t.elim
theorem OE {vs:List af}{T:af}{Q:Option af->al->Prop} (hn:0<vs.length) (hT:∀ v∈vs,Looks (az prog w) s.heap (typeOf v) T) (hT2:(T==T)=true) (q:Q (some T) s):au (az prog w) A (oneTypeOnly' vs.toArray) Q E s:=by
 match vs,hn with
 |v::vs,_ =>
  rw [oneTypeOnly'_eq,Me,map_eq_pure_bind];refine a7 (a7 (kas_mapM (r:=T) _ (fun v hv Q' hq=>(hT v hv).here hq) (a9 ?_)));have hall2:((lR (fun _=>T) (v::vs)).toArray.all fun x=>x==T)=true:=by
   simp only [List.all_toArray,mY,cf];intro _ _;exact hT2
  have h0:(lR (fun _=>T) (v::vs)).toArray[0]?=some T:=by simp
  rw [h0];simp only [hall2,if_true];exact a9 q
theorem Rs {vs:List af}{xs:List (List Str)}{Q:n5->al->Prop} (hn:2<=vs.length) (t:Tks s.heap vs xs) (q:∀ kd,Kd kd->Q kd s):au (az prog w) A (keyKind' vs.toArray) Q E s:=by
 rw [kat_kind_eq,Me,map_eq_pure_bind];refine a7 (a7 (BU t fun os hl ha=>a9 ?_));by_cases hall:(os.toArray.all fun x=>x.isSome)=true
 ·rw [if_pos hall];refine a7 (df ?_);have hs:∀ o∈os,∃ b u,o=some (.str b u):=fun o ho=>by
   rcases ha o ho with rfl|h
   ·simp at hall;have:=hall _ ho;cases this
   ·exact h
  have hfm:os.toArray.filterMap id=(os.filterMap id).toArray:=by simp
  rw [hfm];have hl2:(os.filterMap id).length=os.length:=by
   have:∀ os:List (Option af),(∀ o∈os,∃ b u,o=some (.str b u))->(os.filterMap id).length=os.length:=by
    intro os;induction os with
    |nil=>intro _;rfl
    |cons o os ih =>
     intro hs;obtain ⟨b,u,rfl⟩:=hs o (ak ..);rw [mx];simp only [id];rw [aP,ih fun o ho=>hs o (ai _ ho)];rfl
   exact this os hs
  refine a7 (OE (T:=.type "str") (by omega) (fun v hv=>?_) (by rfl) (a9 (q _ (.inl rfl))));obtain ⟨o,ho,e⟩:=List.mem_filterMap.1 hv;obtain ⟨b,u,rfl⟩:=hs o ho;cases e;exact .now
 ·rw [if_neg hall];by_cases h0:(os.toArray[0]?.bind id).isSome=true
  ·rw [if_pos h0];exact a9 (q _ (.inr (.inl rfl)))
  ·rw [if_neg h0];refine a7 (OE (T:=.type "tuple") (by omega) (fun v hv=>?_) (by rfl) (a9 (q _ (.inr (.inr rfl)))));obtain ⟨x,_,a,o,us,n,rfl,e1,e2,_⟩:=t.mem hv;rw [<- e2];exact (Looks.ld e1).andThen .now
end
end
section
section
theorem Tks.inj:∀ {vs:List af}{xs ys:List (List Str)},Tks h vs xs->Tks h vs ys->xs=ys
 |[],[],[],_,_=>rfl
 |_::_,_::_,_::_,t1,t2=>by rw [t1.1.inj t2.1,Tks.inj t1.2 t2.2]
 |[],_::_,_,t,_=>t.elim
 |[],[],_::_,_,t=>t.elim
 |_::_,[],_,t,_=>t.elim
 |_::_,_::_,[],_,t=>t.elim
theorem Tk.keepNe    (ha:h.get? a=some (ji "list" vs n)) (k:∀ b o,b≠a->h.get? b=some o->h'.get? b=some o) (v:af) (x:List Str) (t:Tk h v x):Tk h' v x:=by
 obtain ⟨b,o,us,m,rfl,e1,e2,e3⟩:=t;refine ⟨b,o,us,m,rfl,k b o (fun e=>?_) e1,e2,e3⟩;subst e;rw [ha] at e1;cases e1;simp at e2
theorem Rt {vs:List af}{xs:List cA} (p:xs.Perm (vs.zip vs)):(xs.map (·.2)).Perm vs/\xs.map (·.1)=xs.map (·.2):=by
 refine ⟨?_,h_ fun p' hp=>(AH (p.mem_iff.1 hp)).1⟩;have:=p.map (·.2)
 rwa [PQ (aq _)] at this
theorem zv  : ∀ {xs:List cA}{zs:List (List Str)},Tks h (xs.map (·.1)) zs->(∀ z∈zs,z∈ys)->xs.Pairwise (UO (L7 h ys))->zs.Pairwise (fun a b=>tl a b=true)
 |[],[],_,_,_=>qU
 |x::xs,z::zs,t,hm,p=>by
  have p':=jV.1 p;refine jV.2 ⟨fun b hb=>?_,zv t.2 (fun z hz=>hm z (ai _ hz)) p'.2⟩;have:∀ {us:List cA}{ws:List (List Str)},Tks h (us.map (·.1)) ws->b∈ws->∃ u∈us,Tk h u.1 b:=by
   intro us;induction us with
   |nil=>intro ws t hb;cases ws with
    |nil=>cases hb
    |cons=>exact t.elim
   |cons u us ih=>intro ws t hb;cases ws with
    |nil=>cases hb
    |cons w ws =>
     rcases aZ.1 hb with rfl|hb
     ·exact ⟨u,ak ..,t.1⟩
     ·obtain ⟨u',h1,h2⟩:=ih t.2 hb;exact ⟨u',ai _ h1,h2⟩
  obtain ⟨u,hu,tu⟩:=this t.2 hb;have l:=p'.1 u hu;unfold UO at l;rw [sy t.1,sy tu] at l;rw [<- vv (hm z (ak ..)) (hm b (ai _ hb))];exact decide_eq_true l
 |[],_::_,t,_,_=>t.elim
 |_::_,[],t,_,_=>t.elim
theorem X2  (u:Up rk a 0 a.size):a.toList.Pairwise (UO rk):=by
 rw [oG];intro i j hi hj hij;have hi':i<a.size:=by simpa using hi
 have hj':j<a.size:=by simpa using hj
 have:=u i j (cJ _) hij (by omega);rw [bB (bM hi'),bB (bM hj')] at this;exact this
theorem F2 {a:am}{vs:List af}{xs:List (List Str)}{n:Nat}{P:Fin->al->Prop} (hu:A.units<gK) (ho:s.heap.get? a=some (ji "list" vs.toArray n))
  (t:Tks s.heap vs xs) (hx:xs.Nodup) (h64:vs.length<=64)
  (h:∀ (vs':List af) (xs':List (List Str)),vs'.Perm vs->Tks s.heap vs' xs'->xs'.Perm xs->xs'.Pairwise (fun a b=>tl a b=true)->P (.done (.ret .none)) { s with heap:=sortedHeap s.heap a vs vs'.toArray }) :
  au (az prog w) A (jN.«list.sort» ⟨[.ref a],[]⟩) P E s:=by
 rw [list_sort_plain];have ha:a<s.heap.objs.size:=ar ho;have zl:vs.length<=sizeLine:=by rw [jw];omega
 refine a7 (listItems_at ho rfl ?_);refine a7 (Kg ho rfl ?_ (by simpa using zl) (cJ _));obtain ⟨e1,ho1⟩:∃ e1,(s.heap.update a (gY fun _=>#[])).get? a=some (ji "list" #[] e1):=⟨_,get?_update_seq ho (fun _=>#[])⟩;refine a7 (Qm ho1 rfl ?_);refine a7 (wpAny_newTuple ?_ (by simpa using zl));refine a7 (K9 ?_ (cJ _));refine dw ?_;have ho6:(((s.heap.update a (gY fun _=>#[])).push (ji "tuple" vs.toArray 0)).push (ji "list" #[] 0)).get? a=some (ji "list" #[] e1):=by
  rw [Mf _ _ _ (by rw [size_push',yf];exact aH (er ha)),Mf _ _ _ (by rw [yf];exact aH ha)];exact ho1
 have t6:Tks (((s.heap.update a (gY fun _=>#[])).push (ji "tuple" vs.toArray 0)).push (ji "list" #[] 0)) vs xs :=
  t.keep (Tk.keepNe ho fun b o hb e=>ac _ (ac _ ((fO _ _ (cY hb)).trans e)))
 show au (az prog w) A _ P E { s with heap:=((s.heap.update a (gY fun _=>#[])).push (ji "tuple" vs.toArray 0)).push (ji "list" #[] 0) };dsimp only;have hsz:vs.toArray.size=vs.length:=by simp
 by_cases h2:vs.toArray.size<2
 ·rw [if_pos h2,if_pos h2];refine a7 (a9 ?_);rw [StateT.run_pure];refine a7 (a9 ?_);dsimp only;refine a7 (Qm ho6 rfl ?_);refine a7 (Kg ho6 rfl ?_ (hsz2:=by rw [kr,Array.size_zip,aT,GA];exact xM zl));simp only [bne_self_eq_false,bu,if_false];have e:(vs.toArray.zip vs.toArray).map (·.2)=vs.toArray:=by
   apply xL.1;rw [Array.toList_map,Mh,PQ (aq _)]
  refine a9 ?_;have:=h vs xs (.refl _) t (.refl _) (by
   have:=t.len
   match xs,this with
   |[],_=>exact .nil
   |[_],_=>exact D_ ..
   |_::_::_,e=>simp at e;omega)
  rw [<- e] at this;exact this
 ·rw [if_neg h2,if_neg h2];refine a7 (Rs (by omega) t6 fun kd hk=>?_);refine a7 (bA (UR (kd:=kd) (L:=vs.zip vs) (st:=SortSt.mk' kd (vs.toArray.zip vs.toArray) #[] 7 none)
   (Q:=fun _ st'=>(aM st').toList.Perm (vs.zip vs)/\wl st'=none/\Up (L7 _ xs) (aM st') 0 (vs.zip vs).length)
   (X1 hu hk t6) (F1 t6 (fun _ h=>h) hx) ⟨rfl,by rw [Mh],rfl⟩ rfl (by rw [qZ];omega) (by rw [qZ];omega) fun st' b u=>⟨b.perm,b.ok,u⟩) ?_ fun _ _ e=>e)
  rintro ⟨⟨⟩,st'⟩ s' ⟨rfl,hp,hf,hs⟩;dsimp only;have hpl:(aM st').size=vs.length:=by
   have:=hp.length_eq;rw [ap,qZ,GA] at this;exact this
  refine a7 (Qm ho6 rfl ?_);refine a7 (Kg ho6 rfl ?_ (hsz2:=by rw [kr];show (aM st').size<=_;rw [hpl,jw];omega));rw [hf];simp only [bne_self_eq_false,bu,if_false];refine a9 ?_;obtain ⟨z1,z2⟩:=Rt hp;obtain ⟨ys,t7,p7⟩:=t6.perm z1;obtain ⟨ys',t8,p8⟩:=t.perm z1;rw [<- z2] at t7;have len2:(vs.zip vs).length=(aM st').size:=by rw [qZ,hpl,GA]
  rw [len2] at hs;have so:=zv (ys:=xs) t7 (fun z hz=>p7.mem_iff.1 hz) (X2 hs);have:ys'=ys:=by
   rw [z2] at t7;exact Tks.inj (t8.keep (Tk.keepNe ho fun b o hb e=>ac _ (ac _ ((fO _ _ (cY hb)).trans e)))) t7
  subst this;have:=h _ ys' z1 t8 p8 so;have e:(aM st').map (·.2)=((aM st').toList.map (·.2)).toArray:=by apply xL.1;simp
  rw [<- e] at this;exact this
theorem sorted_T  (hu:A.units+2<gK) (hc:au (az prog w) A.in1 (AB x) (fun vs s1=>∃ xs,Tks s1.heap vs xs/\xs.Nodup/\vs.length<=64 /\
   ∀ (h':bT) (vs':List af) (xs':List (List Str)) (e:Nat),(∀ b o,s1.heap.get? b=some o->h'.get? b=some o)->h'.get? s1.heap.objs.size=some (ji "list" vs'.toArray e)->vs'.Perm vs->Tks s1.heap vs' xs'->xs'.Perm xs->xs'.Pairwise (fun a b=>tl a b=true) ->
    Q (.ref s1.heap.objs.size) { s1 with heap:=h' }) E s):au (az prog w) A (call (.builtin "sorted") [x]) Q E s:=by
 refine nY kind_sorted plain_sorted entry_sorted (args_sorted1 _) ?_;unfold jN.«sorted»;refine a7 (m:=checkCount "sorted" 1 1 _) (a9 ?_);refine a7 (bA hc (fun vs s1 z=>?_) fun _ _ z=>z);obtain ⟨xs,t,hx,h64,hq⟩:=z;refine a7 (K9 ?_ (by rw [jw];omega));have at1:(s1.heap.push (ji "list" vs.toArray 0)).get? s1.heap.objs.size=some (ji "list" vs.toArray 0):=ax _ rfl;show au _ _ _ _ _ { s1 with heap:=s1.heap.push (ji "list" vs.toArray 0) };have up:∀ v x,Tk s1.heap v x->Tk (s1.heap.push (ji "list" vs.toArray 0)) v x:=fun v x ⟨b,o,us,m,e0,e1,e2⟩=>⟨b,o,us,m,e0,ac _ e1,e2⟩;refine a7 (dw (bD slot_list_sort ⟨_,at1,rfl⟩ entry_list_sort (F2 (by show A.units+1+1<gK;omega) at1 (t.keep up) hx h64 fun vs' xs' a1 a2 a3 a4=>⟨_,rfl,?_⟩) (args_list_sort _)));obtain ⟨e,at2⟩:=sortedHeap_at (out:=vs'.toArray) at1;obtain ⟨ys,t9,p9⟩:=t.perm a1;obtain rfl:ys=xs':=(t9.keep up).inj a2;refine a9 ⟨_,rfl,hq _ _ ys e (fun b o q=>?_) at2 a1 t9 a3 a4⟩;have hb:=ar q;rw [sortedHeap_old (aH hb) (by rw [size_push'];exact er hb)];exact ac _ q
end
end
end TS
namespace L2
open PySem PySem.Spec PyProof.Rows PySem.W
section
def L8 (x:List Str):List (List Str)->List (List Str)
 |[]=>[x]
 |y::l=>if TS.tl x y=true then x::y::l else y::L8 x l
def lV:List (List Str)->List (List Str)
 |[]=>[]
 |x::l=>L8 x (lV l)
theorem wE (x:List Str):∀ l,(L8 x l).Perm (x::l)
 |[]=>.refl _
 |y::l=>by
  unfold L8;split
  ·exact .refl _
  ·exact ((wE x l).cons y).trans (.swap x y l)
theorem jA:∀ l,(lV l).Perm l
 |[]=>.refl _
 |x::l=>(wE x _).trans ((jA l).cons x)
abbrev Vo (l:List (List Str)):Prop:=l.Pairwise fun a b=>TS.tl a b=true
theorem Js:∀ {l:List (List Str)},Vo l->x∉l->Vo (L8 x l)
 |[],_,_=>D_ ..
 |y::l,h,hx=>by
  have h':=jV.1 h;unfold L8;split
  ·rename_i e
   refine jV.2 ⟨fun z hz=>?_,h⟩;rcases aZ.1 hz with rfl|hz
   ·exact e
   ·exact TS.tl_trans x y z e (h'.1 z hz)
  ·rename_i e
   refine jV.2 ⟨fun z hz=>?_,Js h'.2 fun q=>hx (ai _ q)⟩;rcases aZ.1 ((wE x l).mem_iff.1 hz) with rfl|hz
   ·cases q:TS.tl y z with
    |true=>rfl
    |false=>exact absurd (aZ.2 (.inl (TS.tl_total z y (by simpa using e) q))) hx
   ·exact h'.1 z hz
theorem F3:∀ {l:List (List Str)},l.Nodup->Vo (lV l)
 |[],_=>.nil
 |x::l,h=>Js (F3 (jQ.1 h).2) fun q=>(jQ.1 h).1 ((jA l).mem_iff.1 q)
theorem UV (hl:Vo l) (hm:Vo m) (p:l.Perm m):l=m :=
 List.Perm.eq_of_pairwise (le:=fun a b=>TS.tl a b=true) (fun a b _ _ h1 h2=>by
  have:=TS.tl_trans a b a h1 h2;rw [TS.tl_irrefl] at this;cases this) hl hm p
theorem OF (n:l.Nodup) (p:l'.Perm l) (h:Vo l'):l'=lV l:=UV h (F3 n) (p.trans (jA l).symm)
def Dg (H:Hp):List am->List (List Str)->Prop
 |[],[]=>True
 |a::as,x::xs=>H a=some (.tup (x.map V.str))/\Dg H as xs
 |_,_=>False
section
theorem Tg {pins σ H s} (I:bP X pins σ H s)  (h:H a=some (.tup (x.map V.str))):TS.Tk s.heap (.ref a) x:=by
 obtain ⟨its,r,⟨o,h1,h2,n,h3⟩,_⟩:=I.tuple (.inl (.of h));refine ⟨a,o,its.toArray,n,rfl,h1,h2,h3,?_⟩;have:∀ {vs:List af}{x:List Str},qM vs x->TS.Ss vs x:=by
  intro vs x q;induction q with
  |nil=>trivial
  |cons x t _ ih=>exact ⟨⟨t,rfl⟩,ih⟩
 exact this (jZ r)
theorem Hk {pins σ H s} (I:bP X pins σ H s):∀ {as:List am}{xs:List (List Str)},Dg H as xs->TS.Tks s.heap (as.map bt) xs
 |[],[],_=>trivial
 |_::_,_::_,t=>⟨Tg I t.1,Hk I t.2⟩
 |[],_::_,t=>t.elim
 |_::_,[],t=>t.elim
theorem Dg.mem  : ∀ {as:List am}{xs:List (List Str)},Dg H as xs->a∈as->∃ x:List Str,H a=some (.tup (x.map V.str))
 |b::as,x::xs,t,h=>by
  rcases aZ.1 h with rfl|h
  ·exact ⟨x,t.1⟩
  ·exact Dg.mem t.2 h
 |[],_,_,h=>by cases h
 |_::_,[],t,_=>t.elim
theorem Th {pins σ H s} (I:bP X pins σ H s)  (t:Dg H as xs):∀ {bs:List am}{ys:List (List Str)},(∀ b∈bs,b∈as)->TS.Tks s.heap (bs.map bt) ys->Dg H bs ys
 |[],[],_,_=>trivial
 |b::bs,y::ys,h,q=>by
  obtain ⟨x,e⟩:=t.mem (h b (ak ..));rw [(Tg I e).inj q.1] at e;exact ⟨e,Th I t (fun b hb=>h b (ai _ hb)) q.2⟩
 |[],_::_,_,q=>q.elim
 |_::_,[],_,q=>q.elim
theorem Jt:∀ {as:List am}{us:List af},dC (as.map V.ref) us->us=as.map bt
 |[],_,.nil=>rfl
 |_::_,_,.cons r t=>by cases r;rw [Jt t];rfl
theorem BV:∀ as:List am,dC (as.map V.ref) (as.map bt)
 |[]=>.nil
 |a::as=>.cons rfl (BV as)
theorem L9  (p:us.Perm (as.map bt)):∃ bs:List am,us=bs.map bt/\bs.Perm as:=by
 refine ⟨us.map fun v=>match v with | .ref a=>a|_=>0,?_,?_⟩
 ·rw [ca];refine (List.map_id us).symm.trans (h_ fun v hv=>?_);obtain ⟨a,_,rfl⟩:=gS.1 (p.mem_iff.1 hv);rfl
 ·have:=p.map fun v=>match v with | .ref a=>a|_=>(0:am)
  rw [ca] at this;refine this.trans (Iu ?_);exact (h_ fun a _=>rfl).trans (List.map_id as)
theorem zw {pins σ H s} (hu:X.A.units+2<gK) (I:bP X pins σ H s)    (t:Dg H as xs) (hn:xs.Nodup) (hz:as.length<=64)
  (hc:∀ (P:List af->al->Prop),(∀ (h':bT) (tk:Nat),(∀ b o,s.heap.get? b=some o->h'.get? b=some o)->s.heap.objs.size<=h'.objs.size->P (as.map bt) { s with heap:=h',toks:=tk })->au (az X.prog X.w) X.A.in1 (AB v) P X.xe s)
  (q:∀ l bs,H l=none->bs.Perm as->Dg H bs (lV xs)->Q (.ref l) (upd H l (.lst (bs.map V.ref)))) :
  au (az X.prog X.w) X.A (call (.builtin "sorted") [v]) (EP X pins σ Q) X.xe s:=by
 refine TS.sorted_T hu (hc _ fun h' tk kp sz=>⟨xs,(Hk I t).keep ?_,hn,by rw [ao];exact hz,fun h2 vs' ys e kp2 at2 p2 t2 p3 u=>?_⟩)
 ·exact fun v x ⟨b,o,us,m,e0,e1,e2⟩=>⟨b,o,us,m,e0,kp b o e1,e2⟩
 ·obtain ⟨bs,rfl,pb⟩:=L9 p2;obtain rfl:=OF hn p3 u;obtain ⟨ys,t9,_⟩:=(Hk I t).perm p2;have:=(t9.keep fun v x ⟨b,o,us,m,e0,e1,e2⟩=>(⟨b,o,us,m,e0,kp b o e1,e2⟩:TS.Tk h' v x)).inj t2;subst this;have kk:∀ b o,s.heap.get? b=some o->h2.get? b=some o:=fun b o e=>kp2 b o (kp b o e);have ok2:dz X.prog X.w (upd H h'.objs.size (.lst (bs.map V.ref))) h2 h'.objs.size (.lst (bs.map V.ref)) :=
   ⟨by rw [ao,pb.length_eq];exact ck hz (by rw [jw];decide),bs.map bt,e,BV bs,at2⟩
  exact ⟨.ref h'.objs.size,_,I.laid (t':=tk) kk sz ok2,rfl,q _ bs (I.hok.fresh sz) pb (Th I t (fun b hb=>pb.mem_iff.1 hb) t9)⟩
end
end
section
theorem Ru      (hs:(d==fi)=false) (hx:o.ExactDict) (ho:o.data=.dict es ep) :
  KdlSrc prog w "dict" d d es.size (fun i v=>∃ e,es[i]?=some e/\v=e.key) (fun h=>h.get? d=some o) where
 type:=fun s e=>⟨o,e,hx.1⟩
 there:=fun h e=>⟨ar e,ar e⟩
 keep:=fun h h' e k=>k d (.inl rfl) o e
 notList:=by decide
 notTuple:=by decide
 hint:=fun A E s Q e q=>kdl_hint_dict ⟨o,e,hx.1⟩ q
 iter:=fun A s hh e=>by
  refine ⟨{ cls:=.type "dict_keyiterator",data:=.fields #[.ref d,.int 0 0,.int es.size 0,.int ep 0] },fun i h=>h.IsKeyIter s.heap.objs.size d i es.size ep/\h.get? d=some o,fun E Q q=>Oo hs e hx ho q,?_,⟨_,ax _ rfl,rfl,rfl⟩,ac _ e⟩;have ne:d≠s.heap.objs.size:=aH (ar e);refine ⟨by simp,fun i h h' st k=>⟨st.1.at fun o q=>k _ (by simp) o q,k _ (by simp) o st.2⟩,fun i s' Q E hi st q=>?_,fun s' Q E st q=>?_,fun i s' Q E st q=>Qk st.1 q⟩
  ·refine Jf st.1 st.2 ho (bM hi) fun h' st' sb=>q _ h' s'.toks ⟨_,bM hi,rfl⟩ ⟨st',(sb.2 d ne).trans st.2⟩ fun b o hb e=>(sb.2 b (by simpa using hb)).trans e
  ·exact On hh st.1 st.2 ho (aq _) fun h' eb=>q h' s'.toks fun b o hb e=>eb b o (by simpa using hb) e
section
theorem Dh (hh:A.handled=none) (hs:(d==fi)=false) (hx:o.ExactDict) (ho:o.data=.dict es ep) (hd:s.heap.get? d=some o) (hz:es.size<=sizeLine)
  (h:∀ (vs:List af) (h':bT) (tk:Nat),vs=es.toList.map (·.key)->(∀ b o,s.heap.get? b=some o->h'.get? b=some o)->s.heap.objs.size<=h'.objs.size->Q vs { s with heap:=h',toks:=tk }) :
  au (az prog w) A (AB (.ref d)) Q E s:=by
 have hlt:=ar hd;unfold AB;refine a7 (Gp (hZ LQ ?_));rw [f9 LR _];show au _ A.in1 (newList [] >>= fun l=>P_ (.builtin "list.__iadd__" ⟨[l,.ref d],[]⟩)) _ _ s;refine a7 (bH ?_);refine a9 ⟨qX qz _,hZ F.entry_list_iadd ?_⟩;rw [f9 qz _];have at1:(s.heap.push { cls:=.type "list",data:=.seq ([] : List af).toArray }).get? s.heap.objs.size=some { cls:=.type "list",data:=.seq ([] : List af).toArray }:=ax _ rfl;show au _ A.in1 (kR (.ref s.heap.objs.size) (.ref d) (.ref s.heap.objs.size)) _ _ { s with heap:=s.heap.push { cls:=.type "list",data:=.seq ([] : List af).toArray } };refine kdl_extend (R:=fun r s'=>match r with | .ok (.ret v)=>au (az prog w) A (match v with | .ref a=>(do let o <- load a;match o.data with | .seq xs _=>pure xs.toList|_=>we "internal:collect")|_=>we "internal:collect") Q E s' | .ok _=>False | .error e=>E e s') (s:={ s with heap:=s.heap.push { cls:=.type "list",data:=.seq ([] : List af).toArray } }) (Ru hs hx ho) (by simpa using hh) (ac _ hd) s.heap.objs.size (fc hlt) (fc hlt) _ 0 at1 (fun h' tk acc c kp at2 ia=>?_) hz;show au _ A (load s.heap.objs.size >>= _) _ _ _;refine a7 (wpAny_load at2 (a9 ?_));refine h _ h' tk ?_ (fun b o e=>kp b o (aH (ar e)) (ac _ e)) (cm (ar at2));apply M6;intro j;rw [aQ,aU,aQ];by_cases hj:j<acc.size
 ·obtain ⟨e,e1,e2⟩:=ia.2 j acc[j] (bM hj);rw [e1,bM hj,e2];rfl
 ·rw [dm (by omega),dm (by rw [<- ia.1];omega)];rfl
end
theorem F4 {P:bq}{w:bL}{H:Hp}{es:Array sY}:∀ {kvs:List (List gD×V)}{xs:List (List Str)}{l:List sY},l.length=kvs.length->kvs.map (·.1)=xs.map (fun x=>x.map iV) ->
  (∀ (i:Nat) (k:List gD) (v:V),kvs[i]?=some (k,v)->∃ (en:sY) (b:am),l[i]?=some en/\en.key=bt b/\H b=some (.tup (k.map kV)))->∃ as:List am,l.map (·.key)=as.map bt/\Dg H as xs
 |[],[],[],_,_,_=>⟨[],rfl,trivial⟩
 |(k,v)::kvs,x::xs,en::l,hl,hk,h=>by
  obtain ⟨en',b,e1,e2,e3⟩:=h 0 k v rfl;cases e1;rw [av,av] at hk;obtain ⟨e0,hk'⟩:=sd hk;have e0:k=x.map iV:=e0;subst e0;obtain ⟨as,f1,f2⟩:=F4 (P:=P) (w:=w) (H:=H) (es:=es) (l:=l) (by simpa using hl) hk' fun i k v hi=>h (i+1) k v hi;refine ⟨b::as,by rw [av,av,e2,f1],?_,f2⟩;rw [e3,ca];rfl
 |[],_::_,_,_,hk,_=>by cases hk
 |_::_,[],_,_,hk,_=>by cases hk
 |[],[],_::_,hl,_,_=>by cases hl
 |_::_,_::_,[],hl,_,_=>by cases hl
section
theorem zx (hu:X.A.units+2<gK):jX X (.builtin "sorted") (fun xs H Q=>∃ p as ts,xs=[.ref p]/\qB X.K H p (as.map V.ref)/\Dg H as ts/\ts.Nodup/\as.length<=64/\∀ l bs,H l=none->bs.Perm as->Dg H bs (lV ts)->Q (.ref l) (upd H l (.lst (bs.map V.ref)))):=by
 intro pins s σ H xs us Q I r h;obtain ⟨p,as,ts,rfl,hq,t,hn,hz,q⟩:=h;obtain ⟨u,rfl,rx⟩:=lS r;cases rx;obtain ⟨its,r',pl,hl⟩:=I.list hq;obtain rfl:=Jt r';refine zw hu I t hn hz (fun P hp=>collect_list pl.isList ?_ (by rw [ao] at hl ⊢;exact hl)) q;refine hp _ s.toks (fun b o e=>?_) ?_
 ·have hb:=ar e;exact (fO _ _ (fc hb)).trans (ac _ e)
 ·rw [yf,cg];exact ko _
theorem zy (hc:X.calm=true) (hu:X.A.units+2<gK):jX X (.builtin "sorted") (fun xs H Q=>∃ p o kvs ts,xs=[.ref p]/\H p=some (.frz o (.dT kvs))/\kvs.map (·.1)=ts.map (fun x=>x.map iV)/\ts.Nodup/\ts.length<=64/\∀ l bs,H l=none->Dg H bs (lV ts)->Q (.ref l) (upd H l (.lst (bs.map V.ref)))):=by
 intro pins s σ H xs us Q I r h;obtain ⟨p,o,kvs,ts,rfl,hq,hk,hn,hz,q⟩:=h;obtain ⟨u,rfl,rx⟩:=lS r;cases rx;obtain ⟨y,g1,g0,es,ep,g2,g3,g4⟩:=vp I.hok hq;have lk:kvs.length=ts.length:=by simpa using congrArg lQ hk
 obtain ⟨as,ea,ta⟩:=F4 (P:=X.prog) (w:=X.w) (es:=es) (H:=H) (l:=es.toList) (by rw [ap];exact g3) hk fun i k v hi=>by
  obtain ⟨en,b,e1,e2⟩:=g4 i k v hi;exact ⟨en,b,by rw [aQ];exact e1,e2⟩
 have la:as.length=ts.length:=by
  have:=congrArg lQ ea;rw [ao,ao,ap,g3,lk] at this;exact this.symm
 refine zw hu I ta hn (by omega) (fun P hp=>Dh (by simpa using I.ok.hd hc) y g0 g2 g1 (by rw [g3,lk,jw];omega) fun vs h' tk ev kp sz=>?_) fun l bs h1 _ h3=>q l bs h1 h3;subst ev;rw [ea];exact hp h' tk kp sz
end
end
end L2
namespace J
open PySem L2
section
def rJ:List D->Option (List (List Str))
 |[]=>some []
 |.tuple ds::r=>(fm ds).bind fun x=>(rJ r).map (x::·)
 |_::_=>none
def wF (x:List Str):D:=.tuple (x.map .str)
theorem zz:∀ xs:List (List Str),rJ (xs.map wF)=some xs
 |[]=>rfl
 |x::xs=>by
  show (fm (x.map aO)).bind (fun y=>(rJ (xs.map wF)).map (y::·))=_;rw [strsOf_map,zz xs];rfl
theorem rK:∀ {ds:List D}{xs:List (List Str)},rJ ds=some xs->ds=xs.map wF
 |[],xs,h=>by cases h;rfl
 |d::ds,xs,h=>by
  cases d with
  |tuple ts =>
   have h:(fm ts).bind (fun y=>(rJ ds).map (y::·))=some xs:=h;cases h1:fm ts with
   |none=>rw [h1] at h;cases h
   |some x =>
    cases h2:rJ ds with
    |none=>rw [h1,h2] at h;cases h
    |some ys =>
     rw [h1,h2] at h;cases h;rw [av,<- rK h2,nA h1];rfl
  |_=>cases h
def oW (ts:List (List Str)):R D:=if ts.Nodup/\ts.length<=64 then .ok (.list ((lV ts).map wF)) else .no
def sA:D->R D
 |.list ds=>match rJ ds with
  |some ts=>oW ts
  |none=>.no
 |.dict ((.none,.none)::ds)=>match rJ (ds.map (·.1)) with
  |some ts=>oW ts
  |none=>.no
 |_=>.no
theorem F5  : ∀ {vs:List V}{xs:List (List Str)},RDs K H vs (xs.map wF)->∃ as:List am,vs=as.map V.ref/\Dg H as xs
 |_,[],.nil=>⟨[],rfl,trivial⟩
 |_,x::xs,.cons h t=>by
  obtain ⟨as,e,ta⟩:=F5 t;subst e;unfold wF at h;cases h with
  | @tuple a ys _ q r =>
   rw [lX r] at q;exact ⟨a::as,rfl,q,ta⟩
theorem zA  : ∀ {bs:List am}{ys:List (List Str)}{Hs:Hp},Dg H bs ys->dD Hs H->∃ Hs2,cP H Hs H Hs2/\RDs K Hs2 (bs.map V.ref) (ys.map wF)
 |[],[],Hs,_,s=>⟨Hs,.refl s,.nil⟩
 |b::bs,y::ys,Hs,t,s=>by
  obtain ⟨Hs1,st,r⟩:=zA (K:=K) t.2 s;have sub:=st.sub;have same:dD Hs1 (upd Hs1 b (.tup (y.map V.str))):=fun c u e=>by
   by_cases hc:c=b
   ·subst hc;have:=sub _ _ e;rw [t.1] at this;cases this;exact b9
   ·rw [bd hc];exact e
  refine ⟨upd Hs1 b (.tup (y.map V.str)),st.trans ⟨.refl _,same,fun c u e=>?_,fun c u e n z=>?_⟩,.cons (.tuple b9 (vi y)) (r.same same)⟩
  ·by_cases hc:c=b
   ·subst hc;rw [b9] at e;cases e;exact t.1
   ·rw [bd hc] at e;exact sub _ _ e
  ·by_cases hc:c=b
   ·subst hc;rw [t.1] at e;cases e;cases n
   ·rw [bd hc];exact z
 |[],_::_,_,t,_=>t.elim
 |_::_,[],_,t,_=>t.elim
theorem Ju (s:dD Hs H):∀ {as:List am}{xs:List (List Str)},Dg Hs as xs->Dg H as xs
 |[],[],_=>trivial
 |_::_,_::_,t=>⟨s _ _ t.1,Ju s t.2⟩
 |[],_::_,t=>t.elim
 |_::_,[],t=>t.elim
theorem Jv:∀ {as:List am}{xs:List (List Str)},Dg H as xs->as.length=xs.length
 |[],[],_=>rfl
 |_::_,_::_,t=>congrArg (· + 1) (Jv t.2)
 |[],_::_,t=>t.elim
 |_::_,[],t=>t.elim
theorem F6:∀ {k:List gD}{x:List Str},k.map kD=x.map aO->k=x.map iV
 |[],[],_=>rfl
 |.inr a::k,x::xs,h=>by
  simp only [av,wn] at h;obtain ⟨h1,h2⟩:=h;cases h1;rw [F6 h2];rfl
 |.inl _::_,_::_,h=>by
  simp only [av,wn] at h;cases h.1
 |[],_::_,h=>by cases h
 |_::_,[],h=>by cases h
theorem F7  : ∀ {kvs:List (List gD×V)}{ds:List (D×D)}{xs:List (List Str)},RDt K H kvs ds->ds.map (·.1)=xs.map wF->kvs.map (·.1)=xs.map fun x=>x.map iV
 |_,_,[],.nil,_=>rfl
 |_,_,x::xs,.cons h t,e=>by
  rw [av,av] at e;obtain ⟨e1,e2⟩:=sd e;rw [av,av,F7 t e2];have e1:tD _=wF x:=e1;unfold tD wF at e1;injection e1 with e1;rw [F6 e1]
 |_,_,_::_,.nil,e=>by cases e
 |_,_,[],.cons _ _,e=>by cases e
theorem Hl (hc:X.calm=true) (hu:X.A.units+64<gK):LY X (.builtin "sorted") (iD sA):=by
 have hu:X.A.units+2<gK:=by omega
 refine uf (fun d c n=>?_) fun pins s σ H x u Q Hs d d' I ru sub rx hd q=>?_
 ·unfold sA oW;split<;>(try split)<;>(try split)<;>exact fun h=>by cases h
 ·have fin:∀ {ts:List (List Str)}{l:am}{bs:List am},H l=none->Dg H bs (lV ts)->Q (.ref l) (upd H l (.lst (bs.map V.ref)))\/d'≠.list ((lV ts).map wF):=fun {ts l bs} hl tb=>by
   by_cases e:d'=.list ((lV ts).map wF)
   ·subst e;obtain ⟨Hs2,st,r⟩:=zA (K:=X.K) tb sub;have s2:cP H Hs2 (upd H l (.lst (bs.map V.ref))) (upd Hs2 l (.lst (bs.map V.ref))):=.new st.sub hl;exact .inl (q _ _ _ (st.trans s2) (.list (.inl (.of b9)) (r.same s2.sh)))
   ·exact .inr e
  unfold sA at hd;split at hd
  ·split at hd
   ·rename_i ts ht
    unfold oW at hd;split at hd
    ·rename_i hz
     cases hd;obtain ⟨a,vs,rfl,qa,ra⟩:=rx.list sub;rw [rK ht] at ra;obtain ⟨as,rfl,ta⟩:=F5 ra;exact zx hu pins s σ H _ _ Q I (.cons ru .nil) ⟨a,as,ts,rfl,qa,Ju sub ta,hz.1,by rw [Jv ta];exact hz.2,fun l bs hl _ tb=>(fin hl tb).resolve_right fun h=>h rfl⟩
    ·cases hd
   ·cases hd
  ·split at hd
   ·rename_i ts ht
    unfold oW at hd;split at hd
    ·rename_i hz
     cases hd;obtain ⟨a,ea,hh⟩:=rx.dict sub;subst ea;rcases hh with ⟨kvs,h1,h2⟩|⟨kvs,h1,hn,h2⟩|⟨o,kvs,es,he,h1,hn,h2⟩
     ·generalize hd:((.none,.none)::_:List (D×D))=d0 at h2;cases h2 with
      |nil=>cases hd
      | @cons k _ _ _ _ _ _=>cases k<;>cases hd
     ·generalize hd:((.none,.none)::_:List (D×D))=d0 at h2;cases h2<;>cases hd
     ·cases he;exact zy hc hu pins s σ H _ _ Q I (.cons ru .nil) ⟨a,o,kvs,ts,rfl,h1,F7 h2 (rK ht),hz.1,hz.2,fun l bs hl tb=>(fin hl tb).resolve_right fun h=>h rfl⟩
    ·cases hd
   ·cases hd
  ·cases hd
end
end J
section
namespace L2
open PySem PySem.Spec PyProof.Rows PySem.W
end L2
namespace J
open PySem L2
end J
end
namespace J
open PySem PySem.Spec PyProof.Rows L2
section
section
def Vp (neg:Bool):D->D->R D
 |x,.list ys=>if x.canLay0&&cc ys&&decide (x.depth<=60) then .ok (.bool (if neg then !(ys.any fun y=>aY y x) else ys.any fun y=>aY y x)) else .no
 |_,_=>.no
theorem UW (hu:X.A.units+64<gK):xn X (bC .In) (Vp false):=by
 refine ⟨fun pins s σ H x y v u Q I rv ru ⟨Hs,dx,dy,sub,rx,ry,d,hd,q⟩=>?_,fun x y c n=>?_⟩
 ·unfold Vp at hd;split at hd
  ·split at hd
   ·rename_i hc
    simp only [aS,decide_eq_true_eq] at hc;cases hd;obtain ⟨as,ra⟩:=mo I ((rx.full sub).rep (vj _ hc.1.1)) rv;obtain ⟨bs,rb⟩:=mo I ((ry.full sub).rep (vj _ (by simp only [dh];exact hc.1.2))) ru;exact PySem.SeqAt.in_list_reads rb ra hc.1.2 hc.1.1 (by omega) ⟨.bl _,H,I,rfl,q _ H Hs (.refl sub) (.bool _)⟩
   ·cases hd
  ·cases hd
 ·unfold Vp;split<;>(try split)<;>exact fun h=>by cases h
end
end
end J
section
namespace L2
open PySem PySem.Spec PyProof.Rows
theorem Rv {X:Cx}{body:List db}{h₀:ExceptHandler}{hs:List ExceptHandler}{pos:Pos}{tb:TS} (hb:∀ pn,E6 (V_ X (fun _ _=>False) pn) body tb):PS X (.Try body (h₀::hs) [] [] pos) tb:=by
 intro pins s σ H D I h;have ok:=I.ok;refine wpAny_Try_except ?_;refine bA (hb (X.pn++pins) [] s σ H D (I.inT _) h) (fun f s1 q=>?_) fun e s1 q=>q.elim;have q:SP X pins D f s1:=by
  cases f with
  |next=>obtain ⟨σ',H',J,q⟩:=q;exact ⟨σ',H',J.outT ok,q⟩
  |brk=>obtain ⟨σ',H',J,q⟩:=q;exact ⟨σ',H',J.outT ok,q⟩
  |cont=>obtain ⟨σ',H',J,q⟩:=q;exact ⟨σ',H',J.outT ok,q⟩
  |ret v=>obtain ⟨z,σ',H',J,r,q⟩:=q;exact ⟨z,σ',H',J.outT ok,r,q⟩
 cases f with
 |next=>exact nW q
 |brk=>exact q
 |cont=>exact q
 |ret v=>exact q
end L2
namespace J
open PySem L2
def Jw (gb:aD->R Fl):aD->R Fl:=fun ρ=>yZ (gb ρ)
def BW (F:List D->R D):List D->R D:=fun ds=>yZ (F ds)
theorem Rw {c:C}{body:List db}{pos:Pos}{gb:aD->R Fl}{ρ:aD} (j:Nat) (hb:∀ pn,E6 (V_ c.X (fun _ _=>False) pn) body (fun D σ H=>σ[j]?=some (some (V.ref a))/\SR c.X.K c.cls E0 ρ (gb ρ) D σ H)) :
  PS c.X (.Try body (h₀::hs) [] [] pos) (fun D σ H=>σ[j]?=some (some (V.ref a))/\SR c.X.K c.cls c.E ρ (Jw gb ρ) D σ H):=by
 refine As (Rv hb) fun D σ H h=>?_;obtain ⟨hj,H0,Hs0,la,Hs,fr,q⟩:=h;refine ⟨hj,H0,Hs0,la,Hs,fr,?_⟩;replace q:oO c.X.K c.cls c.E H0 Hs0 la D (yZ (gb ρ)):=q;cases hr':gb ρ with
 |no=>rw [hr'] at q;exact q
 |ok fl=>rw [hr'] at q;cases fl<;>exact q
 |ex z m=>rw [hr'] at q;exact q.elim
theorem La (h:gs (dE (.no::bv m ds))=.ok ds) (hl:ds.length=n):Rf m (Jw (cH (dU n F gs))) ds=BW F ds:=by
 unfold Rf Jw cH dU BW;rw [h,bind_ok,if_pos hl];cases F ds<;>rfl
end J
end
namespace Z
open PySem L2 J
section
def kg:aD->R Fl:=(cH (Ex (c8 (ae (dY 1 [1] (k7 (rB 0)) kT (g2 (rB 0) (rB 1) (At false))) aI) (iD (g_ fun bs=>bs.any id)))))
def eR:List D->R D:=eP 2 kg
def sB:aD->R Fl:=(cH (c8 (ae (dY 1 [1] (k7 (rB 0)) (g9 (g2 (rB 0) (rB 1) (At true))) (rS 0)) aI) (iD fk)))
def sC:List D->R D:=eP 2 sB
def vw:aD->R Fl:=(cH (c8 (ae (lw (Ol (pO (rB 0)) (pO (rB 1)))) aI) (iD fk)))
def vy:List D->R D:=eP 2 vw
def sD:aD->R Fl:=(aX (ft (KJ (jT (g9 (wA (rB 0) "str"))) (jT (g9 (ro (kI 1) (c8 (ae (rB 0) aI) (iD kw)) (kI 6) PX PX)))) (cH (kB false)) (fun ρ=>.ok (.nx ρ))) (cH (c8 (ae (dY 1 [] (k7 (rB 0)) kT (ro (fun _=>.ok (.str "a")) (rB 0) (fun _=>.ok (.str "z")) PX PX)) aI) (iD (g_ fun bs=>bs.all id)))))
def oX:List D->R D:=eP 1 sD
def ic:aD->R Fl:=(aX (ft (KJ (jT (g9 (wA (rB 0) "tuple"))) (jT (g9 (c8 (ae (dY 1 [] (k7 (rB 0)) kT (dU 1 oX (ae (rS 0) aI))) aI) (iD (g_ fun bs=>bs.all id)))))) (cH (kB false)) (fun ρ=>.ok (.nx ρ))) (cH (c8 (ae (dY 2 [] (R5 (ae (rS 0) (ae (QZ (rB 0) (Ni (kI 1)) Vl) aI))) kT (g2 (rB 0) (rB 1) H9)) aI) (iD (g_ fun bs=>bs.all id)))))
def fW:List D->R D:=eP 1 ic
def nD:aD->R Fl:=(cH (tN (dU 1 fW (ae (rS 1) aI)) (c8 (ae (dY 1 [0] (k7 (rB 1)) kT (g2 (rB 0) (rB 1) (At false))) aI) (iD (g_ fun bs=>bs.all id)))))
def eX:List D->R D:=eP 2 nD
def pP:aD->R Fl:=(aX (ft (KJ (jT (g9 (wA (rB 0) "int"))) (g9 (wA (rB 0) "bool"))) (cH (kB false)) (fun ρ=>.ok (.nx ρ))) (cH (ro (rB 1) (rB 0) (rB 2) PX PX)))
def pQ:List D->R D:=eP 3 pP
def nE:aD->R Fl:=(aX (ft (KJ (jT (g9 (wA (rB 1) "tuple"))) (g9 (g2 (c8 (ae (rB 1) aI) (iD kw)) (kI 6) (pJ true)))) (cH (kB false)) (fun ρ=>.ok (.nx ρ))) (aX (AV (rS 1) (oh 6 (da (cb 2) (da (cb 3) (da (cb 4) (da (cb 5) (da (cb 6) (da (cb 7) pK)))))))) (aX (ft (KJ (jT (g9 (dU 1 oX (ae (rS 2) aI)))) (jT (g9 (dU 3 pQ (ae (rS 7) (ae (kI 0) (ae (kI 9) aI))))))) (cH (kB false)) (fun ρ=>.ok (.nx ρ))) (aX (ft (jT (g9 (c8 (ae (dY 1 [0] (k7 (fj (ae (rS 3) (ae (rS 4) (ae (rS 5) (ae (rS 6) aI)))) .tuple)) kT (dU 2 eX (ae (rS 1) (ae (rS 0) aI)))) aI) (iD (g_ fun bs=>bs.all id))))) (cH (kB false)) (fun ρ=>.ok (.nx ρ))) (cH (tN (dU 2 eR (ae (rS 3) (ae (rS 4) aI))) (dU 2 eR (ae (rS 5) (ae (rS 6) aI)))))))))
def nF:List D->R D:=eP 8 nE
def sF:aD->R Fl:=(aX (ft (KJ (jT (g9 (wA (rB 0) "tuple"))) (g9 (g2 (c8 (ae (rB 0) aI) (iD kw)) (kI 2) (pJ true)))) (cH (kB false)) (fun ρ=>.ok (.nx ρ))) (aX (AV (rS 0) (oh 2 (da (cb 1) (da (cb 2) pK)))) (aX (ft (KJ (jT (g9 (dU 1 fW (ae (rS 1) aI)))) (g9 (g2 (c8 (ae (rB 1) aI) (iD kw)) (kI 6) Ut))) (cH (kB false)) (fun ρ=>.ok (.nx ρ))) (aX (ft (KJ (jT (g9 (wA (rB 2) "tuple"))) (g9 (g2 (c8 (ae (rB 2) aI) (iD kw)) (kI 6) Ut))) (cH (kB false)) (fun ρ=>.ok (.nx ρ))) (aX (ft (jT (g9 (c8 (ae (dY 1 [1] (k7 (rB 2)) kT (dU 2 nF (ae (rS 1) (ae (rS 0) aI)))) aI) (iD (g_ fun bs=>bs.all id))))) (cH (kB false)) (fun ρ=>.ok (.nx ρ))) (cH (g2 (vn (wC 1 [] (k7 (rB 2)) kT (g2 (rB 0) (kI 0) a_))) (c8 (ae (rB 2) aI) (iD kw)) (pJ false))))))))
def sG:List D->R D:=eP 3 sF
def sH:aD->R Fl:=(aX (ft (KJ (jT (g9 (wA (rB 1) "tuple"))) (g9 (g2 (c8 (ae (rB 1) aI) (iD kw)) (kI 2) (pJ true)))) (cH (kB false)) (fun ρ=>.ok (.nx ρ))) (aX (AV (rS 1) (oh 2 (da (cb 2) (da (cb 3) pK)))) (cH (tN (dU 2 eX (ae (g2 (rB 0) (kI 0) a_) (ae (rS 2) aI))) (tN (dU 2 eX (ae (g2 (rB 0) (kI 0) a_) (ae (rS 3) aI))) (dU 2 eR (ae (rS 2) (ae (rS 3) aI))))))))
def sI:List D->R D:=eP 4 sH
def kY:aD->R Fl:=(ft (jT (g9 (dU 2 eX (ae (g2 (rB 0) (kI 0) a_) (ae (rS 1) aI))))) (fun _=>.no) (fun ρ=>.ok (.nx ρ)))
def kZ:List D->R D:=eP 2 kY
def lZ:aD->R Fl:=(ft (jT (g9 (dU 2 sI (ae (rS 0) (ae (rS 1) aI))))) (fun _=>.no) (fun ρ=>.ok (.nx ρ)))
def l_:List D->R D:=eP 2 lZ
def ju:aD->R Fl:=(aX (ft (jT (g9 (wA (rB 1) "str"))) (cH kN) (fun ρ=>.ok (.nx ρ))) (aX (rF (k7 (g2 (rB 0) (kI 1) a_)) (cb 2) (ft (g9 (g2 (g2 (rB 2) (kI 0) a_) (rB 1) (pJ false))) (cH (rS 2)) (fun ρ=>.ok (.nx ρ)))) (cH kN)))
def im:List D->R D:=eP 3 ju
def sJ:aD->R Fl:=(aX (AV (rS 1) (oh 2 (da (cb 2) (da (cb 3) pK)))) (cH (tN (c8 (ae (dY 1 [0] (k7 (rB 2)) kT (g2 (rB 0) (rB 1) (At false))) aI) (iD (g_ fun bs=>bs.all id))) (dU 2 eR (ae (rS 3) (ae (rS 0) aI))))))
def oY:List D->R D:=eP 4 sJ
def nG:aD->R Fl:=(cH (dU 2 oY (ae (rS 1) (ae (fj (ae (g2 (rB 0) (kI 1) a_) (ae (g2 (rB 0) (kI 2) a_) aI)) .tuple) aI))))
def i0:List D->R D:=eP 2 nG
def kh:aD->R Fl:=(aX (Om 2 3 (ae (g2 (rB 0) (kI 3) a_) (ae (g2 (rB 0) (kI 4) a_) aI))) (cH (dU 2 vy (ae (dU 2 sC (ae (rS 1) (ae (rS 3) aI))) (ae (rS 2) aI)))))
def eY:List D->R D:=eP 4 kh
def sK:aD->R Fl:=(aX (ft (jT (g9 (dU 1 sG (ae (rS 0) aI)))) (fun _=>.no) (fun ρ=>.ok (.nx ρ))) (cH (rS 0)))
def oZ:List D->R D:=eP 1 sK
def k_:aD->R Fl:=(aX (rz (dU 1 oZ (ae (rS 0) aI))) (rz (dU 2 kZ (ae (rS 0) (ae (rS 1) aI)))))
def ip:List D->R D:=eP 2 k_
def nH:aD->R Fl:=(aX (rz (dU 2 ip (ae (rS 0) (ae (rS 1) aI)))) (rz (dU 2 l_ (ae (rS 0) (ae (rS 2) aI)))))
def nI:List D->R D:=eP 3 nH
def l5:aD->R Fl:=(aX (gU 2 (dY 1 [1] (k7 (QZ (rB 0) (Ni (kI 1)) (Ni (kI 5)))) kT (c8 (ae (dY 1 [1] (k7 (rB 0)) (g9 (g2 (rB 0) (rB 1) (At false))) (rS 0)) aI) (iD fk)))) (cH (g2 (g2 (fj (ae (g2 (rB 0) (kI 0) a_) aI) .tuple) (c8 (ae (rB 2) aI) (iD fk)) ef) (fj (ae (g2 (rB 0) (kI 5) a_) aI) .tuple) ef)))
def l7:List D->R D:=eP 3 l5
def Di:aD->R Fl:=(aX (rz (dU 1 oZ (ae (rS 0) aI))) (aX (ft (jT (g9 (dU 2 eX (ae (g2 (rB 0) (kI 0) a_) (ae (rS 1) aI))))) (fun _=>.no) (fun ρ=>.ok (.nx ρ))) (cH (fj (ae (rS 1) (ae (c8 (ae (dY 1 [1] (k7 (g2 (rB 0) (kI 1) a_)) kT (dU 2 l7 (ae (rS 0) (ae (rS 1) aI)))) aI) (iD fk)) aI)) .tuple))))
def Dj:List D->R D:=eP 2 Di
def vz:aD->R Fl:=(aX (ft (KJ (jT (g9 (wA (rB 1) "list"))) (g9 (g2 (c8 (ae (rB 1) aI) (iD kw)) (kI 64) Ut))) (cH (kB false)) (fun ρ=>.ok (.nx ρ))) (cH (c8 (ae (dY 1 [0] (k7 (rB 1)) kT (g2 (dU 2 im (ae (rS 1) (ae (rS 0) aI))) kN (CZ true))) aI) (iD (g_ fun bs=>bs.all id)))))
def vA:List D->R D:=eP 2 vz
def m5:aD->R Fl:=(aX (ft (jT (g9 (dU 2 vA (ae (rS 0) (ae (rS 1) aI))))) (fun _=>.no) (fun ρ=>.ok (.nx ρ))) (cH (dY 1 [0] (k7 (rB 1)) kT (dU 2 im (ae (rS 1) (ae (rS 0) aI))))))
def m6:List D->R D:=eP 2 m5
def i_:aD->R Fl:=(aX (gU 2 (fj (ae (rS 1) aI) .list)) (aX (tO 0 (cb 3) (aX (ft (jT (g9 (dU 2 i0 (ae (rS 3) (ae (g2 (rB 2) (zg (kI 1)) a_) aI))))) (cH (rS 2)) (fun ρ=>.ok (.nx ρ))) (rG 2 (dU 2 eY (ae (rS 3) (ae (g2 (rB 2) (zg (kI 1)) a_) aI)))))) (cH (rS 2))))
def j0:List D->R D:=eP 4 i_
def yp:aD->R Fl:=(aX (rz (dU 2 ip (ae (rS 0) (ae (rS 1) aI)))) (aX (gP 3 (dU 2 m6 (ae (rS 0) (ae (rS 2) aI)))) (aX (gP 4 (dU 2 j0 (ae (rS 3) (ae (rS 1) aI)))) (aX (ft (g9 (g2 (c8 (ae (rB 4) aI) (iD kw)) (c8 (ae (rB 3) aI) (iD kw)) PX)) (fun _=>.no) (fun ρ=>.ok (.nx ρ))) (cH (rS 4))))))
def nJ:List D->R D:=eP 5 yp
def m7:aD->R Fl:=(cH (dY 1 [1] (k7 (g2 (rB 0) (kI 1) a_)) (g9 (dU 2 i0 (ae (rS 0) (ae (rS 1) aI)))) (fj (ae (rS 0) (ae (dU 2 eY (ae (rS 0) (ae (rS 1) aI))) aI)) .tuple)))
def ki:List D->R D:=eP 2 m7
def m8:aD->R Fl:=(aX (gU 2 (Vn (rS 1) (fj aI .list))) (aX (gU 3 (fj (ae (rS 1) aI) .list)) (aX (mF (AX (rB 3)) (aX (gU 4 (fj aI .list)) (aX (tO 3 (cb 5) (rF (k7 (dU 2 ki (ae (rS 0) (ae (rS 5) aI)))) (oh 2 (da (cb 6) (da (cb 7) pK))) (ft (g9 (g2 (rB 7) (rB 2) (inT true))) (aX (xp 2 (rS 7) (g2 (g2 (rB 2) (rB 5) Gh) (fj (ae (g2 (rB 6) (kI 0) a_) aI) .list) ef)) (rG 4 (rS 7))) (fun ρ=>.ok (.nx ρ))))) (SH 4 (gP 3 (rS 4))))) 100000) (WQ 2 (cH (rS 2))))))
def kj:List D->R D:=eP 8 m8
def sL:aD->R Fl:=(aX (gU 2 (dY 1 [1] (Rm (rB 0)) (g9 (dU 2 oY (ae (rS 0) (ae (rS 1) aI)))) (rS 0))) (cH (dY 1 [0,2] (k7 (rB 2)) (g9 (g2 (c8 (ae (g2 (rB 1) (rB 0) Gh) aI) (iD kw)) (c8 (ae (g2 (rB 1) (g2 (rB 2) (kI 0) a_) Gh) aI) (iD kw)) (pJ false))) (rS 0))))
def mq:List D->R D:=eP 3 sL
def sM:aD->R Fl:=(aX (rz (dU 2 ip (ae (rS 0) (ae (rS 1) aI)))) (cH (c8 (ae (dU 2 kj (ae (rS 0) (ae (rS 1) aI))) aI) (iD sA))))
def o_:List D->R D:=eP 2 sM
def mH:aD->R Fl:=(aX (rz (dU 3 nI (ae (rS 0) (ae (rS 1) (ae (rS 2) aI))))) (aX (gP 3 (dU 2 kj (ae (rS 0) (ae (rS 1) aI)))) (aX (gP 4 (dU 2 mq (ae (rS 3) (ae (rS 2) aI)))) (cH (Wa (AX (rB 4)) (g2 (rB 3) (g2 (rB 4) (kI 0) a_) Gh) kN)))))
def iR:List D->R D:=eP 5 mH
def F8:aD->R Fl:=(aX (gP 3 (dU 3 iR (ae (rS 0) (ae (rS 1) (ae (rS 2) aI))))) (cH (Wa (g9 (g2 (rB 3) kN (CZ false))) kN (c8 (ae (rB 3) aI) (iD kw)))))
def xt:List D->R D:=eP 4 F8
def l8:aD->R Fl:=(aX (ft (g9 (g2 (rB 1) (c8 (ae (rB 0) aI) (iD kw)) H9)) (cH (g2 (rB 0) (rB 1) a_)) (fun ρ=>.ok (.nx ρ))) (aX (ft (g9 (g2 (rB 0) (fj aI .list) (pJ false))) (cH (kI 0)) (fun ρ=>.ok (.nx ρ))) (cH (g2 (g2 (g2 (rB 0) (g2 (rB 1) (c8 (ae (rB 0) aI) (iD kw)) KL) a_) (kI 31) xS) (rB 1) ef))))
def l9:List D->R D:=eP 2 l8
def nK:aD->R Fl:=(aX (gP 3 (g2 (g2 (g2 (g2 (dU 2 l9 (ae (rS 0) (ae (rS 1) aI))) (g2 (kI 7919) (rB 1) xS) ef) (kI 1) ef) (kI 48271) xS) (kI 2147483647) KL)) (cH (g2 (g2 (g2 (g2 (g2 (rB 3) (rB 3) xS) (g2 (kI 7) (rB 3) xS) ef) (rB 1) ef) (kI 2147483629) KL) (rB 2) KL)))
def bj:List D->R D:=eP 4 nK
def pR:aD->R Fl:=(aX (gP 2 (fun _=>.ok (.str ""))) (aX (rF (yX (ae (g2 (fj (ae (kI 1) (ae (kI 2) (ae (kI 3) (ae (kI 6) (ae (kI 1) (ae (kI 4) aI)))))) .list) (dU 3 bj (ae (rS 0) (ae (rS 1) (ae (kI 6) aI)))) a_) aI)) (cb 3) (gP 2 (g2 (rB 2) (g2 (fun _=>.ok (.str "abcdefghijklmnopqrstuvwxyz")) (dU 3 bj (ae (rS 0) (ae (g2 (g2 (rB 1) (kI 1) ef) (rB 3) ef) (ae (kI 26) aI)))) a_) ef))) (cH (rS 2))))
def kJ:List D->R D:=eP 4 pR
def nL:aD->R Fl:=(aX (gU 3 (fun _=>.ok (.dict []))) (aX (rF (yX (ae (dU 3 bj (ae (rS 0) (ae (rS 1) (ae (g2 (rB 2) (kI 1) ef) aI)))) aI)) (cb 4) (D7 3 (dU 2 kJ (ae (rS 0) (ae (g2 (g2 (rB 1) (kI 1) ef) (g2 (kI 8) (rB 4) xS) ef) aI))) (kB true))) (cH (c8 (ae (c8 (ae (c8 (ae (rB 3) aI) (iD kX)) aI) (iD sw)) aI) (iD fk)))))
def nM:List D->R D:=eP 5 nL
def pS:aD->R Fl:=(cH (c8 (ae (dY 2 [0,1,3] (He (ae (rS 2) aI)) (g9 (g2 (dU 3 bj (ae (rS 2) (ae (g2 (rB 3) (rB 0) ef) (ae (kI 12) aI)))) (rB 4) H9)) (rS 1)) aI) (iD fk)))
def mI:List D->R D:=eP 4 pS
def pT:aD->R Fl:=(aX (gP 4 (g2 (rB 2) (dU 3 bj (ae (rS 0) (ae (g2 (rB 1) (kI 10) ef) (ae (c8 (ae (rB 2) aI) (iD kw)) aI)))) a_)) (aX (gP 5 (g2 (rB 2) (dU 3 bj (ae (rS 0) (ae (g2 (rB 1) (kI 11) ef) (ae (c8 (ae (rB 2) aI) (iD kw)) aI)))) a_)) (aX (gP 6 (g2 (rB 2) (dU 3 bj (ae (rS 0) (ae (g2 (rB 1) (kI 12) ef) (ae (c8 (ae (rB 2) aI) (iD kw)) aI)))) a_)) (aX (gP 7 (QZ (fj (ae (rS 4) (ae (rS 5) aI)) .list) Vl (Ni (g2 (kI 1) (g2 (dU 3 bj (ae (rS 0) (ae (g2 (rB 1) (kI 13) ef) (ae (kI 3) aI)))) (kI 2) Nc) ef)))) (aX (gU 8 (dY 1 [7,0,1] (k7 (fj (ae (rS 6) aI) .list)) (GX (g9 (g2 (rB 0) (rB 1) (At true))) (g9 (g2 (dU 3 bj (ae (rS 2) (ae (g2 (rB 3) (kI 14) ef) (ae (kI 4) aI)))) (kI 0) (pJ false)))) (rS 0))) (aX (gU 9 (dY 1 [6,0,1] (k7 (fj (ae (rS 4) aI) .list)) (GX (g9 (g2 (rB 0) (rB 1) (pJ true))) (g9 (g2 (dU 3 bj (ae (rS 2) (ae (g2 (rB 3) (kI 15) ef) (ae (kI 3) aI)))) (kI 0) (pJ false)))) (rS 0))) (aX (SH 8 (SH 9 (gU 10 (dY 1 [] (k7 (fj (ae (rS 7) (ae (rS 8) (ae (fj (ae (rS 6) aI) .list) (ae (rS 9) aI)))) .tuple)) kT (c8 (ae (lw (pO (rB 0))) aI) (iD fk)))))) (cH (fj (ae (rS 3) (ae (g2 (rB 10) (kI 0) a_) (ae (g2 (rB 10) (kI 1) a_) (ae (g2 (rB 10) (kI 2) a_) (ae (g2 (rB 10) (kI 3) a_) (ae (dU 3 bj (ae (rS 0) (ae (rS 1) (ae (kI 5) aI)))) aI)))))) .tuple)))))))))
def pU:List D->R D:=eP 11 pT
def j5:aD->R Fl:=(aX (ft (GX (g9 (g2 (rB 2) (fj aI .tuple) (pJ true))) (g9 (g2 (dU 3 bj (ae (rS 0) (ae (kI 97) (ae (kI 2) aI)))) (kI 0) (pJ false)))) (cH (dU 4 pU (ae (rS 0) (ae (rS 1) (ae (rS 2) (ae (rS 3) aI)))))) (fun ρ=>.ok (.nx ρ))) (aX (Ra 4) (aX (rF (He (ae (rS 2) aI)) (oh 2 (da (cb 5) (da (cb 6) pK))) (aX (gP 7 (dU 3 bj (ae (rS 0) (ae (g2 (g2 (rB 1) (kI 10) ef) (rB 5) ef) (ae (kI 8) aI))))) (aX (ft (g9 (g2 (rB 7) (kI 3) H9)) (oR 4 (g2 (fj (ae (kI 0) (ae (kI 0) (ae (kI 1) aI))) .list) (rB 7) a_) (rS 6)) (fun ρ=>.ok (.nx ρ))) (aX (gP 7 (dU 3 bj (ae (rS 0) (ae (g2 (g2 (rB 1) (kI 20) ef) (rB 5) ef) (ae (kI 8) aI))))) (ft (g9 (g2 (rB 7) (kI 4) H9)) (oR 4 (g2 (fj (ae (kI 2) (ae (kI 2) (ae (kI 3) (ae (kI 3) aI)))) .list) (rB 7) a_) (rS 6)) (fun ρ=>.ok (.nx ρ))))))) (aX (fun ρ=>(gU 8 (dY 1 [] (k7 (rB 4)) kT (c8 (ae (rB 0) aI) (iD fk)))) (dE ρ)) (cH (fj (ae (rS 3) (ae (g2 (rB 8) (kI 0) a_) (ae (g2 (rB 8) (kI 1) a_) (ae (g2 (rB 8) (kI 2) a_) (ae (g2 (rB 8) (kI 3) a_) (ae (dU 3 bj (ae (rS 0) (ae (rS 1) (ae (kI 5) aI)))) aI)))))) .tuple))))))
def j6:List D->R D:=eP 9 j5
def mJ:aD->R Fl:=(aX (gP 4 (dU 3 nM (ae (rS 0) (ae (rS 1) (ae (rS 2) aI))))) (aX (gU 5 (fun _=>.ok (.dict []))) (aX (rF (yX (ae (dU 3 bj (ae (rS 0) (ae (g2 (rB 1) (kI 60) ef) (ae (g2 (rB 3) (kI 1) ef) aI)))) aI)) (cb 6) (aX (gP 7 (dU 2 kJ (ae (rS 0) (ae (g2 (g2 (rB 1) (kI 70) ef) (g2 (kI 40) (rB 6) xS) ef) aI)))) (D7 5 (rS 7) (dU 4 j6 (ae (rS 0) (ae (g2 (g2 (rB 1) (kI 80) ef) (g2 (kI 40) (rB 6) xS) ef) (ae (rS 4) (ae (rS 7) aI)))))))) (aX (gP 8 (c8 (ae (rB 5) aI) (iD kX))) (aX (gP 9 (dU 3 bj (ae (rS 0) (ae (g2 (rB 1) (kI 61) ef) (ae (g2 (c8 (ae (rB 8) aI) (iD kw)) (kI 1) ef) aI))))) (cH (fj (ae (rS 4) (ae (c8 (ae (dY 1 [5] (k7 (g2 (QZ (rB 8) (Ni (rS 9)) Vl) (QZ (rB 8) Vl (Ni (rS 9))) ef)) kT (g2 (rB 1) (rB 0) a_)) aI) (iD fk)) aI)) .tuple)))))))
def mK:List D->R D:=eP 10 mJ
def mL:aD->R Fl:=(aX (gU 3 (fj aI .list)) (aX (gU 4 (fj aI .list)) (aX (rF (He (ae (rS 2) aI)) (oh 2 (da (cb 5) (da (cb 6) pK))) (aX (gP 7 (dU 3 bj (ae (rS 0) (ae (g2 (rB 1) (rB 5) ef) (ae (kI 8) aI))))) (ft (g9 (g2 (rB 7) (kI 2) H9)) (rG 3 (rS 6)) (ft (g9 (g2 (rB 7) (kI 2) (pJ false))) (rG 4 (rS 6)) (fun ρ=>.ok (.nx ρ)))))) (cH (fj (ae (c8 (ae (rB 3) aI) (iD fk)) (ae (c8 (ae (rB 4) aI) (iD fk)) aI)) .tuple)))))
def uj:List D->R D:=eP 8 mL
def pV:aD->R Fl:=(aX (gP 3 (dU 4 mK (ae (rS 0) (ae (kI 100) (ae (rS 1) (ae (rS 2) aI)))))) (aX (gP 4 (dU 4 mI (ae (rS 0) (ae (kI 20) (ae (g2 (rB 3) (kI 0) a_) (ae (g2 (fj (ae (kI 2) (ae (kI 4) aI)) .list) (dU 3 bj (ae (rS 0) (ae (kI 97) (ae (kI 2) aI)))) a_) aI)))))) (cH (fj (ae (rS 3) (ae (rS 4) (ae (dU 3 uj (ae (rS 0) (ae (kI 30) (ae (g2 (rB 3) (kI 0) a_) aI)))) aI))) .tuple))))
def pW:List D->R D:=eP 5 pV
def pX:aD->R Fl:=(cH (tN (c8 (ae (dY 1 [0] (k7 (g2 (rB 1) (kI 0) a_)) kT (g2 (rB 0) (rB 1) (At false))) aI) (iD (g_ fun bs=>bs.all id))) (Ex (c8 (ae (dY 1 [0] (k7 (g2 (rB 1) (kI 1) a_)) kT (g2 (rB 0) (rB 1) (At false))) aI) (iD (g_ fun bs=>bs.any id))))))
def pY:List D->R D:=eP 2 pX
def pZ:aD->R Fl:=(aX (ft (jT (g9 (dU 2 pY (ae (rS 1) (ae (QZ (rB 0) (Ni (kI 1)) (Ni (kI 3))) aI))))) (cH kN) (fun ρ=>.ok (.nx ρ))) (aX (gU 2 (dY 1 [0] (k7 (rB 1)) (g9 (g2 (rB 0) (g2 (rB 1) (kI 4) a_) (At true))) (rS 0))) (cH (c8 (ae (lw (pO (g2 (rB 2) (c8 (ae (g2 (rB 0) (kI 3) a_) aI) (iD kX)) ef))) aI) (iD fk)))))
def iS:List D->R D:=eP 3 pZ
def p_:aD->R Fl:=(aX (gU 5 (fj aI .list)) (aX (rF (yX (ae (rB 4) aI)) (cb 6) (aX (gU 7 (dY 1 [3] (k7 (g2 (rB 2) (kI 1) a_)) (g9 (g2 (dU 2 iS (ae (rS 0) (ae (rS 1) aI))) kN (CZ true))) (rS 0))) (aX (ft (g9 (g2 (rB 7) (fj aI .list) (pJ false))) (cH (rS 5)) (fun ρ=>.ok (.nx ρ))) (aX (gP 8 (g2 (rB 7) (dU 3 bj (ae (rS 0) (ae (g2 (rB 1) (rB 6) ef) (ae (c8 (ae (rB 7) aI) (iD kw)) aI)))) a_)) (aX (rG 5 (g2 (rB 8) (kI 0) a_)) (gP 3 (dU 2 iS (ae (rS 8) (ae (rS 3) aI))))))))) (cH (rS 5))))
def q8:List D->R D:=eP 9 p_
def q9:aD->R Fl:=(cH (c8 (ae (dY 1 [0] (k7 (rB 1)) (g9 (g2 (rB 0) (rB 1) (At false))) (rS 0)) aI) (iD fk)))
def ig:List D->R D:=eP 2 q9
def Jx:aD->R Fl:=(aX (AV (dU 3 pW (ae (rS 0) (ae (kI 6) (ae (kI 6) aI)))) (oh 3 (da (cb 1) (da (cb 2) (da (cb 3) pK))))) (aX (gP 4 (dU 4 mI (ae (rS 0) (ae (kI 300) (ae (g2 (rB 1) (kI 0) a_) (ae (kI 7) aI)))))) (aX (gP 5 (dU 2 Dj (ae (rS 1) (ae (rS 4) aI)))) (aX (gP 6 (dU 2 ig (ae (rS 4) (ae (rS 2) aI)))) (aX (gP 7 (dU 5 q8 (ae (rS 0) (ae (kI 320) (ae (rS 1) (ae (rS 2) (ae (dU 3 bj (ae (rS 0) (ae (kI 0) (ae (kI 9) aI)))) aI))))))) (aX (ft (g9 (g2 (dU 3 (BW nJ) (ae (rS 5) (ae (rS 6) (ae (rS 7) aI)))) (dY 1 [4] (k7 (dU 3 nJ (ae (rS 1) (ae (rS 2) (ae (rS 7) aI))))) kT (dU 2 ig (ae (rS 1) (ae (rS 0) aI)))) (pJ true))) (cH (kB false)) (fun ρ=>.ok (.nx ρ))) (aX (gP 8 (dU 2 o_ (ae (rS 5) (ae (rS 6) aI)))) (aX (ft (jT (g9 (c8 (ae (dY 1 [4,8] (k7 (dU 2 o_ (ae (rS 1) (ae (rS 2) aI)))) kT (g2 (dU 2 ig (ae (rS 1) (ae (rS 0) aI))) (rB 2) (Vp false))) aI) (iD (g_ fun bs=>bs.all id))))) (cH (kB false)) (fun ρ=>.ok (.nx ρ))) (aX (gP 9 (dU 3 xt (ae (rS 1) (ae (rS 2) (ae (rS 3) aI))))) (aX (gP 10 (dU 3 xt (ae (rS 5) (ae (rS 6) (ae (fj (ae (dU 2 ig (ae (rS 4) (ae (g2 (rB 3) (kI 0) a_) aI))) (ae (dU 2 ig (ae (rS 4) (ae (g2 (rB 3) (kI 1) a_) aI))) aI)) .tuple) aI))))) (cH (QV (g2 (rB 9) kN (CZ false)) (tN (g2 (rB 10) kN (CZ true)) (g2 (rB 10) (rB 9) PX))))))))))))))
def F_law:List D->R D:=eP 11 Jx
end
end Z
section
set_option hygiene false
namespace Z
open PySem L2 J
local macro_rules | `(tactic| walk_at "zz") => `(tactic| simp only [WR, UM, WS, WT, WU, zo, vo, EK, Ws, NB, NC, SJ, Wt, IU, EL, IV, EM, EN, EO, ND, NE, NF, IW, NG, IX, Wv, SL, SM, NI, SO, NJ, SQ, Wz, NK, SS, NL, IY, NM, SX, IZ, NN, SY, NO, I_, NQ, NR, NS, NV, EQ, ER, SZ, NW, J4, NX, WF, T1, T2, NY, T3, NZ, N_, T4, T5, O0, WJ, O1, O3, T6, T7, O4, UD, O5, T8, T9, O6, J5, J6, Tc, BH, BI, BJ, O8, WL, Oa, Ob, Oc, Od, Oe, Of, BL, zm, ef, xS, KL, Nc, GZ, H9, PX, Ut, KM, kw, av, du, aP, bJ, ao, PR, gO, Kh, Ki, vX, vY, Nat.reduceSub, Nat.reduceAdd, Qn, Qo, Nat.sub_self, if_true, if_false, ite_true, ite_false, bu, decide_true, decide_false, cond_true, cond_false, jE, jg, aq, cJ, GB, Int.reduceLE, Int.reduceAdd, Int.reduceMul, Nat.reduceLT, Int.reduceNeg, reduceIte])
local macro_rules | `(tactic| walk_at "yy") => `(tactic| simp only [WR, UM, WS, WT, WU, zo, vo, EK, SJ, Wt, IU, EL, IV, EM, EN, EO, ND, NE, NF, IW, NG, IX, Wv, SL, SM, NI, SO, NJ, SQ, Wz, NK, SS, NL, IY, NM, SX, IZ, NN, SY, NO, I_, NQ, NR, NS, NV, EQ, ER, SZ, NW, J4, NX, WF, T1, T2, NY, T3, NZ, N_, T4, T5, O0, WJ, O1, O3, T6, T7, O4, UD, O5, T8, T9, O6, J5, J6, Tc, BH, BI, BJ, O8, WL, Oa, Ob, Oc, Od, Oe, Of, BL, zm, ef, kw, av, du, aP, bJ, ao, PR, gO, Kh, Ki, vX, vY, Nat.reduceSub, Nat.reduceAdd, Qn, Qo, Nat.sub_self, if_true, if_false, ite_true, ite_false, bu, decide_true, decide_false, cond_true, cond_false, jE, jg, aq, cJ, GB, Int.reduceLE, Int.reduceAdd, Int.reduceMul, Nat.reduceLT, Int.reduceNeg, reduceIte])
theorem cj    (h:g (bv n ds)=.ok (.rt d)):eP n g ds=.ok d:=by unfold eP;rw [h]
def Jy (ns:List Int) (k:Int):Int:=if k<ns.length then ns.getD k.toNat 0 else if ns=[] then 0 else ns.getD (k % ns.length).toNat 0*31+k
theorem OG (ns:List Int):cc (ns.map .int)=true:=by
 induction ns with
 |nil=>rfl
 |cons x r ih=>simp [cc,dh,ih]
theorem Rx (ns:List Int):aY (.list (ns.map .int)) (.list [])=decide (ns=[]):=by
 cases ns with
 |nil=>rfl
 |cons x r=>simp [aY,eU]
theorem UX (ns:List Int):pJ false (.list (ns.map .int)) (.list [])=.ok (.bool (decide (ns=[]))):=by
 unfold pJ;have h1:(dk (ns.map .int)).canLay0=true:=by simp only [dh];exact OG ns
 have h2:(dk []).canLay0=true:=rfl;have h3:min (dk (ns.map .int)).depth (dk []).depth<=60:=ck (qG _ _) (by decide);rw [h1,h2,decide_eq_true h3,Rx];rfl
theorem UY (ns:List Int) (k:Int) (h0:0<=k) (h1:k<ns.length):DW (ns.map eK) k=some (.int (ns.getD k.toNat 0)):=by
 have hk:k.toNat<ns.length:=by omega
 have:=si (xs:=ns.map eK) (j:=k.toNat) (v:=.int (ns.getD k.toNat 0)) (by rw [aU,bc hk];simp [hk])
 rwa [eC h0] at this
theorem OH (ns:List Int) (k:Int) (h0:0<=k) (h1:k<ns.length):a_ (.list (ns.map .int)) (.int k)=.ok (.int (ns.getD k.toNat 0)):=by
 have e:∀ xs k,a_ (.list xs) k=EA (.list xs) k:=fun _ _=>rfl;rw [e];unfold EA;simp only [UY ns k h0 h1]
theorem Jz (h1:-(2 ^ 64)<j) (h2:j<2 ^ 64):BB i j=true:=by
 unfold BB;simp only [jP,aS,decide_eq_true_eq];exact .inr ⟨h1,h2⟩
theorem sO (h1:-(2 ^ 64)<i) (h2:i<2 ^ 64):BB i j=true:=by
 unfold BB;simp only [jP,aS,decide_eq_true_eq];exact .inl ⟨h1,h2⟩
theorem Ry (ns:List Int) (k:Int) (hk:0<=k):l9 [.list (ns.map .int),.int k]=.ok (.int (Jy ns k)):=by
 unfold l9;refine cj ?_;unfold l8 bv Jy;walk_at "zz";by_cases h:k<ns.length
 ·simp only [h,decide_true,cond_true,if_true,OH ns k hk h,bind_ok];walk_at "zz"
 ·simp only [h,decide_false,cond_false,if_false];walk_at "zz";rw [UX];walk_at "zz";by_cases h2:ns=[]
  ·simp only [h2,decide_true,cond_true,if_true];walk_at "zz"
  ·have hl:(0:Int)<ns.length:=by have:0<ns.length:=List.length_pos_iff.mpr h2;omega
   simp only [h2,decide_false,cond_false,if_false,hl,decide_true];walk_at "zz";simp only [h2,decide_false,cond_false,if_false,hl,decide_true,if_true];walk_at "zz";rw [OH ns _ (s9 _ (by omega)) (nZ _ hl)];walk_at "zz";rw [Jz (by decide) (by decide)];walk_at "zz"
def zB (ns:List Int) (k:Int):Int:=(Jy ns k+7919*k+1)*48271 % 2147483647
def fF (ns:List Int) (k m:Int):Int:=(zB ns k*zB ns k+7*zB ns k+k) % 2147483629 % m
theorem fG (ns:List Int) (k m:Int) (h:0<m):0<=fF ns k m:=s9 _ (by omega)
theorem gH (ns:List Int) (k m:Int) (h:0<m):fF ns k m<m:=nZ _ h
theorem fH (ns:List Int) (k m:Int) (hk:0<=k) (hm:0<m):bj [.list (ns.map .int),.int k,.int m]=.ok (.int (fF ns k m)):=by
 have d0:0<=zB ns k:=s9 _ (by decide);have d1:zB ns k<2147483647:=nZ _ (by decide);unfold bj;refine cj ?_;unfold nK bv;walk_at "zz";rw [Ry ns k hk];walk_at "zz";rw [sO (by decide) (by decide)];walk_at "zz";rw [Jz (by decide) (by decide)];walk_at "zz";rw [show (Jy ns k+7919*k+1)*48271 % 2147483647=zB ns k from rfl,sO (i:=zB ns k) (by omega) (by omega)];walk_at "zz";rw [sO (i:=7) (by decide) (by decide)];walk_at "zz";rw [decide_eq_true hm];walk_at "zz";rfl
theorem rL {α β:Type}{kt:D->aD->R aD}{gb:aD->R Fl} (c:α->D) (f:β->α->β) (P:List α->β->aD->Prop) (h:∀ x cp b ρ,P (x::cp) b ρ->∃ ρ1 ρ',kt (c x) ρ=.ok ρ1/\gb ρ1=.ok (.nx ρ')/\P cp (f b x) ρ') :
  ∀ (xs:List α) (b:β) (ρ:aD),P xs b ρ->∃ ρ',jo kt gb (xs.map c) ρ=.ok (.nx ρ')/\P [] (xs.foldl f b) ρ'
 |[],b,ρ,p=>⟨ρ,rfl,p⟩
 |x::r,b,ρ,p=>by
  obtain ⟨ρ1,ρ2,h1,h2,h3⟩:=h x r b ρ p;obtain ⟨ρ3,h4,h5⟩:=rL c f P h r (f b x) ρ2 h3;refine ⟨ρ3,?_,h5⟩;rw [av];unfold jo;rw [h1];simp only [h2];exact h4
theorem JA {α β:Type}{kt:D->aD->R aD}{gb hh:aD->R Fl}{r:R Fl} (c:α->D) (f:β->α->β) (P:List α->β->aD->Prop) {xs:List α} (b:β) {ρ:aD}
  (h:∀ x cp b ρ,P (x::cp) b ρ->∃ ρ1 ρ',kt (c x) ρ=.ok ρ1/\gb ρ1=.ok (.nx ρ')/\P cp (f b x) ρ') (p0:P xs b ρ) (k:∀ ρ',P [] (xs.foldl f b) ρ'->hh ρ'=r):(jo kt gb (xs.map c) ρ).bind (NA hh)=r:=by
 obtain ⟨ρ',e,p⟩:=rL c f P h xs b ρ p0;rw [e,bind_ok,vo];exact k ρ' p
theorem yq (n:Nat) (h:n<=1000):Hd [.int (n:Int)]=.ok ((bx n).map fun (i:Nat)=>eK (i:Int)):=by
 have e:Hd [.int (n:Int)]=.ok (rE 0 (n:Int).toNat):=Rc (by omega) (by omega);rw [e];unfold rE;rw [kC];exact congrArg R.ok (h_ fun a _=>congrArg eK (Int.zero_add _))
def zC (x:Str):Bool:=decide (1<=x.cps.size)&&decide (x.cps.size<=6/\x.cps.size≠5)&&x.cps.toList.all fun c=>decide (97<=c)&&decide (c<=122)
def tT (ns:List Int) (k:Int):Nat:=[1,2,3,6,1,4].getD (fF ns k 6).toNat 0
def Dk (ns:List Int) (k:Int) (i:Nat):Nat:=97+(fF ns (k+1+i) 26).toNat
def lA (ns:List Int) (k:Int):Str:=⟨((bx (tT ns k)).map (Dk ns k)).toArray⟩
theorem JC (ns:List Int) (k:Int):1<=tT ns k/\(tT ns k<=6/\tT ns k≠5):=by
 have h0:=fG ns k 6 (by decide);have h1:=gH ns k 6 (by decide);unfold tT;have:∀ j:_root_.Fin 6,1<=[1,2,3,6,1,4].getD j.val 0/\([1,2,3,6,1,4].getD j.val 0<=6/\[1,2,3,6,1,4].getD j.val 0≠5):=by decide
 exact this ⟨(fF ns k 6).toNat,by omega⟩
theorem Rz (ns:List Int) (k:Int) (i:Nat):97<=Dk ns k i/\Dk ns k i<=122:=by
 have h0:=fG ns (k+1+i) 26 (by decide);have h1:=gH ns (k+1+i) 26 (by decide);unfold Dk;omega
theorem F9 (ns:List Int) (k:Int):zC (lA ns k)=true:=by
 have ⟨h1,h2⟩:=JC ns k;unfold zC lA;simp only [aT,ao,fo,aS,decide_eq_true_eq,cf];refine ⟨⟨h1,h2⟩,fun c hc=>?_⟩;obtain ⟨i,_,rfl⟩:=List.mem_map.mp hc;exact Rz ns k i
theorem OI (j:Int) (h0:0<=j) (h1:j<26):a_ (.str "abcdefghijklmnopqrstuvwxyz") (.int j)=.ok (.str ⟨#[97+j.toNat]⟩):=by
 have e:∀ x k,a_ (.str x) k=EA (.str x) k:=fun _ _=>rfl;rw [e];unfold EA;have hc:("abcdefghijklmnopqrstuvwxyz" : Str).cps.toList=(bx 26).map (97 + ·):=by decide +kernel
 have hl:("abcdefghijklmnopqrstuvwxyz" : Str).length<=1000:=by decide +kernel
 have hj:j.toNat<26:=by omega
 have hx:=si (xs:=(bx 26).map (97 + ·)) (j:=j.toNat) (v:=97+j.toNat) (by rw [aU,Kb hj];rfl);rw [eC h0] at hx;simp only [hl,if_true,hc,hx]
theorem RA (j:Int) (h0:0<=j) (h1:j<6):a_ (.list [.int 1,.int 2,.int 3,.int 6,.int 1,.int 4]) (.int j)=.ok (.int (([1,2,3,6,1,4].getD j.toNat 0:Nat):Int)):=by
 obtain ⟨n,rfl⟩:=qH h0;have hn:n<6:=by omega
 match n,hn with
 | 0,_=>rfl
 | 1,_=>rfl
 | 2,_=>rfl
 | 3,_=>rfl
 | 4,_=>rfl
 | 5,_=>rfl
theorem Dl (l:List Nat):∀ (acc:Str),l.foldl (fun (a:Str) c=>a++⟨#[c]⟩) acc=⟨(acc.cps.toList++l).toArray⟩:=by
 induction l with
 |nil=>intro acc;simp
 |cons c r ih =>
  intro acc;rw [eE,ih];show (⟨((acc.cps++#[c]).toList++r).toArray⟩:Str)=_;simp
theorem Lb:("" : Str).cps.toList=[]:=by decide +kernel
theorem JD (ns:List Int) (k:Int) (hk:0<=k):kJ [.list (ns.map .int),.int k]=.ok (.str (lA ns k)):=by
 have h0:=fG ns k 6 (by decide);have h1:=gH ns k 6 (by decide);have ⟨w1,w2⟩:=JC ns k;unfold kJ;refine cj ?_;unfold pR bv;walk_at "zz";rw [tQ (ds:=(bx (tT ns k)).map fun (i:Nat)=>eK i)]
 ·refine JA (fun (i:Nat)=>eK i) (fun (a:Str) i=>a++⟨#[Dk ns k i]⟩) (fun cp a ρ=>a.length+cp.length<=900/\∃ z,ρ=[.shr (.list (ns.map .int)),.shr (.int k),.shr (.str a),z]) "" ?_ ⟨by rw [fo,show ("" : Str).length=0 by decide];omega,_,rfl⟩ ?_
  ·rintro i cp a ρ ⟨hl,z,rfl⟩;simp only [aP] at hl;refine ⟨_,[.shr (.list (ns.map .int)),.shr (.int k),.shr (.str (a++⟨#[Dk ns k i]⟩)),.shr (.int i)],rfl,?_,?_,_,rfl⟩
   ·walk_at "zz";rw [fH ns _ 26 (by omega) (by decide)];walk_at "zz";rw [OI _ (fG _ _ _ (by decide)) (gH _ _ _ (by decide))];walk_at "zz";have hz:a.length+(⟨#[97+(fF ns (k+1+i) 26).toNat]⟩:Str).length<=1000:=by
     show a.length+1<=1000;omega
    rw [if_pos hz];walk_at "zz";rw [show 97+(fF ns (k+1+i) 26).toNat=Dk ns k i from rfl]
   ·show (a.cps++#[_]).size+cp.length<=900;rw [Array.size_append];show a.cps.size+1+cp.length<=900;have:a.length=a.cps.size:=rfl
    omega
  ·rintro ρ' ⟨_,z,rfl⟩;walk_at "zz";have:(bx (tT ns k)).foldl (fun (a:Str) i=>a++⟨#[Dk ns k i]⟩) ""=lA ns k:=by
    have:=Dl ((bx (tT ns k)).map (Dk ns k)) "";rw [List.foldl_map] at this;rw [this,Lb];unfold lA;rw [gO]
   rw [this]
 ·walk_at "zz";rw [fH ns k 6 hk (by decide)];walk_at "zz";have et:=RA (fF ns k 6) h0 h1;have ew:[1,2,3,6,1,4].getD (fF ns k 6).toNat 0=tT ns k:=rfl;rw [ew] at et;rw [et];walk_at "zz";rw [yq (tT ns k) (by omega)]
def m9 (l:List (Str×D)):List (D×D):=l.map fun p=>(.str p.1,p.2)
def vB (l:List (Str×D)) (x:Str) (d:D):List (Str×D):=if l.any (fun p=>decide (p.1=x)) then l.map (fun p=>if p.1=x then (p.1,d) else p) else l++[(x,d)]
theorem sP (x y:Str):aY (.str x) (.str y)=decide (x=y):=by
 show (x==y)=_;rw [r_]
theorem RC (l:List (Str×D)) (x:Str) (d:D):xU (m9 l) (.str x) d=m9 (vB l x d):=by
 unfold xU vB m9;rw [xj];have e:((fun kv:D×D=>aY kv.1 (.str x))∘fun p:Str×D=>(aO p.1,p.2))=fun p=>decide (p.1=x):=by
  funext p;exact sP p.1 x
 rw [e];split
 ·rw [ca,ca];apply h_;intro p _;simp only [Function.comp,sP];by_cases h:p.1=x
  ·simp [h]
  ·simp [h]
 ·simp
theorem zD (l:List (Str×D)):il (m9 l)=true:=by
 unfold il m9;rw [mY,cf];intro p _;rfl
theorem Fa (l:List (Str×D)) (x:Str) (d:D):(vB l x d).length<=l.length+1:=by
 unfold vB;split<;>simp
theorem BX (l:List (Str×D)) (x:Str) (d:D):(vB l x d).map (·.1)=if x∈l.map (·.1) then l.map (·.1) else l.map (·.1)++[x]:=by
 unfold vB;have e:(l.any fun p=>decide (p.1=x))=decide (x∈l.map (·.1)):=by
  rw [qY];simp only [jl,decide_eq_true_eq,gS]
 rw [e];by_cases h:x∈l.map (·.1)
 ·rw [decide_eq_true h,if_pos rfl,if_pos h,ca];apply h_;intro p _;by_cases hp:p.1=x<;>simp [hp]
 ·rw [decide_eq_false h,if_neg bf,if_neg h,c7];rfl
theorem OJ {Q:Str->D->Prop}{l:List (Str×D)}{x:Str}{d:D} (h:∀ p∈l,Q p.1 p.2) (hx:Q x d):∀ p∈vB l x d,Q p.1 p.2:=by
 unfold vB;split
 ·intro p hp;obtain ⟨p',hp',rfl⟩:=List.mem_map.mp hp;by_cases e:p'.1=x
  ·rw [if_pos e];rw [e];exact hx
  ·rw [if_neg e];exact h p' hp'
 ·intro p hp;rcases List.mem_append.mp hp with hp|hp
  ·exact h p hp
  ·rw [List.mem_singleton.mp hp];exact hx
theorem Lc {l:List Str}{x:Str} (h:l.Nodup):(if x∈l then l else l++[x]).Nodup:=by
 by_cases hx:x∈l
 ·rw [if_pos hx];exact h
 ·rw [if_neg hx];exact CF h hx
theorem Ti      (hi:ρ[i]?=some (Sl.own (.dict (m9 l)))) (hg:g ρ=.ok d) (hk:gk ρ=.ok (.str x)) (hl:l.length<1000):D7 i gk g ρ=.ok (.nx (ρ.set i (.own (.dict (m9 (vB l x d)))))):=by
 have hl':(m9 l).length<1000:=by unfold m9;rw [ao];exact hl
 have e:D7 i gk g ρ=(g ρ).bind fun d=>(gk ρ).bind fun k=>match tP k with
  |some _=>if (m9 l).length<1000/\il (m9 l)=true then .ok (.nx (ρ.set i (.own (.dict (xU (m9 l) k d))))) else .no
  |none=>.no:=by
  unfold D7;simp only [hi];try rfl
 rw [e,hg,zm,hk,zm];simp only [tP,if_pos (uN hl' (zD l)),RC]
theorem Fb (l:List (Str×D)):kX (.dict (m9 l))=.ok (.list ((l.map (·.1)).map .str)):=by
 have e:∀ kvs,kX (.dict kvs)=if il kvs=true then .ok (.list (kvs.map (·.1))) else .no:=fun _=>rfl
 rw [e,if_pos (zD l)];unfold m9;rw [ca,ca];rfl
theorem sorted_strs (ss:List Str) (h:ss.length<64):sw (.list (ss.map .str))=.ok (.list ((jY ss).map .str)):=by
 have e:∀ ds,sw (.list ds)=match fm ds with
  |some ss=>if ss.length<64 then .ok (.list ((jY ss).map .str)) else .no
  |none=>.no:=fun _=>rfl
 rw [e,strsOf_map];simp only [if_pos h]
theorem e6 (ds:List D):fk (.list ds)=.ok (.tuple ds):=id rfl
def Dm (ns:List Int) (k:Int) (n:Nat):List Str:=(bx n).map fun (i:Nat)=>lA ns (k+1+8*(i:Int))
def Do (ns:List Int) (k m:Int):List Str:=jY (dn [] (Dm ns k (fF ns k (m+1)).toNat))
structure OK (fs:List Str) (n:Nat):Prop where
 ok:∀ x∈fs,zC x=true
 up:fs.Pairwise fun a b=>qC a b=true
 len:fs.length<=n
theorem OL {α:Type}{a b:List α} (h:a.Perm b):a.length=b.length:=h.length_eq
theorem Hm (ns:List Int) (k m:Int) (hm:0<=m):OK (Do ns k m) m.toNat:=by
 have h0:=fG ns k (m+1) (by omega);have h1:=gH ns k (m+1) (by omega);have hp:=i9 (dn [] (Dm ns k (fF ns k (m+1)).toNat));refine ⟨fun x hx=>?_,?_,?_⟩
 ·have hx:=hp.mem_iff.mp hx;rw [iZ] at hx;rcases hx with hx|hx
  ·cases hx
  ·obtain ⟨i,_,rfl⟩:=List.mem_map.mp hx;exact F9 _ _
 ·exact wy (rh _) (hp.nodup_iff.mpr (iQ _ [] gd))
 ·unfold Do;rw [OL hp];have:=gF (Dm ns k (fF ns k (m+1)).toNat) [];unfold Dm at this ⊢;simp at this;omega
theorem Ld (f:Nat->Str) (l:List Nat):∀ acc:List (Str×D),((l.foldl (fun (a:List (Str×D)) i=>vB a (f i) (.bool true)) acc).map (·.1))=dn (acc.map (·.1)) (l.map f):=by
 induction l with
 |nil=>intro acc;rfl
 |cons i r ih =>
  intro acc;rw [eE,ih,av,BX];rfl
theorem OM (ns:List Int) (k m:Int) (hk:0<=k) (hm:0<=m) (hm2:m<=20):nM [.list (ns.map .int),.int k,.int m]=.ok (.tuple ((Do ns k m).map .str)):=by
 have h0:=fG ns k (m+1) (by omega);have h1:=gH ns k (m+1) (by omega);unfold nM;refine cj ?_;unfold nL bv;walk_at "zz";rw [tQ (ds:=(bx (fF ns k (m+1)).toNat).map fun (i:Nat)=>eK i)]
 ·refine JA (fun (i:Nat)=>eK i) (fun (a:List (Str×D)) i=>vB a (lA ns (k+1+8*(i:Int))) (.bool true)) (fun cp a ρ=>a.length+cp.length<=60/\∃ z,ρ=[.shr (.list (ns.map .int)),.shr (.int k),.shr (.int m),.own (.dict (m9 a)),z]) [] ?_ ⟨by simp;omega,_,rfl⟩ ?_
  ·rintro i cp a ρ ⟨hl,z,rfl⟩;simp only [aP] at hl;refine ⟨_,[.shr (.list (ns.map .int)),.shr (.int k),.shr (.int m),.own (.dict (m9 (vB a (lA ns (k+1+8*(i:Int))) (.bool true)))),.shr (.int i)],rfl,?_,?_,_,rfl⟩
   ·refine (Ti (l:=a) (x:=lA ns (k+1+8*(i:Int))) (d:=.bool true) rfl rfl ?_ (by omega)).trans rfl;walk_at "zz";rw [sO (by decide) (by decide)];walk_at "zz";rw [JD ns _ (by omega)]
   ·have:=Fa a (lA ns (k+1+8*(i:Int))) (.bool true);omega
  ·rintro ρ' ⟨hl,z,rfl⟩;simp only [bJ] at hl;walk_at "zz";rw [Fb];walk_at "zz";have ek:=Ld (fun i=>lA ns (k+1+8*(i:Int))) (bx (fF ns k (m+1)).toNat) [];rw [ek,sorted_strs]
   ·walk_at "zz";rw [e6];walk_at "zz";rfl
   ·rw [<- ek,ao];omega
 ·walk_at "zz";rw [fH ns k (m+1) hk (by omega)];walk_at "zz";have:=yq (fF ns k (m+1)).toNat (by omega);rw [eC h0] at this;exact this
structure hJ where
 name:Str
 needs:List Str
 bars:List Str
 makes:List Str
 ends:List Str
 price:Int
abbrev aB (xs:List Str):D:=.tuple (xs.map .str)
def cG (e:hJ):D:=.tuple [.str e.name,aB e.needs,aB e.bars,aB e.makes,aB e.ends,.int e.price]
structure ng (fs xs:List Str):Prop where
 up:xs.Pairwise fun a b=>qC a b=true
 mem:∀ x∈xs,x∈fs
structure rM (fs:List Str) (e:hJ):Prop where
 name:zC e.name=true
 needs:ng fs e.needs
 bars:ng fs e.bars
 makes:ng fs e.makes
 ends:ng fs e.ends
 nb:∀ x∈e.needs,x∉e.bars
 me:∀ x∈e.makes,x∉e.ends
 p0:0<=e.price
 p9:e.price<=9
def srt (xs:List Str):List Str:=jY (dn [] xs)
theorem nN  : x∈srt xs↔x∈xs:=by
 unfold srt;rw [(i9 _).mem_iff,iZ];simp
theorem zE (xs:List Str):(srt xs).Pairwise fun a b=>qC a b=true:=wy (rh _) ((i9 _).nodup_iff.mpr (iQ _ [] gd))
theorem yr (h:∀ x∈xs,x∈fs):ng fs (srt xs):=⟨zE xs,fun x hx=>h x (nN.mp hx)⟩
theorem Dp (fs:List Str) (j:Int) (h0:0<=j) (h1:j<fs.length):∃ x,x∈fs/\a_ (aB fs) (.int j)=.ok (.str x):=by
 have hj:j.toNat<fs.length:=by omega
 refine ⟨fs[j.toNat],jj hj,?_⟩;have e:∀ xs k,a_ (.tuple xs) k=EA (.tuple xs) k:=fun _ _=>rfl;rw [e];have hx:=si (xs:=fs.map aO) (j:=j.toNat) (v:=.str fs[j.toNat]) (by rw [aU,bc hj];rfl);rw [eC h0] at hx;unfold EA;simp only [hx]
theorem zF (x:Str):∀ ys:List Str,((ys.map aO).any fun y=>aY y (.str x))=decide (x∈ys)
 |[]=>rfl
 |y::r=>by
  rw [av,ed,zF x r,sP];by_cases h:y=x
  ·subst h;simp
  ·simp [h,cY h]
theorem zG (ys:List Str):(ys.map aO).all lT=true:=by
 rw [mY,cf];intro _ _;rfl
theorem RE (neg:Bool) (x:Str) (ys:List Str):At neg (.str x) (.list (ys.map .str))=.ok (.bool (if neg then !decide (x∈ys) else decide (x∈ys))):=by
 have e:At neg (.str x) (.list (ys.map .str))=if lT (.str x)&&(ys.map aO).all lT then .ok (.bool (if neg then !((ys.map aO).any fun y=>aY y (.str x)) else (ys.map aO).any fun y=>aY y (.str x))) else .no:=rfl
 rw [e,zG,zF];rfl
theorem om (neg:Bool) (x:Str) (ys:List Str):At neg (.str x) (aB ys)=.ok (.bool (if neg then !decide (x∈ys) else decide (x∈ys))):=by
 have e:At neg (.str x) (aB ys)=if lT (.str x)&&(ys.map aO).all lT then .ok (.bool (if neg then !((ys.map aO).any fun y=>aY y (.str x)) else (ys.map aO).any fun y=>aY y (.str x))) else .no:=rfl
 rw [e,zG,zF];rfl
theorem mM (neg:Bool) (a b:Int):pJ neg (.int a) (.int b)=.ok (.bool (if neg then !decide (a=b) else decide (a=b))):=by
 have e:pJ neg (.int a) (.int b)=.ok (.bool (if neg then !(a==b) else (a==b))):=rfl;rw [e,r_]
theorem yt (h:zC x=true):(aO x).canLay0=true:=by
 unfold zC at h;simp only [aS,cf,decide_eq_true_eq] at h;show PyData.strOk x=true;unfold PyData.strOk;rw [<- xK,cf];intro c hc;have:=h.2 c hc;exact decide_eq_true (by omega)
theorem Dq (neg:Bool) (hx:zC x=true) (hy:zC y=true):pJ neg (.str x) (.str y)=.ok (.bool (if neg then !decide (x=y) else decide (x=y))):=by
 unfold pJ;rw [yt hx,yt hy,sP];rfl
theorem zH (ss:List Str) (h:ss.length<60):ug (.list (ss.map .str))=.ok (dn [] ss):=by
 have e:∀ ds,ug (.list ds)=match fm ds with
  |some ss=>if ss.length<60 then .ok (dn [] ss) else .no
  |none=>.no:=fun _=>rfl
 rw [e,strsOf_map];simp only [if_pos h]
theorem JF (g:aD->R D) (s:Sl) (ρ:aD):pO g (s::ρ)=(g (s::ρ)).bind ug:=id rfl
def Tj:List Str->R D:=fun ss=>if ss.length<64 then .ok (.list ((jY ss).map .str)) else .no
theorem wG (g:aD->R (List Str)) (s:Sl) (ρ:aD):lw g (s::ρ)=(g (s::ρ)).bind Tj:=id rfl
theorem zI (ss:List Str) (h:ss.length<64):Tj ss=.ok (.list ((jY ss).map .str)):=if_pos h
theorem Le (ss:List Str) (h:ss.length<60) (ρ:aD):(c8 (J.ae (lw (pO (rB 0))) J.aI) (iD fk)) (.shr (.list (ss.map .str))::ρ)=.ok (aB (srt ss)):=by
 walk_at "zz";rw [wG,JF];walk_at "zz";rw [zH ss h];walk_at "zz";rw [zI _ (by have:=gF ss [];simp at this;omega)];walk_at "zz";rw [e6];rfl
theorem Fc      (hρ:ρ=s::r) (h:gt (.shr (.str x)::r)=.ok b):hG (iE 1 ρ gt (rS 0)) [.str x]=.ok ((if b then [x] else []).map .str):=by
 subst hρ;have e:=lY (ρ:=s::r) (gt:=gt) (ge:=(rS 0)) (d:=.str x) (y:=.str x) (b:=b) h fun _=>rfl;unfold hG;rw [e,zm];unfold hG;rw [zm];cases b<;>rfl
theorem UZ (p q r t:List Str) (hp:p.length<60) (hq:q.length<60) (hr:r.length<60) (ht:t.length<60):hG (iE 1 [Sl.no] kT (c8 (J.ae (lw (pO (rB 0))) J.aI) (iD fk))) [.list (p.map .str),.list (q.map .str),.list (r.map .str),.list (t.map .str)]=.ok [aB (srt p),aB (srt q),aB (srt r),aB (srt t)] :=
 dq _ (fun ss:List Str=>dk (ss.map .str)) (fun ss=>aB (srt ss)) [p,q,r,t] fun ss hs=>fh rfl (Le ss (by simp at hs;rcases hs with h|h|h|h<;>(rw [h];assumption)) _)
theorem Tl (a b c d:D):a_ (.list [a,b,c,d]) (.int 0)=.ok a:=id rfl
theorem Tn (a b c d:D):a_ (.list [a,b,c,d]) (.int 1)=.ok b:=id rfl
theorem To (a b c d:D):a_ (.list [a,b,c,d]) (.int 2)=.ok c:=id rfl
theorem Tp (a b c d:D):a_ (.list [a,b,c,d]) (.int 3)=.ok d:=id rfl
theorem RF (ns:List Int) (k:Int) (hk:0<=k) (fs:List Str) (hf:∀ x∈fs,zC x=true) (h0:0<fs.length) (nm:Str) (hn:zC nm=true) :
  ∃ e,pU [.list (ns.map .int),.int k,aB fs,.str nm]=.ok (cG e)/\rM fs e/\e.name=nm:=by
 have hl:(0:Int)<(fs.length:Int):=by omega
 obtain ⟨a,ha,ea⟩:=Dp fs (fF ns (k+10) fs.length) (fG _ _ _ hl) (gH _ _ _ hl);obtain ⟨b,hb,eb⟩:=Dp fs (fF ns (k+11) fs.length) (fG _ _ _ hl) (gH _ _ _ hl);obtain ⟨c,hc,ec⟩:=Dp fs (fF ns (k+12) fs.length) (fG _ _ _ hl) (gH _ _ _ hl);have m13a:=fG ns (k+13) 3 (by decide);have m13b:=gH ns (k+13) 3 (by decide);obtain ⟨nd,hnd,hnl,end_⟩:∃ nd:List Str,(∀ x∈nd,x∈fs)/\nd.length<60/\Hc (.list [.str a,.str b]) none (some (1+fF ns (k+13) 3 / 2))=.ok (.list (nd.map .str)):=by
  by_cases h2:fF ns (k+13) 3=2
  ·exact ⟨[a,b],by simp [ha,hb],by simp,by rw [h2];rfl⟩
  ·have:fF ns (k+13) 3 / 2=0:=by omega
   exact ⟨[a],by simp [ha],by simp,by rw [this];rfl⟩
 let bb:Bool:=!decide (c∈nd)&&decide (fF ns (k+14) 4=0)
 let be:Bool:=!decide (a=c)&&decide (fF ns (k+15) 3=0)
 have p0:=fG ns k 5 (by decide);have p1:=gH ns k 5 (by decide);refine ⟨⟨nm,srt nd,srt (if bb then [c] else []),srt [c],srt (if be then [a] else []),fF ns k 5⟩,?_,⟨hn,yr hnd,yr ?_,yr (by simp [hc]),yr ?_,fun x h1 h2=>?_,fun x h1 h2=>?_,p0,by show fF ns k 5<=9;omega⟩,rfl⟩
 ·unfold pU;refine cj ?_;unfold pT bv;walk_at "zz";rw [fH ns _ _ (by omega) hl];walk_at "zz";rw [ea];walk_at "zz";rw [fH ns (k+11) _ (by omega) hl];walk_at "zz";rw [eb];walk_at "zz";rw [fH ns (k+12) _ (by omega) hl];walk_at "zz";rw [ec];walk_at "zz";rw [fH ns (k+13) 3 (by omega) (by decide)];walk_at "zz";simp only [GB,decide_true,pv,if_true];walk_at "zz";rw [end_];walk_at "zz";rw [Fc (b:=bb) rfl]
  ·walk_at "zz";rw [Fc (b:=be) rfl]
   ·walk_at "zz";simp only [SH];rw [D9 rfl,D9 rfl];walk_at "zz";have pk:=UZ nd (if bb then [c] else []) [c] (if be then [a] else []) hnl (by cases bb<;>simp) (by simp) (by cases be<;>simp);rw [show ([c].map aO)=[aO c] from rfl] at pk;rw [pk];walk_at "zz";rw [Tl];walk_at "zz";rw [Tn];walk_at "zz";rw [To];walk_at "zz";rw [Tp];walk_at "zz";rw [fH ns k 5 hk (by decide)];walk_at "zz";rfl
   ·walk_at "zz";rw [Dq true (hf a ha) (hf c hc)];walk_at "zz";by_cases hac:a=c
    ·simp only [be,hac,decide_true,jE,Bh,if_true,cond_false]
    ·simp only [be,hac,decide_false,jg,uU,if_true,cond_true];rw [fH ns (k+15) 3 (by omega) (by decide)];walk_at "zz";rw [mM];walk_at "zz"
  ·walk_at "zz";rw [RE];walk_at "zz";by_cases hcn:c∈nd
   ·simp only [bb,hcn,decide_true,jE,Bh,if_true,cond_false]
   ·simp only [bb,hcn,decide_false,jg,uU,if_true,cond_true];rw [fH ns (k+14) 4 (by omega) (by decide)];walk_at "zz";rw [mM];walk_at "zz"
 ·intro x hx;cases hbb:bb
  ·simp [hbb] at hx
  ·simp [hbb] at hx;rw [hx];exact hc
 ·intro x hx;cases hbe:be
  ·simp [hbe] at hx
  ·simp [hbe] at hx;rw [hx];exact ha
 ·have h2:x∈(if bb then [c] else []):=nN.mp h2;cases hbb:bb
  ·simp [hbb] at h2
  ·simp [hbb] at h2;subst h2;have:(!decide (x∈nd))=true:=by
    have:(!decide (x∈nd)&&decide (fF ns (k+14) 4=0))=true:=hbb
    simp only [aS] at this;exact this.1
   simp at this;exact this (nN.mp h1)
 ·cases hbe:be
  ·have h2:x∈(if be then [a] else []):=nN.mp h2;simp [hbe] at h2
  ·skip;have h4:x∈[c]:=nN.mp h1;have h5:x∈(if be then [a] else []):=nN.mp h2;simp only [c6] at h4;simp only [hbe,if_true,c6] at h5;have:(!decide (a=c)&&decide (fF ns (k+15) 3=0))=true:=hbe
   simp only [aS] at this;have h3:=this.1;simp at h3;exact h3 (h5.symm.trans h4)
theorem Dr       (hi:ρ[i]?=some (Sl.ow2 dss)) (hj:gi ρ=.ok (.int j)) (h0:0<=j) (hd:dss[j.toNat]?=some ds) (hg:g ρ=.ok d) (hl:ds.length<1000):oR i gi g ρ=.ok (.nx (ρ.set i (.ow2 (dss.set j.toNat (ds++[d]))))):=by
 unfold oR;simp only [hi,hj,bind_ok,if_pos h0,hd,hg,if_pos hl]
def nO (n:Nat):List Str->List (Nat×Str)
 |[]=>[]
 |x::r=>(n,x)::nO (n+1) r
abbrev cI (p:Nat×Str):D:=.tuple [.int (p.1:Nat),.str p.2]
theorem yu:∀ (xs:List Str) (n:Nat),qD n (xs.map .str)=(nO n xs).map cI
 |[],_=>rfl
 |x::r,n=>by
  show fK [.int n,.str x]::qD (n+1) (r.map .str)=cI (n,x)::(nO (n+1) r).map cI;rw [yu r (n+1)]
theorem sQ:∀ (xs:List Str) (n:Nat),(nO n xs).map (·.2)=xs
 |[],_=>rfl
 |x::r,n=>by
  show x::(nO (n+1) r).map (·.2)=x::r;rw [sQ r]
theorem zJ:∀ (fs:List Str),(∀ x∈fs,zC x=true)->cc (fs.map .str)=true
 |[],_=>rfl
 |x::r,h=>by
  have h1:=yt (h x ak);have h2:=zJ r fun y hy=>h y (ai _ hy);simp only [av,cc,h1,h2,pv]
theorem JH (fs:List Str) (hf:∀ x∈fs,zC x=true):pJ true (aB fs) (.tuple [])=.ok (.bool (!decide (fs=[]))):=by
 unfold pJ;have h1:(aB fs).canLay0=true:=by simp only [dh];exact zJ fs hf
 have h2:(fK []).canLay0=true:=rfl;have h3:min (aB fs).depth (fK []).depth<=60:=ck (qG _ _) (by decide);have h4:aY (aB fs) (.tuple [])=decide (fs=[]):=by
  cases fs with
  |nil=>rfl
  |cons x r=>simp [aY,eU]
 rw [h1,h2,decide_eq_true h3,h4];rfl
structure oo (pre p q:List Str):Prop where
 sp:p.Sublist pre
 sq:q.Sublist pre
 d:∀ x∈p,x∉q
theorem oo.skip (h:oo pre p q) (x:Str):oo (pre++[x]) p q:=⟨h.sp.trans (jF _ _),h.sq.trans (jF _ _),h.d⟩
theorem oo.left (h:oo pre p q) (x:Str) (hx:x∉pre):oo (pre++[x]) (p++[x]) q:=⟨h.sp.append (eO _),h.sq.trans (jF _ _),fun y hy hq=>by
 rcases List.mem_append.mp hy with h1|h1
 ·exact h.d y h1 hq
 ·rw [List.mem_singleton.mp h1] at hq;exact hx (h.sq.subset hq)⟩
theorem oo.right (h:oo pre p q) (x:Str) (hx:x∉pre):oo (pre++[x]) p (q++[x]):=⟨h.sp.trans (jF _ _),h.sq.append (eO _),fun y hy hq=>by
 rcases List.mem_append.mp hq with h1|h1
 ·exact h.d y hy h1
 ·rw [List.mem_singleton.mp h1] at hy;exact hx (h.sp.subset hy)⟩
abbrev o4 (p q r t:List Str):Sl:=.ow2 [p.map .str,q.map .str,r.map .str,t.map .str]
theorem X3 (j:Int) (h0:0<=j) (h1:j<3):∃ b:Bool,a_ (.list [.int 0,.int 0,.int 1]) (.int j)=.ok (.int (if b then 0 else 1)):=by
 have:j=0\/j=1\/j=2:=by omega
 rcases this with h|h|h<;>subst h
 ·exact ⟨true,rfl⟩
 ·exact ⟨true,rfl⟩
 ·exact ⟨false,rfl⟩
theorem X4 (j:Int) (h0:0<=j) (h1:j<4):∃ b:Bool,a_ (.list [.int 2,.int 2,.int 3,.int 3]) (.int j)=.ok (.int (if b then 2 else 3)):=by
 have:j=0\/j=1\/j=2\/j=3:=by omega
 rcases this with h|h|h|h<;>subst h
 ·exact ⟨true,rfl⟩
 ·exact ⟨true,rfl⟩
 ·exact ⟨false,rfl⟩
 ·exact ⟨false,rfl⟩
theorem vC (p:List Str) (x:Str):(p++[x]).map aO=p.map .str++[.str x]:=by simp
theorem ON    (hp:oo pre p q) (hx:x∉pre) (hl:pre.length<900) (h0:0<=j) :
  ∃ p' q',oo (pre++[x]) p' q'/\ft (g9 (g2 (rB 7) (kI 3) H9)) (oR 4 (g2 (fj (J.ae (kI 0) (J.ae (kI 0) (J.ae (kI 1) J.aI))) .list) (rB 7) a_) (rS 6)) (fun ρ=>.ok (.nx ρ)) [a,b,c,d,o4 p q r t,e,.shr (.str x),.shr (.int j),f]=.ok (.nx [a,b,c,d,o4 p' q' r t,e,.shr (.str x),.shr (.int j),f]):=by
 by_cases h3:j<3
 ·obtain ⟨bo,e3⟩:=X3 j h0 h3;have lp:p.length<1000:=by have:=hp.sp.length_le;omega
  have lq:q.length<1000:=by have:=hp.sq.length_le;omega
  cases bo
  ·refine ⟨p,q++[x],hp.right x hx,?_⟩;walk_at "zz";rw [decide_eq_true h3];walk_at "zz";simp only [o4,vC];refine (Dr (j:=1) (ds:=q.map .str) (d:=.str x) rfl ?_ (by decide) rfl rfl (by rw [ao];exact lq)).trans rfl;walk_at "zz";rw [e3];rfl
  ·refine ⟨p++[x],q,hp.left x hx,?_⟩;walk_at "zz";rw [decide_eq_true h3];walk_at "zz";simp only [o4,vC];refine (Dr (j:=0) (ds:=p.map .str) (d:=.str x) rfl ?_ (by decide) rfl rfl (by rw [ao];exact lp)).trans rfl;walk_at "zz";rw [e3];rfl
 ·refine ⟨p,q,hp.skip x,?_⟩;walk_at "zz";rw [decide_eq_false h3];walk_at "zz"
theorem OO    (hp:oo pre r t) (hx:x∉pre) (hl:pre.length<900) (h0:0<=j) :
  ∃ r' t',oo (pre++[x]) r' t'/\ft (g9 (g2 (rB 7) (kI 4) H9)) (oR 4 (g2 (fj (J.ae (kI 2) (J.ae (kI 2) (J.ae (kI 3) (J.ae (kI 3) J.aI)))) .list) (rB 7) a_) (rS 6)) (fun ρ=>.ok (.nx ρ)) [a,b,c,d,o4 p q r t,e,.shr (.str x),.shr (.int j),f]=.ok (.nx [a,b,c,d,o4 p q r' t',e,.shr (.str x),.shr (.int j),f]):=by
 by_cases h3:j<4
 ·obtain ⟨bo,e3⟩:=X4 j h0 h3;have lp:r.length<1000:=by have:=hp.sp.length_le;omega
  have lq:t.length<1000:=by have:=hp.sq.length_le;omega
  cases bo
  ·refine ⟨r,t++[x],hp.right x hx,?_⟩;walk_at "zz";rw [decide_eq_true h3];walk_at "zz";simp only [o4,vC];refine (Dr (j:=3) (ds:=t.map .str) (d:=.str x) rfl ?_ (by decide) rfl rfl (by rw [ao];exact lq)).trans rfl;walk_at "zz";rw [e3];rfl
  ·refine ⟨r++[x],t,hp.left x hx,?_⟩;walk_at "zz";rw [decide_eq_true h3];walk_at "zz";simp only [o4,vC];refine (Dr (j:=2) (ds:=r.map .str) (d:=.str x) rfl ?_ (by decide) rfl rfl (by rw [ao];exact lp)).trans rfl;walk_at "zz";rw [e3];rfl
 ·refine ⟨r,t,hp.skip x,?_⟩;walk_at "zz";rw [decide_eq_false h3];walk_at "zz"
theorem X5 (i:Nat) (ρ:aD):Ra i ρ=.ok (.nx ((clear2 ρ).set i (.ow2 [[],[],[],[]]))):=id rfl
theorem oo.sub (up:fs.Pairwise fun a b=>qC a b=true) (h:oo fs p q):ng fs p/\ng fs q:=⟨⟨up.sublist h.sp,fun x hx=>h.sp.subset hx⟩,⟨up.sublist h.sq,fun x hx=>h.sq.subset hx⟩⟩
theorem OP (p:List Str) (ρ:aD):(c8 (J.ae (rB 0) J.aI) (iD fk)) (.shr (.list (p.map .str))::ρ)=.ok (aB p):=by
 walk_at "zz";rw [e6]
theorem X6 (p q r t:List Str):hG (iE 1 [Sl.no] kT (c8 (J.ae (rB 0) J.aI) (iD fk))) [.list (p.map .str),.list (q.map .str),.list (r.map .str),.list (t.map .str)]=.ok [aB p,aB q,aB r,aB t] :=
 dq _ (fun ss:List Str=>dk (ss.map .str)) (fun ss=>aB ss) [p,q,r,t] fun ss hs=>fh rfl (OP ss _)
theorem Lf (ns:List Int) (k:Int) (hk:0<=k) (fs:List Str) (hf:∀ x∈fs,zC x=true) (up:fs.Pairwise fun a b=>qC a b=true) (nd:fs.Nodup) (hl:fs.length<=6) (nm:Str) (hn:zC nm=true) :
  ∃ e,j6 [.list (ns.map .int),.int k,aB fs,.str nm]=.ok (cG e)/\rM fs e/\e.name=nm:=by
 have p0:=fG ns k 5 (by decide);have p1:=gH ns k 5 (by decide);have go:∀ ρ:aD,ρ=[.shr (.list (ns.map .int)),.shr (.int k),.shr (aB fs),.shr (.str nm),.no,.no,.no,.no,.no]->(!decide (fs=[])&&decide (fF ns 97 2=0))=false->∃ e,j5 ρ=.ok (.rt (cG e))/\rM fs e/\e.name=nm:=by
  rintro ρ rfl hc;obtain ⟨ρ',h1,p,q,r,t,h2,h3,h4⟩:∃ ρ',(rF (He (J.ae (rS 2) J.aI)) (oh 2 (da (cb 5) (da (cb 6) pK))) (aX (gP 7 (dU 3 bj (J.ae (rS 0) (J.ae (g2 (g2 (rB 1) (kI 10) ef) (rB 5) ef) (J.ae (kI 8) J.aI))))) (aX (ft (g9 (g2 (rB 7) (kI 3) H9)) (oR 4 (g2 (fj (J.ae (kI 0) (J.ae (kI 0) (J.ae (kI 1) J.aI))) .list) (rB 7) a_) (rS 6)) (fun ρ=>.ok (.nx ρ))) (aX (gP 7 (dU 3 bj (J.ae (rS 0) (J.ae (g2 (g2 (rB 1) (kI 20) ef) (rB 5) ef) (J.ae (kI 8) J.aI))))) (ft (g9 (g2 (rB 7) (kI 4) H9)) (oR 4 (g2 (fj (J.ae (kI 2) (J.ae (kI 2) (J.ae (kI 3) (J.ae (kI 3) J.aI)))) .list) (rB 7) a_) (rS 6)) (fun ρ=>.ok (.nx ρ))))))) [.shr (.list (ns.map .int)),.shr (.int k),.shr (aB fs),.shr (.str nm),o4 [] [] [] [],.no,.no,.no,.no]=.ok (.nx ρ')/\∃ p q r t,oo fs p q/\oo fs r t/\∃ z5 z6 z7,ρ'=[.shr (.list (ns.map .int)),.shr (.int k),.shr (aB fs),.shr (.str nm),o4 p q r t,z5,z6,z7,.no]:=by
   rw [tQ (ds:=(nO 0 fs).map cI)]
   ·have H:=rL cI (fun (a:Unit) (_:Nat×Str)=>a) (fun cp _ ρ=>∃ pre,pre++cp.map (·.2)=fs/\∃ p q r t,oo pre p q/\oo pre r t/\∃ z5 z6 z7,ρ=[.shr (.list (ns.map .int)),.shr (.int k),.shr (aB fs),.shr (.str nm),o4 p q r t,z5,z6,z7,.no]) (kt:=oh 2 (da (cb 5) (da (cb 6) pK))) (gb:=(aX (gP 7 (dU 3 bj (J.ae (rS 0) (J.ae (g2 (g2 (rB 1) (kI 10) ef) (rB 5) ef) (J.ae (kI 8) J.aI))))) (aX (ft (g9 (g2 (rB 7) (kI 3) H9)) (oR 4 (g2 (fj (J.ae (kI 0) (J.ae (kI 0) (J.ae (kI 1) J.aI))) .list) (rB 7) a_) (rS 6)) (fun ρ=>.ok (.nx ρ))) (aX (gP 7 (dU 3 bj (J.ae (rS 0) (J.ae (g2 (g2 (rB 1) (kI 20) ef) (rB 5) ef) (J.ae (kI 8) J.aI))))) (ft (g9 (g2 (rB 7) (kI 4) H9)) (oR 4 (g2 (fj (J.ae (kI 2) (J.ae (kI 2) (J.ae (kI 3) (J.ae (kI 3) J.aI)))) .list) (rB 7) a_) (rS 6)) (fun ρ=>.ok (.nx ρ)))))));obtain ⟨ρ',h1,pre,h2,p,q,r,t,h3,h4,h5⟩:=H (by
     rintro ⟨i,x⟩ cp _ ρ ⟨pre,h2,p,q,r,t,h3,h4,z5,z6,z7,rfl⟩;have hx:x∉pre:=by
      rw [<- h2,av] at nd;have:=(List.nodup_append.mp nd).2.2;intro hx;exact this x hx x ak rfl
     have hpl:pre.length<900:=by
      have:=congrArg lQ h2;rw [aR] at this;omega
     obtain ⟨p',q',k1,k2⟩:=ON (a:=.shr (.list (ns.map .int))) (b:=.shr (.int k)) (c:=.shr (aB fs)) (d:=.shr (.str nm)) (e:=.shr (.int (i:Nat))) (f:=.no) (r:=r) (t:=t) (j:=fF ns (k+10+i) 8) h3 hx hpl (fG _ _ _ (by decide));obtain ⟨r',t',k3,k4⟩:=OO (a:=.shr (.list (ns.map .int))) (b:=.shr (.int k)) (c:=.shr (aB fs)) (d:=.shr (.str nm)) (e:=.shr (.int (i:Nat))) (f:=.no) (p:=p') (q:=q') (j:=fF ns (k+20+i) 8) h4 hx hpl (fG _ _ _ (by decide));refine ⟨[.shr (.list (ns.map .int)),.shr (.int k),.shr (aB fs),.shr (.str nm),o4 p q r t,.shr (.int (i:Nat)),.shr (.str x),z7,.no],[.shr (.list (ns.map .int)),.shr (.int k),.shr (aB fs),.shr (.str nm),o4 p' q' r' t',.shr (.int (i:Nat)),.shr (.str x),.shr (.int (fF ns (k+20+i) 8)),.no],rfl,?_,pre++[x],?_,p',q',r',t',k1,k3,_,_,_,rfl⟩
     ·rw [zo,ND];walk_at "yy";rw [fH ns _ 8 (by omega) (by decide)];walk_at "yy";rw [k2];walk_at "yy";rw [fH ns _ 8 (by omega) (by decide)];walk_at "yy";rw [k4]
     ·rw [<- h2];simp) (nO 0 fs) () [.shr (.list (ns.map .int)),.shr (.int k),.shr (aB fs),.shr (.str nm),o4 [] [] [] [],.no,.no,.no,.no] ⟨[],by rw [sQ];rfl,[],[],[],[],⟨eO _,eO _,fun _ h=>nomatch h⟩,⟨eO _,eO _,fun _ h=>nomatch h⟩,_,_,_,rfl⟩
    refine ⟨ρ',h1,p,q,r,t,?_,?_,h5⟩
    ·simp only [du,cS] at h2;rw [<- h2];exact h3
    ·simp only [du,cS] at h2;rw [<- h2];exact h4
   ·walk_at "zz";rw [yu]
  obtain ⟨s1,s2⟩:=h2.sub up;obtain ⟨s3,s4⟩:=h3.sub up;obtain ⟨z5,z6,z7,rfl⟩:=h4;refine ⟨⟨nm,p,q,r,t,fF ns k 5⟩,?_,⟨hn,s1,s2,s3,s4,h2.d,h3.d,p0,by show fF ns k 5<=9;omega⟩,rfl⟩;unfold j5;have hand:GX (g9 (g2 (rB 2) (fj J.aI .tuple) (pJ true))) (g9 (g2 (dU 3 bj (J.ae (rS 0) (J.ae (kI 97) (J.ae (kI 2) J.aI)))) (kI 0) (pJ false))) [.shr (.list (ns.map .int)),.shr (.int k),.shr (aB fs),.shr (.str nm),.no,.no,.no,.no,.no]=.ok false:=by
   walk_at "zz";rw [JH fs hf];walk_at "zz";by_cases h:fs=[]
   ·simp only [h,decide_true,jE,cond_false]
   ·simp only [h,decide_false,jg,cond_true,uU] at hc ⊢;rw [fH ns 97 2 (by decide) (by decide)];walk_at "zz";rw [mM];walk_at "zz";rw [hc]
  rw [zo,Ws,hand];simp only [zm,NB,X5,clear2,av,du,vY,vX,zm,vo,zo];rw [show Sl.ow2 [[],[],[],[]]=o4 [] [] [] [] from rfl,h1];walk_at "zz";rw [X6];walk_at "zz";rw [Tl];walk_at "zz";rw [Tn];walk_at "zz";rw [To];walk_at "zz";rw [Tp];walk_at "zz";rw [fH ns k 5 hk (by decide)];walk_at "zz";rfl
 by_cases hc:(!decide (fs=[])&&decide (fF ns 97 2=0))=true
 ·have h0:0<fs.length:=by
   rcases fs with _|⟨x,r⟩
   ·simp at hc
   ·simp
  obtain ⟨e,h1,h2⟩:=RF ns k hk fs hf h0 nm hn;refine ⟨e,?_,h2⟩;unfold j6;refine cj ?_;unfold j5 bv;walk_at "zz";rw [JH fs hf];walk_at "zz";simp only [aS] at hc;rw [hc.1];walk_at "zz";rw [fH ns 97 2 (by decide) (by decide)];walk_at "zz";rw [mM];walk_at "zz";rw [hc.2];walk_at "zz";rw [h1];walk_at "zz"
 ·obtain ⟨e,h1,h2⟩:=go _ rfl (Bool.eq_false_iff.mpr hc);exact ⟨e,by unfold j6;exact cj h1,h2⟩
theorem OQ (ds:List D) (t:Nat) (h:t<=ds.length):AU ds (some (t:Int)) none=ds.drop t:=by
 unfold AU;rw [HT.IA,HT.E8,mB h,kA (by rw [y8];exact aq _)]
theorem U_ (ds:List D) (t:Nat) (h:t<=ds.length):AU ds none (some (t:Int))=ds.take t:=by
 unfold AU;rw [HT.IA,HT.E8,mB h,List.drop_zero,Nat.sub_zero]
theorem X7 (ds:List D) (t:Nat) (h:t<=ds.length):Hc (.list ds) (some (t:Int)) none=.ok (.list (ds.drop t)):=by
 rw [<- OQ ds t h];rfl
theorem X8 (ds:List D) (t:Nat) (h:t<=ds.length):Hc (.list ds) none (some (t:Int))=.ok (.list (ds.take t)):=by
 rw [<- U_ ds t h];rfl
theorem V1 (nd:(l.map (·.1)).Nodup) (hp:p∈l):a_ (.dict (m9 l)) (.str p.1)=.ok p.2:=by
 have e:∀ kvs x,a_ (.dict kvs) (.str x)=if il kvs=true then (match lU kvs (.str x) with
   |some d=>.ok d
   |none=>.no) else .no:=fun _ _=>rfl
 rw [e,if_pos (zD l)];have:lU (m9 l) (.str p.1)=some p.2:=by
  unfold lU m9;clear e;induction l with
  |nil=>cases hp
  |cons q r ih =>
   rw [av] at nd;obtain ⟨n1,n2⟩:=List.nodup_cons.mp nd;rw [av,bI,sP];rcases List.mem_cons.mp hp with h|h
   ·subst h;simp
   ·have:q.1≠p.1:=fun z=>n1 (z ▸ bn h)
    rw [decide_eq_false this];exact ih n2 h
 rw [this]
structure eM (fs:List Str) (es:List hJ):Prop where
 rise:OK fs 6
 len:es.length<=6
 nd:(es.map (·.name)).Nodup
 ok:∀ e∈es,rM fs e
def dX (fs:List Str) (es:List hJ):D:=.tuple [aB fs,.tuple (es.map cG)]
theorem X9 (fs:List Str):∀ (l:List (Str×D)),(∀ p∈l,∃ e,p.2=cG e/\rM fs e/\e.name=p.1)->∃ es:List hJ,l.map (·.2)=es.map cG/\es.map (·.name)=l.map (·.1)/\∀ e∈es,rM fs e
 |[],_=>⟨[],rfl,rfl,fun _ h=>nomatch h⟩
 |p::r,h=>by
  obtain ⟨e,h1,h2,h3⟩:=h p ak;obtain ⟨es,k1,k2,k3⟩:=X9 fs r fun q hq=>h q (ai _ hq);refine ⟨e::es,by rw [av,av,h1,k1],by rw [av,av,h3,k2],fun x hx=>?_⟩;rcases List.mem_cons.mp hx with z|z
  ·rw [z];exact h2
  ·exact k3 x z
theorem Lg {α:Type} (l:List α) (t:Nat):(l.drop t++l.take t).Perm l:=by
 refine List.perm_append_comm.trans ?_;rw [gq]
theorem lB {l:List Str} (h:l.Pairwise fun a b=>qC a b=true):l.Nodup:=h.imp fun hab z=>by
 rw [z,uc] at hab;cases hab
theorem RG (ns:List Int) (k:Int) (hk:0<=k) (m n:Int) (hm0:0<=m) (hm:m<=6) (hn0:0<=n) (hn:n<=6):∃ fs es,mK [.list (ns.map .int),.int k,.int m,.int n]=.ok (dX fs es)/\eM fs es/\fs.length<=m.toNat/\es.length<=n.toNat:=by
 have hr:=Hm ns k m hm0;generalize hfs:Do ns k m=fs at hr;have hrl:=hr.len;have hr:OK fs 6:=⟨hr.ok,hr.up,by have:=hr.len;omega⟩;have nd:=lB hr.up;have m0:=fG ns (k+60) (n+1) (by omega);have m1:=gH ns (k+60) (n+1) (by omega);suffices H:∃ es,mK [.list (ns.map .int),.int k,.int m,.int n]=.ok (dX fs es)/\eM fs es/\es.length<=n.toNat from H.elim fun es h=>⟨fs,es,h.1,h.2.1,hrl,h.2.2⟩
 unfold mK;suffices H:∃ es,mJ (bv 10 [.list (ns.map .int),.int k,.int m,.int n])=.ok (.rt (dX fs es))/\eM fs es/\es.length<=n.toNat from H.elim fun es h=>⟨es,cj h.1,h.2⟩
 have H:=rL (fun (i:Nat)=>eK i) (fun (a:Unit) (_:Nat)=>a) (fun cp _ ρ=>∃ l,l.length+cp.length<=n.toNat/\(l.map (·.1)).Nodup/\(∀ p∈l,∃ e,p.2=cG e/\rM fs e/\e.name=p.1)/\∃ z6 z7,ρ=[.shr (.list (ns.map .int)),.shr (.int k),.shr (.int m),.shr (.int n),.shr (aB fs),.own (.dict (m9 l)),z6,z7,.no,.no]) (kt:=cb 6) (gb:=aX (gP 7 (dU 2 kJ (J.ae (rS 0) (J.ae (g2 (g2 (rB 1) (kI 70) ef) (g2 (kI 40) (rB 6) xS) ef) J.aI)))) (D7 5 (rS 7) (dU 4 j6 (J.ae (rS 0) (J.ae (g2 (g2 (rB 1) (kI 80) ef) (g2 (kI 40) (rB 6) xS) ef) (J.ae (rS 4) (J.ae (rS 7) J.aI)))))));obtain ⟨ρ',h1,l,h2,h3,h4,z6,z7,h5⟩:=H (by
  rintro i cp _ ρ ⟨l,h2,h3,h4,z6,z7,rfl⟩;simp only [aP] at h2;have hw:=F9 ns (k+70+40*(i:Int));obtain ⟨e,e1,e2,e3⟩:=Lf ns (k+80+40*(i:Int)) (by omega) fs hr.ok hr.up nd hr.len (lA ns (k+70+40*(i:Int))) hw;have pl:=Fa l (lA ns (k+70+40*(i:Int))) (cG e);refine ⟨[.shr (.list (ns.map .int)),.shr (.int k),.shr (.int m),.shr (.int n),.shr (aB fs),.own (.dict (m9 l)),.shr (.int i),z7,.no,.no],[.shr (.list (ns.map .int)),.shr (.int k),.shr (.int m),.shr (.int n),.shr (aB fs),.own (.dict (m9 (vB l (lA ns (k+70+40*(i:Int))) (cG e)))),.shr (.int i),.shr (.str (lA ns (k+70+40*(i:Int)))),.no,.no],rfl,?_,vB l (lA ns (k+70+40*(i:Int))) (cG e),by omega,?_,?_,_,_,rfl⟩
  ·walk_at "zz";rw [sO (by decide) (by decide)];walk_at "zz";rw [JD ns _ (by omega)];walk_at "zz";refine (Ti (l:=l) (x:=lA ns (k+70+40*(i:Int))) (d:=cG e) rfl ?_ rfl (by omega)).trans rfl;walk_at "zz";rw [sO (by decide) (by decide)];walk_at "zz";exact e1
  ·rw [BX];exact Lc h3
  ·exact OJ (Q:=fun x d=>∃ e,d=cG e/\rM fs e/\e.name=x) h4 ⟨e,rfl,e2,e3⟩) (bx (fF ns (k+60) (n+1)).toNat) () [.shr (.list (ns.map .int)),.shr (.int k),.shr (.int m),.shr (.int n),.shr (aB fs),.own (.dict (m9 [])),.no,.no,.no,.no] ⟨[],by rw [fo];simp only [bJ];omega,gd,fun _ h=>(nomatch h),_,_,rfl⟩
 simp only [bJ,m_] at h2;have t0:=fG ns (k+61) ((l.length:Int)+1) (by omega);have t1:=gH ns (k+61) ((l.length:Int)+1) (by omega);obtain ⟨t,ht⟩:∃ t:Nat,fF ns (k+61) ((l.length:Int)+1)=t:=⟨_,(eC t0).symm⟩;have tl:t<=l.length:=by omega
 have pm:=Lg l t;obtain ⟨es,k1,k2,k3⟩:=X9 fs (l.drop t++l.take t) fun p hp=>h4 p (pm.mem_iff.mp hp);have kl:es.length=l.length:=by
  have:=congrArg lQ k1;rw [ao,ao,pm.length_eq] at this;exact this.symm
 refine ⟨es,?_,⟨hr,by omega,?_,k3⟩,by omega⟩
 ·unfold mJ bv;walk_at "yy";rw [OM ns k m hk hm0 (by omega),hfs];walk_at "yy";rw [tQ (ds:=(bx (fF ns (k+60) (n+1)).toNat).map fun (i:Nat)=>eK i)]
  ·rw [show G9 []=G9 (m9 []) from rfl,h1,h5];walk_at "yy";rw [Fb];walk_at "yy";rw [fH ns _ _ (by omega) (by omega),ht];walk_at "yy";clear H h1;rw [X7 _ t (by simpa using tl)];walk_at "yy";rw [X8 _ t (by simpa using tl)];walk_at "yy";have e1:(List.drop t (lR aO (lR (fun x=>x.fst) l))++List.take t (lR aO (lR (fun x=>x.fst) l)))=(l.drop t++l.take t).map fun p=>aO p.1:=by
    rw [c7,List.map_drop,List.map_take,ca];rfl
   rw [e1,if_pos (by rw [<- aR,e1,ao,pm.length_eq];omega)];have pl:=pm.length_eq;have px:∀ p∈l.drop t++l.take t,p∈l:=fun p hp=>pm.mem_iff.mp hp;clear e1 pm k2;generalize l.drop t++l.take t=L at pl px k1 ⊢;walk_at "yy";rw [if_pos (by omega)];rw [dq _ (fun p:Str×D=>aO p.1) (fun p=>p.2) L fun p hp=>fh rfl (by
    walk_at "yy";exact V1 h3 (px p hp))]
   walk_at "yy";rw [e6];walk_at "yy";rw [k1];rfl
  ·walk_at "yy";rw [fH ns (k+60) (n+1) (by omega) (by omega)];walk_at "yy";have:=yq (fF ns (k+60) (n+1)).toNat (by omega);rw [eC m0] at this;exact this
 ·rw [k2];exact ((pm.map _).nodup_iff).mpr h3
theorem BY {α:Type} (b:α->Bool):∀ xs:List α,nz (xs.map fun x=>cU (b x))=some (xs.map b)
 |[]=>rfl
 |x::r=>by
  show (nz (r.map fun x=>cU (b x))).map (b x::·)=_;rw [BY b r];rfl
theorem jv {α:Type} (k:List Bool->Bool) (b:α->Bool) (xs:List α):g_ k (.list (xs.map fun x=>cU (b x)))=.ok (.bool (k (xs.map b))):=by
 have e:∀ ds,g_ k (.list ds)=match nz ds with
  |some bs=>.ok (.bool (k bs))
  |none=>.no:=fun _=>rfl
 rw [e,BY]
theorem OR     (h1:gt (.shr d::.shr d'::ρ)=.ok true) (h2:ge (.shr d::.shr d'::ρ)=.ok y):iE 2 (s::s'::ρ) gt ge (.tuple [d,d'])=.ok (some y):=by
 have e:iE 2 (s::s'::ρ) gt ge (.tuple [d,d'])=yZ ((gt (.shr d::.shr d'::ρ)).bind fun b=>if b then (ge (.shr d::.shr d'::ρ)).bind fun y=>.ok (some y) else .ok none):=id rfl;rw [e,h1,bind_ok,if_pos rfl,h2];rfl
theorem OS (x:Str):rj (.str x)=true:=id rfl
theorem OT (i:Int):rj (.int i)=true:=id rfl
theorem yv {α:Type} (c:α->D) (h:∀ x,rj (c x)=true):∀ xs:List α,noDs (xs.map c)=true
 |[]=>rfl
 |x::r=>by
  show (rj (c x)&&noDs (r.map c))=true;rw [h x,yv c h r];rfl
theorem OU (xs:List D):rj (.tuple xs)=noDs xs:=id rfl
theorem nP (xs:List Str):rj (aB xs)=true:=by
 rw [OU];exact yv _ (fun _=>rfl) xs
theorem JJ (e:hJ):rj (cG e)=true:=by
 have:rj (cG e)=(true&&(rj (aB e.needs)&&(rj (aB e.bars)&&(rj (aB e.makes)&&(rj (aB e.ends)&&(true&&true)))))):=rfl
 rw [this,nP,nP,nP,nP];rfl
theorem Tq (es:List hJ):rj (.tuple (es.map cG))=true:=by
 rw [OU];exact yv _ JJ es
theorem RH (fs:List Str) (es:List hJ):rj (dX fs es)=true:=by
 have:rj (dX fs es)=(rj (aB fs)&&(rj (.tuple (es.map cG))&&true)):=rfl
 rw [this,nP,Tq];rfl
theorem OV (x:Str):C_ "str" (.str x)=true:=id rfl
theorem zK (x:List D):C_ "tuple" (.tuple x)=true:=id rfl
theorem V2 (x:Int):C_ "int" (.int x)=true:=id rfl
theorem V3 (x:Int):C_ "bool" (.int x)=false:=id rfl
theorem RI:∀ c:_root_.Fin 123,97<=c.val->(!qC ⟨#[c.val]⟩ "a")=true/\(!qC "z" ⟨#[c.val]⟩)=true:=by decide +kernel
theorem BZ (h:zC x=true):oX [.str x]=.ok (.bool true):=by
 have hw:=h;unfold zC at h;simp only [aS,decide_eq_true_eq,cf] at h;obtain ⟨⟨h1,h2⟩,h3⟩:=h;have hl:x.length=x.cps.size:=rfl;unfold oX;refine cj ?_;unfold sD bv;walk_at "zz";rw [OS,OV];walk_at "zz";rw [if_pos (by omega)];walk_at "zz";rw [decide_eq_true (by omega)];walk_at "zz";rw [decide_eq_true (by omega)];walk_at "zz";unfold og;walk_at "zz";rw [if_pos (by rw [ap];omega)];rw [dq _ (fun c:Nat=>aO ⟨#[c]⟩) (fun _=>cU true) x.cps.toList fun c hc=>fh rfl (by
  obtain ⟨a1,a2⟩:=h3 c hc;obtain ⟨b1,b2⟩:=RI ⟨c,by omega⟩ a1;walk_at "zz";simp only at b1 b2;rw [b1];walk_at "zz";rw [b2])]
 walk_at "zz";rw [jv _ (fun _=>true)];walk_at "zz";simp
theorem Fd:∀ (xs ys:List Str),xT (xs.map .str) (ys.map .str)=(xs.zip ys).map fun p=>fK [.str p.1,.str p.2]
 |[],_=>rfl
 |_::_,[]=>rfl
 |x::r,y::r'=>by
  show fK [.str x,.str y]::xT (r.map .str) (r'.map .str)=_;rw [Fd r r'];rfl
theorem OW:∀ {l:List Str},(l.Pairwise fun a b=>qC a b=true)->∀ p∈l.zip (l.drop 1),qC p.1 p.2=true
 |[],_,p,hp=>by cases hp
 |[_],_,p,hp=>by cases hp
 |a::b::r,h,p,hp=>by
  obtain ⟨h1,h2⟩:=List.pairwise_cons.mp h;rcases List.mem_cons.mp hp with z|z
  ·rw [z];exact h1 b ak
  ·exact OW h2 p z
theorem RJ (xs:List Str):Hc (aB xs) (some 1) none=.ok (aB (xs.drop 1)):=by
 have e:Hc (aB xs) (some 1) none=.ok (.tuple (AU (xs.map .str) (some 1) none)):=rfl;rw [e];cases xs with
 |nil=>rfl
 |cons x r =>
  rw [show (1:Int)=((1:Nat):Int) from rfl,OQ _ 1 (by simp)];rfl
theorem xu (hw:∀ x∈xs,zC x=true) (up:xs.Pairwise fun a b=>qC a b=true) (hl:xs.length<=6):fW [aB xs]=.ok (.bool true):=by
 unfold fW;refine cj ?_;unfold ic bv;walk_at "zz";rw [nP,zK];walk_at "zz";rw [if_pos (by omega)];rw [dq _ (fun x:Str=>aO x) (fun _=>cU true) xs fun x hx=>fh rfl (by
  walk_at "zz";rw [BZ (hw x hx)])]
 walk_at "zz";rw [jv _ (fun _=>true)];walk_at "zz";rw [show ((xs.map fun _=>true).all id)=true by simp];walk_at "zz";rw [RJ];walk_at "zz";rw [Fd];walk_at "zz";rw [if_pos (by simp;omega)];rw [dq _ (fun p:Str×Str=>fK [.str p.1,.str p.2]) (fun _=>cU true) (xs.zip (xs.drop 1)) fun p hp=>OR rfl (by
  walk_at "zz";rw [OW up p hp])]
 walk_at "zz";rw [jv _ (fun _=>true)];walk_at "zz";simp
theorem iT (hw:∀ x∈fs,zC x=true) (h:ng fs xs) (hl:xs.length<=6):eX [aB fs,aB xs]=.ok (.bool true):=by
 unfold eX;refine cj ?_;unfold nD bv;walk_at "zz";rw [xu (fun x hx=>hw x (h.mem x hx)) h.up hl];walk_at "zz";rw [if_pos (by omega)];rw [dq _ (fun x:Str=>aO x) (fun _=>cU true) xs fun x hx=>fh rfl (by
  walk_at "zz";rw [om,decide_eq_true (h.mem x hx)];rfl)]
 walk_at "zz";rw [jv _ (fun _=>true)];walk_at "zz";simp
theorem wH (h:∀ x∈xs,x∉ys) (hl:xs.length<=6):eR [aB xs,aB ys]=.ok (.bool true):=by
 unfold eR;refine cj ?_;unfold kg bv;walk_at "zz";rw [if_pos (by omega)];rw [dq _ (fun x:Str=>aO x) (fun _=>cU false) xs fun x hx=>fh rfl (by
  walk_at "zz";rw [om,decide_eq_false (h x hx)];rfl)]
 walk_at "zz";rw [jv _ (fun _=>false)];walk_at "zz";simp
theorem Ho (h0:l<=i) (h1:i<=m):pQ [.int i,.int l,.int m]=.ok (.bool true):=by
 unfold pQ;refine cj ?_;unfold pP bv;walk_at "zz";rw [OT,V2];walk_at "zz";rw [OT,V3];walk_at "zz";rw [decide_eq_true h0];walk_at "zz";rw [decide_eq_true h1]
theorem Ds:∀ (xs fs:List Str),xs.Nodup->(∀ x∈xs,x∈fs)->xs.length<=fs.length
 |[],_,_,_=>cJ _
 |x::r,fs,nd,h=>by
  obtain ⟨n1,n2⟩:=List.nodup_cons.mp nd;have hx:=h x ak;have:=Ds r (fs.erase x) n2 fun y hy=>(Iv fun (z:y=x)=>n1 (z ▸ hy)).mpr (h y (ai _ hy));rw [DV hx] at this;have:0<fs.length:=Gc hx
  rw [aP];omega
theorem fJ (h:ng fs xs) (hl:fs.length<=6):xs.length<=6:=by
 exact ck (Ds xs fs (lB h.up) h.mem) hl
theorem YA (a b c d e f g:D):O7 (oh 6 (da (cb 2) (da (cb 3) (da (cb 4) (da (cb 5) (da (cb 6) (da (cb 7) pK))))))) [Sl.shr a,Sl.shr (.tuple [b,c,d,e,f,g]),.no,.no,.no,.no,.no,.no] (.tuple [b,c,d,e,f,g])=.ok (.nx [Sl.shr a,Sl.shr (.tuple [b,c,d,e,f,g]),.shr b,.shr c,.shr d,.shr e,.shr f,.shr g]):=id rfl
theorem Fe (hr:OK fs 6) (g:rM fs e):nF [aB fs,cG e]=.ok (.bool true):=by
 have l1:=fJ g.needs hr.len;have l2:=fJ g.bars hr.len;have l3:=fJ g.makes hr.len;have l4:=fJ g.ends hr.len;unfold nF;refine cj ?_;unfold nE bv;walk_at "zz";rw [JJ];unfold cG;walk_at "zz";rw [zK];walk_at "zz";rw [mM];walk_at "zz";rw [show decide (((6:Nat):Int)=6)=true from rfl];walk_at "zz";rw [YA]
 ·walk_at "zz";rw [BZ g.name];walk_at "zz";rw [Ho g.p0 g.p9];walk_at "zz";have pk:=dq (iE 1 [Sl.no,Sl.shr (aB fs)] kT (dU 2 eX (J.ae (rS 1) (J.ae (rS 0) J.aI)))) (fun x:List Str=>aB x) (fun _=>cU true) [e.needs,e.bars,e.makes,e.ends] fun x hx=>fh rfl (by
   walk_at "zz";simp only [aZ,bi,or_false] at hx;rcases hx with z|z|z|z<;>rw [z]
   ·rw [iT hr.ok g.needs l1]
   ·rw [iT hr.ok g.bars l2]
   ·rw [iT hr.ok g.makes l3]
   ·rw [iT hr.ok g.ends l4])
  simp only [av,du] at pk;rw [pk];walk_at "zz";rw [show g_ (fun bs=>bs.all id) (.list [.bool true,.bool true,.bool true,.bool true])=.ok (.bool true) from rfl];walk_at "zz";rw [wH g.nb l1];walk_at "zz";rw [wH g.me l3];walk_at "zz"
theorem OX (l:List Str) (nd:l.Nodup):(dn [] l).length=l.length:=by
 have h1:=Ds (dn [] l) l (iQ l [] gd) fun x hx=>((iZ l [] x).mp hx).elim (fun h=>nomatch h) id;have h2:=Ds l (dn [] l) nd fun x hx=>(iZ l [] x).mpr (.inr hx);omega
theorem Lh (es:List hJ) (hl:es.length<=6) (nd:(es.map (·.name)).Nodup) (s:Sl) (ρ:aD) (h:(s::ρ)[2]?=some (.shr (.tuple (es.map cG)))):vn (wC 1 [] (k7 (rB 2)) kT (g2 (rB 0) (kI 0) a_)) (s::ρ)=.ok (.int (es.length:Nat)):=by
 have hr:Gg (s::ρ) 2=.ok (.tuple (es.map cG)):=by unfold Gg;rw [h]
 unfold vn wC;rw [UD,UM,hr];walk_at "zz";rw [if_pos (by omega)];rw [dq _ cG (fun e=>aO e.name) es fun e he=>fh rfl (by
  walk_at "zz";rfl)]
 walk_at "zz";have:(es.map fun e=>aO e.name)=(es.map (·.name)).map .str:=by rw [ca];rfl
 rw [this,strsOf_map];simp only [zm,OX _ nd,ao]
theorem YB (b c:D):O7 (oh 2 (da (cb 1) (da (cb 2) pK))) [Sl.shr (.tuple [b,c]),.no,.no] (.tuple [b,c])=.ok (.nx [Sl.shr (.tuple [b,c]),.shr b,.shr c]):=id rfl
theorem Li  (g:eM fs es):sG [dX fs es]=.ok (.bool true):=by
 have l1:=g.rise.len;have l2:=g.len;unfold sG;refine cj ?_;unfold sF bv;walk_at "zz";rw [RH];unfold dX;walk_at "zz";rw [zK];walk_at "zz";rw [mM];walk_at "zz";rw [show decide (((2:Nat):Int)=2)=true from rfl];walk_at "zz";rw [YB];walk_at "zz";rw [xu g.rise.ok g.rise.up l1];walk_at "zz";rw [decide_eq_false (by omega)];walk_at "zz";rw [Tq,zK];walk_at "zz";rw [decide_eq_false (by omega)];walk_at "zz";rw [if_pos (by omega)];rw [dq _ cG (fun _=>cU true) es fun e he=>fh rfl (by
  walk_at "zz";rw [Fe g.rise (g.ok e he)])]
 walk_at "zz";rw [jv _ (fun _=>true)];walk_at "zz";rw [show ((es.map fun _=>true).all id)=true by simp];walk_at "zz";rw [Lh es l2 g.nd _ _ rfl];walk_at "zz";rw [mM,decide_eq_true rfl];rfl
theorem zL  (g:eM fs es):oZ [dX fs es]=.ok (dX fs es):=by
 unfold oZ;refine cj ?_;unfold sK bv;walk_at "zz";rw [Li g];walk_at "zz"
theorem B_ {α:Type} (c:α->D) (h:∀ x,aY (c x) (c x)=true):∀ xs:List α,eU (xs.map c) (xs.map c)=true
 |[]=>by simp [eU]
 |x::r=>by simp [eU,h x,B_ c h r]
theorem OY (xs:List Str):aY (aB xs) (aB xs)=true:=by
 simp only [aY];exact B_ _ (fun x=>by rw [sP];simp) xs
theorem vD {α:Type} (c:α->D):∀ xs:List α,(∀ x∈xs,(c x).canLay0=true)->cc (xs.map c)=true
 |[],_=>rfl
 |x::r,h=>by
  have h1:=h x ak;have h2:=vD c r fun y hy=>h y (ai _ hy);simp only [av,cc,h1,h2,pv]
theorem sR {α:Type} (c:α->D) (n:Nat) (h:∀ x,(c x).depth<=n):∀ xs:List α,yg (xs.map c)<=n
 |[]=>by simp [yg]
 |x::r=>by
  simp only [av,yg];exact Nat.max_le.mpr ⟨h x,sR c n h r⟩
theorem pc (hf:∀ x∈fs,zC x=true) (h:ng fs xs):cc (xs.map .str)=true:=zJ xs fun x hx=>hf x (h.mem x hx)
theorem OZ (hf:∀ x∈fs,zC x=true) (g:rM fs e):(cG e).canLay0=true:=by
 unfold cG;simp only [dh,cc];have:=yt g.name;simp only [dh] at this;rw [pc hf g.needs,pc hf g.bars,pc hf g.makes,pc hf g.ends,this];rfl
theorem Ff     (hi:ρ[i]?=some (Sl.own (.list ds))) (hg:g ρ=.ok d) (hl:ds.length<1000):rG i g ρ=.ok (.nx (ρ.set i (.own (.list (ds++[d]))))):=by
 unfold rG;simp only [hi,hg,bind_ok,if_pos hl]
theorem O_      (h1:gt (.shr d::.shr d'::ρ)=.ok b) (h2:b=true->ge (.shr d::.shr d'::ρ)=.ok y):iE 2 (s::s'::ρ) gt ge (.tuple [d,d'])=.ok (if b then some y else none):=by
 have e:iE 2 (s::s'::ρ) gt ge (.tuple [d,d'])=yZ ((gt (.shr d::.shr d'::ρ)).bind fun b=>if b then (ge (.shr d::.shr d'::ρ)).bind fun y=>.ok (some y) else .ok none):=id rfl;rw [e,h1,bind_ok];cases b with
 |true=>rw [if_pos rfl,h2 rfl];rfl
 |false=>rfl
theorem C0:∀ (xs:List Str) (n:Nat),(nO n xs).length=xs.length
 |[],_=>rfl
 |x::r,n=>by
  show (nO (n+1) r).length+1=r.length+1;rw [C0 r]
theorem JK (ns:List Int) (k:Int) (hk:0<=k) (fs:List Str) (hl:fs.length<=6) (m:Int):∃ ss:List Str,mI [.list (ns.map .int),.int k,aB fs,.int m]=.ok (aB ss)/\ss.Sublist fs:=by
 refine ⟨((nO 0 fs).filter fun q=>decide (fF ns (k+(q.1:Int)) 12<m)).map (·.2),?_,?_⟩
 ·unfold mI;refine cj ?_;unfold pS bv;walk_at "zz";rw [yu];walk_at "zz";rw [if_pos (by rw [C0];omega)];rw [eQ _ cI (fun q=>aO q.2) (fun q=>decide (fF ns (k+(q.1:Int)) 12<m)) (nO 0 fs) fun q hq=>O_ (by
   walk_at "zz";rw [fH ns _ 12 (by omega) (by decide)];walk_at "zz") fun _=>rfl]
  walk_at "zz";rw [e6];walk_at "zz";unfold aB;rw [ca];rfl
 ·have:=(jr (l:=nO 0 fs) (p:=fun q=>decide (fF ns (k+(q.1:Int)) 12<m))).map (·.2);rw [sQ] at this;exact this
theorem Dt (up:fs.Pairwise fun a b=>qC a b=true) (h:xs.Sublist fs):ng fs xs:=⟨up.sublist h,fun x hx=>h.subset hx⟩
def Tr (P:aD->Prop) (r:R Fl):Prop:=∃ ρ',r=.ok (.nx ρ')/\P ρ'
theorem Fg {α:Type}{kt:D->aD->R aD}{gb:aD->R Fl} (c:α->D) (p:α->Bool) (out:α->D) (P:aD->Prop):∀ (xs:List α) (ρ:aD),(∀ x∈xs,∀ ρ,P ρ->∃ ρ1,kt (c x) ρ=.ok ρ1/\(p x=true->gb ρ1=.ok (.rt (out x)))/\(p x=false->Tr P (gb ρ1)))->P ρ ->
  (∀ x,xs.find? p=some x->jo kt gb (xs.map c) ρ=.ok (.rt (out x)))/\(xs.find? p=none->Tr P (jo kt gb (xs.map c) ρ))
 |[],ρ,_,q=>⟨fun x h=>(nomatch h),fun _=>⟨ρ,rfl,q⟩⟩
 |x::r,ρ,h,q=>by
  obtain ⟨ρ1,h1,h2,h3⟩:=h x ak ρ q;rw [av,bI];unfold jo;rw [h1];cases hp:p x with
  |true =>
   refine ⟨fun y hy=>?_,fun hn=>nomatch hn⟩;cases hy;simp only [h2 hp]
  |false =>
   obtain ⟨ρ2,h4,h5⟩:=h3 hp;simp only [h4];exact Fg c p out P r ρ2 (fun y hy=>h y (ai _ hy)) h5
structure zM (fs m b:List Str):Prop where
 must:ng fs m
 bars:ng fs b
 mb:∀ x∈m,x∉b
abbrev oq (m b:List Str):D:=.tuple [aB m,aB b]
theorem JM (p:List Str) (x:Str):p.map aO++[aO x]=(p++[x]).map .str:=by simp
theorem RK (ns:List Int) (k:Int) (hk:0<=k) (fs:List Str) (up:fs.Pairwise fun a b=>qC a b=true) (hl:fs.length<=6):∃ m b,uj [.list (ns.map .int),.int k,aB fs]=.ok (oq m b)/\zM fs m b:=by
 have nd:=lB up;suffices H:∃ p q,mL (bv 8 [.list (ns.map .int),.int k,aB fs])=.ok (.rt (oq p q))/\oo fs p q by
  obtain ⟨p,q,h1,h2⟩:=H;exact ⟨p,q,cj h1,Dt up h2.sp,Dt up h2.sq,h2.d⟩
 unfold mL bv;walk_at "yy";rw [tQ (ds:=(nO 0 fs).map cI)]
 ·have H:=rL cI (fun (a:Unit) (_:Nat×Str)=>a) (fun cp _ ρ=>∃ pre,pre++cp.map (·.2)=fs/\∃ p q,oo pre p q/\∃ z5 z6 z7,ρ=[.shr (.list (ns.map .int)),.shr (.int k),.shr (aB fs),.own (.list (p.map .str)),.own (.list (q.map .str)),z5,z6,z7]) (kt:=oh 2 (da (cb 5) (da (cb 6) pK))) (gb:=aX (gP 7 (dU 3 bj (J.ae (rS 0) (J.ae (g2 (rB 1) (rB 5) ef) (J.ae (kI 8) J.aI))))) (ft (g9 (g2 (rB 7) (kI 2) H9)) (rG 3 (rS 6)) (ft (g9 (g2 (rB 7) (kI 2) (pJ false))) (rG 4 (rS 6)) (fun ρ=>.ok (.nx ρ)))));obtain ⟨ρ',h1,pre,h2,p,q,h3,z5,z6,z7,h4⟩:=H (by
   rintro ⟨i,x⟩ cp _ ρ ⟨pre,h2,p,q,h3,z5,z6,z7,rfl⟩;have hx:x∉pre:=by
    rw [<- h2,av] at nd;have:=(List.nodup_append.mp nd).2.2;intro hx;exact this x hx x ak rfl
   have hpl:pre.length<900:=by
    have:=congrArg lQ h2;rw [aR] at this;omega
   have lp:=h3.sp.length_le;have lq:=h3.sq.length_le;refine ⟨[.shr (.list (ns.map .int)),.shr (.int k),.shr (aB fs),.own (.list (p.map .str)),.own (.list (q.map .str)),.shr (.int (i:Nat)),.shr (.str x),z7],?_⟩;by_cases c1:fF ns (k+(i:Nat)) 8<2
   ·refine ⟨[.shr (.list (ns.map .int)),.shr (.int k),.shr (aB fs),.own (.list ((p++[x]).map .str)),.own (.list (q.map .str)),.shr (.int (i:Nat)),.shr (.str x),.shr (.int (fF ns (k+(i:Nat)) 8))],rfl,?_,pre++[x],by rw [<- h2];simp,_,_,h3.left x hx,_,_,_,rfl⟩;walk_at "zz";rw [fH ns _ 8 (by omega) (by decide)];walk_at "zz";rw [decide_eq_true c1];walk_at "zz";rw [<- JM];exact Ff (ds:=p.map .str) rfl rfl (by rw [ao];omega)
   ·by_cases c2:fF ns (k+(i:Nat)) 8=2
    ·refine ⟨[.shr (.list (ns.map .int)),.shr (.int k),.shr (aB fs),.own (.list (p.map .str)),.own (.list ((q++[x]).map .str)),.shr (.int (i:Nat)),.shr (.str x),.shr (.int (fF ns (k+(i:Nat)) 8))],rfl,?_,pre++[x],by rw [<- h2];simp,_,_,h3.right x hx,_,_,_,rfl⟩;walk_at "zz";rw [fH ns _ 8 (by omega) (by decide)];walk_at "zz";rw [decide_eq_false c1];walk_at "zz";rw [mM];walk_at "zz";rw [decide_eq_true c2];walk_at "zz";rw [<- JM];exact Ff (ds:=q.map .str) rfl rfl (by rw [ao];omega)
    ·refine ⟨[.shr (.list (ns.map .int)),.shr (.int k),.shr (aB fs),.own (.list (p.map .str)),.own (.list (q.map .str)),.shr (.int (i:Nat)),.shr (.str x),.shr (.int (fF ns (k+(i:Nat)) 8))],rfl,?_,pre++[x],by rw [<- h2];simp,_,_,h3.skip x,_,_,_,rfl⟩;walk_at "zz";rw [fH ns _ 8 (by omega) (by decide)];walk_at "zz";rw [decide_eq_false c1];walk_at "zz";rw [mM];walk_at "zz";rw [decide_eq_false c2];walk_at "zz") (nO 0 fs) () [.shr (.list (ns.map .int)),.shr (.int k),.shr (aB fs),.own (.list []),.own (.list []),.no,.no,.no] ⟨[],by rw [sQ];rfl,[],[],⟨eO _,eO _,fun _ h=>nomatch h⟩,_,_,_,rfl⟩
  refine ⟨p,q,?_,?_⟩
  ·rw [h1,h4];walk_at "zz";rw [e6];walk_at "zz";rw [e6];walk_at "zz"
  ·simp only [du,cS] at h2;rw [<- h2];exact h3
 ·walk_at "zz";rw [yu]
theorem V4 (j:Int) (h0:0<=j) (h1:j<2):∃ m:Int,a_ (.list [.int 2,.int 4]) (.int j)=.ok (.int m):=by
 have:j=0\/j=1:=by omega
 rcases this with h|h<;>subst h
 ·exact ⟨2,rfl⟩
 ·exact ⟨4,rfl⟩
theorem Hq (fs:List Str) (es:List hJ):a_ (dX fs es) (.int 0)=.ok (aB fs):=id rfl
theorem RL (fs:List Str) (es:List hJ):a_ (dX fs es) (.int 1)=.ok (.tuple (es.map cG)):=id rfl
theorem RM (ns:List Int) (m n:Int) (hm0:0<=m) (hm:m<=6) (hn0:0<=n) (hn:n<=6):∃ fs es ss wm wb,pW [.list (ns.map .int),.int m,.int n]=.ok (.tuple [dX fs es,aB ss,oq wm wb])/\eM fs es/\ng fs ss/\zM fs wm wb/\fs.length<=m.toNat/\es.length<=n.toNat:=by
 obtain ⟨fs,es,hb,gb,fl⟩:=RG ns 100 (by decide) m n hm0 hm hn0 hn;obtain ⟨pt,hp⟩:=V4 (fF ns 97 2) (fG _ _ _ (by decide)) (gH _ _ _ (by decide));obtain ⟨ss,hs,gs⟩:=JK ns 20 (by decide) fs gb.rise.len pt;obtain ⟨wm,wb,hw,gw⟩:=RK ns 30 (by decide) fs gb.rise.up gb.rise.len;refine ⟨fs,es,ss,wm,wb,?_,gb,Dt gb.rise.up gs,gw,fl⟩;unfold pW;refine cj ?_;unfold pV bv;walk_at "zz";rw [hb];walk_at "zz";rw [Hq];walk_at "zz";rw [fH ns 97 2 (by decide) (by decide)];walk_at "zz";rw [hp];walk_at "zz";rw [hs];walk_at "zz";rw [Hq];walk_at "zz";rw [hw];walk_at "zz"
theorem P0 (hl:xs.length<=60):eR [aB xs,aB ys]=.ok (.bool (!xs.any fun x=>decide (x∈ys))):=by
 unfold eR;refine cj ?_;unfold kg bv;walk_at "zz";rw [if_pos (by omega)];rw [dq _ (fun x:Str=>aO x) (fun x=>cU (decide (x∈ys))) xs fun x hx=>fh rfl (by
  walk_at "zz";rw [om];rfl)]
 walk_at "zz";rw [jv _ (fun x=>decide (x∈ys))];walk_at "zz";rw [xj];rfl
theorem Xa (neg:Bool) (e:hJ):CZ neg (cG e) .none=.ok (.bool neg):=by cases neg<;>rfl
theorem Tt (neg:Bool):CZ neg .none .none=.ok (.bool (!neg)):=by cases neg<;>rfl
theorem P1 (e:hJ):a_ (cG e) (.int 0)=.ok (.str e.name):=id rfl
theorem YC (e:hJ):a_ (cG e) (.int 3)=.ok (aB e.makes):=id rfl
theorem YD (e:hJ):a_ (cG e) (.int 4)=.ok (aB e.ends):=id rfl
theorem Xb (e:hJ):Hc (cG e) (some 1) (some 3)=.ok (oq e.needs e.bars):=id rfl
theorem sj   (h:xs[j]?=some v):a_ (.list xs) (.int (j:Nat))=.ok v:=by
 have e:a_ (.list xs) (.int (j:Nat))=EA (.list xs) (.int (j:Nat)):=rfl;rw [e];unfold EA;simp only [si h]
theorem YE (a x y z:D) (r:aD):O7 (oh 3 (da (cb 1) (da (cb 2) (da (cb 3) pK)))) (Sl.shr a::.no::.no::.no::r) (.tuple [x,y,z])=.ok (.nx (.shr a::.shr x::.shr y::.shr z::r)):=id rfl
def c9 (st a b:List Str):Bool:=(a.all fun x=>decide (x∈st)) && !b.any fun x=>decide (x∈st)
theorem V5 (m b:List Str):a_ (oq m b) (.int 0)=.ok (aB m):=id rfl
theorem V6 (m b:List Str):a_ (oq m b) (.int 1)=.ok (aB b):=id rfl
theorem RN (ha:a.length<=60) (hb:b.length<=60):pY [aB st,oq a b]=.ok (.bool (c9 st a b)):=by
 unfold pY;refine cj ?_;unfold pX bv;walk_at "zz";rw [V5];walk_at "zz";rw [if_pos (by omega)];rw [dq _ (fun x:Str=>aO x) (fun x=>cU (decide (x∈st))) a fun x hx=>fh rfl (by
  walk_at "zz";rw [om];rfl)]
 walk_at "zz";rw [jv _ (fun x=>decide (x∈st))];walk_at "zz";rw [V6];walk_at "zz";rw [if_pos (by omega)];rw [dq _ (fun x:Str=>aO x) (fun x=>cU (decide (x∈st))) b fun x hx=>fh rfl (by
  walk_at "zz";rw [om];rfl)]
 walk_at "zz";rw [jv _ (fun x=>decide (x∈st))];walk_at "zz";unfold c9;rw [mY,xj];have e:(id∘fun x=>decide (x∈st))=fun x=>decide (x∈st):=rfl;rw [e];cases (a.all fun x=>decide (x∈st))<;>rfl
theorem Du    (h:g (bv n ds)=.ok (.nx ρ)):eP n g ds=.ok .none:=by unfold eP;rw [h]
theorem Xc (a x y:D):O7 (oh 2 (da (cb 2) (da (cb 3) pK))) [Sl.shr a,.shr (.tuple [x,y]),.no,.no] (.tuple [x,y])=.ok (.nx [.shr a,.shr (.tuple [x,y]),.shr x,.shr y]):=id rfl
theorem zN (ha:a.length<=60) (hb:b.length<=60):oY [aB st,oq a b]=.ok (.bool (c9 st a b)):=by
 unfold oY;refine cj ?_;unfold sJ bv oq;walk_at "zz";rw [Xc];walk_at "zz";rw [if_pos (by omega)];rw [dq _ (fun x:Str=>aO x) (fun x=>cU (decide (x∈st))) a fun x hx=>fh rfl (by
  walk_at "zz";rw [om];rfl)]
 walk_at "zz";rw [jv _ (fun x=>decide (x∈st))];walk_at "zz";rw [P0 (by omega)];unfold c9;rw [mY];have e:(id∘fun x=>decide (x∈st))=fun x=>decide (x∈st):=rfl;rw [e];cases (a.all fun x=>decide (x∈st))<;>rfl
theorem Lj  (g:eM fs es) (h:ng fs ss):kZ [dX fs es,aB ss]=.ok .none:=by
 unfold kZ;refine Du (ρ:=[.shr (dX fs es),.shr (aB ss)]) ?_;unfold kY bv;walk_at "zz";rw [Hq];walk_at "zz";rw [iT g.rise.ok h (fJ h g.rise.len)];walk_at "zz"
theorem zO  (g:eM fs es) (h:ng fs ss):ip [dX fs es,aB ss]=.ok .none:=by
 unfold ip;refine Du (ρ:=[.shr (dX fs es),.shr (aB ss)]) ?_;unfold k_ bv;walk_at "zz";rw [zL g];walk_at "zz";rw [Lj g h];walk_at "zz"
theorem P2    (n:rj (.tuple [x,y])=true) (hx:eX [aB fs,x]=.ok (.bool p)) (hy:p=true->eX [aB fs,y]=.ok (.bool q)) (hs:p=true->q=true->eR [x,y]=.ok (.bool r)):sI [dX fs es,.tuple [x,y]]=.ok (.bool (p&&(q&&r))):=by
 unfold sI;refine cj ?_;unfold sH bv;walk_at "zz";rw [n,zK];walk_at "zz";rw [mM];walk_at "zz";rw [show decide (((2:Nat):Int)=2)=true from rfl];walk_at "zz";rw [Xc];walk_at "zz";rw [Hq];walk_at "zz";rw [hx];cases p with
 |false=>rfl
 |true =>
  walk_at "zz";rw [Hq];walk_at "zz";rw [hy rfl];cases q with
  |false=>rfl
  |true =>
   walk_at "zz";rw [hs rfl rfl];cases r<;>rfl
theorem P3  (g:eM fs es) (h:zM fs m b):l_ [dX fs es,oq m b]=.ok .none:=by
 have n:rj (oq m b)=true:=by
  have:rj (oq m b)=(rj (aB m)&&(rj (aB b)&&true)):=rfl
  rw [this,nP,nP];rfl
 have l1:=fJ h.must g.rise.len;have l2:=fJ h.bars g.rise.len;unfold l_;refine Du (ρ:=[.shr (dX fs es),.shr (oq m b)]) ?_;unfold lZ bv;walk_at "zz";rw [P2 n (iT g.rise.ok h.must l1) (fun _=>iT g.rise.ok h.bars l2) (fun _ _=>wH h.mb l1)];walk_at "zz";rfl
theorem P4  (g:eM fs es) (h:ng fs ss) (w:zM fs m b):nI [dX fs es,aB ss,oq m b]=.ok .none:=by
 unfold nI;refine Du (ρ:=[.shr (dX fs es),.shr (aB ss),.shr (oq m b)]) ?_;unfold nH bv;walk_at "zz";rw [zO g h];walk_at "zz";rw [P3 g w];walk_at "zz"
theorem P5 (xs:List D):kX (.tuple xs)=.ok (.list xs):=id rfl
def vE (es:List hJ) (nm:Str):Option hJ:=es.find? fun e=>decide (e.name=nm)
def Xd:Option hJ->D
 |none=>.none
 |some e=>cG e
theorem C1  (g:eM fs es) (hn:zC nm=true):im [dX fs es,.str nm]=.ok (Xd (vE es nm)):=by
 unfold im;refine cj ?_;unfold ju bv;walk_at "zz";rw [OS,OV];walk_at "zz";rw [tQ (ds:=es.map cG)]
 ·obtain ⟨h1,h2⟩:=Fg cG (fun e=>decide (e.name=nm)) cG (fun ρ=>∃ z,ρ=[Sl.shr (dX fs es),.shr (.str nm),z]) (kt:=cb 2) (gb:=ft (g9 (g2 (g2 (rB 2) (kI 0) a_) (rB 1) (pJ false))) (cH (rS 2)) (fun ρ=>.ok (.nx ρ))) es [Sl.shr (dX fs es),.shr (.str nm),.no] (by
   rintro e he ρ ⟨z,rfl⟩;refine ⟨[.shr (dX fs es),.shr (.str nm),.shr (cG e)],rfl,fun hp=>?_,fun hp=>⟨[.shr (dX fs es),.shr (.str nm),.shr (cG e)],?_,_,rfl⟩⟩
   ·walk_at "zz";rw [P1];walk_at "zz";rw [Dq false (g.ok e he).name hn];walk_at "zz";rw [hp];walk_at "zz"
   ·walk_at "zz";rw [P1];walk_at "zz";rw [Dq false (g.ok e he).name hn];walk_at "zz";rw [hp];walk_at "zz") ⟨_,rfl⟩
  cases hf:es.find? (fun e=>decide (e.name=nm)) with
  |some e =>
   rw [h1 e hf];walk_at "zz";unfold vE;rw [hf];rfl
  |none =>
   obtain ⟨ρ',e1,z,rfl⟩:=h2 hf;rw [e1];walk_at "zz";unfold vE;rw [hf];rfl
 ·walk_at "zz";rw [RL];walk_at "zz"
theorem uk:∀ {es:List hJ},(es.map (·.name)).Nodup->∀ {e:hJ},e∈es->vE es e.name=some e
 |x::r,nd,e,he=>by
  obtain ⟨n1,n2⟩:=List.nodup_cons.mp nd;unfold vE;rw [bI];rcases List.mem_cons.mp he with h|h
  ·subst h;simp
  ·have:x.name≠e.name:=fun z=>n1 (by show x.name∈_;rw [z];exact bn h)
   rw [decide_eq_false this];exact uk n2 h
structure C2 (e:hJ):Prop where
 needs:e.needs.length<=6
 bars:e.bars.length<=6
 makes:e.makes.length<=6
 ends:e.ends.length<=6
theorem pd  (g:eM fs es) (he:e∈es):C2 e :=
 ⟨fJ (g.ok e he).needs g.rise.len,fJ (g.ok e he).bars g.rise.len,fJ (g.ok e he).makes g.rise.len,fJ (g.ok e he).ends g.rise.len⟩
theorem YF (e:hJ):a_ (cG e) (.int 1)=.ok (aB e.needs):=id rfl
theorem YG (e:hJ):a_ (cG e) (.int 2)=.ok (aB e.bars):=id rfl
def Fh (e:hJ) (st:List Str):Option (List Str):=if c9 st e.needs e.bars then some (srt ((st.filter fun x=>!decide (x∈e.ends))++e.makes)) else none
def Xe:Option (List Str)->D
 |none=>.none
 |some s=>aB s
theorem JP (he:C2 e) (hs:st.length<=30):iS [cG e,aB st]=.ok (Xe (Fh e st)):=by
 have:=he.needs;have:=he.bars;have:=he.makes;unfold iS;refine cj ?_;unfold pZ bv;walk_at "zz";rw [Xb];walk_at "zz";rw [RN (by omega) (by omega)];walk_at "zz";unfold Fh;cases hg:c9 st e.needs e.bars with
 |false =>
  walk_at "zz";rfl
 |true =>
  walk_at "zz";rw [if_pos (by omega)];rw [eQ _ (fun x:Str=>aO x) (fun x=>aO x) (fun x=>!decide (x∈e.ends)) st fun x hx=>lY (by
   walk_at "zz";rw [YD];walk_at "zz";rw [om];rfl) fun _=>rfl]
  have hf:(st.filter fun x=>!decide (x∈e.ends)).length<=st.length:=se _ _;walk_at "zz";rw [wG,JF];walk_at "zz";rw [YC];walk_at "zz";rw [P5];walk_at "zz";rw [if_pos (by omega)];walk_at "zz";rw [<- c7,zH _ (by rw [aR];omega)];walk_at "zz";rw [zI _ (by have:=gF ((st.filter fun x=>!decide (x∈e.ends))++e.makes) [];simp only [bJ,aR] at this;omega)];walk_at "zz";rw [e6];rfl
theorem Hr:∀ {a b:List Str},(a.Pairwise fun x y=>qC x y=true)->(b.Pairwise fun x y=>qC x y=true)->(∀ x,x∈a↔x∈b)->a=b:=by
 intro a b ha hb h;have na:=lB ha;have nb:=lB hb;have p:a.Perm b:=(nu na nb).mpr h;exact p.eq_of_pairwise (fun x y _ _ h1 h2=>by
  have:=su h1 h2;rw [uc] at this;cases this) ha hb
def bh (e:hJ) (st:List Str):List Str:=srt ((st.filter fun x=>!decide (x∈e.ends))++e.makes)
theorem ul   : x∈bh e st↔(x∈st/\x∉e.ends)\/x∈e.makes:=by
 unfold bh;rw [nN];simp [Aq]
theorem Lk (e:hJ) (st:List Str):Fh e st=if c9 st e.needs e.bars then some (bh e st) else none:=rfl
theorem Xf (ga gb:aD->R (List Str)) (s:Sl) (ρ:aD) (h1:ga (s::ρ)=.ok xs) (h2:gb (s::ρ)=.ok ys) (hl:xs.length+ys.length<=15):Ol ga gb (s::ρ)=.ok (dn xs ys):=by
 unfold Ol J.UG;rw [h1,bind_ok,h2,bind_ok,if_pos hl]
theorem C3 (ss:List Str) (h:ss.length<60):ug (aB ss)=.ok (dn [] ss):=by
 have e:∀ ds,ug (.tuple ds)=match fm ds with
  |some ss=>if ss.length<60 then .ok (dn [] ss) else .no
  |none=>.no:=fun _=>rfl
 rw [e,strsOf_map];simp only [if_pos h]
theorem V7 (xs ys:List Str):jY (dn (dn [] xs) (dn [] ys))=srt (xs++ys):=by
 refine Hr (wy (rh _) ((i9 _).nodup_iff.mpr (iQ _ _ (iQ _ [] gd)))) (zE _) fun x=>?_;rw [(i9 _).mem_iff,iZ,iZ,iZ,nN,fw];simp
theorem Ll (h:xs.length+ys.length<=12):vy [aB xs,aB ys]=.ok (aB (srt (xs++ys))):=by
 have l1:=gF xs [];have l2:=gF ys [];simp only [bJ] at l1 l2;have l3:=gF (dn [] ys) (dn [] xs);unfold vy;refine cj ?_;unfold vw bv;walk_at "zz";rw [wG,Xf _ _ _ _ (C3 xs (by omega)) (C3 ys (by omega)) (by omega)];walk_at "zz";rw [zI _ (by omega),V7];walk_at "zz";rw [e6];walk_at "zz"
theorem Ht (h:xs.length<=60):sC [aB xs,aB ys]=.ok (aB (xs.filter fun x=>!decide (x∈ys))):=by
 unfold sC;refine cj ?_;unfold sB bv;walk_at "zz";rw [if_pos (by omega)];rw [eQ _ (fun x:Str=>aO x) (fun x=>aO x) (fun x=>!decide (x∈ys)) xs fun x hx=>lY (by
  walk_at "zz";rw [om];rfl) fun _=>rfl]
 walk_at "zz";rw [e6];walk_at "zz"
theorem Xg     (h:gs (s::ρ)=.ok [d,e]):Om i j gs (s::ρ)=.ok (.nx (((s::ρ).set i (.shr d)).set j (.shr e))):=by
 unfold Om;rw [h];rfl
theorem C4 (he:C2 e) (hs:st.length<=6):eY [cG e,aB st]=.ok (aB (bh e st)):=by
 have:=he.makes;have hf:(st.filter fun x=>!decide (x∈e.ends)).length<=st.length:=se _ _;unfold eY;refine cj ?_;unfold kh bv;walk_at "zz";rw [Xg (d:=aB e.makes) (e:=aB e.ends) rfl];walk_at "zz";rw [Ht (by omega)];walk_at "zz";rw [Ll (by omega)];rfl
theorem wI (he:C2 e):i0 [cG e,aB st]=.ok (.bool (c9 st e.needs e.bars)):=by
 have:=he.needs;have:=he.bars;unfold i0;refine cj ?_;unfold nG bv;walk_at "zz";rw [YF];walk_at "zz";rw [YG];walk_at "zz";rw [zN (by omega) (by omega)];walk_at "zz"
def lN:List hJ->List Str->Option (List Str)
 |[],st=>some st
 |e::r,st=>if c9 st e.needs e.bars then lN r (bh e st) else none
def fX:List hJ->List Str->List (List Str)
 |[],st=>[st]
 |e::r,st=>if c9 st e.needs e.bars then st::fX r (bh e st) else [st]
theorem qc  (hf:fs.Pairwise fun a b=>qC a b=true) (g:rM fs e) (h:ng fs st):ng fs (bh e st):=by
 refine ⟨zE _,fun x hx=>?_⟩;rcases ul.mp hx with z|z
 ·exact h.mem x z.1
 ·exact g.makes.mem x z
theorem C5:∀ (rs:List hJ) (st:List Str),(fX rs st).length<=rs.length+1
 |[],_=>aq _
 |e::r,st=>by
  unfold fX;split
  ·have:=C5 r (bh e st);simp only [aP];omega
  ·simp
theorem C6:∀ (rs:List hJ) (st:List Str),decide (((rs.length:Nat):Int)<((fX rs st).length:Nat))=(lN rs st).isSome
 |[],_=>rfl
 |e::r,st=>by
  unfold fX lN;cases c9 st e.needs e.bars with
  |true =>
   rw [if_pos rfl,if_pos rfl,<- C6 r];simp only [aP];congr 1;simp only [eq_iff_iff];omega
  |false =>
   rw [if_neg bf,if_neg bf];simp only [aP,bJ];exact decide_eq_false (by omega)
theorem RO (xs:List D) (x:D):a_ (.list (xs++[x])) (.int (-1))=.ok x:=by
 have e:a_ (.list (xs++[x])) (.int (-1))=EA (.list (xs++[x])) (.int (-1)):=rfl;rw [e];unfold EA;have:DW (xs++[x]) (-1)=some x:=by
  unfold DW Sh;rw [if_neg (by decide),if_pos (by simp only [aR,aP,bJ];omega)];have hj:(-1+((xs++[x]).length:Int)).toNat=xs.length:=by simp only [aR,aP,bJ];omega
  simp only [xi,hj];rw [ba (aq _)];simp
 simp only [this]
def V8 (fs:List Str):List (List Str):=fs.foldl (fun acc f=>acc++acc.map (·++[f])) [[]]
theorem P6     (h:ρ[i]?=some (Sl.shr d)):tO i kt gb ρ=rF (k7 fun ρ=>Gf ρ i) kt gb ρ:=by
 unfold tO;rw [h]
theorem Dv:∀ (fs:List Str) (acc:List (List Str)) (t u:List Str),t∈acc->u.Sublist fs->t++u∈fs.foldl (fun acc f=>acc++acc.map (·++[f])) acc
 |[],acc,t,u,ht,hu=>by
  cases hu;rw [cS];exact ht
 |f::r,acc,t,u,ht,hu=>by
  rw [eE];cases hu with
  |cons _ h=>exact Dv r _ t u (bV _ ht) h
  |cons_cons _ h =>
   rename_i u'
   have:=Dv r (acc++acc.map (·++[f])) (t++[f]) u' (aL _ (bn ht)) h
   rwa [gR] at this
theorem P7 (hf:fs.Pairwise fun a b=>qC a b=true) (h:ng fs xs):xs.Sublist fs:=by
 have e:xs=fs.filter fun x=>decide (x∈xs):=Hr h.up (hf.sublist jr) fun x=>by
  rw [Aq,decide_eq_true_eq];exact ⟨fun z=>⟨h.mem x z,z⟩,fun z=>z.2⟩
 rw [e];exact jr
theorem P8 (hf:fs.Pairwise fun a b=>qC a b=true) (h:ng fs xs):xs∈V8 fs:=Dv fs [[]] [] xs (List.mem_singleton.mpr rfl) (P7 hf h)
structure Tu (es rs:List hJ):Prop where
 mem:∀ e∈rs,e∈es
 len:rs.length<=64
abbrev kz (rs:List hJ):D:=.list (rs.map fun e=>aO e.name)
theorem P9 (rs:List hJ):noDs (rs.map fun e=>aO e.name)=true:=yv _ (fun _=>rfl) rs
theorem Pa  (g:eM fs es) (h:Tu es rs):vA [dX fs es,kz rs]=.ok (.bool true):=by
 have hl:=h.len;unfold vA;refine cj ?_;unfold vz bv;walk_at "zz";rw [show rj (kz rs)=true from P9 rs,show C_ "list" (kz rs)=true from rfl];walk_at "zz";rw [decide_eq_false (by omega)];walk_at "zz";rw [if_pos (by omega)];rw [dq _ (fun e:hJ=>aO e.name) (fun _=>cU true) rs fun e he=>fh rfl (by
  walk_at "zz";rw [C1 g (g.ok e (h.mem e he)).name,uk g.nd (h.mem e he)];simp only [Xd];walk_at "zz";rw [Xa])]
 walk_at "zz";rw [jv _ (fun _=>true)];walk_at "zz";simp
theorem Hu  (g:eM fs es) (h:Tu es rs):m6 [dX fs es,kz rs]=.ok (.list (rs.map cG)):=by
 have hl:=h.len;unfold m6;refine cj ?_;unfold m5 bv;walk_at "zz";rw [Pa g h];walk_at "zz";rw [if_pos (by omega)];rw [dq _ (fun e:hJ=>aO e.name) cG rs fun e he=>fh rfl (by
  walk_at "zz";rw [C1 g (g.ok e (h.mem e he)).name,uk g.nd (h.mem e he)];rfl)]
 walk_at "zz"
theorem Dw:Uy (.int 1)=.ok (.int (-1)):=rfl
theorem Pb (g:aD->R D) (s:Sl) (ρ:aD):zg g (s::ρ)=(g (s::ρ)).bind Uy:=id rfl
theorem yw     (h1:kt d ρ=.ok ρ1) (h2:gb ρ1=.ok (.nx ρ2)):jo kt gb (d::r) ρ=jo kt gb r ρ2:=by
 rw [jo,h1];simp only [h2]
theorem JQ     (h1:kt d ρ=.ok ρ1) (h2:gb ρ1=.ok (.rt x)):jo kt gb (d::r) ρ=.ok (.rt x):=by
 rw [jo,h1];simp only [h2]
theorem xv  (g:eM fs es) (A B:D):∀ (rs:List hJ) (pre:List (List Str)) (st:List Str) (z:Sl),(∀ e∈rs,e∈es)->ng fs st->pre.length+rs.length<=100 ->
  (∃ z',jo (cb 3) (aX (ft (jT (g9 (dU 2 i0 (J.ae (rS 3) (J.ae (g2 (rB 2) (zg (kI 1)) a_) J.aI))))) (cH (rS 2)) (fun ρ=>.ok (.nx ρ))) (rG 2 (dU 2 eY (J.ae (rS 3) (J.ae (g2 (rB 2) (zg (kI 1)) a_) J.aI))))) (rs.map cG) [.shr A,.shr B,.own (.list ((pre++[st]).map aB)),z]=.ok (.nx [.shr A,.shr B,.own (.list ((pre++fX rs st).map aB)),z'])) \/
  jo (cb 3) (aX (ft (jT (g9 (dU 2 i0 (J.ae (rS 3) (J.ae (g2 (rB 2) (zg (kI 1)) a_) J.aI))))) (cH (rS 2)) (fun ρ=>.ok (.nx ρ))) (rG 2 (dU 2 eY (J.ae (rS 3) (J.ae (g2 (rB 2) (zg (kI 1)) a_) J.aI))))) (rs.map cG) [.shr A,.shr B,.own (.list ((pre++[st]).map aB)),z]=.ok (.rt (.list ((pre++fX rs st).map aB)))
 |[],pre,st,z,_,_,_=>.inl ⟨z,rfl⟩
 |e::r,pre,st,z,hm,hs,hl=>by
  have he:=hm e ak;have sh:=pd g he;simp only [aP] at hl;have hix:a_ (.list ((pre++[st]).map aB)) (.int (-1))=.ok (aB st):=by
   rw [c7];exact RO _ _
  unfold fX;cases hg:c9 st e.needs e.bars with
  |true =>
   rw [if_pos rfl];have e2:pre++st::fX r (bh e st)=(pre++[st])++fX r (bh e st):=by simp
   rw [e2,av];have hb:=xv g A B r (pre++[st]) (bh e st) (.shr (cG e)) (fun x hx=>hm x (ai _ hx)) (qc g.rise.up (g.ok e he) hs) (by rw [aR];simp only [aP,bJ];omega);have hbody:(aX (ft (jT (g9 (dU 2 i0 (J.ae (rS 3) (J.ae (g2 (rB 2) (zg (kI 1)) a_) J.aI))))) (cH (rS 2)) (fun ρ=>.ok (.nx ρ))) (rG 2 (dU 2 eY (J.ae (rS 3) (J.ae (g2 (rB 2) (zg (kI 1)) a_) J.aI))))) [.shr A,.shr B,.own (.list ((pre++[st]).map aB)),.shr (cG e)]=.ok (.nx [.shr A,.shr B,.own (.list ((pre++[st]++[bh e st]).map aB)),.shr (cG e)]):=by
    walk_at "zz";rw [Pb];walk_at "zz";rw [Dw];walk_at "zz";rw [hix];walk_at "zz";rw [wI sh,hg];walk_at "zz";rw [c7 (l₁:=pre++[st])];refine Ff (ds:=(pre++[st]).map aB) (d:=aB (bh e st)) rfl ?_ (by rw [ao,aR];simp only [aP,bJ];omega);walk_at "zz";rw [Pb];walk_at "zz";rw [Dw];walk_at "zz";rw [hix];walk_at "zz";rw [C4 sh (fJ hs g.rise.len)]
   rw [yw (ρ1:=[.shr A,.shr B,.own (.list ((pre++[st]).map aB)),.shr (cG e)]) rfl hbody];exact hb
  |false =>
   rw [if_neg bf,av];refine .inr (JQ (ρ1:=[.shr A,.shr B,.own (.list ((pre++[st]).map aB)),.shr (cG e)]) rfl ?_);walk_at "zz";rw [Pb];walk_at "zz";rw [Dw];walk_at "zz";rw [hix];walk_at "zz";rw [wI sh,hg];walk_at "zz"
theorem Hv  (g:eM fs es) (h:Tu es rs) (hs:ng fs st):j0 [.list (rs.map cG),aB st]=.ok (.list ((fX rs st).map aB)):=by
 have hl:=h.len;unfold j0;refine cj ?_;unfold i_ bv;walk_at "zz";rw [P6 (d:=.list (rs.map cG)) rfl,tQ (ds:=rs.map cG)]
 ·rcases xv g (.list (rs.map cG)) (aB st) rs [] st .no h.mem hs (by simp only [bJ];omega) with ⟨z,e⟩|e
  ·rw [gO,gO] at e;simp only [av,du] at e;rw [e];walk_at "zz"
  ·rw [gO,gO] at e;simp only [av,du] at e;rw [e];walk_at "zz"
 ·walk_at "zz"
def e7 (l:List (List Str×D)):List (D×D):=l.map fun p=>(aB p.1,p.2)
abbrev mO (l:List (List Str×D)):List (List Str):=l.map (·.1)
theorem Hw (x:List Str):aB x=tD (x.map iV):=by
 unfold aB tD;rw [ca];rfl
theorem mP (x:List Str):qE (aB x)=some (x.map iV):=by rw [Hw,Oq]
theorem RP {a b:List Str} (h:a.map (iV:Str->gD)=b.map iV):a=b:=by
 induction a generalizing b with
 |nil=>cases b with|nil=>rfl|cons _ _=>cases h
 |cons x r ih =>
  cases b with
  |nil=>cases h
  |cons y t =>
   simp only [av,wn] at h;rw [ih h.2,Sum.inr.inj h.1]
theorem Pc (x y:List Str):aY (aB x) (aB y)=decide (x=y):=by
 rw [Hw,Hw,Dc];by_cases h:x=y
 ·rw [h];simp
 ·rw [decide_eq_false h,decide_eq_false fun z=>h (RP z)]
theorem Fi (l:List (List Str×D)):Jh (e7 l)=e7 l:=by cases l<;>rfl
theorem qd (h:l≠[]):ka (e7 l)=true:=by
 have h2:((e7 l).all fun kv=>(qE kv.1).isSome)=true:=by
  unfold e7;rw [mY,cf];intro p _;show (qE (aB p.1)).isSome=true;rw [mP];rfl
 unfold ka;rw [h2];cases l with
 |nil=>exact (h rfl).elim
 |cons _ _=>rfl
theorem wJ (x:List Str):∀ l:List (List Str×D),lU (e7 l) (aB x)=(l.find? fun p=>decide (p.1=x)).map (·.2)
 |[]=>rfl
 |p::r=>by
  have ih:=wJ x r;unfold lU e7 at ih ⊢;rw [av,bI,bI,Pc];by_cases h:p.1=x
  ·rw [decide_eq_true h];rfl
  ·rw [decide_eq_false h];exact ih
theorem Pd (nd:(mO l).Nodup) (hp:p∈l):(l.find? fun q=>decide (q.1=p.1))=some p:=by
 induction l with
 |nil=>cases hp
 |cons q r ih =>
  obtain ⟨n1,n2⟩:=List.nodup_cons.mp nd;rw [bI];rcases List.mem_cons.mp hp with h|h
  ·subst h;simp
  ·have:q.1≠p.1:=fun z=>n1 (by show q.1∈_;rw [z];exact bn h)
   rw [decide_eq_false this];exact ih n2 h
theorem Lm {α:Type}{l:List α}{x:α} (h:x∈l):l≠[]:=fun z=>by rw [z] at h;cases h
theorem Pe  (hu:Jh ds=e7 l) (nd:(mO l).Nodup) (hp:p∈l):Gh (.dict ds) (aB p.1)=.ok p.2:=by
 unfold Gh;simp only [mP,hu];rw [if_pos (qd (Lm hp)),wJ,Pd nd hp];rfl
theorem RQ (nd:(mO l).Nodup) (hp:p∈l):Gh (.dict (e7 l)) (aB p.1)=.ok p.2:=Pe (Fi l) nd hp
theorem Pf (nd:(mO l).Nodup) (hp:p∈l):Gh (.dict ((.none,.none)::e7 l)) (aB p.1)=.ok p.2:=Pe rfl nd hp
theorem C7 (x:List Str):∀ l:List (List Str×D),((l.find? fun p=>decide (p.1=x)).map (·.2)).isSome=decide (x∈mO l)
 |[]=>by simp
 |p::r=>by
  rw [bI];by_cases h:p.1=x
  ·rw [decide_eq_true h];simp [h]
  ·rw [decide_eq_false h];simp only;rw [C7 x r];simp [cY h]
theorem RS (h:l≠[]) (x:List Str):inT true (aB x) (.dict (e7 l))=.ok (.bool (!decide (x∈mO l))):=by
 unfold inT;simp only [mP,Fi];rw [if_pos (qd h),wJ,C7];rfl
theorem Pg (l:List (List Str×D)):De (.dict ((.none,.none)::e7 l))=.ok ((mO l).map aB):=by
 show R.ok ((e7 l).map (·.1))=_;unfold e7 mO;rw [ca,ca];rfl
theorem RT  (h:x∉mO l) (d:D):xU (e7 l) (aB x) d=e7 (l++[(x,d)]):=by
 have e:((e7 l).any fun kv=>aY kv.1 (aB x))=false:=by
  unfold e7;rw [xj,xf];intro p hp;show ¬aY (aB p.1) (aB x)=true;rw [Pc,decide_eq_true_eq];exact fun z=>h (by rw [<- z];exact bn hp)
 unfold xU;rw [e,if_neg bf];unfold e7;rw [c7];rfl
theorem V9      (hi:ρ[i]?=some (Sl.own (.dict (e7 l)))) (hg:g ρ=.ok d) (hk:gk ρ=.ok (aB x)) (hn:l≠[]) (hl:l.length<1000) (hx:x∉mO l):xp i gk g ρ=.ok (.nx (ρ.set i (.own (.dict (e7 (l++[(x,d)])))))):=by
 have hl':(e7 l).length<1000:=by unfold e7;rw [ao];exact hl
 have e:xp i gk g ρ=(g ρ).bind fun d=>(gk ρ).bind fun k=>match qE k with
  |some _=>if (e7 l).length<1000/\ka (e7 l)=true then .ok (.nx (ρ.set i (.own (.dict (xU (e7 l) k d))))) else .no
  |none=>.no:=by
  unfold xp;simp only [hi];try rfl
 rw [e,hg,zm,hk,zm];simp only [mP,if_pos (uN hl' (qd hn)),RT hx]
theorem YH    (hn:l≠[]) (h:ρ[i]?=some (Sl.own (.dict (e7 l)))):WQ i g ρ=g (ρ.set i (.own (.dict ((.none,.none)::e7 l)))):=by
 unfold WQ;congr 1;unfold lz;rw [h];cases l with
 |nil=>exact (hn rfl).elim
 |cons p r=>rfl
theorem YI     (h1:gk (s::ρ)=.ok (aB x)) (h2:gv (s::ρ)=.ok d):Vn gk gv (s::ρ)=.ok (.dict (e7 [(x,d)])):=by
 unfold Vn;rw [h1,bind_ok,h2,bind_ok];simp only [mP];rfl
theorem Ph    (h:g (s::ρ)=.ok (.list ds)):AX g (s::ρ)=.ok (!ds.isEmpty):=by
 unfold AX;rw [h,bind_ok]
theorem Xh (g:aD->R D) (s:Sl) (ρ:aD):Rm g (s::ρ)=(g (s::ρ)).bind De:=id rfl
theorem Fj {α:Type} [DecidableEq α] : ∀ {l m:List α},l.Nodup->(∀ x∈l,x∈m)->l.length<=m.length
 |[],_,_,_=>cJ _
 |x::r,m,nd,h=>by
  obtain ⟨n1,n2⟩:=List.nodup_cons.mp nd;have hx:=h x ak;have:=Fj (l:=r) (m:=m.erase x) n2 fun y hy=>(Iv fun z=>n1 (by rw [<- z];exact hy)).mpr (h y (ai _ hy));rw [DV hx] at this;have:=Gc hx;simp only [aP];omega
theorem Fk:∀ (fs:List Str) (acc:List (List Str)),(fs.foldl (fun acc f=>acc++acc.map (·++[f])) acc).length=acc.length*2 ^ fs.length
 |[],acc=>by simp
 |f::r,acc=>by
  rw [eE,Fk r,aR,ao,aP,Nat.pow_succ,<- Nat.two_mul,Gw 2,Nat.mul_assoc,Gw 2]
theorem RU (h:fs.length<=6):(V8 fs).length<=64:=by
 unfold V8;rw [Fk];have:2 ^ fs.length<=2 ^ 6:=Nat.pow_le_pow_right (by decide) h
 simp only [aP,bJ];omega
theorem Pi (hf:OK fs 6) (nd:(mO l).Nodup) (h:∀ x∈mO l,ng fs x):l.length<=64:=by
 have:=Fj nd fun x hx=>P8 hf.up (h x hx);rw [ao] at this;exact ck this (RU hf.len)
def Vq (es:List hJ) (st x:List Str):Prop:=∃ rs:List hJ,(∀ e∈rs,e∈es)/\lN rs st=some x
theorem zP (e:hJ):∀ (rs:List hJ) (st x:List Str),lN rs st=some x->c9 x e.needs e.bars=true->lN (rs++[e]) st=some (bh e x)
 |[],st,x,h,g=>by cases h;show (if c9 st e.needs e.bars then lN [] (bh e st) else none)=_;rw [g];rfl
 |a::r,st,x,h,g=>by
  show (if c9 st a.needs a.bars then lN (r++[e]) (bh a st) else none)=_;have h':(if c9 st a.needs a.bars then lN r (bh a st) else none)=some x:=h;split at h'
  ·rename_i hg
   rw [if_pos hg];exact zP e r _ _ h' g
  ·cases h'
theorem zQ {es:List hJ}{M:List Str->Prop} (hc:∀ x,M x->∀ e∈es,c9 x e.needs e.bars=true->M (bh e x)):∀ (rs:List hJ) (st x:List Str),M st->(∀ e∈rs,e∈es)->lN rs st=some x->M x
 |[],st,x,hm,_,h=>by cases h;exact hm
 |a::r,st,x,hm,he,h=>by
  have h':(if c9 st a.needs a.bars then lN r (bh a st) else none)=some x:=h;split at h'
  ·rename_i hg
   exact zQ hc r _ _ (hc st hm a (he a ak) hg) (fun e h=>he e (ai _ h)) h'
  ·cases h'
theorem Pj  (g:eM fs es) (hs:ng fs st):ki [dX fs es,aB st]=.ok (.list ((es.filter fun e=>c9 st e.needs e.bars).map fun e=>fK [cG e,aB (bh e st)])):=by
 have ls:=fJ hs g.rise.len;have lg:=g.len;unfold ki;refine cj ?_;unfold m7 bv;walk_at "zz";rw [RL];walk_at "zz";rw [if_pos (by omega)];rw [eQ _ cG (fun e=>fK [cG e,aB (bh e st)]) (fun e=>c9 st e.needs e.bars) es fun e he=>lY (by
  walk_at "zz";rw [wI (pd g he)];walk_at "zz") fun _=>(by
  walk_at "zz";rw [C4 (pd g he) ls];walk_at "zz")]
 walk_at "zz"
abbrev LZ:=List (List Str×List hJ)
def gX (l:LZ):List (List Str×D):=l.map fun p=>(p.1,kz p.2)
structure nh (fs st:List Str) (es:List hJ) (l:LZ):Prop where
 nd:(l.map (·.1)).Nodup
 beg:(st,[])∈l
 sub:∀ p∈l,ng fs p.1
 row:∀ p∈l,(∀ e∈p.2,e∈es)/\lN p.2 st=some p.1/\p.2.length<l.length
theorem j7 (l:LZ):mO (gX l)=l.map (·.1):=by
 unfold mO gX;rw [ca];rfl
theorem nh.ne   (h:nh fs st es l):gX l≠[]:=by
 intro z;have:=List.map_eq_nil_iff.mp z;have h1:=h.beg;rw [this] at h1;cases h1
theorem nh.few   (g:eM fs es) (h:nh fs st es l):l.length<=64:=by
 have:=Pi g.rise (l:=gX l) (by rw [j7];exact h.nd) fun x hx=>by
  rw [j7] at hx;obtain ⟨p,hp,rfl⟩:=List.mem_map.mp hx;exact h.sub p hp
 unfold gX at this;rw [ao] at this;exact this
def iw (at0:List Str) (row:List hJ) (b:LZ×List (List Str)) (e:hJ):LZ×List (List Str) :=
 if bh e at0∈b.1.map (·.1) then b else (b.1++[(bh e at0,row++[e])],b.2++[bh e at0])
theorem Va     (g:eM fs es) (h:nh fs st es b.1) (hr:(at0,row)∈b.1) (he:e∈es) (hg:c9 at0 e.needs e.bars=true):nh fs st es (iw at0 row b e).1:=by
 unfold iw;split
 ·exact h
 ·rename_i hn
  obtain ⟨r1,r2,r3⟩:=h.row _ hr;refine ⟨?_,bV _ h.beg,fun p hp=>?_,fun p hp=>?_⟩
  ·rw [c7];exact CF h.nd hn
  ·rcases List.mem_append.mp hp with z|z
   ·exact h.sub p z
   ·rw [List.mem_singleton.mp z];exact qc g.rise.up (g.ok e he) (h.sub _ hr)
  ·rw [aR,dI];rcases List.mem_append.mp hp with z|z
   ·obtain ⟨k1,k2,k3⟩:=h.row p z;exact ⟨k1,k2,by omega⟩
   ·rw [List.mem_singleton.mp z];refine ⟨fun x hx=>?_,zP e _ _ _ r2 hg,?_⟩
    ·rcases List.mem_append.mp hx with y|y
     ·exact r1 x y
     ·rw [List.mem_singleton.mp y];exact he
    ·show (row++[e]).length<b.1.length+1;rw [aR,dI];have:row.length<b.1.length:=r3
     omega
theorem Fm (at0:List Str) (row:List hJ) (b:LZ×List (List Str)) (e:hJ):(∀ p∈b.1,p∈(iw at0 row b e).1)/\bh e at0∈(iw at0 row b e).1.map (·.1)/\(∀ x∈(iw at0 row b e).1.map (·.1),x∈b.1.map (·.1)\/x∈(iw at0 row b e).2)/\(∀ x∈b.2,x∈(iw at0 row b e).2)/\(∀ x∈(iw at0 row b e).2,x∈b.2\/x∈(iw at0 row b e).1.map (·.1))/\b.1.length+(iw at0 row b e).2.length=(iw at0 row b e).1.length+b.2.length:=by
 unfold iw;split
 ·rename_i h
  exact ⟨fun _ h=>h,h,fun _ h=>.inl h,fun _ h=>h,fun _ h=>.inl h,rfl⟩
 ·refine ⟨fun p hp=>bV _ hp,?_,fun x hx=>?_,fun x hx=>bV _ hx,fun x hx=>?_,?_⟩
  ·rw [c7];exact aL _ ak
  ·rw [c7] at hx;rcases List.mem_append.mp hx with z|z
   ·exact .inl z
   ·exact .inr (aL _ z)
  ·rcases List.mem_append.mp hx with z|z
   ·exact .inl z
   ·rw [c7];exact .inr (aL _ z)
  ·simp only [aR,dI];omega
theorem RV (neg:Bool) (ds:List D) (h:cc ds=true):pJ neg (.list ds) (.list [])=.ok (.bool (neg != decide (ds=[]))):=by
 unfold pJ;have h1:(dk ds).canLay0=true:=by simp only [dh];exact h
 have h3:min (dk ds).depth (dk []).depth<=60:=ck (qG _ _) (by decide);have h4:aY (.list ds) (.list [])=decide (ds=[]):=by
  cases ds with
  |nil=>rfl
  |cons x r=>simp [aY,eU]
 rw [h1,show (dk []).canLay0=true from rfl,decide_eq_true h3,h4];cases neg<;>cases decide (ds=[])<;>rfl
theorem JR (ds:List D) (h:cc ds=true):pJ false (.list ds) (.list [])=.ok (.bool (decide (ds=[]))):=by rw [RV false ds h,Bool.false_bne]
theorem Pk (neg:Bool) (o:Option (List Str)):CZ neg (Xe o) .none=.ok (.bool (neg==o.isSome)):=by cases o<;>cases neg<;>rfl
theorem RW {L:List hJ}{j:Int} (h0:0<=j) (h1:j<(L.length:Nat)):∃ e∈L,a_ (.list (L.map cG)) (.int j)=.ok (cG e):=by
 obtain ⟨n,rfl⟩:=qH h0;have hn:n<L.length:=by omega
 refine ⟨L[n],jj hn,sj ?_⟩;rw [aU,bc hn];rfl
theorem Hx (e:hJ) (st:List Str):(Fh e st).isSome=c9 st e.needs e.bars:=by
 unfold Fh;cases c9 st e.needs e.bars<;>rfl
theorem C8 {fs s0:List Str}{es:List hJ} (g:eM fs es) (ns:List Int) (at0:Int) (h0:0<=at0) (M:D):∀ (ks:List Nat) (rs:List hJ) (st:List Str) (z7 z8 z9:Sl),(∀ e∈rs,e∈es)->ng fs st->lN rs s0=some st->rs.length+ks.length<=20 ->
  ∃ rs',(Tu es rs'/\∃ x,lN rs' s0=some x)/\(jo (cb 6) (aX (gU 7 (dY 1 [3] (k7 (g2 (rB 2) (kI 1) a_)) (g9 (g2 (dU 2 iS (J.ae (rS 0) (J.ae (rS 1) J.aI))) kN (CZ true))) (rS 0))) (aX (ft (g9 (g2 (rB 7) (fj J.aI .list) (pJ false))) (cH (rS 5)) (fun ρ=>.ok (.nx ρ))) (aX (gP 8 (g2 (rB 7) (dU 3 bj (J.ae (rS 0) (J.ae (g2 (rB 1) (rB 6) ef) (J.ae (c8 (J.ae (rB 7) J.aI) (iD kw)) J.aI)))) a_)) (aX (rG 5 (g2 (rB 8) (kI 0) a_)) (gP 3 (dU 2 iS (J.ae (rS 8) (J.ae (rS 3) J.aI)))))))) (ks.map fun (i:Nat)=>eK (i:Int)) [.shr (.list (ns.map .int)),.shr (.int at0),.shr (dX fs es),.shr (aB st),.shr M,.own (kz rs),z7,z8,z9]).bind (NA (cH (rS 5)))=.ok (.rt (kz rs'))
 |[],rs,st,z7,z8,z9,hm,hs,hr,hl=>by
  refine ⟨rs,⟨⟨hm,by simp at hl;omega⟩,st,hr⟩,?_⟩;rw [du,jo];walk_at "zz"
 |k::ks,rs,st,z7,z8,z9,hm,hs,hr,hl=>by
  have ls:=fJ hs g.rise.len;have lg:=g.len;simp only [aP] at hl;let L:=es.filter fun e=>c9 st e.needs e.bars
  have hL:∀ e∈L,e∈es/\c9 st e.needs e.bars=true:=fun e he=>List.mem_filter.mp he;have hc:∀ (z:Sl),dY 1 [3] (k7 (g2 (rB 2) (kI 1) a_)) (g9 (g2 (dU 2 iS (J.ae (rS 0) (J.ae (rS 1) J.aI))) kN (CZ true))) (rS 0) [.shr (.list (ns.map .int)),.shr (.int at0),.shr (dX fs es),.shr (aB st),.shr M,.own (kz rs),.shr (.int (k:Int)),z8,z]=.ok (.list (L.map cG)):=by
   intro z;walk_at "zz";rw [RL];walk_at "zz";rw [if_pos (by omega)];rw [eQ _ cG cG (fun e=>c9 st e.needs e.bars) es fun e he=>lY (by
    walk_at "zz";rw [JP (pd g he) (by omega)];walk_at "zz";rw [Pk,Hx];walk_at "zz";rw [Bool.true_beq]) fun _=>rfl]
   walk_at "zz";rfl
  have lay:cc (L.map cG)=true:=vD cG L fun e he=>OZ g.rise.ok (g.ok e (hL e he).1);rw [av];by_cases hn:L=[]
  ·refine ⟨rs,⟨⟨hm,by omega⟩,st,hr⟩,?_⟩;rw [JQ (x:=kz rs) (ρ1:=[.shr (.list (ns.map .int)),.shr (.int at0),.shr (dX fs es),.shr (aB st),.shr M,.own (kz rs),.shr (.int (k:Int)),z8,z9]) rfl ?_]
   ·walk_at "zz"
   ·rw [zo];unfold gU;rw [hc];walk_at "zz";rw [JR _ lay,hn];walk_at "zz"
  ·have hp:0<L.length:=List.length_pos_iff.mpr hn;have hk:((L.length:Nat):Int) > 0:=by omega
   obtain ⟨e,he,hix⟩:=RW (L:=L) (fG ns (at0+k) (L.length:Nat) (by omega)) (gH ns (at0+k) (L.length:Nat) (by omega));obtain ⟨he1,he2⟩:=hL e he;obtain ⟨rs',r1,r2⟩:=C8 g ns at0 h0 M ks (rs++[e]) (bh e st) (.shr (.int (k:Int))) (.own (.list (L.map cG))) (.shr (cG e)) (fun x hx=>by
    rcases List.mem_append.mp hx with h|h
    ·exact hm x h
    ·rw [List.mem_singleton.mp h];exact he1) (qc g.rise.up (g.ok e he1) hs) (zP e rs s0 st hr he2) (by rw [aR,dI];omega)
   refine ⟨rs',r1,?_⟩;rw [yw (ρ1:=[.shr (.list (ns.map .int)),.shr (.int at0),.shr (dX fs es),.shr (aB st),.shr M,.own (kz rs),.shr (.int (k:Int)),z8,z9]) (ρ2:=[.shr (.list (ns.map .int)),.shr (.int at0),.shr (dX fs es),.shr (aB (bh e st)),.shr M,.own (kz (rs++[e])),.shr (.int (k:Int)),.own (.list (L.map cG)),.shr (cG e)]) rfl ?_]
   ·exact r2
   ·rw [zo];unfold gU;rw [hc];walk_at "zz";rw [JR _ lay,decide_eq_false (by simpa using hn)];walk_at "zz";rw [fH ns (at0+k) (L.length:Nat) (by omega) (by omega)];walk_at "zz";rw [hix];walk_at "zz";rw [Ff (ds:=rs.map fun e=>aO e.name) (d:=.str e.name) rfl (by
     walk_at "zz";rw [P1]) (by rw [ao];omega)]
    walk_at "zz";rw [JP (pd g he1) (by omega),Lk,he2];walk_at "zz";simp only [kz,c7];rfl
theorem RX  (g:eM fs es) (ns:List Int) (k n:Int) (h0:0<=k) (hn:0<=n) (h20:n<=20) (hs:ng fs st):∃ rs,Tu es rs/\(∃ x,lN rs st=some x)/\q8 [.list (ns.map .int),.int k,dX fs es,aB st,.int n]=.ok (kz rs):=by
 obtain ⟨j,rfl⟩:=qH hn;obtain ⟨rs,h1,h2⟩:=C8 g ns k h0 (.int (j:Int)) (bx j) [] st .no .no .no (fun _ h=>nomatch h) hs rfl (by simp;omega);refine ⟨rs,h1.1,h1.2,?_⟩;unfold q8;refine cj ?_;unfold p_ bv;walk_at "zz";rw [tQ (ds:=(bx j).map fun (i:Nat)=>eK (i:Int))]
 ·exact h2
 ·walk_at "zz";exact yq j (by omega)
def XC:aD->R Fl:=(ft (g9 (g2 (rB 7) (rB 2) (inT true))) (aX (xp 2 (rS 7) (g2 (g2 (rB 2) (rB 5) Gh) (fj (J.ae (g2 (rB 6) (kI 0) a_) J.aI) .list) ef)) (rG 4 (rS 7))) (fun ρ=>.ok (.nx ρ)))
def Ln:aD->R Fl:=rF (k7 (dU 2 ki (J.ae (rS 0) (J.ae (rS 5) J.aI)))) (oh 2 (da (cb 6) (da (cb 7) pK))) XC
def Xi:aD->R Fl:=aX (gU 4 (fj J.aI .list)) (aX (tO 3 (cb 5) Ln) (SH 4 (gP 3 (rS 4))))
theorem Pl:m8=aX (gU 2 (Vn (rS 1) (fj J.aI .list))) (aX (gU 3 (fj (J.ae (rS 1) J.aI) .list)) (aX (mF (AX (rB 3)) Xi 100000) (WQ 2 (cH (rS 2))))):=rfl
theorem zR  (h:p∈l):(p.1,kz p.2)∈gX l:=bn (f:=fun p:List Str×List hJ=>(p.1,kz p.2)) h
theorem Vb   (h:nh fs st es l)  (hr:(at0,row)∈l):Gh (.dict (e7 (gX l))) (aB at0)=.ok (kz row):=by
 have:=RQ (l:=gX l) (by rw [j7];exact h.nd) (zR hr);exact this
theorem Pm (l:LZ) (x:List Str) (r:List hJ):gX (l++[(x,r)])=gX l++[(x,kz r)]:=by
 unfold gX;rw [c7];rfl
theorem RY   (g:eM fs es) (B S:D) (o3 z6 z7:Sl)  (h:nh fs st es b.1) (hr:(at0,row)∈b.1) (hl:b.2.length<=b.1.length) :
  XC [.shr B,.shr S,.own (.dict (e7 (gX b.1))),o3,.own (.list (b.2.map aB)),.shr (aB at0),.shr (cG e),.shr (aB (bh e at0))]=.ok (.nx [.shr B,.shr S,.own (.dict (e7 (gX (iw at0 row b e).1))),o3,.own (.list ((iw at0 row b e).2.map aB)),.shr (aB at0),.shr (cG e),.shr (aB (bh e at0))]):=by
 have few:=h.few g;have rl:=(h.row _ hr).2.2;have k64:row.length<b.1.length:=rl;unfold XC;walk_at "zz";rw [RS h.ne,j7];unfold iw;by_cases hm:bh e at0∈b.1.map (·.1)
 ·rw [if_pos hm,decide_eq_true hm];walk_at "zz"
 ·rw [if_neg hm,decide_eq_false hm];walk_at "zz";rw [V9 (l:=gX b.1) (x:=bh e at0) (d:=kz (row++[e])) rfl ?_ rfl h.ne (by unfold gX;rw [ao];omega) (by rw [j7];exact hm)]
  ·walk_at "zz";rw [Ff (ds:=b.2.map aB) (d:=aB (bh e at0)) rfl rfl (by rw [ao];omega),Pm,c7];rfl
  ·walk_at "zz";rw [Vb h hr];walk_at "zz";rw [P1];walk_at "zz";rw [if_pos (by omega)];simp only [kz,c7];rfl
theorem Fo {fs st at0:List Str}{es:List hJ}{row:List hJ}:∀ (xs:List hJ) (b:LZ×List (List Str)),(∀ p∈b.1,p∈(xs.foldl (iw at0 row) b).1)/\(∀ e∈xs,bh e at0∈(xs.foldl (iw at0 row) b).1.map (·.1))/\(∀ x∈(xs.foldl (iw at0 row) b).1.map (·.1),x∈b.1.map (·.1)\/x∈(xs.foldl (iw at0 row) b).2)/\(∀ x∈b.2,x∈(xs.foldl (iw at0 row) b).2)/\(∀ x∈(xs.foldl (iw at0 row) b).2,x∈b.2\/x∈(xs.foldl (iw at0 row) b).1.map (·.1))/\b.1.length+(xs.foldl (iw at0 row) b).2.length=(xs.foldl (iw at0 row) b).1.length+b.2.length
 |[],b=>⟨fun _ h=>h,fun _ h=>(nomatch h),fun _ h=>.inl h,fun _ h=>h,fun _ h=>.inl h,rfl⟩
 |e::r,b=>by
  obtain ⟨a1,a2,a3,a4,a5,a6⟩:=Fm at0 row b e;obtain ⟨b1,b2,b3,b4,b5,b6⟩:=Fo (fs:=fs) (st:=st) (es:=es) r (iw at0 row b e);rw [eE];have km:∀ x∈(iw at0 row b e).1.map (·.1),x∈(r.foldl (iw at0 row) (iw at0 row b e)).1.map (·.1):=fun x hx=>by
   obtain ⟨p,hp,rfl⟩:=List.mem_map.mp hx;exact bn (b1 p hp)
  refine ⟨fun p hp=>b1 p (a1 p hp),fun x hx=>?_,fun x hx=>?_,fun x hx=>b4 x (a4 x hx),fun x hx=>?_,by omega⟩
  ·rcases List.mem_cons.mp hx with z|z
   ·rw [z];exact km _ a2
   ·exact b2 x z
  ·rcases b3 x hx with z|z
   ·rcases a3 x z with y|y
    ·exact .inl y
    ·exact .inr (b4 x y)
   ·exact .inr z
  ·rcases b5 x hx with z|z
   ·rcases a5 x z with y|y
    ·exact .inl y
    ·exact .inr (km x y)
   ·exact .inr z
theorem Vc   (g:eM fs es) (B S:D) (o3 z6 z7:Sl) (h:nh fs st es b.1) (hr:(at0,row)∈b.1) (hl:b.2.length<=b.1.length) (xs:List hJ) (hx:∀ e∈xs,e∈es/\c9 at0 e.needs e.bars=true) :
  nh fs st es (xs.foldl (iw at0 row) b).1/\∃ y6 y7,jo (oh 2 (da (cb 6) (da (cb 7) pK))) XC (xs.map fun e=>fK [cG e,aB (bh e at0)]) [.shr B,.shr S,.own (.dict (e7 (gX b.1))),o3,.own (.list (b.2.map aB)),.shr (aB at0),z6,z7]=.ok (.nx [.shr B,.shr S,.own (.dict (e7 (gX (xs.foldl (iw at0 row) b).1))),o3,.own (.list ((xs.foldl (iw at0 row) b).2.map aB)),.shr (aB at0),y6,y7]):=by
 induction xs generalizing b z6 z7 with
 |nil=>exact ⟨h,z6,z7,rfl⟩
 |cons e r ih =>
  obtain ⟨he,hg⟩:=hx e ak;obtain ⟨a1,a2,a3,a4,a5,a6⟩:=Fm at0 row b e;have h':=Va g h hr he hg;obtain ⟨q1,y6,y7,q2⟩:=ih (.shr (cG e)) (.shr (aB (bh e at0))) h' (a1 _ hr) (by omega) fun x z=>hx x (ai _ z);refine ⟨q1,y6,y7,?_⟩;rw [av,yw (ρ1:=[.shr B,.shr S,.own (.dict (e7 (gX b.1))),o3,.own (.list (b.2.map aB)),.shr (aB at0),.shr (cG e),.shr (aB (bh e at0))]) rfl (RY g B S o3 z6 z7 h hr hl)];exact q2
def qe (l:LZ) (x:List Str):List hJ:=((l.find? fun p=>decide (p.1=x)).map (·.2)).getD []
theorem vF  (h:x∈l.map (·.1)):(x,qe l x)∈l:=by
 unfold qe;induction l with
 |nil=>cases h
 |cons p r ih =>
  rw [bI];by_cases hp:p.1=x
  ·rw [decide_eq_true hp];subst hp;exact ak
  ·rw [decide_eq_false hp];rcases List.mem_cons.mp h with z|z
   ·exact (hp z.symm).elim
   ·exact ai _ (ih z)
def mQ (es:List hJ) (b:LZ×List (List Str)) (x:List Str):LZ×List (List Str):=(es.filter fun e=>c9 x e.needs e.bars).foldl (iw x (qe b.1 x)) b
theorem Pn  (g:eM fs es) (S:D) (o3 z6 z7:Sl) (h:nh fs st es b.1) (hr:at0∈b.1.map (·.1)) (hl:b.2.length<=b.1.length) :
  nh fs st es (mQ es b at0).1/\∃ y6 y7,Ln [.shr (dX fs es),.shr S,.own (.dict (e7 (gX b.1))),o3,.own (.list (b.2.map aB)),.shr (aB at0),z6,z7]=.ok (.nx [.shr (dX fs es),.shr S,.own (.dict (e7 (gX (mQ es b at0).1))),o3,.own (.list ((mQ es b at0).2.map aB)),.shr (aB at0),y6,y7]):=by
 have hm:=vF hr;obtain ⟨q1,y6,y7,q2⟩:=Vc g (dX fs es) S o3 z6 z7 h hm hl (es.filter fun e=>c9 at0 e.needs e.bars) fun e he=>List.mem_filter.mp he;refine ⟨q1,y6,y7,?_⟩;unfold Ln;rw [tQ (ds:=(es.filter fun e=>c9 at0 e.needs e.bars).map fun e=>fK [cG e,aB (bh e at0)])]
 ·exact q2
 ·walk_at "zz";rw [Pj g (h.sub _ hm)];walk_at "zz"
theorem JU (es:List hJ) (b:LZ×List (List Str)) (x:List Str):(∀ p∈b.1,p∈(mQ es b x).1)/\(∀ e∈es,c9 x e.needs e.bars=true->bh e x∈(mQ es b x).1.map (·.1))/\(∀ y∈(mQ es b x).1.map (·.1),y∈b.1.map (·.1)\/y∈(mQ es b x).2)/\(∀ y∈b.2,y∈(mQ es b x).2)/\(∀ y∈(mQ es b x).2,y∈b.2\/y∈(mQ es b x).1.map (·.1))/\b.1.length+(mQ es b x).2.length=(mQ es b x).1.length+b.2.length:=by
 obtain ⟨b1,b2,b3,b4,b5,b6⟩:=Fo (fs:=[]) (st:=[]) (es:=es) (at0:=x) (row:=qe b.1 x) (es.filter fun e=>c9 x e.needs e.bars) b;exact ⟨b1,fun e he hg=>b2 e (List.mem_filter.mpr ⟨he,hg⟩),b3,b4,b5,b6⟩
theorem wK (es:List hJ):∀ (ring:List (List Str)) (b:LZ×List (List Str)),(∀ p∈b.1,p∈(ring.foldl (mQ es) b).1)/\(∀ x∈ring,∀ e∈es,c9 x e.needs e.bars=true->bh e x∈(ring.foldl (mQ es) b).1.map (·.1))/\(∀ y∈(ring.foldl (mQ es) b).1.map (·.1),y∈b.1.map (·.1)\/y∈(ring.foldl (mQ es) b).2)/\(∀ y∈b.2,y∈(ring.foldl (mQ es) b).2)/\(∀ y∈(ring.foldl (mQ es) b).2,y∈b.2\/y∈(ring.foldl (mQ es) b).1.map (·.1))/\b.1.length+(ring.foldl (mQ es) b).2.length=(ring.foldl (mQ es) b).1.length+b.2.length
 |[],b=>⟨fun _ h=>h,fun _ h=>(nomatch h),fun _ h=>.inl h,fun _ h=>h,fun _ h=>.inl h,rfl⟩
 |x::r,b=>by
  obtain ⟨a1,a2,a3,a4,a5,a6⟩:=JU es b x;obtain ⟨b1,b2,b3,b4,b5,b6⟩:=wK es r (mQ es b x);rw [eE];have km:∀ y∈(mQ es b x).1.map (·.1),y∈(r.foldl (mQ es) (mQ es b x)).1.map (·.1):=fun y hy=>by
   obtain ⟨p,hp,rfl⟩:=List.mem_map.mp hy;exact bn (b1 p hp)
  refine ⟨fun p hp=>b1 p (a1 p hp),fun y hy e he hg=>?_,fun y hy=>?_,fun y hy=>b4 y (a4 y hy),fun y hy=>?_,by omega⟩
  ·rcases List.mem_cons.mp hy with z|z
   ·subst z;exact km _ (a2 e he hg)
   ·exact b2 y z e he hg
  ·rcases b3 y hy with z|z
   ·rcases a3 y z with w|w
    ·exact .inl w
    ·exact .inr (b4 y w)
   ·exact .inr z
  ·rcases b5 y hy with z|z
   ·rcases a5 y z with w|w
    ·exact .inl w
    ·exact .inr (km y w)
   ·exact .inr z
theorem Po  (g:eM fs es) (S:D) (o3 z5 z6 z7:Sl) (h:nh fs st es b.1) (hl:b.2.length<=b.1.length) (ring:List (List Str)) (hx:∀ x∈ring,x∈b.1.map (·.1)) :
  nh fs st es (ring.foldl (mQ es) b).1/\∃ y5 y6 y7,jo (cb 5) Ln (ring.map aB) [.shr (dX fs es),.shr S,.own (.dict (e7 (gX b.1))),o3,.own (.list (b.2.map aB)),z5,z6,z7]=.ok (.nx [.shr (dX fs es),.shr S,.own (.dict (e7 (gX (ring.foldl (mQ es) b).1))),o3,.own (.list ((ring.foldl (mQ es) b).2.map aB)),y5,y6,y7]):=by
 induction ring generalizing b z5 z6 z7 with
 |nil=>exact ⟨h,z5,z6,z7,rfl⟩
 |cons x r ih =>
  obtain ⟨a1,a2,a3,a4,a5,a6⟩:=JU es b x;obtain ⟨h',y6,y7,q⟩:=Pn g S o3 z6 z7 h (hx x ak) hl;obtain ⟨q1,w5,w6,w7,q2⟩:=ih (.shr (aB x)) y6 y7 h' (by omega) fun y hy=>by
   obtain ⟨p,hp,e⟩:=List.mem_map.mp (hx y (ai _ hy));rw [<- e];exact bn (a1 p hp)
  refine ⟨q1,w5,w6,w7,?_⟩;rw [av,yw (ρ1:=[.shr (dX fs es),.shr S,.own (.dict (e7 (gX b.1))),o3,.own (.list (b.2.map aB)),.shr (aB x),z6,z7]) rfl q];exact q2
theorem RZ  (g:eM fs es) (S:D) (o3 z4 z5 z6 z7:Sl) (h:nh fs st es l) (ring:List (List Str)) (hx:∀ x∈ring,x∈l.map (·.1)) (ho:o3=.own (.list (ring.map aB))\/o3=.shr (.list (ring.map aB))) :
  nh fs st es (ring.foldl (mQ es) (l,[])).1/\∃ y4 y5 y6 y7,Xi [.shr (dX fs es),.shr S,.own (.dict (e7 (gX l))),o3,z4,z5,z6,z7]=.ok (.nx [.shr (dX fs es),.shr S,.own (.dict (e7 (gX (ring.foldl (mQ es) (l,[])).1))),.shr (.list ((ring.foldl (mQ es) (l,[])).2.map aB)),y4,y5,y6,y7]):=by
 have L:=fun o=>Po g S o z5 z6 z7 (b:=(l,[])) h (cJ _) ring hx;unfold Xi;walk_at "zz";rcases ho with ho|ho
 ·subst ho;obtain ⟨q1,y5,y6,y7,q2⟩:=L (.lck (.list (ring.map aB)));refine ⟨q1,.shr (.list ((ring.foldl (mQ es) (l,[])).2.map aB)),y5,y6,y7,?_⟩;have e:tO 3 (cb 5) Ln [.shr (dX fs es),.shr S,.own (.dict (e7 (gX l))),.own (.list (ring.map aB)),.own (.list []),z5,z6,z7]=.ok (.nx [.shr (dX fs es),.shr S,.own (.dict (e7 (gX (ring.foldl (mQ es) (l,[])).1))),.own (.list (ring.map aB)),.own (.list ((ring.foldl (mQ es) (l,[])).2.map aB)),y5,y6,y7]):=by
   show Z6 3 _ (jo (cb 5) Ln (ring.map aB) [.shr (dX fs es),.shr S,.own (.dict (e7 (gX l))),.lck (.list (ring.map aB)),.own (.list []),z5,z6,z7])=_;have q2':=q2;rw [du] at q2';rw [q2'];rfl
  rw [e];walk_at "zz";simp only [SH];rw [D9 rfl];walk_at "zz"
 ·subst ho;obtain ⟨q1,y5,y6,y7,q2⟩:=L (.shr (.list (ring.map aB)));refine ⟨q1,.shr (.list ((ring.foldl (mQ es) (l,[])).2.map aB)),y5,y6,y7,?_⟩;rw [P6 (d:=.list (ring.map aB)) rfl,tQ (ds:=ring.map aB)]
  ·have q2':=q2;rw [du] at q2';rw [q2'];walk_at "zz";simp only [SH];rw [D9 rfl];walk_at "zz"
  ·walk_at "zz"
structure Pp (fs st:List Str) (es:List hJ) (l:LZ):Prop where
 ok:nh fs st es l
 all:∀ x∈l.map (·.1),∀ e∈es,c9 x e.needs e.bars=true->bh e x∈l.map (·.1)
theorem Fp  (g:eM fs es) (S:D) (P:LZ->List (List Str)->Prop) (hP:∀ l ring,nh fs st es l->(∀ x∈ring,x∈l.map (·.1))->nh fs st es (ring.foldl (mQ es) (l,[])).1->P l ring->P (ring.foldl (mQ es) (l,[])).1 (ring.foldl (mQ es) (l,[])).2):∀ (k fuel:Nat) (o3 z4 z5 z6 z7:Sl) (l:LZ) (ring:List (List Str)),nh fs st es l->(∀ x∈ring,x∈l.map (·.1))->(∀ x∈l.map (·.1),x∉ring->∀ e∈es,c9 x e.needs e.bars=true->bh e x∈l.map (·.1)) ->
  (o3=.own (.list (ring.map aB))\/o3=.shr (.list (ring.map aB)))->P l ring->65-l.length+(if ring=[] then 0 else 1)<=k->k<fuel ->
  ∃ l' y3 y4 y5 y6 y7,(Pp fs st es l'/\P l' [])/\mF (AX (rB 3)) Xi fuel [.shr (dX fs es),.shr S,.own (.dict (e7 (gX l))),o3,z4,z5,z6,z7]=.ok (.nx [.shr (dX fs es),.shr S,.own (.dict (e7 (gX l'))),y3,y4,y5,y6,y7])
 |_,0,_,_,_,_,_,_,_,_,_,_,_,_,_,hf=>absurd hf (Nat.not_lt_zero _)
 |k,fuel+1,o3,z4,z5,z6,z7,l,ring,h,hx,hc,ho,hp,hk,hf=>by
  have ht:AX (rB 3) [.shr (dX fs es),.shr S,.own (.dict (e7 (gX l))),o3,z4,z5,z6,z7]=.ok (!(ring.map aB).isEmpty):=Ph (by rcases ho with z|z<;>subst z<;>rfl);rw [mF,ht];cases ring with
  |nil=>exact ⟨l,o3,z4,z5,z6,z7,⟨⟨h,fun x hx=>hc x hx (fun z=>nomatch z)⟩,hp⟩,rfl⟩
  |cons x r =>
   obtain ⟨h',y4,y5,y6,y7,q⟩:=RZ g S o3 z4 z5 z6 z7 h (x::r) hx ho;obtain ⟨a1,a2,a3,a4,a5,a6⟩:=wK es (x::r) (l,[]);have few:=h'.few g;have few0:=h.few g;simp only [bJ,m_] at a6;rw [if_neg (by simp)] at hk;have hk':65-((x::r).foldl (mQ es) (l,[])).1.length+(if ((x::r).foldl (mQ es) (l,[])).2=[] then 0 else 1)<=k-1:=by
    by_cases hz:((x::r).foldl (mQ es) (l,[])).2=[]
    ·rw [if_pos hz];rw [hz] at a6;simp only [bJ,m_] at a6;omega
    ·rw [if_neg hz];have:=List.length_pos_iff.mpr hz;omega
   obtain ⟨l',w3,w4,w5,w6,w7,e1,e2⟩:=Fp g S P hP (k-1) fuel (.shr (.list (((x::r).foldl (mQ es) (l,[])).2.map aB))) y4 y5 y6 y7 _ _ h' (fun y hy=>by
    rcases a5 y hy with z|z
    ·cases z
    ·exact z) (fun y hy hn e he hg=>by
    rcases a3 y hy with z|z
    ·by_cases hm:y∈x::r
     ·exact a2 y hm e he hg
     ·obtain ⟨p,hp,e'⟩:=List.mem_map.mp (hc y z hm e he hg);rw [<- e'];exact bn (a1 p hp)
    ·exact (hn z).elim) (.inr rfl) (hP l (x::r) h hx h' hp) hk' (by omega)
   refine ⟨l',w3,w4,w5,w6,w7,e1,?_⟩;simp only [av,Mi,jg];rw [q];exact e2
structure Xj (es:List hJ) (l:LZ):Prop where
 cls:∀ p∈l,∀ e∈es,c9 p.1 e.needs e.bars=true->∃ q∈l,q.1=bh e p.1/\q.2.length<=p.2.length+1
 up:l.Pairwise fun p q=>p.2.length<=q.2.length
structure Vd (es:List hJ) (l:LZ) (ring:List (List Str)) (d:Nat):Prop where
 top:∀ p∈l,p.2.length<=d
 rin:∀ p∈l,p.1∈ring->p.2.length=d
 cls:∀ p∈l,p.1∉ring->∀ e∈es,c9 p.1 e.needs e.bars=true->∃ q∈l,q.1=bh e p.1/\q.2.length<=p.2.length+1
 up:l.Pairwise fun p q=>p.2.length<=q.2.length
theorem zS (at0:List Str) (row:List hJ):∀ (xs:List hJ) (b:LZ×List (List Str)),∃ t:LZ,xs.foldl (iw at0 row) b=(b.1++t,b.2++t.map (·.1))/\∀ p∈t,p.2.length=row.length+1
 |[],b=>⟨[],by simp,fun _ h=>(nomatch h)⟩
 |e::r,b=>by
  rw [eE];by_cases hm:bh e at0∈b.1.map (·.1)
  ·have:iw at0 row b e=b:=by unfold iw;rw [if_pos hm]
   rw [this];exact zS at0 row r b
  ·have:iw at0 row b e=(b.1++[(bh e at0,row++[e])],b.2++[bh e at0]):=by unfold iw;rw [if_neg hm]
   rw [this];obtain ⟨t,h1,h2⟩:=zS at0 row r (b.1++[(bh e at0,row++[e])],b.2++[bh e at0]);refine ⟨(bh e at0,row++[e])::t,by rw [h1];simp,fun p hp=>?_⟩;rcases List.mem_cons.mp hp with z|z
   ·subst z;simp
   ·exact h2 p z
theorem Pq  (h:x∈l.map (·.1)):qe (l++t) x=qe l x:=by
 unfold qe;rw [List.find?_append];cases hf:l.find? fun p=>decide (p.1=x) with
 |some p=>rfl
 |none =>
  obtain ⟨p,hp,e⟩:=List.mem_map.mp h;have:=List.find?_eq_none.mp hf p hp;simp [e] at this
theorem Fq (es:List hJ) (d:Nat):∀ (ring:List (List Str)) (b:LZ×List (List Str)),(∀ x∈ring,x∈b.1.map (·.1))->(∀ x∈ring,(qe b.1 x).length=d)->∃ t:LZ,ring.foldl (mQ es) b=(b.1++t,b.2++t.map (·.1))/\∀ p∈t,p.2.length=d+1
 |[],b,_,_=>⟨[],by simp,fun _ h=>(nomatch h)⟩
 |x::r,b,hx,hd=>by
  rw [eE];obtain ⟨t,h1,h2⟩:=zS x (qe b.1 x) (es.filter fun e=>c9 x e.needs e.bars) b;have e1:mQ es b x=(b.1++t,b.2++t.map (·.1)):=h1;rw [e1];obtain ⟨t2,h3,h4⟩:=Fq es d r (b.1++t,b.2++t.map (·.1)) (fun y hy=>by rw [c7];exact bV _ (hx y (ai _ hy))) (fun y hy=>by rw [Pq (hx y (ai _ hy))];exact hd y (ai _ hy));refine ⟨t++t2,by rw [h3];simp,fun p hp=>?_⟩;rcases List.mem_append.mp hp with z|z
  ·rw [h2 p z,hd x ak]
  ·exact h4 p z
theorem Lo    (hx:∀ x∈ring,x∈l.map (·.1)) (h':nh fs st es (ring.foldl (mQ es) (l,[])).1) (hp:∃ d,Vd es l ring d):∃ d,Vd es (ring.foldl (mQ es) (l,[])).1 (ring.foldl (mQ es) (l,[])).2 d:=by
 obtain ⟨d,D⟩:=hp;obtain ⟨a1,a2,a3,a4,a5,a6⟩:=wK es ring (l,[]);obtain ⟨t,e,ht⟩:=Fq es d ring (l,[]) hx fun x hr=>D.rin _ (vF (hx x hr)) hr;have nd:=h'.nd;rw [e] at nd a2 ⊢;rw [c7] at nd;simp only [gO] at *;have top:∀ p∈l++t,p.2.length<=d+1:=fun p hp=>by
  rcases List.mem_append.mp hp with z|z
  ·exact xM (D.top p z)
  ·exact Nat.le_of_eq (ht p z)
 refine ⟨d+1,top,fun p hp hr=>?_,fun p hp hr e he hg=>?_,?_⟩
 ·rcases List.mem_append.mp hp with z|z
  ·exact ((List.nodup_append.mp nd).2.2 p.1 (bn z) p.1 hr rfl).elim
  ·exact ht p z
 ·rcases List.mem_append.mp hp with z|z
  ·by_cases hm:p.1∈ring
   ·obtain ⟨q,hq,eq⟩:=List.mem_map.mp (a2 p.1 hm e he hg);exact ⟨q,hq,eq,by rw [D.rin p z hm];exact top q hq⟩
   ·obtain ⟨q,hq,eq,hl⟩:=D.cls p z hm e he hg;exact ⟨q,bV _ hq,eq,hl⟩
  ·exact (hr (bn z)).elim
 ·refine List.pairwise_append.mpr ⟨D.up,?_,fun p hp q hq=>by rw [ht q hq];exact xM (D.top p hp)⟩;exact List.pairwise_of_forall_mem_list fun p hp q hq=>by rw [ht p hp,ht q hq];exact aq _
theorem Ft  (g:eM fs es) (hs:ng fs st):∃ l,(Pp fs st es l/\Xj es l)/\kj [dX fs es,aB st]=.ok (.dict ((.none,.none)::e7 (gX l))):=by
 have h0:nh fs st es [(st,[])]:=⟨by simp,List.mem_singleton.mpr rfl,fun p hp=>by rw [List.mem_singleton.mp hp];exact hs,fun p hp=>by rw [List.mem_singleton.mp hp];exact ⟨fun _ h=>(nomatch h),rfl,by simp⟩⟩;obtain ⟨l,y3,y4,y5,y6,y7,⟨e1,d,n1⟩,e2⟩:=Fp g (aB st) (fun l ring=>∃ d,Vd es l ring d) (fun l ring _ hx h' hp=>Lo hx h' hp) 65 100000 (.own (.list ([st].map aB))) .no .no .no .no [(st,[])] [st] h0 (fun x hx=>hx) (fun x hx hn=>(hn hx).elim) (.inl rfl) ⟨0,fun p hp=>by rw [List.mem_singleton.mp hp];exact aq _,fun p hp _=>by rw [List.mem_singleton.mp hp];rfl,fun p hp hn=>by rw [List.mem_singleton.mp hp] at hn;exact (hn ak).elim,by simp⟩ (by simp) (by decide);refine ⟨l,⟨e1,fun p hp e he hg=>n1.cls p hp (fun z=>nomatch z) e he hg,n1.up⟩,?_⟩;unfold kj;refine cj ?_;rw [Pl];unfold bv;walk_at "zz";rw [YI (x:=st) (d:=.list []) rfl rfl];walk_at "zz";have e2':mF (AX (rB 3)) Xi 100000 [.shr (dX fs es),.shr (aB st),.own (.dict (e7 [(st,.list [])])),.own (.list [aB st]),.no,.no,.no,.no]=_:=e2;rw [e2'];walk_at "zz";rw [YH e1.ok.ne rfl];walk_at "zz"
def Zg (es:List hJ) (st m b:List Str):Prop:=∃ x,Vq es st x/\c9 x m b=true
noncomputable def Lp (es:List hJ) (st m b:List Str):Bool:=@decide (Zg es st m b) (Ar _)
theorem Fv  : Lp es st m b=true↔Zg es st m b:=by
 unfold Lp;exact @decide_eq_true_iff _ (Ar _)
theorem Pp.keys   (h:Pp fs st es l) (x:List Str):x∈l.map (·.1)↔Vq es st x:=by
 constructor
 ·intro hx;obtain ⟨p,hp,rfl⟩:=List.mem_map.mp hx;obtain ⟨r1,r2,_⟩:=h.ok.row p hp;exact ⟨p.2,r1,r2⟩
 ·rintro ⟨rs,r1,r2⟩;exact zQ (M:=fun x=>x∈l.map (·.1)) h.all rs st x (bn (f:=(·.1)) h.ok.beg) r1 r2
theorem R_ {fs st m b:List Str}{es:List hJ}{ks:List (List Str)} (h:∀ x,x∈ks↔Vq es st x):(ks.any fun x=>c9 x m b)=Lp es st m b:=by
 rw [qY,Fv,jl];constructor
 ·rintro ⟨x,h1,h2⟩;exact ⟨x,(h x).mp h1,h2⟩
 ·rintro ⟨x,h1,h2⟩;exact ⟨x,(h x).mpr h1,h2⟩
def Xk (es:List hJ) (st m b:List Str) (k:Int):Prop:=(∃ rs x,(∀ e∈rs,e∈es)/\lN rs st=some x/\c9 x m b=true/\(rs.length:Int)=k)/\∀ rs x,(∀ e∈rs,e∈es)->lN rs st=some x->c9 x m b=true->k<=(rs.length:Int)
theorem Fw {β:Type} (len:β->Int) {l:List (List Str×β)}{es:List hJ} (hc:∀ p∈l,∀ e∈es,c9 p.1 e.needs e.bars=true->∃ q∈l,q.1=bh e p.1/\len q.2<=len p.2+1):∀ (rs:List hJ) (p:List Str×β) (x:List Str),p∈l->(∀ e∈rs,e∈es)->lN rs p.1=some x->∃ q∈l,q.1=x/\len q.2<=len p.2+rs.length
 |[],p,x,hp,_,h=>by
  cases h;exact ⟨p,hp,rfl,by simp⟩
 |a::r,p,x,hp,he,h=>by
  have h':(if c9 p.1 a.needs a.bars then lN r (bh a p.1) else none)=some x:=h;split at h'
  ·rename_i hg
   obtain ⟨q,q1,q2,q3⟩:=hc p hp a (he a ak) hg;rw [<- q2] at h';obtain ⟨s,s1,s2,s3⟩:=Fw len hc r q x q1 (fun e h=>he e (ai _ h)) h';refine ⟨s,s1,s2,?_⟩;rw [aP];omega
  ·cases h'
theorem Fx    : ∀ {l:LZ},(l.Pairwise fun p q=>p.2.length<=q.2.length)->(l.map (·.1)).filter g=x0::r0->q∈l->g q.1=true->(qe l x0).length<=q.2.length
 |[],_,_,hq,_=>nomatch hq
 |p::t,up,hF,hq,hg=>by
  obtain ⟨u1,u2⟩:=List.pairwise_cons.mp up;rw [av] at hF;unfold qe;rw [bI];by_cases hp:g p.1=true
  ·rw [E1 hp] at hF;rw [decide_eq_true (sd hF).1];rcases List.mem_cons.mp hq with z|z
   ·subst z;exact aq _
   ·exact u1 q z
  ·rw [List.filter_cons_of_neg hp] at hF;have hx:g x0=true:=by
    have:x0∈(t.map (·.1)).filter g:=by rw [hF];exact ak
    exact (List.mem_filter.mp this).2
   rw [decide_eq_false fun z=>hp (by rw [z];exact hx)];rcases List.mem_cons.mp hq with z|z
   ·subst z;exact (hp hg).elim
   ·exact Fx u2 hF z hg
theorem Hy   (g:eM fs es) (hw:zM fs m b) (hb:Pp fs st es l) (hn:Xj es l) :
  (Lp es st m b=false/\mq [.dict ((.none,.none)::e7 (gX l)),oq m b]=.ok (.list []))\/∃ p∈l,∃ r:List (List Str),c9 p.1 m b=true/\Xk es st m b (p.2.length:Nat)/\mq [.dict ((.none,.none)::e7 (gX l)),oq m b]=.ok (.list ((p.1::r).map aB)):=by
 have l1:=fJ hw.must g.rise.len;have l2:=fJ hw.bars g.rise.len;have few:=hb.ok.few g;have lf:=se (fun x=>c9 x m b) (l.map (·.1));rw [ao] at lf;have key:∀ {ds:List D},(∀ z,hG (iE 1 [z,.shr (.dict ((.none,.none)::e7 (gX l))),.shr (.list (((l.map (·.1)).filter fun x=>c9 x m b).map aB))] (g9 (g2 (c8 (J.ae (g2 (rB 1) (rB 0) Gh) J.aI) (iD kw)) (c8 (J.ae (g2 (rB 1) (g2 (rB 2) (kI 0) a_) Gh) J.aI) (iD kw)) (pJ false))) (rS 0)) (((l.map (·.1)).filter fun x=>c9 x m b).map aB)=.ok ds)->mq [.dict ((.none,.none)::e7 (gX l)),oq m b]=.ok (.list ds):=by
  intro ds hd;unfold mq;refine cj ?_;unfold sL bv;walk_at "zz";rw [Xh];walk_at "zz";rw [Pg,j7];walk_at "zz";rw [if_pos (by omega)];rw [eQ _ (fun x:List Str=>aB x) (fun x=>aB x) (fun x=>c9 x m b) (l.map (·.1)) fun x hx=>lY (by
   walk_at "zz";rw [zN (by omega) (by omega)];walk_at "zz") fun _=>rfl]
  walk_at "zz";rw [if_pos (by omega)];rw [show (lR (fun x=>aB x) ((l.map (·.1)).filter fun x=>c9 x m b))=((l.map (·.1)).filter fun x=>c9 x m b).map aB from rfl,hd];walk_at "zz"
 cases hF:(l.map (·.1)).filter (fun x=>c9 x m b) with
 |nil =>
  left;refine ⟨?_,key fun z=>?_⟩
  ·rw [<- R_ (fs:=fs) hb.keys];refine Bool.eq_false_iff.mpr fun hz=>?_;obtain ⟨x,h1,h2⟩:=List.any_eq_true.mp hz;have:x∈(l.map (·.1)).filter (fun x=>c9 x m b):=List.mem_filter.mpr ⟨h1,h2⟩
   rw [hF] at this;cases this
  ·rw [hF];rfl
 |cons x0 r0 =>
  right;have hx0:x0∈(l.map (·.1)).filter (fun x=>c9 x m b):=by rw [hF];exact ak
  obtain ⟨k1,k2⟩:=List.mem_filter.mp hx0;have km:=vF k1;obtain ⟨r1,r2,r3⟩:=hb.ok.row _ km;have ixr:∀ x∈l.map (·.1),Gh (.dict ((.none,.none)::e7 (gX l))) (aB x)=.ok (kz (qe l x)):=fun x hx=>by
   have:=Pf (l:=gX l) (by rw [j7];exact hb.ok.nd) (zR (vF hx));exact this
  have ix0:a_ (.list ((x0::r0).map aB)) (.int 0)=.ok (aB x0):=sj (j:=0) rfl;refine ⟨(x0,qe l x0),km,r0.filter fun x=>decide (((qe l x).length:Int)=(qe l x0).length),k2,⟨⟨qe l x0,x0,r1,r2,k2,rfl⟩,fun rs x h1 h2 h3=>?_⟩,key fun z=>?_⟩
  ·obtain ⟨q,q1,q2,q3⟩:=Fw (fun r:List hJ=>(r.length:Int)) (fun p hp e he hg=>by
    obtain ⟨q,a,b,c⟩:=hn.cls p hp e he hg;exact ⟨q,a,b,by omega⟩) rs (st,[]) x hb.ok.beg h1 h2
   have:=Fx (q:=q) hn.up hF q1 (by rw [q2];exact h3);simp only [bJ] at q3;show ((qe l x0).length:Int)<=_;omega
  ·rw [hF];have hx':∀ x∈x0::r0,x∈l.map (·.1):=fun x hx=>(List.mem_filter.mp (by rw [hF];exact hx)).1;rw [eQ _ (fun x:List Str=>aB x) (fun x=>aB x) (fun x=>decide (((qe l x).length:Int)=(qe l x0).length)) (x0::r0) fun x hx=>lY (by
    walk_at "zz";rw [ixr x (hx' x hx)];walk_at "zz";rw [show (aB x0::lR (fun x=>aB x) r0)=(x0::r0).map aB from rfl,ix0];walk_at "zz";rw [ixr x0 k1];walk_at "zz";rw [mM];walk_at "zz") fun _=>rfl]
   rw [E1 (by simp)]
theorem Ve (l:LZ):((e7 (gX l)).map (·.1))=(l.map (·.1)).map J.wF:=by
 rw [<- j7 l];unfold e7 mO;rw [ca,ca];rfl
theorem zT  (g:eM fs es) (hs:ng fs st):∃ ks:List (List Str),ks.Nodup/\(∀ x,x∈ks↔Vq es st x)/\(∀ x∈ks,ng fs x)/\ks.length<=64/\o_ [dX fs es,aB st]=.ok (.list ((lV ks).map aB)):=by
 obtain ⟨l,⟨hb,_⟩,e⟩:=Ft g hs;have few:=hb.ok.few g;have nd:=hb.ok.nd;refine ⟨l.map (·.1),nd,hb.keys,fun x hx=>?_,by rw [ao];exact few,?_⟩
 ·obtain ⟨p,hp,rfl⟩:=gS.1 hx;exact hb.ok.sub p hp
 have hs1:J.sA (.dict ((.none,.none)::e7 (gX l)))=.ok (.list ((lV (l.map (·.1))).map aB)):=by
  unfold J.sA;dsimp only;rw [Ve,J.zz];dsimp only;unfold J.oW;rw [if_pos ⟨nd,by rw [ao];exact few⟩];rfl
 unfold o_;refine cj ?_;unfold sM bv;walk_at "zz";rw [zO g hs];walk_at "zz";rw [e];walk_at "zz";rw [hs1];walk_at "zz"
theorem S0 (neg:Bool) {fs:List Str} (hf:∀ x∈fs,zC x=true) {ks:List (List Str)} (h:∀ x∈ks,ng fs x):pJ neg (.list (ks.map aB)) (.list (ks.map aB))=.ok (.bool (!neg)):=by
 have h1:(dk (ks.map aB)).canLay0=true:=by
  simp only [dh];exact vD aB ks fun x hx=>by simp only [dh];exact pc hf (h x hx)
 have h2:(dk (ks.map aB)).depth<=60:=by
  have:=sR aB 1 (fun x=>by
   have:=sR aO 0 (fun x=>by simp [qA]) x;simp only [qA];omega) ks
  simp only [qA];omega
 unfold pJ;rw [h1,PySem.SeqAt.eqv_refl _ h1,decide_eq_true (ck (Nat.min_le_left _ _) h2)];cases neg<;>rfl
theorem Xl (e:hJ):Hc (cG e) (some 1) (some 5)=.ok (.tuple [aB e.needs,aB e.bars,aB e.makes,aB e.ends]):=id rfl
theorem YJ (e:hJ):a_ (cG e) (.int 5)=.ok (.int e.price):=id rfl
def cE (ff xs:List Str):List Str:=xs.filter fun x=>decide (x∈ff)
def gV (ff:List Str) (e:hJ):hJ:=⟨e.name,cE ff e.needs,cE ff e.bars,cE ff e.makes,cE ff e.ends,e.price⟩
theorem Lq (h:xs.length<=60) (ρ:aD):c8 (J.ae (dY 1 [1] (k7 (rB 0)) (g9 (g2 (rB 0) (rB 1) (At false))) (rS 0)) J.aI) (iD fk) (.shr (aB xs)::.shr (aB ff)::ρ)=.ok (aB (cE ff xs)):=by
 walk_at "zz";rw [if_pos (by omega)];rw [eQ _ (fun x:Str=>aO x) (fun x=>aO x) (fun x=>decide (x∈ff)) xs fun x hx=>lY (by
  walk_at "zz";rw [om];rfl) fun _=>rfl]
 walk_at "zz";rw [e6];rfl
theorem Hz (he:C2 e) (ff:List Str):hG (iE 1 [Sl.no,Sl.shr (aB ff)] kT (c8 (J.ae (dY 1 [1] (k7 (rB 0)) (g9 (g2 (rB 0) (rB 1) (At false))) (rS 0)) J.aI) (iD fk))) [aB e.needs,aB e.bars,aB e.makes,aB e.ends]=.ok [aB (cE ff e.needs),aB (cE ff e.bars),aB (cE ff e.makes),aB (cE ff e.ends)]:=by
 have:=he.needs;have:=he.bars;have:=he.makes;have:=he.ends;have pk:=dq (iE 1 [Sl.no,Sl.shr (aB ff)] kT (c8 (J.ae (dY 1 [1] (k7 (rB 0)) (g9 (g2 (rB 0) (rB 1) (At false))) (rS 0)) J.aI) (iD fk))) (fun x:List Str=>aB x) (fun x=>aB (cE ff x)) [e.needs,e.bars,e.makes,e.ends] fun x hx=>fh rfl (Lq (by
  simp only [aZ,bi,or_false] at hx;rcases hx with z|z|z|z<;>rw [z]<;>omega) [])
 simp only [av,du] at pk;exact pk
theorem Pr (he:C2 e) (ff:List Str):l7 [cG e,aB ff]=.ok (cG (gV ff e)):=by
 unfold l7;refine cj ?_;unfold l5 bv;walk_at "zz";rw [Xl];walk_at "zz";rw [Hz he];walk_at "zz";rw [P1];walk_at "zz";rw [e6];walk_at "zz";rw [YJ];walk_at "zz";rfl
theorem S1  (g:eM fs es) (h:ng fs ff):Dj [dX fs es,aB ff]=.ok (dX ff (es.map (gV ff))):=by
 have l:=g.len;unfold Dj;refine cj ?_;unfold Di bv;walk_at "zz";rw [zL g];walk_at "zz";rw [Hq];walk_at "zz";rw [iT g.rise.ok h (fJ h g.rise.len)];walk_at "zz";rw [RL];walk_at "zz";rw [if_pos (by omega)];rw [dq _ cG (fun e=>cG (gV ff e)) es fun e he=>fh rfl (by
  walk_at "zz";rw [Pr (pd g he)])]
 walk_at "zz";rw [e6];walk_at "zz";unfold dX;rw [ca];rfl
theorem fv  : x∈cE ff xs↔x∈xs/\x∈ff:=by
 unfold cE;rw [Aq,decide_eq_true_iff]
theorem lC (h:ng fs xs):ng ff (cE ff xs):=⟨h.up.sublist jr,fun x hx=>(fv.1 hx).2⟩
theorem Lr  (g:eM fs es) (hf:ng fs ff):eM ff (es.map (gV ff)):=by
 refine ⟨⟨fun x hx=>g.rise.ok x (hf.mem x hx),hf.up,fJ hf g.rise.len⟩,by rw [ao];exact g.len,by rw [ca];exact g.nd,fun e he=>?_⟩;obtain ⟨a,ha,rfl⟩:=gS.1 he;have q:=g.ok a ha;exact ⟨q.name,lC q.needs,lC q.bars,lC q.makes,lC q.ends,fun x h1 h2=>q.nb x (fv.1 h1).1 (fv.1 h2).1,fun x h1 h2=>q.me x (fv.1 h1).1 (fv.1 h2).1,q.p0,q.p9⟩
theorem wL (h:c9 st m b=true):c9 (cE ff st) (cE ff m) (cE ff b)=true:=by
 unfold c9 at h ⊢;rw [aS,cf,Ma,xf] at h ⊢;refine ⟨fun x hx=>?_,fun x hx hy=>?_⟩
 ·rw [decide_eq_true_iff,fv];exact ⟨of_decide_eq_true (h.1 x (fv.1 hx).1),(fv.1 hx).2⟩
 ·exact h.2 x (fv.1 hx).1 (decide_eq_true (fv.1 (of_decide_eq_true hy)).1)
theorem xw (ff st:List Str) (e:hJ):bh (gV ff e) (cE ff st)=cE ff (bh e st):=by
 refine Hr (zE _) ((zE _).sublist jr) fun x=>?_;rw [fv,ul,ul];show (x∈cE ff st/\x∉cE ff e.ends)\/x∈cE ff e.makes↔_;rw [fv,fv,fv];by_cases h:x∈ff<;>simp [h]
theorem vG (ff:List Str):∀ (rs:List hJ) (st x:List Str),lN rs st=some x->lN (rs.map (gV ff)) (cE ff st)=some (cE ff x)/\fX (rs.map (gV ff)) (cE ff st)=(fX rs st).map (cE ff)
 |[],st,x,h=>by cases h;exact ⟨rfl,rfl⟩
 |e::r,st,x,h=>by
  have h:(if c9 st e.needs e.bars then lN r (bh e st) else none)=some x:=h;cases hg:c9 st e.needs e.bars with
  |false=>rw [hg] at h;cases h
  |true =>
   rw [hg] at h;obtain ⟨a,b⟩:=vG ff r _ x h;have hk:c9 (cE ff st) (gV ff e).needs (gV ff e).bars=true:=wL hg;constructor
   ·show (if c9 (cE ff st) (gV ff e).needs (gV ff e).bars then lN (r.map (gV ff)) (bh (gV ff e) (cE ff st)) else none)=_;rw [hk,xw];exact a
   ·show (if c9 (cE ff st) (gV ff e).needs (gV ff e).bars then cE ff st::fX (r.map (gV ff)) (bh (gV ff e) (cE ff st)) else [cE ff st])=lR (cE ff) (if c9 st e.needs e.bars then st::fX r (bh e st) else [st]);rw [hk,hg,xw];show cE ff st::_=cE ff st::_;rw [b]
theorem nQ (h:xs.length<=60):ig [aB ff,aB xs]=.ok (aB (cE ff xs)):=by
 unfold ig;refine cj ?_;unfold q9 bv;walk_at "zz";rw [if_pos (by omega)];rw [eQ _ (fun x:Str=>aO x) (fun x=>aO x) (fun x=>decide (x∈ff)) xs fun x hx=>lY (by
  walk_at "zz";rw [om];rfl) fun _=>rfl]
 walk_at "zz";rw [e6];rfl
theorem um  (g:eM fs es) (hs:ng fs st) (hw:zM fs m b):(Lp es st m b=false/\iR [dX fs es,aB st,oq m b]=.ok .none)\/∃ rs x,Tu es rs/\lN rs st=some x/\c9 x m b=true/\Xk es st m b (rs.length:Nat)/\iR [dX fs es,aB st,oq m b]=.ok (kz rs):=by
 obtain ⟨l,⟨hb,hn⟩,e⟩:=Ft g hs;have few:=hb.ok.few g;rcases Hy g hw hb hn with ⟨h1,h2⟩|⟨p,hp,r,h1,h2,h3⟩
 ·refine .inl ⟨h1,?_⟩;unfold iR;refine cj ?_;unfold mH bv;walk_at "zz";rw [P4 g hs hw];walk_at "zz";rw [e];walk_at "zz";rw [h2];walk_at "zz";rw [Ph (ds:=[]) rfl];walk_at "zz";rfl
 ·obtain ⟨r1,r2,r3⟩:=hb.ok.row p hp;have ixp:Gh (.dict ((.none,.none)::e7 (gX l))) (aB p.1)=.ok (kz p.2):=Pf (l:=gX l) (by rw [j7];exact hb.ok.nd) (zR hp);have ix1:a_ (.list ((p.1::r).map aB)) (.int 0)=.ok (aB p.1):=sj (j:=0) rfl;refine .inr ⟨p.2,p.1,⟨r1,by omega⟩,r2,h1,h2,?_⟩;unfold iR;refine cj ?_;unfold mH bv;walk_at "zz";rw [P4 g hs hw];walk_at "zz";rw [e];walk_at "zz";rw [h3];walk_at "zz";rw [Ph (ds:=(p.1::r).map aB) rfl];walk_at "zz";rw [Mi];walk_at "zz";rw [show (aB p.1::lR aB r)=(p.1::r).map aB from rfl,ix1];walk_at "zz";rw [ixp];walk_at "zz"
theorem Ps {A B C:D} (h:iR [A,B,C]=.ok .none):xt [A,B,C]=.ok .none:=by
 unfold xt;refine cj ?_;unfold F8 bv;walk_at "zz";rw [h];walk_at "zz";rw [Tt];walk_at "zz"
theorem HA {A B C:D}{ds:List D} (h:iR [A,B,C]=.ok (.list ds)):xt [A,B,C]=.ok (.int (ds.length:Nat)):=by
 unfold xt;refine cj ?_;unfold F8 bv;walk_at "zz";rw [h];walk_at "zz";rw [show CZ false (dk ds) Gd=.ok (.bool false) from rfl];walk_at "zz"
theorem Fz  (g:eM fs es) (h:Tu es rs) (hs:ng fs st) (hx:lN rs st=some x):nJ [dX fs es,aB st,kz rs]=.ok (.list ((fX rs st).map aB)):=by
 have ht:=C6 rs st;rw [hx] at ht;have ht:=of_decide_eq_true ht;unfold nJ;refine cj ?_;unfold yp bv;walk_at "zz";rw [zO g hs];walk_at "zz";rw [Hu g h];walk_at "zz";rw [Hv g h hs];walk_at "zz";rw [decide_eq_false (by omega)];walk_at "zz"
theorem wM  (g:eM fs es):∀ (rs:List hJ) (st x:List Str),(∀ e∈rs,e∈es)->ng fs st->x∈fX rs st->ng fs x
 |[],st,x,_,hs,h=>by
  rw [c6.1 h];exact hs
 |e::r,st,x,hm,hs,h=>by
  have h:x∈(if c9 st e.needs e.bars then st::fX r (bh e st) else [st]):=h;cases hg:c9 st e.needs e.bars with
  |false =>
   rw [hg] at h;rw [c6.1 h];exact hs
  |true =>
   rw [hg] at h;rcases aZ.1 h with rfl|h
   ·exact hs
   ·exact wM g r _ x (fun a ha=>hm a (ai _ ha)) (qc g.rise.up (g.ok e (hm e ak)) hs) h
theorem S2 {fs:List Str} (hf:∀ x∈fs,zC x=true) {ks:List (List Str)} (h:∀ x∈ks,ng fs x) {x:List Str} (hx:x∈ks):J.Vp false (aB x) (.list (ks.map aB))=.ok (.bool true):=by
 have h1:∀ x∈ks,(aB x).canLay0=true:=fun x hx=>by simp only [dh];exact pc hf (h x hx)
 have h2:(aB x).depth<=60:=by
  have:=sR aO 0 (fun x=>by simp [qA]) x;simp only [qA];omega
 have h3:((ks.map aB).any fun y=>aY y (aB x))=true:=jl.2 ⟨_,bn hx,OY x⟩;unfold J.Vp;dsimp only;rw [h1 x hx,vD aB ks h1,decide_eq_true h2,h3];rfl
theorem law_true (ns:List Int):F_law [.list (ns.map .int)]=.ok (.bool true):=by
 obtain ⟨fs,es,ss,wm,wb,hc,gb,gs,gw,_⟩:=RM ns 6 6 (by decide) (by decide) (by decide) (by decide);obtain ⟨ff,f1,f2⟩:=JK ns 300 (by decide) fs gb.rise.len 7;have hf:=Dt gb.rise.up f2;have g2:=Lr gb hf;have s2:ng ff (cE ff ss):=lC gs;have w2:zM ff (cE ff wm) (cE ff wb):=⟨lC gw.must,lC gw.bars,fun x h1 h2=>gw.mb x (fv.1 h1).1 (fv.1 h2).1⟩;have sl:∀ {x},ng fs x->x.length<=60:=fun h=>by have:=fJ h gb.rise.len;omega
 have m0:=fG ns 0 9 (by decide);have m1:=gH ns 0 9 (by decide);obtain ⟨rs,r1,⟨x,r2⟩,r3⟩:=RX gb ns 320 (fF ns 0 9) (by decide) m0 (by omega) gs;obtain ⟨k1,k2⟩:=vG ff rs ss x r2;have row2:Tu (es.map (gV ff)) (rs.map (gV ff)):=⟨fun e he=>by
  obtain ⟨a,ha,rfl⟩:=gS.1 he;exact bn (r1.mem a ha),by rw [ao];exact r1.len⟩
 have enc2:kz (rs.map (gV ff))=kz rs:=by
  show dk _=dk _;rw [ca];rfl
 have l2:=Fz g2 row2 s2 k1;rw [enc2,k2] at l2;have l1:=Fz gb r1 gs r2;have tl:=C5 rs ss;have rl:=r1.len;obtain ⟨ks,_,p2,p3,p5,p4⟩:=zT gb gs;obtain ⟨js,_,j2,j3,_,j4⟩:=zT g2 s2;have rch2:∀ y,Vq es ss y->Vq (es.map (gV ff)) (cE ff ss) (cE ff y):=fun y hy=>by
  obtain ⟨qs,q1,q2⟩:=hy;refine ⟨qs.map (gV ff),fun e he=>?_,(vG ff qs ss y q2).1⟩;obtain ⟨a,ha,rfl⟩:=gS.1 he;exact bn (q1 a ha)
 have pl:(lV ks).length<=64:=by rw [(jA ks).length_eq];exact p5
 unfold F_law;refine cj ?_;unfold Jx bv;walk_at "zz";rw [hc];walk_at "zz";rw [YE];walk_at "zz";rw [Hq];walk_at "zz";rw [f1];walk_at "zz";rw [S1 gb hf];walk_at "zz";rw [nQ (sl gs)];walk_at "zz";rw [fH ns 0 9 (by decide) (by decide)];walk_at "zz";rw [r3];walk_at "zz";rw [show BW nJ [dX ff (es.map (gV ff)),aB (cE ff ss),kz rs]=yZ (nJ [dX ff (es.map (gV ff)),aB (cE ff ss),kz rs]) from rfl,l2,show yZ (R.ok (dk (((fX rs ss).map (cE ff)).map aB)))=R.ok (dk (((fX rs ss).map (cE ff)).map aB)) from rfl];walk_at "zz";rw [l1];walk_at "zz";rw [if_pos (by omega)];rw [dq _ (fun x:List Str=>aB x) (fun x=>aB (cE ff x)) (fX rs ss) fun y hy=>fh rfl (by
  walk_at "zz";rw [nQ (sl (wM gb rs ss y r1.mem gs hy))])]
 walk_at "zz";rw [show (fX rs ss).map (fun x=>aB (cE ff x))=((fX rs ss).map (cE ff)).map aB by rw [ca];rfl];rw [S0 true g2.rise.ok fun y hy=>by
  obtain ⟨z,hz,rfl⟩:=gS.1 hy;exact lC (wM gb rs ss z r1.mem gs hz)]
 walk_at "zz";rw [j4];walk_at "zz";rw [p4];walk_at "zz";rw [if_pos (by omega)];rw [dq _ (fun x:List Str=>aB x) (fun _=>cU true) (lV ks) fun y hy=>fh rfl (by
  have hy':=(jA ks).mem_iff.1 hy;walk_at "zz";rw [nQ (sl (p3 y hy'))];walk_at "zz";rw [S2 (fs:=ff) g2.rise.ok (fun z hz=>j3 z ((jA js).mem_iff.1 hz)) ((jA js).mem_iff.2 ((j2 _).2 (rch2 y ((p2 y).1 hy'))))])]
 walk_at "zz";rw [jv _ (fun _=>true),show ((lV ks).map fun _=>true).all id=true by simp];walk_at "zz";have c2:∀ {m b:List Str},ng fs m->ng fs b->ig [aB ff,aB m]=.ok (aB (cE ff m)):=fun h _=>nQ (sl h);rcases um gb gs gw with ⟨a1,a2⟩|⟨qs,y,a1,a2,a3,a4,a5⟩
 ·rw [Ps a2];walk_at "zz";rw [V5];walk_at "zz";rw [nQ (sl gw.must)];walk_at "zz";rw [V6];walk_at "zz";rw [nQ (sl gw.bars)];walk_at "zz";have fin:∃ d,xt [dX ff (es.map (gV ff)),aB (cE ff ss),oq (cE ff wm) (cE ff wb)]=.ok d:=by
   rcases um g2 s2 w2 with ⟨b1,b2⟩|⟨ts,z,b1,b2,b3,b4,b5⟩
   ·exact ⟨_,Ps b2⟩
   ·exact ⟨_,HA b5⟩
  obtain ⟨d,hd⟩:=fin;rw [hd];walk_at "zz";rw [Tt];walk_at "zz"
 ·rw [HA a5];walk_at "zz";rw [V5];walk_at "zz";rw [nQ (sl gw.must)];walk_at "zz";rw [V6];walk_at "zz";rw [nQ (sl gw.bars)];walk_at "zz";have run2:=(vG ff qs ss y a2).1;have mem2:∀ e∈qs.map (gV ff),e∈es.map (gV ff):=fun e he=>by
   obtain ⟨a,ha,rfl⟩:=gS.1 he;exact bn (a1.mem a ha)
  rcases um g2 s2 w2 with ⟨b1,b2⟩|⟨ts,z,b1,b2,b3,b4,b5⟩
  ·exfalso;have:Lp (es.map (gV ff)) (cE ff ss) (cE ff wm) (cE ff wb)=true:=Fv.2 ⟨_,⟨_,mem2,run2⟩,wL a3⟩
   rw [b1] at this;cases this
  ·have le:=b4.2 _ _ mem2 run2 (wL a3);rw [ao] at le;rw [HA b5];walk_at "zz";rw [show CZ false (eK (qs.length:Nat)) Gd=.ok (.bool false) from rfl];walk_at "zz";rw [show CZ true (eK (ts.length:Nat)) Gd=.ok (.bool true) from rfl];walk_at "zz";rw [decide_eq_true le]
end Z
end
namespace Z
open PySem L2 J
section
def top (i:Nat):db:=PySem.Challenge.pw_errands_k29_whole_seen.main.body.getD i (.Pass ⟨0,0,0,0⟩)
section
variable {e:En}
abbrev hU:db:=top 68
abbrev kK:List Str:=["_law_ask","_law_one","_law_other","_law_third","_law_e"]
theorem vH:br kK ["_law_ask","_law_one","_law_other","_law_third"] (aw hU):=dg (by decide +kernel)
theorem vI {y:Str}{kf k:Nat}{Fy:List D->R D} (D:fZ e.K e.mg "_law_told_three" hU) (G:FN e y kf 3 Fy) (hk:kf<=k):FT e "_law_told_three" y (k+1) 3 (BW Fy):=by
 obtain ⟨f,fd,F,hm⟩:=D.ex
 obtain ⟨a,fda,psa,hf,hma,hka,hba⟩:=G.ex
 refine Rg (k:=k) (g:=Jw (cH (dU 3 Fy (ae (rS 1) (ae (rS 2) (ae (rS 3) aI)))))) F vH hm (b4 F) hma rfl (fun cdv A outer s H E hr ρ=>?_) fun ds hl=>?_
 ·exact Ct (Rw (c:=⟨uX (vh e.P e.w) e.P e.w e.K e.mg e.base kK "_law_told_three" (aw hU) f cdv A outer s H E,e.cls,E⟩) 0 (fun pn1=>Ct (UE (c:=⟨V_ (uX (vh e.P e.w) e.P e.w e.K e.mg e.base kK "_law_told_three" (aw hU) f cdv A outer s H E) (fun _ _=>False) pn1,e.cls,E0⟩) hf hka hba (hr.mono hk) dQ (aa (ag 1) (aa (ag 2) (aa (ag 3) aC))) (ρ:=ρ))))
 ·match ds,hl with
  |[_,_,_],_=>exact La rfl rfl
abbrev md:db:=top 18
abbrev vJ:List Str:=["one","other"]
theorem AY:br vJ ["one","other"] (aw md):=dg (by decide +kernel)
abbrev mf (e:En):=FN e "share_none" 1 2 eR
theorem AZ (D:fZ e.K e.mg "share_none" md) (B:Bi e.mg):mf e:=nc (k:=0) (g:=kg) D AY b2 fun _ _ _ _ _ _ _ hr=>by unfold kg;exact (aK (bz (N9 (bW (Nj rfl) rfl B.any yD (bp (JE.bor (JN.je (d_ (N':=["fact","other"]) (ix:=[1]) 1 (by decide) rfl (bR (so:=aw md) (N:=vJ) (by decide +kernel)) (eB (ah 0)) (fun cl A0 s0 H0 ex pn=>⟨cB (i:=0) (by show (["fact","other"] : List Str).Nodup;decide +kernel) rfl (.inl rfl),fg,(lL (yT) (ah 0) (ah 1))⟩)))) bS)))))
abbrev sS:db:=top 19
abbrev C9:List Str:=["facts","others"]
theorem HB:br C9 ["facts","others"] (aw sS):=dg (by decide +kernel)
abbrev Ca (e:En):=FN e "without" 1 2 sC
theorem HC (D:fZ e.K e.mg "without" sS) (B:Bi e.mg):Ca e:=nc (k:=0) (g:=sB) D HB b2 fun _ _ _ _ _ _ _ hr=>by unfold sB;exact (aK (bz (dS (gG rfl) rfl B.tuple aV (bp (JE.bor (JN.je (d_ (N':=["fact","others"]) (ix:=[1]) 1 (by decide) rfl (bR (so:=aw sS) (N:=C9) (by decide +kernel)) (eB (ah 0)) (fun cl A0 s0 H0 ex pn=>⟨cB (i:=0) (by show (["fact","others"] : List Str).Nodup;decide +kernel) rfl (.inl rfl),(k8 (dL (yU) (ah 0) (ah 1))),(ag 0)⟩)))) bS))))
abbrev zU:db:=top 20
abbrev Pt:List Str:=["one","other"]
theorem Ls:br Pt ["one","other"] (aw zU):=dg (by decide +kernel)
abbrev FA (e:En):=FN e "joined" 1 2 vy
theorem Lu (D:fZ e.K e.mg "joined" zU) (B:Bi e.mg):FA e:=nc (k:=0) (g:=vw) D Ls b2 fun _ _ _ _ _ _ _ hr=>by unfold vw;exact (aK (bz (dS (gG rfl) rfl B.tuple aV (bp (JE.bor (uh rfl (UH (D8 rfl (ah 0) rfl B.set) (D8 rfl (ah 1) rfl B.set)) rfl B.sorted)) bS))))
abbrev sU:db:=top 21
abbrev Cb:List Str:=["thing"]
theorem HD:br Cb ["thing"] (aw sU):=dg (by decide +kernel)
abbrev wN (e:En):=FN e "is_word" 1 1 oX
theorem HE (D:fZ e.K e.mg "is_word" sU) (B:Bi e.mg) (mR:Cn e.mg "MOST_LETTERS" 6):wN e:=nc (k:=0) (g:=sD) D HD b1 fun _ _ _ _ _ _ _ hr=>by unfold sD;exact (ay (fu (JW.t (tM (fE (eV (o8 (ah 0) rfl B.isinstance rfl B.str yE (by decide)))) (o7 (fE (Nw (xo) (xo) (JE.bor aF) (JE.bor (bW gZ rfl B.len bF (bp (ah 0) bS))) (JE.bor (rn rfl mR))))))) (aK (bz mE)) cF) (aK (bz (bW (o9 rfl) rfl B.all cz (bp (JE.bor (JN.je (d_ (N':=["sign"]) (ix:=[]) 1 (by decide) rfl (bR (so:=aw sU) (N:=Cb) (by decide +kernel)) (eB (ah 0)) (fun cl A0 s0 H0 ex pn=>⟨cB (i:=0) (by show (["sign"] : List Str).Nodup;decide +kernel) rfl (.inl rfl),fg,(EI (xo) (xo) (JE.bor CV) (ah 0) (JE.bor CV))⟩)))) bS)))))
abbrev fY:db:=top 22
abbrev jB:List Str:=["thing"]
theorem tq:br jB ["thing"] (aw fY):=dg (by decide +kernel)
abbrev jC (e:En):=FN e "are_rising_words" 2 1 fW
theorem tw (D:fZ e.K e.mg "are_rising_words" fY) (B:Bi e.mg) (ms:wN e):jC e:=nc (k:=1) (g:=ic) D tq b1 fun _ _ _ _ _ _ _ hr=>by unfold ic;exact (ay (fu (JW.t (tM (fE (eV (o8 (ah 0) rfl B.isinstance rfl B.tuple aV (by decide)))) (o7 (fE (eV (bW (o9 rfl) rfl B.all cz (bp (JE.bor (JN.je (d_ (N':=["word"]) (ix:=[]) 1 (by decide) rfl (bR (so:=aw fY) (N:=jB) (by decide +kernel)) (eB (ah 0)) (fun cl A0 s0 H0 ex pn=>⟨cB (i:=0) (by show (["word"] : List Str).Nodup;decide +kernel) rfl (.inl rfl),fg,(jc ms hr dQ (aa (ag 0) aC))⟩)))) bS))))))) (aK (bz mE)) cF) (aK (bz (bW (o9 rfl) rfl B.all cz (bp (JE.bor (JN.je (d_ (N':=["low","high"]) (ix:=[]) 2 (by decide) rfl (bR (so:=aw fY) (N:=jB) (by decide +kernel)) (Np.i (R6 rfl B.zip (aa (ag 0) (aa (oN (ah 0) (ny aF) yj) aC)))) (fun cl A0 s0 H0 ex pn=>⟨GC rfl (r9 (cB (i:=0) (by show (["low","high"] : List Str).Nodup;decide +kernel) rfl (.inl rfl)) (r9 (cB (i:=1) (by show (["low","high"] : List Str).Nodup;decide +kernel) rfl (.inl rfl)) Cv)),fg,(lL (BD) (ah 0) (ah 1))⟩)))) bS)))))
abbrev nR:db:=top 23
abbrev xx:List Str:=["book_facts","thing"]
theorem Dx:br xx ["book_facts","thing"] (aw nR):=dg (by decide +kernel)
abbrev lD (e:En):=FN e "are_facts" 3 2 eX
theorem Dy (D:fZ e.K e.mg "are_facts" nR) (B:Bi e.mg) (eJ:jC e):lD e:=nc (k:=2) (g:=nD) D Dx b2 fun _ _ _ _ _ _ _ hr=>by unfold nD;exact (aK (bz (ue (jc eJ hr px (aa (ag 1) aC)) (ud (bW (o9 rfl) rfl B.all cz (bp (JE.bor (JN.je (d_ (N':=["fact","book_facts"]) (ix:=[0]) 1 (by decide) rfl (bR (so:=aw nR) (N:=xx) (by decide +kernel)) (eB (ah 1)) (fun cl A0 s0 H0 ex pn=>⟨cB (i:=0) (by show (["fact","book_facts"] : List Str).Nodup;decide +kernel) rfl (.inl rfl),fg,(lL (yT) (ah 0) (ah 1))⟩)))) bS))))))
abbrev uo:db:=top 24
abbrev HF:List Str:=["thing","least","most"]
theorem FB:br HF ["thing","least","most"] (aw uo):=dg (by decide +kernel)
abbrev zV (e:En):=FN e "is_whole" 1 3 pQ
theorem FC (D:fZ e.K e.mg "is_whole" uo) (B:Bi e.mg):zV e:=nc (k:=0) (g:=pP) D FB b3 fun _ _ _ _ _ _ _ hr=>by unfold pP;exact (ay (fu (JW.t (tM (fE (eV (o8 (ah 0) rfl B.isinstance rfl B.int PyProof.Rows.boot_int (by decide)))) (o7 (eV (o8 (ah 0) rfl B.isinstance rfl B.bool PyProof.Rows.boot_bool (by decide)))))) (aK (bz mE)) cF) (aK (bz (EI (xo) (xo) (ah 1) (ah 0) (ah 2)))))
abbrev nU:db:=top 25
abbrev xy:List Str:=["book_facts","thing","name","needs","bars","makes","ends","price"]
theorem ii:br xy ["book_facts","thing"] (aw nU):=dg (by decide +kernel)
abbrev xz (e:En):=FN e "is_errand" 4 2 nF
theorem Dz (D:fZ e.K e.mg "is_errand" nU) (B:Bi e.mg) (ms:wN e) (uq:zV e) (dW:lD e) (eS:mf e) (qf:Cn e.mg "MOST_PRICE" 9):xz e:=nc (k:=3) (g:=nE) D ii b2 fun _ _ _ _ _ _ _ hr=>by have hu64:=hr.units;unfold nE;exact (ay (fu (JW.t (tM (fE (eV (o8 (ah 1) rfl B.isinstance rfl B.tuple aV (by decide)))) (o7 (dL (BC hu64) (JE.bor (bW gZ rfl B.len bF (bp (ah 1) bS))) (JE.bor aF))))) (aK (bz mE)) cF) (ay (yV (ag 1) (rA rfl (dG (de 2 ii.nd) (dG (de 3 ii.nd) (dG (de 4 ii.nd) (dG (de 5 ii.nd) (dG (de 6 ii.nd) (dG (de 7 ii.nd) nC)))))))) (ay (fu (JW.t (tM (fE (eV (jc ms hr px (aa (ag 2) aC)))) (o7 (fE (eV (jc uq hr px (aa (ag 7) (aa aF (aa (rn rfl qf) aC))))))))) (aK (bz mE)) cF) (ay (fu (fE (eV (bW (o9 rfl) rfl B.all cz (bp (JE.bor (JN.je (d_ (N':=["facts","book_facts"]) (ix:=[0]) 1 (by decide) rfl (bR (so:=aw nU) (N:=xy) (by decide +kernel)) (eB (JE.bor (j_ (aa (ag 3) (aa (ag 4) (aa (ag 5) (aa (ag 6) aC))))))) (fun cl A0 s0 H0 ex pn=>⟨cB (i:=0) (by show (["facts","book_facts"] : List Str).Nodup;decide +kernel) rfl (.inl rfl),fg,(jc dW hr dQ (aa (ag 1) (aa (ag 0) aC)))⟩)))) bS)))) (aK (bz mE)) cF) (aK (bz (ue (jc eS hr px (aa (ag 3) (aa (ag 4) aC))) (ud (jc eS hr px (aa (ag 5) (aa (ag 6) aC)))))))))))
abbrev pf:db:=top 26
abbrev wO:List Str:=["thing","facts","errands"]
theorem ur:br wO ["thing"] (aw pf):=dg (by decide +kernel)
abbrev Cc (e:En):=FN e "is_book" 5 1 sG
theorem HG (D:fZ e.K e.mg "is_book" pf) (B:Bi e.mg) (eJ:jC e) (rN:xz e) (qg:Cn e.mg "MOST_FACTS" 6) (mS:Cn e.mg "MOST_ERRANDS" 6):Cc e:=nc (k:=4) (g:=sF) D ur b1 fun _ _ _ _ _ _ _ hr=>by have hu1:=iC hr;have hu64:=hr.units;unfold sF;exact (ay (fu (JW.t (tM (fE (eV (o8 (ah 0) rfl B.isinstance rfl B.tuple aV (by decide)))) (o7 (dL (BC hu64) (JE.bor (bW gZ rfl B.len bF (bp (ah 0) bS))) (JE.bor aF))))) (aK (bz mE)) cF) (ay (yV (ag 0) (rA rfl (dG (de 1 ur.nd) (dG (de 2 ur.nd) nC)))) (ay (fu (JW.t (tM (fE (eV (jc eJ hr px (aa (ag 1) aC)))) (o7 (dL (Ng) (JE.bor (bW gZ rfl B.len bF (bp (ah 1) bS))) (JE.bor (rn rfl qg)))))) (aK (bz mE)) cF) (ay (fu (JW.t (tM (fE (eV (o8 (ah 2) rfl B.isinstance rfl B.tuple aV (by decide)))) (o7 (dL (Ng) (JE.bor (bW gZ rfl B.len bF (bp (ah 2) bS))) (JE.bor (rn rfl mS)))))) (aK (bz mE)) cF) (ay (fu (fE (eV (bW (o9 rfl) rfl B.all cz (bp (JE.bor (JN.je (d_ (N':=["errand","facts"]) (ix:=[1]) 1 (by decide) rfl (bR (so:=aw pf) (N:=wO) (by decide +kernel)) (eB (ah 2)) (fun cl A0 s0 H0 ex pn=>⟨cB (i:=0) (by show (["errand","facts"] : List Str).Nodup;decide +kernel) rfl (.inl rfl),fg,(jc rN hr dQ (aa (ag 1) (aa (ag 0) aC)))⟩)))) bS)))) (aK (bz mE)) cF) (aK (bz (lL (vk hu64) (JE.bor (KR (Ny (N':=["errand"]) (ix:=[]) 1 (by decide) rfl (bR (so:=aw pf) (N:=wO) (by decide +kernel)) (eB (ah 2)) (fun cl A0 s0 H0 ex pn=>⟨cB (i:=0) (by show (["errand"] : List Str).Nodup;decide +kernel) rfl (.inl rfl),fg,(b_ hu1 (ah 0) (JE.bor aF))⟩)) rfl B.len)) (JE.bor (bW gZ rfl B.len bF (bp (ah 2) bS)))))))))))
abbrev wP:db:=top 27
abbrev Lv:List Str:=["book","thing","must","bars"]
theorem ut:br Lv ["book","thing"] (aw wP):=dg (by decide +kernel)
abbrev Cd (e:En):=FN e "is_want" 4 2 sI
theorem HH (D:fZ e.K e.mg "is_want" wP) (B:Bi e.mg) (dW:lD e) (eS:mf e):Cd e:=nc (k:=3) (g:=sH) D ut b2 fun _ _ _ _ _ _ _ hr=>by have hu1:=iC hr;have hu64:=hr.units;unfold sH;exact (ay (fu (JW.t (tM (fE (eV (o8 (ah 1) rfl B.isinstance rfl B.tuple aV (by decide)))) (o7 (dL (BC hu64) (JE.bor (bW gZ rfl B.len bF (bp (ah 1) bS))) (JE.bor aF))))) (aK (bz mE)) cF) (ay (yV (ag 1) (rA rfl (dG (de 2 ut.nd) (dG (de 3 ut.nd) nC)))) (aK (bz (ue (jc dW hr px (aa (b_ hu1 (ah 0) (JE.bor aF)) (aa (ag 2) aC))) (ue (jc dW hr px (aa (b_ hu1 (ah 0) (JE.bor aF)) (aa (ag 3) aC))) (ud (jc eS hr px (aa (ag 2) (aa (ag 3) aC))))))))))
abbrev ou:db:=top 28
abbrev A_:List Str:=["book","state"]
theorem zW:br A_ ["book","state"] (aw ou):=dg (by decide +kernel)
abbrev tU (e:En):=FN e "check_state" 4 2 kZ
theorem zX (D:fZ e.K e.mg "check_state" ou) (dW:lD e):tU e:=nc (k:=3) (g:=kY) D zW b2 fun _ _ _ _ _ _ _ hr=>by have hu1:=iC hr;unfold kY;exact (aK (fu (fE (eV (jc dW hr px (aa (b_ hu1 (ah 0) (JE.bor aF)) (aa (ag 1) aC))))) (aK oS) cF))
abbrev qh:db:=top 29
abbrev DA:List Str:=["book","want"]
theorem B0:br DA ["book","want"] (aw qh):=dg (by decide +kernel)
abbrev vK (e:En):=FN e "check_want" 5 2 l_
theorem B4 (D:fZ e.K e.mg "check_want" qh) (wQ:Cd e):vK e:=nc (k:=4) (g:=lZ) D B0 b2 fun _ _ _ _ _ _ _ hr=>by unfold lZ;exact (aK (fu (fE (eV (jc wQ hr px (aa (ag 0) (aa (ag 1) aC))))) (aK oS) cF))
abbrev lO:db:=top 30
abbrev xW:List Str:=["book","name","errand"]
theorem ph:br xW ["book","name"] (aw lO):=dg (by decide +kernel)
abbrev lP (e:En):=FN e "errand_called" 1 2 im
theorem wR (D:fZ e.K e.mg "errand_called" lO) (B:Bi e.mg):lP e:=nc (k:=0) (g:=ju) D ph b2 fun _ _ _ _ _ _ _ hr=>by have hu1:=iC hr;have hu64:=hr.units;unfold ju;exact (ay (fu (fE (eV (o8 (ah 1) rfl B.isinstance rfl B.str yE (by decide)))) (aK (bz o6)) cF) (ay (pM rfl (D2 (b_ hu1 (ah 0) (JE.bor aF))) (de 2 ph.nd) (aK (fu (dL (vk hu64) (JE.bor (b_ hu1 (ah 2) (JE.bor aF))) (ah 1)) (aK (bz (ag 2))) cF))) (aK (bz o6))))
abbrev sV:db:=top 31
abbrev Ce:List Str:=["state","want","must","bars"]
theorem uu:br Ce ["state","want"] (aw sV):=dg (by decide +kernel)
abbrev wS (e:En):=FN e "fulfils" 2 2 oY
theorem HI (D:fZ e.K e.mg "fulfils" sV) (B:Bi e.mg) (eS:mf e):wS e:=nc (k:=1) (g:=sJ) D uu b2 fun _ _ _ _ _ _ _ hr=>by unfold sJ;exact (ay (yV (ag 1) (rA rfl (dG (de 2 uu.nd) (dG (de 3 uu.nd) nC)))) (aK (bz (ue (bW (o9 rfl) rfl B.all cz (bp (JE.bor (JN.je (d_ (N':=["fact","state"]) (ix:=[0]) 1 (by decide) rfl (bR (so:=aw sV) (N:=Ce) (by decide +kernel)) (eB (ah 2)) (fun cl A0 s0 H0 ex pn=>⟨cB (i:=0) (by show (["fact","state"] : List Str).Nodup;decide +kernel) rfl (.inl rfl),fg,(lL (yT) (ah 0) (ah 1))⟩)))) bS)) (ud (jc eS hr px (aa (ag 3) (aa (ag 0) aC))))))))
abbrev rO:db:=top 32
abbrev FD:List Str:=["errand","state"]
theorem DB:br FD ["errand","state"] (aw rO):=dg (by decide +kernel)
abbrev rP (e:En):=FN e "is_doable" 3 2 i0
theorem DC (D:fZ e.K e.mg "is_doable" rO) (mv:wS e):rP e:=nc (k:=2) (g:=nG) D DB b2 fun _ _ _ _ _ _ _ hr=>by have hu1:=iC hr;unfold nG;exact (aK (bz (jc mv hr px (aa (ag 1) (aa (j_ (aa (b_ hu1 (ah 0) (JE.bor aF)) (aa (b_ hu1 (ah 0) (JE.bor aF)) aC))) aC)))))
abbrev mT:db:=top 33
abbrev zY:List Str:=["errand","state","makes","ends"]
theorem qF:br zY ["errand","state"] (aw mT):=dg (by decide +kernel)
abbrev mU (e:En):=FN e "state_behind" 2 2 eY
theorem xX (D:fZ e.K e.mg "state_behind" mT) (wT:Ca e) (zZ:FA e):mU e:=nc (k:=1) (g:=kh) D qF b2 fun _ _ _ _ _ _ _ hr=>by have hu1:=iC hr;unfold kh;exact (ay (UI 2 3 rfl qF.nd (aa (b_ hu1 (ah 0) (JE.bor aF)) (aa (b_ hu1 (ah 0) (JE.bor aF)) aC))) (aK (bz (jc zZ hr px (aa (jc wT hr px (aa (ag 1) (aa (ag 3) aC))) (aa (ag 2) aC))))))
abbrev wU:db:=top 34
abbrev Lw:List Str:=["book"]
theorem HJ:br Lw ["book"] (aw wU):=dg (by decide +kernel)
abbrev wV (e:En):=FN e "checked" 6 1 oZ
theorem HK (D:fZ e.K e.mg "checked" wU) (wW:Cc e):wV e:=nc (k:=5) (g:=sK) D HJ b1 fun _ _ _ _ _ _ _ hr=>by unfold sK;exact (ay (fu (fE (eV (jc wW hr px (aa (ag 0) aC)))) (aK oS) cF) (aK (bz (ag 0))))
abbrev oy:db:=top 35
abbrev B5:List Str:=["book","state"]
theorem z_:br B5 ["book","state"] (aw oy):=dg (by decide +kernel)
abbrev lc (e:En):=FN e "check_place" 7 2 ip
theorem A1 (D:fZ e.K e.mg "check_place" oy) (mw:wV e) (oz:tU e):lc e:=nc (k:=6) (g:=k_) D z_ b2 fun _ _ _ _ _ _ _ hr=>by unfold k_;exact (ay (nB (jc mw hr px (aa (ag 0) aC))) (aK (nB (jc oz hr px (aa (ag 0) (aa (ag 1) aC))))))
abbrev rQ:db:=top 36
abbrev FE:List Str:=["book","state","want"]
theorem DD:br FE ["book","state","want"] (aw rQ):=dg (by decide +kernel)
abbrev xA (e:En):=FN e "check_aim" 8 3 nI
theorem DE (D:fZ e.K e.mg "check_aim" rQ) (eT:lc e) (qi:vK e):xA e:=nc (k:=7) (g:=nH) D DD b3 fun _ _ _ _ _ _ _ hr=>by unfold nH;exact (ay (nB (jc eT hr px (aa (ag 0) (aa (ag 1) aC)))) (aK (nB (jc qi hr px (aa (ag 0) (aa (ag 2) aC))))))
abbrev li:db:=top 38
abbrev tV:List Str:=["errand","facts","parts"]
theorem rR:br tV ["errand","facts"] (aw li):=dg (by decide +kernel)
abbrev tW (e:En):=FN e "seen_errand" 1 2 l7
theorem A2 (D:fZ e.K e.mg "seen_errand" li) (B:Bi e.mg):tW e:=nc (k:=0) (g:=l5) D rR b2 fun _ _ _ _ _ _ _ hr=>by have hu1:=iC hr;unfold l5;exact (ay (jy 2 (N':=["part","facts"]) (ix:=[1]) 1 (by decide) rR.nd rfl (bR (so:=aw li) (N:=tV) (by decide +kernel)) (eB (JE.bor (oN (ah 0) (ny aF) (ny aF)))) (fun cl A0 s0 H0 ex pn=>⟨cB (i:=0) (by show (["part","facts"] : List Str).Nodup;decide +kernel) rfl (.inl rfl),fg,(dS (gG rfl) rfl B.tuple aV (bp (JE.bor (JN.je (d_ (N':=["fact","facts"]) (ix:=[1]) 1 (by decide) rfl (bR (N:=["part","facts"]) (by kernel_rfl) rfl) (eB (ah 0)) (fun cl A0 s0 H0 ex pn=>⟨cB (i:=0) (by show (["fact","facts"] : List Str).Nodup;decide +kernel) rfl (.inl rfl),(k8 (dL (yT) (ah 0) (ah 1))),(ag 0)⟩)))) bS))⟩)) (aK (bz (bZ cQ (JE.bor (bZ cQ (JE.bor (j_ (aa (b_ hu1 (ah 0) (JE.bor aF)) aC))) (JE.bor (dS (gG rfl) rfl B.tuple aV (bp (ah 2) bS))))) (JE.bor (j_ (aa (b_ hu1 (ah 0) (JE.bor aF)) aC)))))))
abbrev DF:db:=top 39
abbrev Pu:List Str:=["book","facts"]
theorem S3:br Pu ["book","facts"] (aw DF):=dg (by decide +kernel)
abbrev Pw (e:En):=FN e "seen" 7 2 Dj
theorem S4 (D:fZ e.K e.mg "seen" DF) (B:Bi e.mg) (mw:wV e) (dW:lD e) (oA:tW e):Pw e:=nc (k:=6) (g:=Di) D S3 b2 fun _ _ _ _ _ _ _ hr=>by have hu1:=iC hr;unfold Di;exact (ay (nB (jc mw hr px (aa (ag 0) aC))) (ay (fu (fE (eV (jc dW hr px (aa (b_ hu1 (ah 0) (JE.bor aF)) (aa (ag 1) aC))))) (aK oS) cF) (aK (bz (j_ (aa (ag 1) (aa (dS (gG rfl) rfl B.tuple aV (bp (JE.bor (JN.je (d_ (N':=["errand","facts"]) (ix:=[1]) 1 (by decide) rfl (bR (so:=aw DF) (N:=Pu) (by decide +kernel)) (eB (JE.bor (b_ hu1 (ah 0) (JE.bor aF)))) (fun cl A0 s0 H0 ex pn=>⟨cB (i:=0) (by show (["errand","facts"] : List Str).Nodup;decide +kernel) rfl (.inl rfl),fg,(jc oA hr dQ (aa (ag 0) (aa (ag 1) aC)))⟩)))) bS)) aC)))))))
abbrev vL:db:=top 42
abbrev FF:List Str:=["book","thing"]
theorem Lx:br FF ["book","thing"] (aw vL):=dg (by decide +kernel)
abbrev FG (e:En):=FN e "is_row" 2 2 vA
theorem Ly (D:fZ e.K e.mg "is_row" vL) (B:Bi e.mg) (gy:lP e) (oB:Cn e.mg "MOST_IN_ROW" 64):FG e:=nc (k:=1) (g:=vz) D Lx b2 fun _ _ _ _ _ _ _ hr=>by unfold vz;exact (ay (fu (JW.t (tM (fE (eV (o8 (ah 1) rfl B.isinstance rfl B.list jt (by decide)))) (o7 (dL (Ng) (JE.bor (bW gZ rfl B.len bF (bp (ah 1) bS))) (JE.bor (rn rfl oB)))))) (aK (bz mE)) cF) (aK (bz (bW (o9 rfl) rfl B.all cz (bp (JE.bor (JN.je (d_ (N':=["name","book"]) (ix:=[0]) 1 (by decide) rfl (bR (so:=aw vL) (N:=FF) (by decide +kernel)) (eB (ah 1)) (fun cl A0 s0 H0 ex pn=>⟨cB (i:=0) (by show (["name","book"] : List Str).Nodup;decide +kernel) rfl (.inl rfl),fg,(lL (yS) (JE.bor (jc gy hr dQ (aa (ag 1) (aa (ag 0) aC)))) (JE.bor o6))⟩)))) bS)))))
abbrev mh:db:=top 43
abbrev vM:List Str:=["book","row"]
theorem B6:br vM ["book","row"] (aw mh):=dg (by decide +kernel)
abbrev vN (e:En):=FN e "errands_of" 3 2 m6
theorem B7 (D:fZ e.K e.mg "errands_of" mh) (A3:FG e) (gy:lP e):vN e:=nc (k:=2) (g:=m5) D B6 b2 fun _ _ _ _ _ _ _ hr=>by unfold m5;exact (ay (fu (fE (eV (jc A3 hr px (aa (ag 0) (aa (ag 1) aC))))) (aK oS) cF) (aK (bz (JN.je (d_ (N':=["name","book"]) (ix:=[0]) 1 (by decide) rfl (bR (so:=aw mh) (N:=vM) (by decide +kernel)) (eB (ah 1)) (fun cl A0 s0 H0 ex pn=>⟨cB (i:=0) (by show (["name","book"] : List Str).Nodup;decide +kernel) rfl (.inl rfl),fg,(jc gy hr dQ (aa (ag 1) (aa (ag 0) aC)))⟩))))))
abbrev kL:db:=top 44
abbrev wX:List Str:=["errands","state","states","errand"]
theorem kn:br wX ["errands","state"] (aw kL):=dg (by decide +kernel)
abbrev pi (e:En):=FN e "states_through" 4 2 j0
theorem vO (D:fZ e.K e.mg "states_through" kL) (jI:rP e) (hV:mU e):pi e:=nc (k:=3) (g:=i_) D kn b2 fun _ _ _ _ _ _ _ hr=>by have hu1:=iC hr;unfold i_;exact (ay (kW 2 (wB (aa (ag 1) aC)) kn.nd) (ay (IR 0 rfl (de 3 kn.nd) (ay (fu (fE (eV (jc jI hr dQ (aa (ag 3) (aa (b_ hu1 (ah 2) (JE.bor (Nx aF))) aC))))) (aK (bz (ag 2))) cF) (aK (oQ 2 (jc hV hr dQ (aa (ag 3) (aa (b_ hu1 (ah 2) (JE.bor (Nx aF))) aC))))))) (aK (bz (ag 2)))))
abbrev DG:db:=top 45
abbrev S5:List Str:=["book","state","row","errands","states"]
theorem A4:br S5 ["book","state","row"] (aw DG):=dg (by decide +kernel)
abbrev JV (e:En):=FN e "leads" 8 3 nJ
theorem Px (D:fZ e.K e.mg "leads" DG) (B:Bi e.mg) (eT:lc e) (qj:vN e) (kM:pi e):JV e:=nc (k:=7) (g:=yp) D A4 b3 fun _ _ _ _ _ _ _ hr=>by unfold yp;exact (ay (nB (jc eT hr px (aa (ag 0) (aa (ag 1) aC)))) (ay (dO 3 (jc qj hr px (aa (ag 0) (aa (ag 2) aC))) A4.nd) (ay (dO 4 (jc kM hr px (aa (ag 3) (aa (ag 1) aC))) A4.nd) (ay (fu (dL (xo) (JE.bor (bW gZ rfl B.len bF (bp (ah 4) bS))) (JE.bor (bW gZ rfl B.len bF (bp (ah 3) bS)))) (aK oS) cF) (aK (bz (ag 4)))))))
abbrev mi:db:=top 47
abbrev vP:List Str:=["book","state"]
theorem B8:br vP ["book","state"] (aw mi):=dg (by decide +kernel)
abbrev vQ (e:En):=FN e "steps_from" 4 2 ki
theorem B9 (D:fZ e.K e.mg "steps_from" mi) (jI:rP e) (hV:mU e):vQ e:=nc (k:=3) (g:=m7) D B8 b2 fun _ _ _ _ _ _ _ hr=>by have hu1:=iC hr;unfold m7;exact (aK (bz (JN.je (d_ (N':=["errand","state"]) (ix:=[1]) 1 (by decide) rfl (bR (so:=aw mi) (N:=vP) (by decide +kernel)) (eB (JE.bor (b_ hu1 (ah 0) (JE.bor aF)))) (fun cl A0 s0 H0 ex pn=>⟨cB (i:=0) (by show (["errand","state"] : List Str).Nodup;decide +kernel) rfl (.inl rfl),(k8 (eV (jc jI hr dQ (aa (ag 0) (aa (ag 1) aC))))),(j_ (aa (ag 0) (aa (jc hV hr dQ (aa (ag 0) (aa (ag 1) aC))) aC)))⟩)))))
abbrev qk:db:=top 48
abbrev DH:List Str:=["book","state","rows","ring","next_ring","at","errand","behind"]
theorem fN:br DH ["book","state"] (aw qk):=dg (by decide +kernel)
abbrev qm (e:En):=FN e "first_rows" 5 2 kj
theorem Ba (D:fZ e.K e.mg "first_rows" qk) (qo:vQ e):qm e:=nc (k:=4) (g:=m8) D fN b2 fun _ _ _ _ _ _ _ hr=>by have hu1:=iC hr;unfold m8;exact (ay (kW 2 (Ou hu1 (ag 1) (lM aC)) fN.nd) (ay (kW 3 (wB (aa (ag 1) aC)) fN.nd) (ay (Nu 100000 (Ov (ah 3)) (ay (kW 4 (wB aC) fN.nd) (ay (IR 3 rfl (de 5 fN.nd) (aK (pM rfl (D2 (jc qo hr dQ (aa (ag 0) (aa (ag 5) aC)))) (rA rfl (dG (de 6 fN.nd) (dG (de 7 fN.nd) nC))) (aK (fu (dL (K_ hu1) (ah 7) (ah 2)) (ay (Os 2 (bZ cQ (JE.bor (Dd hu1 (ah 2) (ah 5))) (JE.bor (lM (aa (b_ hu1 (ah 6) (JE.bor aF)) aC)))) (ag 7) hu1) (aK (oQ 4 (ag 7)))) cF))))) (aK (Hh 4 (dO 3 (ag 4) fN.nd)))))) (aK (UL 2 (bz (ag 2)))))))
abbrev pj:db:=top 49
abbrev wY:List Str:=["rows","want","fitting"]
theorem A5:br wY ["rows","want"] (aw pj):=dg (by decide +kernel)
abbrev Cf (e:En):=FN e "nearest" 3 2 mq
theorem HL (D:fZ e.K e.mg "nearest" pj) (B:Bi e.mg) (mv:wS e):Cf e:=nc (k:=2) (g:=sL) D A5 b2 fun _ _ _ _ _ _ _ hr=>by have hu1:=iC hr;have hu64:=hr.units;unfold sL;exact (ay (kW 2 (d_ (N':=["at","want"]) (ix:=[1]) 1 (by decide) rfl (bR (so:=aw pj) (N:=wY) (by decide +kernel)) (Ro (ah 0)) (fun cl A0 s0 H0 ex pn=>⟨cB (i:=0) (by show (["at","want"] : List Str).Nodup;decide +kernel) rfl (.inl rfl),(k8 (eV (jc mv hr dQ (aa (ag 0) (aa (ag 1) aC))))),(ag 0)⟩)) A5.nd) (aK (bz (JN.je (d_ (N':=["at","rows","fitting"]) (ix:=[0,2]) 1 (by decide) rfl (bR (so:=aw pj) (N:=wY) (by decide +kernel)) (eB (ah 2)) (fun cl A0 s0 H0 ex pn=>⟨cB (i:=0) (by show (["at","rows","fitting"] : List Str).Nodup;decide +kernel) rfl (.inl rfl),(k8 (dL (vk hu64) (JE.bor (bW gZ rfl B.len bF (bp (JE.bor (Dd hu1 (ah 1) (ah 0))) bS))) (JE.bor (bW gZ rfl B.len bF (bp (JE.bor (Dd hu1 (ah 1) (JE.bor (b_ hu1 (ah 2) (JE.bor aF))))) bS))))),(ag 0)⟩))))))
abbrev wZ:db:=top 50
abbrev Lz:List Str:=["book","state"]
theorem HM:br Lz ["book","state"] (aw wZ):=dg (by decide +kernel)
abbrev Cg (e:En):=FN e "reached" 8 2 o_
theorem HN (D:fZ e.K e.mg "reached" wZ) (B:Bi e.mg) (eT:lc e) (j8:qm e):Cg e:=nc (k:=7) (g:=sM) D HM b2 fun _ _ _ _ _ _ _ hr=>by have hu64:=hr.units;unfold sM;exact (ay (nB (jc eT hr px (aa (ag 0) (aa (ag 1) aC)))) (aK (bz (bW (Hl rfl hu64) rfl B.sorted ml (bp (JE.bor (jc j8 hr px (aa (ag 0) (aa (ag 1) aC)))) bS)))))
abbrev uv:db:=top 51
abbrev HQ:List Str:=["book","state","want","rows","goals"]
theorem rT:br HQ ["book","state","want"] (aw uv):=dg (by decide +kernel)
abbrev A6 (e:En):=FN e "shortest" 9 3 iR
theorem FH (D:fZ e.K e.mg "shortest" uv) (rV:xA e) (j8:qm e) (w_:Cf e):A6 e:=nc (k:=8) (g:=mH) D rT b3 fun _ _ _ _ _ _ _ hr=>by have hu1:=iC hr;unfold mH;exact (ay (nB (jc rV hr px (aa (ag 0) (aa (ag 1) (aa (ag 2) aC))))) (ay (dO 3 (jc j8 hr px (aa (ag 0) (aa (ag 1) aC))) rT.nd) (ay (dO 4 (jc w_ hr px (aa (ag 3) (aa (ag 2) aC))) rT.nd) (aK (bz (SB (Ov (ah 4)) (Dd hu1 (ah 3) (JE.bor (b_ hu1 (ah 4) (JE.bor aF)))) o6))))))
abbrev Py:db:=top 52
abbrev Xm:List Str:=["book","state","want","row"]
theorem Pz:br Xm ["book","state","want"] (aw Py):=dg (by decide +kernel)
abbrev Tv (e:En):=FN e "far" 10 3 xt
theorem Vf (D:fZ e.K e.mg "far" Py) (B:Bi e.mg) (uw:A6 e):Tv e:=nc (k:=9) (g:=F8) D Pz b3 fun _ _ _ _ _ _ _ hr=>by unfold F8;exact (ay (dO 3 (jc uw hr px (aa (ag 0) (aa (ag 1) (aa (ag 2) aC)))) Pz.nd) (aK (bz (SB (dL (SC) (ah 3) (JE.bor o6)) o6 (bW gZ rfl B.len bF (bp (ah 3) bS))))))
abbrev oC:db:=top 54
abbrev Bb:List Str:=["_law_script","_law_k"]
theorem A7:br Bb ["_law_script","_law_k"] (aw oC):=dg (by decide +kernel)
abbrev tX (e:En):=FN e "_law_cell_at" 1 2 l9
theorem A8 (D:fZ e.K e.mg "_law_cell_at" oC) (B:Bi e.mg):tX e:=nc (k:=0) (g:=l8) D A7 b2 fun _ _ _ _ _ _ _ hr=>by have hu1:=iC hr;have hu64:=hr.units;unfold l8;exact (ay (fu (dL (BD) (ah 1) (JE.bor (bW gZ rfl B.len bF (bp (ah 0) bS)))) (aK (bz (b_ hu1 (ah 0) (ah 1)))) cF) (ay (fu (dL (vk hu64) (ah 0) (JE.bor (lM aC))) (aK (bz aF)) cF) (aK (bz (bZ cQ (JE.bor (bZ rq (JE.bor (b_ hu1 (ah 0) (JE.bor (bZ CY (ah 1) (JE.bor (bW gZ rfl B.len bF (bp (ah 0) bS))))))) (JE.bor aF))) (ah 1))))))
abbrev rW:db:=top 55
abbrev FI:List Str:=["_law_script","_law_k","_law_many","_law_drawn"]
theorem vR:br FI ["_law_script","_law_k","_law_many"] (aw rW):=dg (by decide +kernel)
abbrev eZ (e:En):=FN e "_law_mixed" 2 3 bj
theorem DI (D:fZ e.K e.mg "_law_mixed" rW) (oE:tX e):eZ e:=nc (k:=1) (g:=nK) D vR b3 fun _ _ _ _ _ _ _ hr=>by unfold nK;exact (ay (dO 3 (bZ CY (JE.bor (bZ rq (JE.bor (bZ cQ (JE.bor (bZ cQ (JE.bor (jc oE hr px (aa (ag 0) (aa (ag 1) aC)))) (JE.bor (bZ rq (JE.bor aF) (ah 1))))) (JE.bor aF))) (JE.bor aF))) (JE.bor aF)) vR.nd) (aK (bz (bZ CY (JE.bor (bZ CY (JE.bor (bZ cQ (JE.bor (bZ cQ (JE.bor (bZ rq (ah 3) (ah 3))) (JE.bor (bZ rq (JE.bor aF) (ah 3))))) (ah 1))) (JE.bor aF))) (ah 2)))))
abbrev ux:db:=top 56
abbrev HR:List Str:=["_law_script","_law_at","_law_made","_law_k"]
theorem nV:br HR ["_law_script","_law_at"] (aw ux):=dg (by decide +kernel)
abbrev uy (e:En):=FN e "_law_word" 3 2 kJ
theorem FJ (D:fZ e.K e.mg "_law_word" ux) (B:Bi e.mg) (aW:eZ e):uy e:=nc (k:=2) (g:=pR) D nV b2 fun _ _ _ _ _ _ _ hr=>by have hu1:=iC hr;unfold pR;exact (ay (dO 2 CV nV.nd) (ay (pM rfl (pL rfl B.range (bp (JE.bor (b_ hu1 (JE.bor (lM (aa aF (aa aF (aa aF (aa aF (aa aF (aa aF aC)))))))) (JE.bor (jc aW hr dQ (aa (ag 0) (aa (ag 1) (aa aF aC))))))) bS)) (de 3 nV.nd) (aK (dO 2 (bZ cQ (ah 2) (JE.bor (b_ hu1 (JE.bor CV) (JE.bor (jc aW hr dQ (aa (ag 0) (aa (bZ cQ (JE.bor (bZ cQ (ah 1) (JE.bor aF))) (ah 3)) (aa aF aC)))))))) nV.nd))) (aK (bz (ag 2)))))
abbrev rX:db:=top 57
abbrev FK:List Str:=["_law_script","_law_at","_law_most","_law_found","_law_k"]
theorem qp:br FK ["_law_script","_law_at","_law_most"] (aw rX):=dg (by decide +kernel)
abbrev xB (e:En):=FN e "_law_facts" 4 3 nM
theorem DJ (D:fZ e.K e.mg "_law_facts" rX) (B:Bi e.mg) (kO:uy e) (aW:eZ e):xB e:=nc (k:=3) (g:=nL) D qp b3 fun _ _ _ _ _ _ _ hr=>by have hu1:=iC hr;unfold nL;exact (ay (kW 3 IN qp.nd) (ay (pM rfl (pL rfl B.range (bp (JE.bor (jc aW hr dQ (aa (ag 0) (aa (ag 1) (aa (bZ cQ (ah 2) (JE.bor aF)) aC))))) bS)) (de 4 qp.nd) (aK (IS 3 mE (jc kO hr dQ (aa (ag 0) (aa (bZ cQ (JE.bor (bZ cQ (ah 1) (JE.bor aF))) (JE.bor (bZ rq (JE.bor aF) (ah 4)))) aC))) hu1))) (aK (bz (dS (gG rfl) rfl B.tuple aV (bp (JE.bor (bW KO rfl B.sorted ml (bp (JE.bor (dS (zf rfl) rfl B.list jt (bp (ah 3) bS))) bS))) bS))))))
abbrev qq:db:=top 58
abbrev A9:List Str:=["_law_script","_law_at","_law_facts_here","_law_part"]
theorem FL:br A9 ["_law_script","_law_at","_law_facts_here","_law_part"] (aw qq):=dg (by decide +kernel)
abbrev uz (e:En):=FN e "_law_some" 3 4 mI
theorem FM (D:fZ e.K e.mg "_law_some" qq) (B:Bi e.mg) (aW:eZ e):uz e:=nc (k:=2) (g:=pS) D FL b4 fun _ _ _ _ _ _ _ hr=>by unfold pS;exact (aK (bz (dS (gG rfl) rfl B.tuple aV (bp (JE.bor (JN.je (d_ (N':=["_law_k","_law_fact","_law_script","_law_at","_law_part"]) (ix:=[0,1,3]) 2 (by decide) rfl (bR (so:=aw qq) (N:=A9) (by decide +kernel)) (Np.i (yY rfl B.enumerate (aa (ag 2) aC))) (fun cl A0 s0 H0 ex pn=>⟨GC rfl (r9 (cB (i:=0) (by show (["_law_k","_law_fact","_law_script","_law_at","_law_part"] : List Str).Nodup;decide +kernel) rfl (.inl rfl)) (r9 (cB (i:=1) (by show (["_law_k","_law_fact","_law_script","_law_at","_law_part"] : List Str).Nodup;decide +kernel) rfl (.inl rfl)) Cv)),(k8 (dL (BD) (JE.bor (jc aW hr dQ (aa (ag 2) (aa (bZ cQ (ah 3) (ah 0)) (aa aF aC))))) (ah 4))),(ag 1)⟩)))) bS))))
abbrev kP:db:=top 59
abbrev qr:List Str:=["_law_script","_law_at","_law_facts_here","_law_name","_law_one","_law_two","_law_goal","_law_needs","_law_bars","_law_ends","_law_parts"]
theorem i3:br qr ["_law_script","_law_at","_law_facts_here","_law_name"] (aw kP):=dg (by decide +kernel)
abbrev Aa (e:En):=FN e "_law_thin" 3 4 pU
theorem FO (D:fZ e.K e.mg "_law_thin" kP) (B:Bi e.mg) (aW:eZ e):Aa e:=nc (k:=2) (g:=pT) D i3 b4 fun _ _ _ _ _ _ _ hr=>by have hu1:=iC hr;have hu64:=hr.units;unfold pT;exact (ay (dO 4 (b_ hu1 (ah 2) (JE.bor (jc aW hr px (aa (ag 0) (aa (bZ cQ (ah 1) (JE.bor aF)) (aa (bW gZ rfl B.len bF (bp (ah 2) bS)) aC)))))) i3.nd) (ay (dO 5 (b_ hu1 (ah 2) (JE.bor (jc aW hr px (aa (ag 0) (aa (bZ cQ (ah 1) (JE.bor aF)) (aa (bW gZ rfl B.len bF (bp (ah 2) bS)) aC)))))) i3.nd) (ay (dO 6 (b_ hu1 (ah 2) (JE.bor (jc aW hr px (aa (ag 0) (aa (bZ cQ (ah 1) (JE.bor aF)) (aa (bW gZ rfl B.len bF (bp (ah 2) bS)) aC)))))) i3.nd) (ay (dO 7 (oN (JE.bor (lM (aa (ag 4) (aa (ag 5) aC)))) yj (ny (bZ cQ (JE.bor aF) (JE.bor (bZ QY (JE.bor (jc aW hr px (aa (ag 0) (aa (bZ cQ (ah 1) (JE.bor aF)) (aa aF aC))))) (JE.bor aF)))))) i3.nd) (ay (jy 8 (N':=["_law_fact","_law_needs","_law_script","_law_at"]) (ix:=[7,0,1]) 1 (by decide) i3.nd rfl (bR (so:=aw kP) (N:=qr) (by decide +kernel)) (eB (JE.bor (lM (aa (ag 6) aC)))) (fun cl A0 s0 H0 ex pn=>⟨cB (i:=0) (by show (["_law_fact","_law_needs","_law_script","_law_at"] : List Str).Nodup;decide +kernel) rfl (.inl rfl),(k8 (JW.t (GY (dL (yU) (ah 0) (ah 1)) (CW (dL (vk hu64) (JE.bor (jc aW hr dQ (aa (ag 2) (aa (bZ cQ (ah 3) (JE.bor aF)) (aa aF aC))))) (JE.bor aF)))))),(ag 0)⟩)) (ay (jy 9 (N':=["_law_fact","_law_goal","_law_script","_law_at"]) (ix:=[6,0,1]) 1 (by decide) i3.nd rfl (bR (so:=aw kP) (N:=qr) (by decide +kernel)) (eB (JE.bor (lM (aa (ag 4) aC)))) (fun cl A0 s0 H0 ex pn=>⟨cB (i:=0) (by show (["_law_fact","_law_goal","_law_script","_law_at"] : List Str).Nodup;decide +kernel) rfl (.inl rfl),(k8 (JW.t (GY (dL (BC hu64) (ah 0) (ah 1)) (CW (dL (vk hu64) (JE.bor (jc aW hr dQ (aa (ag 2) (aa (bZ cQ (ah 3) (JE.bor aF)) (aa aF aC))))) (JE.bor aF)))))),(ag 0)⟩)) (ay (Hh 8 (Hh 9 (jy 10 (N':=["_law_part"]) (ix:=[]) 1 (by decide) i3.nd rfl (bR (so:=aw kP) (N:=qr) (by decide +kernel)) (eB (JE.bor (j_ (aa (ag 7) (aa (ag 8) (aa (lM (aa (ag 6) aC)) (aa (ag 9) aC))))))) (fun cl A0 s0 H0 ex pn=>⟨cB (i:=0) (by show (["_law_part"] : List Str).Nodup;decide +kernel) rfl (.inl rfl),fg,(dS (gG rfl) rfl B.tuple aV (bp (JE.bor (uh rfl (D8 rfl (ah 0) rfl B.set) rfl B.sorted)) bS))⟩)))) (aK (bz (j_ (aa (ag 3) (aa (b_ hu1 (ah 10) (JE.bor aF)) (aa (b_ hu1 (ah 10) (JE.bor aF)) (aa (b_ hu1 (ah 10) (JE.bor aF)) (aa (b_ hu1 (ah 10) (JE.bor aF)) (aa (jc aW hr px (aa (ag 0) (aa (ag 1) (aa aF aC)))) aC))))))))))))))))
abbrev mj:db:=top 60
abbrev vS:List Str:=["_law_script","_law_at","_law_facts_here","_law_name","_law_parts","_law_k","_law_fact","_law_way","_law_some_here"]
theorem gQ:br vS ["_law_script","_law_at","_law_facts_here","_law_name"] (aw mj):=dg (by decide +kernel)
abbrev vT (e:En):=FN e "_law_errand" 4 4 j6
theorem Bc (D:fZ e.K e.mg "_law_errand" mj) (B:Bi e.mg) (aW:eZ e) (uA:Aa e):vT e:=nc (k:=3) (g:=j5) D gQ b4 fun _ _ _ _ _ _ _ hr=>by have hu1:=iC hr;have hu64:=hr.units;unfold j5;exact (ay (fu (JW.t (GY (dL (BC hu64) (ah 2) (JE.bor (j_ aC))) (CW (dL (vk hu64) (JE.bor (jc aW hr px (aa (ag 0) (aa aF (aa aF aC))))) (JE.bor aF))))) (aK (bz (jc uA hr px (aa (ag 0) (aa (ag 1) (aa (ag 2) (aa (ag 3) aC))))))) cF) (ay (Uz 4 gQ.nd) (ay (pM rfl (yY rfl B.enumerate (aa (ag 2) aC)) (rA rfl (dG (de 5 gQ.nd) (dG (de 6 gQ.nd) nC))) (ay (dO 7 (jc aW hr dQ (aa (ag 0) (aa (bZ cQ (JE.bor (bZ cQ (ah 1) (JE.bor aF))) (ah 5)) (aa aF aC)))) gQ.nd) (ay (fu (dL (BD) (ah 7) (JE.bor aF)) (aK (zk 4 (b_ hu1 (JE.bor (lM (aa aF (aa aF (aa aF aC))))) (ah 7)) (ag 6))) cF) (ay (dO 7 (jc aW hr dQ (aa (ag 0) (aa (bZ cQ (JE.bor (bZ cQ (ah 1) (JE.bor aF))) (ah 5)) (aa aF aC)))) gQ.nd) (aK (fu (dL (BD) (ah 7) (JE.bor aF)) (aK (zk 4 (b_ hu1 (JE.bor (lM (aa aF (aa aF (aa aF (aa aF aC)))))) (ah 7)) (ag 6))) cF)))))) (ay (Nz (jy 8 (N':=["_law_part"]) (ix:=[]) 1 (by decide) gQ.nd rfl (bR (so:=aw mj) (N:=vS) (by decide +kernel)) (eB (ah 4)) (fun cl A0 s0 H0 ex pn=>⟨cB (i:=0) (by show (["_law_part"] : List Str).Nodup;decide +kernel) rfl (.inl rfl),fg,(dS (gG rfl) rfl B.tuple aV (bp (ah 0) bS))⟩))) (aK (bz (j_ (aa (ag 3) (aa (b_ hu1 (ah 8) (JE.bor aF)) (aa (b_ hu1 (ah 8) (JE.bor aF)) (aa (b_ hu1 (ah 8) (JE.bor aF)) (aa (b_ hu1 (ah 8) (JE.bor aF)) (aa (jc aW hr px (aa (ag 0) (aa (ag 1) (aa aF aC)))) aC)))))))))))))
abbrev qt:db:=top 61
abbrev Ab:List Str:=["_law_script","_law_at","_law_most","_law_many","_law_facts_here","_law_made","_law_k","_law_name","_law_names","_law_turn"]
theorem iU:br Ab ["_law_script","_law_at","_law_most","_law_many"] (aw qt):=dg (by decide +kernel)
abbrev Ac (e:En):=FN e "_law_book" 5 4 mK
theorem FP (D:fZ e.K e.mg "_law_book" qt) (B:Bi e.mg) (rY:xB e) (kO:uy e) (qu:vT e) (aW:eZ e):Ac e:=nc (k:=4) (g:=mJ) D iU b4 fun _ _ _ _ _ _ _ hr=>by have hu1:=iC hr;unfold mJ;exact (ay (dO 4 (jc rY hr px (aa (ag 0) (aa (ag 1) (aa (ag 2) aC)))) iU.nd) (ay (kW 5 IN iU.nd) (ay (pM rfl (pL rfl B.range (bp (JE.bor (jc aW hr dQ (aa (ag 0) (aa (bZ cQ (ah 1) (JE.bor aF)) (aa (bZ cQ (ah 3) (JE.bor aF)) aC))))) bS)) (de 6 iU.nd) (ay (dO 7 (jc kO hr dQ (aa (ag 0) (aa (bZ cQ (JE.bor (bZ cQ (ah 1) (JE.bor aF))) (JE.bor (bZ rq (JE.bor aF) (ah 6)))) aC))) iU.nd) (aK (IS 5 (jc qu hr dQ (aa (ag 0) (aa (bZ cQ (JE.bor (bZ cQ (ah 1) (JE.bor aF))) (JE.bor (bZ rq (JE.bor aF) (ah 6)))) (aa (ag 4) (aa (ag 7) aC))))) (ag 7) hu1)))) (ay (dO 8 (dS (zf rfl) rfl B.list jt (bp (ah 5) bS)) iU.nd) (ay (dO 9 (jc aW hr px (aa (ag 0) (aa (bZ cQ (ah 1) (JE.bor aF)) (aa (bZ cQ (JE.bor (bW gZ rfl B.len bF (bp (ah 8) bS))) (JE.bor aF)) aC)))) iU.nd) (aK (bz (j_ (aa (ag 4) (aa (dS (gG rfl) rfl B.tuple aV (bp (JE.bor (JN.je (d_ (N':=["_law_name","_law_made"]) (ix:=[5]) 1 (by decide) rfl (bR (so:=aw qt) (N:=Ab) (by decide +kernel)) (eB (JE.bor (bZ cQ (JE.bor (oN (ah 8) (ny (ag 9)) yj)) (JE.bor (oN (ah 8) yj (ny (ag 9))))))) (fun cl A0 s0 H0 ex pn=>⟨cB (i:=0) (by show (["_law_name","_law_made"] : List Str).Nodup;decide +kernel) rfl (.inl rfl),fg,(b_ hu1 (ah 1) (ah 0))⟩)))) bS)) aC))))))))))
abbrev uB:db:=top 62
abbrev HS:List Str:=["_law_script","_law_at","_law_facts_here","_law_must","_law_bars","_law_k","_law_fact","_law_way"]
theorem jJ:br HS ["_law_script","_law_at","_law_facts_here"] (aw uB):=dg (by decide +kernel)
abbrev Ad (e:En):=FN e "_law_want" 3 3 uj
theorem FQ (D:fZ e.K e.mg "_law_want" uB) (B:Bi e.mg) (aW:eZ e):Ad e:=nc (k:=2) (g:=mL) D jJ b3 fun _ _ _ _ _ _ _ hr=>by have hu64:=hr.units;unfold mL;exact (ay (kW 3 (wB aC) jJ.nd) (ay (kW 4 (wB aC) jJ.nd) (ay (pM rfl (yY rfl B.enumerate (aa (ag 2) aC)) (rA rfl (dG (de 5 jJ.nd) (dG (de 6 jJ.nd) nC))) (ay (dO 7 (jc aW hr dQ (aa (ag 0) (aa (bZ cQ (ah 1) (ah 5)) (aa aF aC)))) jJ.nd) (aK (fu (dL (BD) (ah 7) (JE.bor aF)) (aK (oQ 3 (ag 6))) (aK (fu (dL (vk hu64) (ah 7) (JE.bor aF)) (aK (oQ 4 (ag 6))) cF)))))) (aK (bz (j_ (aa (dS (gG rfl) rfl B.tuple aV (bp (ah 3) bS)) (aa (dS (gG rfl) rfl B.tuple aV (bp (ah 4) bS)) aC))))))))
abbrev uC:db:=top 63
abbrev HU:List Str:=["_law_script","_law_most","_law_many","_law_book_here","_law_state"]
theorem rZ:br HU ["_law_script","_law_most","_law_many"] (aw uC):=dg (by decide +kernel)
abbrev Ae (e:En):=FN e "_law_case" 6 3 pW
theorem FR (D:fZ e.K e.mg "_law_case" uC) (uD:Ac e) (aW:eZ e) (kQ:uz e) (uE:Ad e):Ae e:=nc (k:=5) (g:=pV) D rZ b3 fun _ _ _ _ _ _ _ hr=>by have hu1:=iC hr;unfold pV;exact (ay (dO 3 (jc uD hr px (aa (ag 0) (aa aF (aa (ag 1) (aa (ag 2) aC))))) rZ.nd) (ay (dO 4 (jc kQ hr px (aa (ag 0) (aa aF (aa (b_ hu1 (ah 3) (JE.bor aF)) (aa (b_ hu1 (JE.bor (lM (aa aF (aa aF aC)))) (JE.bor (jc aW hr px (aa (ag 0) (aa aF (aa aF aC)))))) aC))))) rZ.nd) (aK (bz (j_ (aa (ag 3) (aa (ag 4) (aa (jc uE hr px (aa (ag 0) (aa aF (aa (b_ hu1 (ah 3) (JE.bor aF)) aC)))) aC))))))))
abbrev mV:db:=top 64
abbrev uF:List Str:=["_law_state","_law_want_here"]
theorem FS:br uF ["_law_state","_law_want_here"] (aw mV):=dg (by decide +kernel)
abbrev Af (e:En):=FN e "_law_good" 1 2 pY
theorem FU (D:fZ e.K e.mg "_law_good" mV) (B:Bi e.mg):Af e:=nc (k:=0) (g:=pX) D FS b2 fun _ _ _ _ _ _ _ hr=>by have hu1:=iC hr;unfold pX;exact (aK (bz (ue (bW (o9 rfl) rfl B.all cz (bp (JE.bor (JN.je (d_ (N':=["_law_fact","_law_state"]) (ix:=[0]) 1 (by decide) rfl (bR (so:=aw mV) (N:=uF) (by decide +kernel)) (eB (JE.bor (b_ hu1 (ah 1) (JE.bor aF)))) (fun cl A0 s0 H0 ex pn=>⟨cB (i:=0) (by show (["_law_fact","_law_state"] : List Str).Nodup;decide +kernel) rfl (.inl rfl),fg,(lL (yT) (ah 0) (ah 1))⟩)))) bS)) (ud (N9 (bW (Nj rfl) rfl B.any yD (bp (JE.bor (JN.je (d_ (N':=["_law_fact","_law_state"]) (ix:=[0]) 1 (by decide) rfl (bR (so:=aw mV) (N:=uF) (by decide +kernel)) (eB (JE.bor (b_ hu1 (ah 1) (JE.bor aF)))) (fun cl A0 s0 H0 ex pn=>⟨cB (i:=0) (by show (["_law_fact","_law_state"] : List Str).Nodup;decide +kernel) rfl (.inl rfl),fg,(lL (yT) (ah 0) (ah 1))⟩)))) bS)))))))
abbrev qv:db:=top 65
abbrev Ag:List Str:=["_law_errand_here","_law_state","_law_left"]
theorem xC:br Ag ["_law_errand_here","_law_state"] (aw qv):=dg (by decide +kernel)
abbrev Ah (e:En):=FN e "_law_step" 2 2 iS
theorem FV (D:fZ e.K e.mg "_law_step" qv) (B:Bi e.mg) (uG:Af e):Ah e:=nc (k:=1) (g:=pZ) D xC b2 fun _ _ _ _ _ _ _ hr=>by have hu1:=iC hr;unfold pZ;exact (ay (fu (fE (eV (jc uG hr px (aa (ag 1) (aa (oN (ah 0) (ny aF) (ny aF)) aC))))) (aK (bz o6)) cF) (ay (jy 2 (N':=["_law_fact","_law_errand_here"]) (ix:=[0]) 1 (by decide) xC.nd rfl (bR (so:=aw qv) (N:=Ag) (by decide +kernel)) (eB (ah 1)) (fun cl A0 s0 H0 ex pn=>⟨cB (i:=0) (by show (["_law_fact","_law_errand_here"] : List Str).Nodup;decide +kernel) rfl (.inl rfl),(k8 (dL (yU) (ah 0) (JE.bor (b_ hu1 (ah 1) (JE.bor aF))))),(ag 0)⟩)) (aK (bz (dS (gG rfl) rfl B.tuple aV (bp (JE.bor (uh rfl (D8 rfl (JE.bor (bZ cQ (ah 2) (JE.bor (dS (zf rfl) rfl B.list jt (bp (JE.bor (b_ hu1 (ah 0) (JE.bor aF))) bS))))) rfl B.set) rfl B.sorted)) bS))))))
abbrev qw:db:=top 66
abbrev Ai:List Str:=["_law_script","_law_at","_law_book_here","_law_state","_law_many","_law_row","_law_k","_law_some_here","_law_errand_here"]
theorem jK:br Ai ["_law_script","_law_at","_law_book_here","_law_state","_law_many"] (aw qw):=dg (by decide +kernel)
abbrev Aj (e:En):=FN e "_law_walk" 3 5 q8
theorem FW (D:fZ e.K e.mg "_law_walk" qw) (B:Bi e.mg) (qx:Ah e) (aW:eZ e):Aj e:=nc (k:=2) (g:=p_) D jK b5 fun _ _ _ _ _ _ _ hr=>by have hu1:=iC hr;have hu64:=hr.units;unfold p_;exact (ay (kW 5 (wB aC) jK.nd) (ay (pM rfl (pL rfl B.range (bp (ah 4) bS)) (de 6 jK.nd) (ay (jy 7 (N':=["_law_errand_here","_law_state"]) (ix:=[3]) 1 (by decide) jK.nd rfl (bR (so:=aw qw) (N:=Ai) (by decide +kernel)) (eB (JE.bor (b_ hu1 (ah 2) (JE.bor aF)))) (fun cl A0 s0 H0 ex pn=>⟨cB (i:=0) (by show (["_law_errand_here","_law_state"] : List Str).Nodup;decide +kernel) rfl (.inl rfl),(k8 (dL (yS) (JE.bor (jc qx hr dQ (aa (ag 0) (aa (ag 1) aC)))) (JE.bor o6))),(ag 0)⟩)) (ay (fu (dL (vk hu64) (ah 7) (JE.bor (lM aC))) (aK (bz (ag 5))) cF) (ay (dO 8 (b_ hu1 (ah 7) (JE.bor (jc aW hr dQ (aa (ag 0) (aa (bZ cQ (ah 1) (ah 6)) (aa (bW gZ rfl B.len bF (bp (ah 7) bS)) aC)))))) jK.nd) (ay (oQ 5 (b_ hu1 (ah 8) (JE.bor aF))) (aK (dO 3 (jc qx hr dQ (aa (ag 8) (aa (ag 3) aC))) jK.nd))))))) (aK (bz (ag 5)))))
abbrev qy:db:=top 69
abbrev Ak:List Str:=["_law_facts_here","_law_state"]
theorem FX:br Ak ["_law_facts_here","_law_state"] (aw qy):=dg (by decide +kernel)
abbrev Al (e:En):=FN e "_law_view" 1 2 ig
theorem FY (D:fZ e.K e.mg "_law_view" qy) (B:Bi e.mg):Al e:=nc (k:=0) (g:=q9) D FX b2 fun _ _ _ _ _ _ _ hr=>by unfold q9;exact (aK (bz (dS (gG rfl) rfl B.tuple aV (bp (JE.bor (JN.je (d_ (N':=["_law_fact","_law_facts_here"]) (ix:=[0]) 1 (by decide) rfl (bR (so:=aw qy) (N:=Ak) (by decide +kernel)) (eB (ah 1)) (fun cl A0 s0 H0 ex pn=>⟨cB (i:=0) (by show (["_law_fact","_law_facts_here"] : List Str).Nodup;decide +kernel) rfl (.inl rfl),(k8 (dL (yT) (ah 0) (ah 1))),(ag 0)⟩)))) bS))))
abbrev tY:db:=top 70
abbrev PB:List Str:=["_law_script","_law_book_here","_law_state","_law_want_here","_law_facts_here","_law_other","_law_begin","_law_row","_law_some_here","_law_many","_law_less"]
theorem mW:br PB ["_law_script"] (aw tY):=dg (by decide +kernel)
theorem Vg {f:am}{fd:fz} (F:IC e.K "law" "law" tY f fd) (B:Bi e.mg) (uH:Ae e) (kQ:uz e) (HV:Pw e) (jD:Al e) (aW:eZ e) (uI:Aj e) (yx:JV e) (sW:Cg e) (JX:Tv e) (T_law_told_three_leads:FT e "_law_told_three" "leads" 9 3 (BW nJ)):pG e.P e.w e.K e.mg e.base (vh e.P e.w) 11 f fd ["_law_script"] (Nk e.K e.cls 1 F_law):=by
 refine SG (k:=10) (g:=Jx) F mW fun cdv A outer s H E hr=>?_
 have hu1:=iC hr
 have hu64:=hr.units
 unfold Jx
 exact (ay (yV (jc uH hr px (aa (ag 0) (aa aF (aa aF aC)))) (rA rfl (dG (de 1 mW.nd) (dG (de 2 mW.nd) (dG (de 3 mW.nd) nC))))) (ay (dO 4 (jc kQ hr px (aa (ag 0) (aa aF (aa (b_ hu1 (ah 1) (JE.bor aF)) (aa aF aC))))) mW.nd) (ay (dO 5 (jc HV hr px (aa (ag 1) (aa (ag 4) aC))) mW.nd) (ay (dO 6 (jc jD hr px (aa (ag 4) (aa (ag 2) aC))) mW.nd) (ay (dO 7 (jc uI hr px (aa (ag 0) (aa aF (aa (ag 1) (aa (ag 2) (aa (jc aW hr px (aa (ag 0) (aa aF (aa aF aC)))) aC)))))) mW.nd) (ay (fu (dL (BC hu64) (JE.bor (jd T_law_told_three_leads hr px (aa (ag 5) (aa (ag 6) (aa (ag 7) aC))))) (JE.bor (JN.je (d_ (N':=["_law_one","_law_facts_here"]) (ix:=[4]) 1 (by decide) rfl (bR (so:=aw tY) (N:=PB) (by decide +kernel)) (eB (JE.bor (jc yx hr px (aa (ag 1) (aa (ag 2) (aa (ag 7) aC)))))) (fun cl A0 s0 H0 ex pn=>⟨cB (i:=0) (by show (["_law_one","_law_facts_here"] : List Str).Nodup;decide +kernel) rfl (.inl rfl),fg,(jc jD hr dQ (aa (ag 1) (aa (ag 0) aC)))⟩))))) (aK (bz mE)) cF) (ay (dO 8 (jc sW hr px (aa (ag 5) (aa (ag 6) aC))) mW.nd) (ay (fu (fE (eV (bW (o9 rfl) rfl B.all cz (bp (JE.bor (JN.je (d_ (N':=["_law_one","_law_facts_here","_law_some_here"]) (ix:=[4,8]) 1 (by decide) rfl (bR (so:=aw tY) (N:=PB) (by decide +kernel)) (eB (JE.bor (jc sW hr px (aa (ag 1) (aa (ag 2) aC))))) (fun cl A0 s0 H0 ex pn=>⟨cB (i:=0) (by show (["_law_one","_law_facts_here","_law_some_here"] : List Str).Nodup;decide +kernel) rfl (.inl rfl),fg,(lL (UW hu64) (JE.bor (jc jD hr dQ (aa (ag 1) (aa (ag 0) aC)))) (ah 2))⟩)))) bS)))) (aK (bz mE)) cF) (ay (dO 9 (jc JX hr px (aa (ag 1) (aa (ag 2) (aa (ag 3) aC)))) mW.nd) (ay (dO 10 (jc JX hr px (aa (ag 5) (aa (ag 6) (aa (j_ (aa (jc jD hr px (aa (ag 4) (aa (b_ hu1 (ah 3) (JE.bor aF)) aC))) (aa (jc jD hr px (aa (ag 4) (aa (b_ hu1 (ah 3) (JE.bor aF)) aC))) aC))) aC)))) mW.nd) (aK (bz (W9 (lL (SC) (ah 9) (JE.bor o6)) (ud (ue (lL (yS) (ah 10) (JE.bor o6)) (ud (lL (xo) (ah 10) (ah 9))))))))))))))))))
end
end
section
theorem all_mk {l:xG}{w:bL}{K:a8}{h:bT}{mg:Str->Option af}{fa A:am}{od an:Option am}{sl:Array (Option af)}{oc kV dc pm cv ct:af} (X:K.In h) (G:h.Ns bX mg) (hfa:mg "law"=some (.ref fa))
  (Zz:Zs K zn)
  (mR:Cn mg "MOST_LETTERS" 6)
  (qf:Cn mg "MOST_PRICE" 9)
  (qg:Cn mg "MOST_FACTS" 6)
  (mS:Cn mg "MOST_ERRANDS" 6)
  (oB:Cn mg "MOST_IN_ROW" 64)
  (xa:fZ K mg "_law_told_three" hU)
  (DK:fZ K mg "share_none" md)
  (LA:fZ K mg "without" sS)
  (PD:fZ K mg "joined" zU)
  (LB:fZ K mg "is_word" sU)
  (uJ:fZ K mg "are_rising_words" fY)
  (FZ:fZ K mg "are_facts" nR)
  (HW:fZ K mg "is_whole" uo)
  (F_:fZ K mg "is_errand" nU)
  (LC:fZ K mg "is_book" pf)
  (LD:fZ K mg "is_want" wP)
  (Bd:fZ K mg "check_state" ou)
  (DL:fZ K mg "check_want" qh)
  (xY:fZ K mg "errand_called" lO)
  (LF:fZ K mg "fulfils" sV)
  (G0:fZ K mg "is_doable" rO)
  (Am:fZ K mg "state_behind" mT)
  (LG:fZ K mg "checked" wU)
  (Be:fZ K mg "check_place" oy)
  (G1:fZ K mg "check_aim" rQ)
  (Bf:fZ K mg "seen_errand" li)
  (Vh:fZ K mg "seen" DF)
  (PF:fZ K mg "is_row" vL)
  (DM:fZ K mg "errands_of" mh)
  (xb:fZ K mg "states_through" kL)
  (S6:fZ K mg "leads" DG)
  (DN:fZ K mg "steps_from" mi)
  (DO:fZ K mg "first_rows" qk)
  (LH:fZ K mg "nearest" pj)
  (LI:fZ K mg "reached" wZ)
  (HX:fZ K mg "shortest" uv)
  (Xn:fZ K mg "far" Py)
  (Bg:fZ K mg "_law_cell_at" oC)
  (G3:fZ K mg "_law_mixed" rW)
  (HY:fZ K mg "_law_word" ux)
  (G4:fZ K mg "_law_facts" rX)
  (HZ:fZ K mg "_law_some" qq)
  (H_:fZ K mg "_law_thin" kP)
  (DP:fZ K mg "_law_errand" mj)
  (Ic:fZ K mg "_law_book" qt)
  (Ie:fZ K mg "_law_want" uB)
  (Ig:fZ K mg "_law_case" uC)
  (Ih:fZ K mg "_law_good" mV)
  (Ii:fZ K mg "_law_step" qv)
  (Ij:fZ K mg "_law_walk" qw)
  (Ik:fZ K mg "_law_view" qy)
  (l0:i7 K bX "law"=some (some (.ref A)))
  (l1:K.lookup A=some ⟨oc,od,.func (gz "law" "law" (kU tY) (i8 tY) (aw tY) .none kV dc pm an cv ct),sl⟩)
  (l2:mz K cv "law"=true)
  (l3:dB K (.ref A)=true)
  : ∃ fd:fz,(∀ (s:al) (v:af),Av s fd ⟨[v],[]⟩ [("_law_script",v)])/\∀ base:bT,K.In base->base.Ns bX mg->pG l.prog w K mg base (vh l.prog w) 11 fa fd ["_law_script"] (Wq K F_law):=by
 have q:=hfa.symm.trans (tG X G l0)
 cases q
 refine ⟨gz "law" "law" (kU tY) (i8 tY) (aw tY) .none kV dc pm an cv ct,fun s v=>.of_eq rfl,fun base X G=>?_⟩
 let e:En:=⟨l.prog,w,K,mg,base,Wr []⟩
 have B:Bi e.mg:=WN X G Zz
 have eS:=AZ (e:=e) DK B
 have wT:=HC (e:=e) LA B
 have zZ:=Lu (e:=e) PD B
 have ms:=HE (e:=e) LB B mR
 have eJ:=tw (e:=e) uJ B ms
 have dW:=Dy (e:=e) FZ B eJ
 have uq:=FC (e:=e) HW B
 have rN:=Dz (e:=e) F_ B ms uq dW eS qf
 have wW:=HG (e:=e) LC B eJ rN qg mS
 have wQ:=HH (e:=e) LD B dW eS
 have oz:=zX (e:=e) Bd dW
 have qi:=B4 (e:=e) DL wQ
 have gy:=wR (e:=e) xY B
 have mv:=HI (e:=e) LF B eS
 have jI:=DC (e:=e) G0 mv
 have hV:=xX (e:=e) Am wT zZ
 have mw:=HK (e:=e) LG wW
 have eT:=A1 (e:=e) Be mw oz
 have rV:=DE (e:=e) G1 eT qi
 have oA:=A2 (e:=e) Bf B
 have HV:=S4 (e:=e) Vh B mw dW oA
 have A3:=Ly (e:=e) PF B gy oB
 have qj:=B7 (e:=e) DM A3 gy
 have kM:=vO (e:=e) xb jI hV
 have yx:=Px (e:=e) S6 B eT qj kM
 have qo:=B9 (e:=e) DN jI hV
 have j8:=Ba (e:=e) DO qo
 have w_:=HL (e:=e) LH B mv
 have sW:=HN (e:=e) LI B eT j8
 have uw:=FH (e:=e) HX rV j8 w_
 have JX:=Vf (e:=e) Xn B uw
 have oE:=A8 (e:=e) Bg B
 have aW:=DI (e:=e) G3 oE
 have kO:=FJ (e:=e) HY B aW
 have rY:=DJ (e:=e) G4 B kO aW
 have kQ:=FM (e:=e) HZ B aW
 have uA:=FO (e:=e) H_ B aW
 have qu:=Bc (e:=e) DP B aW uA
 have uD:=FP (e:=e) Ic B rY kO qu aW
 have uE:=FQ (e:=e) Ie B aW
 have uH:=FR (e:=e) Ig uD aW kQ uE
 have uG:=FU (e:=e) Ih B
 have qx:=FV (e:=e) Ii B uG
 have uI:=FW (e:=e) Ij B qx aW
 have jD:=FY (e:=e) Ik B
 have T_law_told_three_leads:=vI (e:=e) (k:=8) xa yx (by decide)
 exact (Vg (e:=e) (MH l1 l2 l3) B uH kQ HV jD aW uI yx sW JX T_law_told_three_leads).imp UA
end
end Z
section
open PySem PySem.W PyProof.Rows
namespace PySem.W.Fast
def tw11731261658184873903:Nat:=0
def tw16530011288276442580:Nat:=0
def tw7124159801872423221:Nat:=0
def tw195559431700316895:Nat:=0
def tw12934987172438684360:Nat:=0
def tw13714368297775438937:Nat:=0
def tw12501028242541210852:Nat:=0
def tw9538056834124730478:Nat:=0
def tw10108353496913671902:Nat:=0
def tw7358672634629108693:Nat:=0
def tw15532491064729297772:Nat:=0
def tw9497281135880782755:Nat:=0
def tw4769254124432751641:Nat:=0
def tw9303085009691119334:Nat:=0
def tw5818410469971264427:Nat:=0
def tw4535707438541548826:Nat:=0
def tw11818113632116545423:Nat:=0
def tw14890763415436583601:Nat:=0
def tw14919670994205694102:Nat:=0
def tw5746672886536242253:Nat:=0
def tw6714113894890807872:Nat:=0
def tw3252918869524812688:Nat:=0
def tw4591770057110932878:Nat:=0
def tw11592324082475139736:Nat:=0
def tw5971210876520459466:Nat:=0
def tw6252194493640351084:Nat:=0
def tw7528870308020880623:Nat:=0
def tw7889377847850564821:Nat:=0
def tw9657754367879481252:Nat:=0
def tw188072134738807559:Nat:=0
def tw15190160206645777228:Nat:=0
def tw6546220310083918618:Nat:=0
def tw16907061720645994985:Nat:=0
def tw14442799199140930216:Nat:=0
def tw14709487584792098417:Nat:=0
def tw17025990391763970393:Nat:=0
def tw4826552229385983733:Nat:=0
def tw9423116980664967308:Nat:=0
def tw12371788194520838183:Nat:=0
def tw12787737357856653743:Nat:=0
def tw12496218426003647714:Nat:=0
def tw11825946037433209008:Nat:=0
def tw6281888332553961493:Nat:=0
def tw3641097266317563257:Nat:=0
def tw2765132118178447215:Nat:=0
def tw7144900736169016391:Nat:=0
def tw16562574456399658166:Nat:=0
def tw4793768500936629706:Nat:=0
def tw11227075603613474037:Nat:=0
def tw10043579836476964654:Nat:=0
def tw17325161691915890475:Nat:=0
def tw12204532463602541578:Nat:=0
def tw5561178438366407530:Nat:=0
def tw614803092960466888:Nat:=0
def tw1581569460289135540:Nat:=0
def tw1614911010787761182:Nat:=0
def tw17405966401415825228:Nat:=0
def tw8936212946896470643:Nat:=0
def tw251609721544281173:Nat:=0
def tw6429733576039276868:Nat:=0
def tw2420337633553516550:Nat:=0
def tw1033899014689908617:Nat:=0
def tw14933185431189465055:Nat:=0
def tw5866655480769351404:Nat:=0
def tw3984764307930707608:Nat:=0
def tw11800938218464962306:Nat:=0
def tw9046918594517227095:Nat:=0
def tw2080734969932494634:Nat:=0
def tw14596920771110888940:Nat:=0
def tw8059143402251372905:Nat:=0
def tw15304060063103628617:Nat:=0
def tw392918106776826095:Nat:=0
def tw10314859476277081012:Nat:=0
def tw154339761985594529:Nat:=0
def tw1435435852749430711:Nat:=0
def tw6064239357946079392:Nat:=0
def tw15069864259343558519:Nat:=0
def tw15240308048472549129:Nat:=0
def tw17762393759732850273:Nat:=0
def tw9805630200459741748:Nat:=0
def tw9744261996865364554:Nat:=0
def tw1852573655175645579:Nat:=0
def tw1043631864126380879:Nat:=0
def tw12295089162213225050:Nat:=0
def tw5820648712387226064:Nat:=0
def tw13622864837175644001:Nat:=0
def tw501420010365386136:Nat:=0
def tw7448445208699522966:Nat:=0
def tw6778270424309080209:Nat:=0
def tw13918969436374184057:Nat:=0
def tw1256373844152434071:Nat:=0
def tw18240559925249278187:Nat:=0
def tw10464337265505914684:Nat:=0
def tw8662587155638704044:Nat:=0
def tw12047541848368467266:Nat:=0
def tw11668182275476780239:Nat:=0
def tw6102163235532312071:Nat:=0
def tw13796643591654130080:Nat:=0
def tw4548573198555403127:Nat:=0
def tw9295982536389509918:Nat:=0
def tw10378333405131626632:Nat:=0
def tw9484764915925550304:Nat:=0
def tw4596436760775190094:Nat:=0
def tw7735391956712745422:Nat:=0
def tw14566152726905009937:Nat:=0
def tw18332000763927704915:Nat:=0
def tw14231811484120768170:Nat:=0
def tw3682801409586120502:Nat:=0
def tw4445303455788970636:Nat:=0
def tw14520026339346092182:Nat:=0
def tw238748581392053584:Nat:=0
def tw16989710033848109896:Nat:=0
def tw10910578891263355451:Nat:=0
def tw10551166679193458592:Nat:=0
def tw13856077098986281282:Nat:=0
def tw8358089084740941847:Nat:=0
def tw2767044680982836074:Nat:=0
def tw3840961149303713403:Nat:=0
def tw3434761078429142765:Nat:=0
def tw4001631291584759625:Nat:=0
def tw13090444316752089869:Nat:=0
def tw4413909783427600488:Nat:=0
def tw18330291527475800061:Nat:=0
def tw14688550998676076113:Nat:=0
def tw5032717104321241496:Nat:=0
def tw7320155989775046595:Nat:=0
def tw13252609927629629078:Nat:=0
def tw2499913253563724215:Nat:=0
def tw1709382923766637446:Nat:=0
def tw15269107618430110947:Nat:=0
def tw741472398457440588:Nat:=0
def tw7960869896787184547:Nat:=0
def tw17575072347492696816:Nat:=0
def tw9883151233239369065:Nat:=0
def tw462155435300374475:Nat:=0
def tw15877822544181967128:Nat:=0
def tw10665531589991915568:Nat:=0
def tw4555012539230503440:Nat:=0
def tw1601469310884603732:Nat:=0
def tw4441058160981965493:Nat:=0
def tw5220506535767041102:Nat:=0
end PySem.W.Fast
theorem PySem.Challenge.cw_errands_k29_whole_seen_holds : PySem.Challenge.rw_errands_k29_whole_seen.Holds := by
 w_on;o_law;k_head;(case hw=>w_witness2)
 k_fill
 refine J.walkF (l:=PySem.Challenge.rw_errands_k29_whole_seen) (k:=11) (x:="_law_script") (F0:=Z.F_law) rfl rfl ⟨rfl,by decide,by decide⟩ (fun w h Y=>by first|exact PySem.W.kIn_of Y|exact PySem.W.km_in_of Y) ?F (fun ns _=>Z.law_true ns)
 case F =>
  intro w mg fa h KX G hmg
  refine' Z.all_mk KX G hmg ?_ ?_ ?_ ?_ ?_ ?_ ?_ ?_ ?_ ?_ ?_ ?_ ?_ ?_ ?_ ?_ ?_ ?_ ?_ ?_ ?_ ?_ ?_ ?_ ?_ ?_ ?_ ?_ ?_ ?_ ?_ ?_ ?_ ?_ ?_ ?_ ?_ ?_ ?_ ?_ ?_ ?_ ?_ ?_ ?_ ?_ ?_ ?_ ?_ ?_ ?_ ?_ ?_ ?_ ?_ ?_
  all_goals first
   |(refine' J.d_in KX G ?_ ?_ ?_ ?_<;>try k_is)
   |(refine' J.cn_in KX G ?_<;>try k_is)
   |k_is
   |(refine' J.TopC.mk ?_ ?_ ?_<;>try (first|k_is|k_exc))
   |(refine' J.topN ?_ ?_ ?_ ?_ ?_ ?_ ?_ ?_ ?_ ?_ ?_ ?_ ?_ ?_ ?_ ?_ ?_ ?_ ?_ ?_ ?_ ?_ ?_<;>try (first|k_is|rfl|exact fun _ _=>⟨_,rfl,rfl⟩|decide +kernel))
   |((refine' J.Wy.mk ?_ ?_ ?_ ?_ ?_ ?_ ?_ ?_ ?_ ?_)<;>try (first|k_is|decide|((repeat' (first|exact .nil|refine' .cons ?_ ?_ ?_))<;>try (first|k_is|decide))))
   |((repeat' (first|exact .nil|refine' .cons ?_ ?_))<;>try (first|(refine' J.cw_in ?_ ?_ ?_<;>try k_is)|k_is))
   |skip
end
