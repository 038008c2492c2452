import PyProof.Rows.All
import Wide.All
import OpenK.AllK
import Wide.FinOn
import Lean
import PyProof.EqAt
import PyProof.EqKinds
import PyProof.TupleCall
import KE.KDictOf
import PyProof.AttrMissHeap
import KE.KRevIter
import PyProof.DictWalks
import PyProof.MinMaxWalk
import PyProof.SeqI3
import PyProof.WalkInts
import PyProof.ExcInit
import PyProof.InstStoreFacts
import PyProof.DictCompW
import PySem.Challenge.RW_errands_k04_leads
set_option Elab.async false
set_option linter.all false
set_option maxRecDepth 100000
set_option maxHeartbeats 0
open PySem renaming wpAny_bind->a6,wpAny_pure->aa,Value->ae,Addr->ag,Shared->ah,wpAny->ak,starEach->aA,model->aB,wpAny_mono->aZ,cellsFrom->ba,Program->bf,mainGlobals->bt,wpAny_setState_of->bu,boot_len->bv,Heap->bw,World->bE,wpAny_newObj_type->bL,compareOp->bO,Expr->bR,Around->bV,wpAny_holding->bW,rawInt->cr,wpAny_call_entry->cx,wpAny_callSpecial?_slot->cF,eval->cL,wpAny_field->cO,Stmt->cY,wpAny_standAt->du,mem_of_lookup->dA,wpAny_loadPart_at->dO,wpAny_truthy_bool->eE,foldedSetIterable->eF,wpAny_seqItems->eG,binaryOp->eW,FuncData->eX,excClassObj->fm,fits_of_scanBound->fJ,Builtin->fK,typeLookup->fM,codeAny_builtin->fO,setField->fX,backTo->gm,Scope->gH,wpAny_rule->gI,wpAny_pyIter_tuple->gJ,recursionLimit->gK,letOwnedTupleGo->gV,behindInMarks->gY,codeAny->ij,swapsWith->iq,wpAny_askSetting->iu,strIterType->iE,bootBuiltins->iG,assignEach->iH,wpAny_typeOf->iI,wpAny_setField_rec->iJ,scanBound->iZ,wpAny_storeSet_of->j8,wpAny_loadName_local->jr,codeAny_call_builtin->js,wpAny_setField->jt,wpAny_isInstance->jK,wpAny_isSubtype_exc->jS,attributeBase->kf,wpAny_attempt->kg,wpAny_execs_nil->kq,sysModules->kE,wpAny_call->kF,IsPair->kJ,wpAny_pyIter_list->lB,NameKind->lC,SetTable->lG,builtinLookup_eq_fast->m9,call_meets->mj,checkBuiltinCall->ml,getItem->mT,plainId_quiet->mU,sliceBounds->mX,wpAny_of_eq->mY,pyNext->nL,wpAny_passesOwn->nM,codeAny_mono->oA,pickOrder->ph,wpAny_Name->pq,wpAny_Call_Name_kw->pw,isInstance->pA,wpAny_pyIter_enum->qL,assign->qP,wpAny_comprehension_free->qR,wpAny_execs_cons->sS,cLine->sU,noteFrame->sV,ExcBaseFacts->tW,pushCells_keeps->uF,codeAny_of_tree->uH,typeLookup_type->uI,getAttrByItsOwn->uJ,sizeLine_eq->vR,IsPart->vS,newFunctionEnv->vU,relayAll->vV,raiseNew->vW,firstArgMember->vX,IsZip->vY,wpAny_updateSeq_pair->vZ,boundAndCalled->v_,BindsTo->wN,Keyword->wO,callerA->wP,swapsWithSole->xL,swappedStores->xM,wpAny_onRaise->xO,tupleKind_room_in1->yg,newExc->yi,StoreFacts->yn,leaving->Ac,concat_meets->Ad,wpAny_sequenceKey->Ae,valueAt->Af,field->Aj,wpAny_Call_ofName->Ao,plainObj_wpAny_Assign_Attribute->B0,tupleKind->B_,isTrue->C0,pyIter->C1,noFill_tuple_add->C2,PyData->C6,frameOf->C7,subscripted->DL,keywordEach->DM,wpAny_updateSeq->DT,standAt->G3,GenState->Gf,Model->Gg,bindName->Gh,bindL->Gk,bindC->Gm,wpAny_newFunctionEnv_cells->Gn,stored->Gp,atKey->Gq,entryFor->Gr,entryFor_alias->Gs,isSubtype_type->Gu,argsOk->Gv,isSubtype_stop->Gw,wpAny_letOwnedTupleGo_enum->Gx,assignInOrder->K1,seq_tuple_add->K5,evalPart_none->K7,call->K9,Drawn->LK,lastMarks->LL,Walks->LP,seqItems?->LQ,Paired->L_,sub_set_self->M4,setNext->M5,entryPlaceOf->M7,wpAny_isTrue_Compare1->Pf,codeAny_call_function->Pg,bindArgs->Pr,backToKw->Ps,wpAny_alloc->Pw,ZipApart->Pz,wpAny_letGo->PD,getAttr?->PH,lookupAlong->PQ
open PySem.W renaming Frag->a7,mroIn->bU,kia_one->cz,kitOne->dC,keepIn->d_,fnOf->eO,nsMap_none_of_in->eQ,hideAll_get->fi,cellsFrom_some->fk,clsIn->fB,findIn->fL,nsIn->gE,mg_of->il,looks_findIn->iK,of_hideAll->jq,codeIn->jO,hideAll->lA,isNs_of_in->mn,subIn->nR,funFrames_hide->pB,notCls->qT,codeRec_of->tT,methodObj->uN,specialIn->uO,kitx_list->uP,instObj->xl,takesIn->xm,OpenLaw->xo,lookIn->yd,InstAt->ye,typeIn->yk,Looks->Ak,excIn->An,hideAll_none->DR,looks_mroIn->G8,kitx_tuple->Gi,callWith_K->Gj,mg_none_of->GC,hasDictIn->Ix,kitx_dict->Iy,handedIn->K3,plainGet->K4,kitCls->M9,nsOkIn->Md,WalkO->Pi
open PySem.Heap renaming get?_push_of_some->ac,lt_size->am,get?_push_size->aF,SameBut->bI,size_push->cp,get?_update_self->gq,FlyingW->ku,get?_update_other->qJ,get?_none_of_le->tf,MadeExcOf->tx,IsTuple->G6,get?_update_ne->Kf,get?_push_at->Mc
open List renaming getElem?_set_ne->aj,mem_cons_self->al,mem_cons_of_mem->ao,length_map->au,size_toArray->aG,not_mem_nil->aH,getElem?_set_self->aI,length_append->aJ,length_cons->aM,getElem?_map->aO,mem_cons->aQ,map_cons->aS,getElem?_eq_getElem->aW,mem_append_right->aY,replicate->bc,getElem?_append_right->bd,length_nil->bi,range->bq,getElem?_replicate->bP,getElem?_append_left->bQ,mem_singleton->bT,map_append->cm,getElem?_eq_none->cA,append_nil->cB,lookup_cons->cD,all_eq_true->cR,replicate_succ->cU,length_replicate->cX,nil_append->df,map_map->dm,find?_cons->dL,map_nil->ed,length_range->ef,mem_of_getElem?->f9,any_cons->fN,getElem_mem->fV,getD_eq_getElem?_getD->gd,contains_cons->gf,mem_append_left->gO,flatten_cons->gP,length_singleton->iB,nodup_nil->i_,length_take->j7,filterMap_cons->jl,getElem_of_mem->jm,mem_map_of_mem->jn,sublist_append_left->jy,getElem?_cons_succ->jR,append_assoc->kr,all_map->kA,length_drop->lu,any_eq_true->lv,foldl_cons->m5,forIn_cons->m6,mem_append->m7,filterMap_map->m_,perm_ext_iff_of_nodup->ng,foldl_map->nh,reverse_cons->oC,ext_getElem->qw,getElem_map->qx,drop_of_length_le->qK,of_mem_zip->qQ,length->tm,forIn_nil->tu,length_reverse->uK,map_congr_left->uL,all_cons->uQ,getElem_range->vO,set_cons_zero->vP,set_cons_succ->vQ,length_filterMap_eq_countP->xt,lookup->yh,length_eraseIdx_of_lt->AX,map->B1,drop_eq_getElem_cons->C3,getElem?_cons_zero->DU,take_of_length_le->G9,any_map->Ga,length_filter_le->GE,getElem?_range->Kc,replicate_zero->Kg,foldl->LM,lookup_append->LN,map_inj_right->LS,nodup_append->M3,zipIdx_cons->Pj,cons_append->Pl,zipIdx_nil->PB
open PySem.PyData renaming str->ap,tuple->br,eqv->bB,int->bC,canLayAll0->bH,bool->b_,canLay0->db,list->ej,eqvAll->l9,depth->md,depthAll->qD
open Array renaming length_toList->aq,getElem?_eq_getElem->eC,getElem?_toList->eI,getD_eq_getD_getElem?->iF,eq_empty_of_size_eq_zero->l8,size_map->sW,all_toList->xv,replicate->ym,toArray_toList->Gy,append_assoc->K0,find?_toList->K2,forIn_toList->Ke,toList_push->LO,size_append->LU
open Nat renaming le_refl->ar,ne_of_lt->aD,lt_of_lt_of_le->aE,le_of_lt->b9,le_trans->bD,lt_irrefl->c6,ne_of_gt->eh,zero_le->eB,lt_succ_self->fW,lt_succ_of_lt->gR,le_succ->ik,lt_of_le_of_lt->jQ,lt_succ_of_le->kH,min_le_right->qC,add_le_add_left->uR,lt_trans->xp,lt_asymm->xq,le_of_lt_succ->xr,mod_lt->C4,zero_add->Gz,succ_pos->GA,lt_of_succ_lt_succ->GB,add_lt_add_right->Kd,le_of_not_lt->Pu,le_add_right->PF,reduceLeDiff->PR,reduceEqDiff->PU
open Bool renaming false_ne_true->aL,and_eq_true->aP,false_eq_true->cb,eq_iff_iff->iw,and_false->iY,not_false->j0,or_eq_true->jL,noConfusion->lw,and_self->lI,not_true->pj,beq_eq_decide_eq->sf,false_or->uS,true_and->uU,or_true->wS,false_and->AU,or_eq_false_iff->IB,not_eq_true'->M8
open PySem.Value renaming ref->bg,none->dz,bool->i6,type->i7,str->j5,int->mS,isStrOf->uD,float->Ge
open PyProof.Rows renaming boot_tuple->bh,boot_all->cJ,slot_tuple_getitem->cS,callWith_type1->e_,boot_list->fc,envOfC->jN,Keyed->ki,boot_isinstance->kz,boot_int->oz,AllBare->qI,StrsAre->tV,slicePart_none->vT,isBoolOf->w4,SortKind->w5,boot_sorted->wR,entry_tuple_getitem->xn,subscriptTail->xN,assignInOrder_cons->yc,args_tuple_getitem->yf,boot_any->yo,boot_str->yp,boot_sum->yq,IsTup->DI,Subscript_->Go,tupleItemsOf_->K6,subscriptTail_builtinR->M0,IntsAre->M2,SortSt->Me
open Option.some renaming inj->bx,injEq->DO
open PySem.Heap.SameBut renaming update->bZ
open PySem.Heap.FunFrames renaming mem->cc
open PySem.NameKind renaming free->cn,cell->dY,«local»->qN
open PySem.SetTable renaming sizeAbove->cq,grown->iC,below->iD,fits->n6,bits->nc,turns->qM,layClean->uG,laid->Ab,orStandIn->G5,relaid->Kb,fill->Ma,road->Mb
open PySem.Builtin.SmallTypes renaming nextOf->cy,ownedTupleIsFree->eP,ownedTupleHandOut->n8
open PySem.Builtin.Tuple renaming tupleExact->cG,tupleItemsOf->l7
open PySem.Builtin.Slice renaming slicePlaces->da,sliceApplied->i8,sliceAdjust->lE,sliceFields->vN
open Ne renaming symm->dq
open PySem.SetTable.layClean renaming free->dG
open Option renaming map_some->dI,getD_none->gW,getD_some->kS,bind_some->pi,isSome_some->uE,isSome_map->Ka
open PySem.F renaming plainAttrs_list->dQ,slot_tuple_iterator_next->j9,excBase_ValueError->mq,args_tuple_add_2->nN,slot_list_extend->nO,type_list_extend->nQ,entry_tuple_add->oB,slot_tuple_add->pz,slot_zip_next->tw,slot_list_append->Al,type_list_append->Am,store_ValueError->Ap,slot_list_count->AZ,slot_list_index->A_,args_tuple_iterator_next_1->C5,entry_tuple_iterator_next->DN,slot_enumerate_next->LR,args_list_extend_2->M1,entry_list_extend->Ph,slot_list_extend->Pt
open Int renaming toNat_of_nonneg->eu,eq_ofNat_of_zero_le->gZ,toNat_natCast->kG,emod_lt_of_pos->nU,emod_nonneg->sg,reduceLT->GD
open False renaming elim->eN
open List.Sublist renaming refl->eR
open Or renaming inr->eU,inl->i4
open PySem.Around renaming under_plainId->eV
open PySem.Obj renaming mapFields->eY,mapSeq->jP,putSet->qS,data_mapFields->M6
open PySem.Builtin.List renaming listTooLong->g6,listExtendWith->uT,listSameRef->wQ
open ForInStep renaming yield->g9
open PySem.AutoSeq1 renaming wpAny_loadPart'->gz
open PySem.Str renaming ofString->ir
open PyProof.Rows.F renaming plain_set_update_loop->iy,entry_set_update_loop->pf
open True renaming intro->iX
open PySem.Builtin.Frozenset renaming updateFrom->jJ,isAnySet->sX,sizeOf->tU,copyOf->tX,newClass->Px,oneOther->PJ,addrOf->PK,slot1->PL,baseOf->PM,merge->PN,unchanged->PP
open PySem.Calls renaming evalArgs_plain->lF,Name_function_global->mW,call_function_entry->AY,loadGlobal_global->DJ
open PySem.Sem renaming wp->lH
open PySem.Code renaming quiet_builtin->n5,weight->oE
open Sum renaming inr->qO,inl->xk
open PySem.Builtin.ObjectAttr renaming attrName->qU,find->Pk
open PyProof.Rows.IsTup renaming new->tj
open PySem.Paired renaming length->tS
open PySem.Builtin.Dict renaming updateFrom->xu
open And renaming intro->yj
open PySem.Heap.IsSliceOf renaming new->Aa
open PySem.Walks renaming list->Ag
open PySem.pickOrder renaming go->Ah
open PySem.SetTable.below renaming go->Ai
open PySem.SeqAt.EqAt renaming bool_bool->AV,int_str->DG,str_int->DH
open List.Pairwise renaming nil->AW
open PySem.EntryCells renaming newEntry->C8
open PySem.Heap.DictOf renaming new->G4
open PySem.Shared renaming heap->G7,TypeIs->Py
open PySem.Value.type renaming inj->Iz
open PySem.PassesOwn renaming never->IA
open PySem.SeqAt renaming EqAt->K8
section
namespace L2
open PySem PySem.Spec PyProof.Rows
abbrev gj:=Sum Int Str
def yr:gj->ae->Bool
 |.inl k,v=>Value.isInt k v
 |.inr x,v=>uD x v
def WK (w:bE):gj->Int
 |.inl k=>hashInt k
 |.inr x=>hashStr w x
theorem fE:∀ {k:gj}{v:ae},yr k v=true->(∃ i t,k=xk i/\v=mS i t)\/(∃ x t,k=qO x/\v=j5 x t)
 |.inl i,v,h=>by
  obtain ⟨t,e⟩:=Value.isInt_shape (k:=i) (v:=v) h;exact .inl ⟨i,t,rfl,e⟩
 |.inr x,v,h=>by
  obtain ⟨t,e⟩:=Value.isStrOf_shape (x:=x) (v:=v) h;exact .inr ⟨x,t,rfl,e⟩
theorem Kh (i:Int) (t:Tok):yr (.inl i) (.int i t)=true:=by simp [yr,Value.isInt]
theorem Ki (x:Str) (t:Tok):yr (.inr x) (.str x t)=true:=by simp [yr,uD]
theorem S_ (a b:Int):decide ((xk a:gj)=xk b)=(a==b):=by
 by_cases e:a=b
 ·subst e;simp
 ·have h:¬ (xk a:gj)=xk b:=fun q=>e (Sum.inl.inj q);rw [decide_eq_false h];exact (beq_eq_false_iff_ne.mpr e).symm
theorem T2 (a b:Str):decide ((qO a:gj)=qO b)=decide (a=b):=by
 by_cases e:a=b
 ·subst e;simp
 ·have h:¬ (qO a:gj)=qO b:=fun q=>e (Sum.inr.inj q);rw [decide_eq_false h,decide_eq_false e]
theorem T3 (a:Int) (b:Str):decide ((xk a:gj)=qO b)=false:=decide_eq_false (fun q=>nomatch q)
theorem T4 (a:Str) (b:Int):decide ((qO a:gj)=xk b)=false:=decide_eq_false (fun q=>nomatch q)
def dU (prog:bf) (w:bE):PySem.KeyKind prog w gj where
 is:=yr
 hash:=WK w
 inj:=fun v a b ha hb=>by
  rcases fE ha with ⟨i,t,rfl,rfl⟩|⟨x,t,rfl,rfl⟩
  ·rcases fE hb with ⟨j,u,rfl,e⟩|⟨y,u,rfl,e⟩
   ·injection e with e1 _;rw [e1]
   ·exact nomatch e
  ·rcases fE hb with ⟨j,u,rfl,e⟩|⟨y,u,rfl,e⟩
   ·exact nomatch e
   ·injection e with e1 _;rw [e1]
 byValue:=fun k v h=>by
  rcases fE h with ⟨i,t,rfl,rfl⟩|⟨x,t,rfl,rfl⟩<;>rfl
 pyHash:=fun hv h=>by
  rcases fE hv with ⟨i,t,rfl,rfl⟩|⟨x,t,rfl,rfl⟩
  ·exact wpAny_pyHash_int h
  ·exact wpAny_pyHash_str h
 eqBool:=fun hu hv h=>by
  rcases fE hu with ⟨i,t,rfl,rfl⟩|⟨x,t,rfl,rfl⟩
  ·rcases fE hv with ⟨j,u,rfl,rfl⟩|⟨y,u,rfl,rfl⟩
   ·rw [S_] at h;exact wpAny_eqBool_int h
   ·rw [T3] at h;exact DG i t y u _ _ _ _ h
  ·rcases fE hv with ⟨j,u,rfl,rfl⟩|⟨y,u,rfl,rfl⟩
   ·rw [T4] at h;exact DH x t j u _ _ _ _ h
   ·rw [T2] at h;exact wpAny_eqBool_str h
 «strs»:=fun k x t v h=>by
  rcases fE h with ⟨i,u,rfl,e⟩|⟨y,u,rfl,e⟩
  ·exact nomatch e
  ·injection e with e1 _
   subst e1
   cases v<;>rfl
theorem DV (prog:bf) (w:bE) (i:Int) (t:Tok):(dU prog w).is (.inl i) (.int i t)=true:=Kh i t
theorem DW (prog:bf) (w:bE) (x:Str) (t:Tok):(dU prog w).is (.inr x) (.str x t)=true:=Ki x t
end L2
namespace L2
open PySem PySem.Spec PyProof.Rows
inductive V where
 |non|bl (b:Bool)|int (i:Int)|str (x:Str)|byt (b:Array UInt8)|flt (b:UInt64)|ref (a:ag)|ty (n:String)
 deriving DecidableEq
def dn:V->ae->Prop
 |.non,u=>u=dz
 |.bl b,u=>u=i6 b
 |.int i,u=>∃ t,u=mS i t
 |.str x,u=>∃ t,u=j5 x t
 |.byt b,u=>∃ t,u=Value.bytes b t
 |.flt b,u=>∃ t,u=Ge b t
 |.ref a,u=>u=bg a
 |.ty n,u=>u=i7 n
abbrev cV:List V->List ae->Prop:=L_ dn
theorem cV.length  (r:cV xs us):xs.length=us.length:=tS r
theorem cV.get  (h:cV xs us):∀ {i:Nat}{x:V},xs[i]?=some x->∃ u,us[i]?=some u/\dn x u:=by
 induction h with
 |nil=>intro i x e;cases e
 |cons r t ih =>
  intro i x e;cases i with
  |zero=>cases e;exact ⟨_,rfl,r⟩
  |succ i=>have q:=ih (i:=i) e;exact q
theorem cV.append  (h:cV xs us) (s:cV ys ws):cV (xs++ys) (us++ws):=by
 induction h with
 |nil=>exact s
 |cons r t ih=>exact .cons r ih
theorem cV.take:∀ {xs:List V}{us:List ae} (n:Nat),cV xs us->cV (xs.take n) (us.take n)
 |_,_,0,_=>.nil
 |_,_,_+1,.nil=>.nil
 |_,_,n+1,.cons r t=>.cons r (cV.take n t)
theorem cV.drop:∀ {xs:List V}{us:List ae} (n:Nat),cV xs us->cV (xs.drop n) (us.drop n)
 |_,_,0,r=>r
 |_,_,_+1,.nil=>.nil
 |_,_,n+1,.cons _ t=>cV.drop n t
def w6:Option V->Option ae->Prop
 |some v,some u=>dn v u
 |none,none=>True
 |_,_=>False
def KV {κ:Type}:List (κ×V)->List (κ×ae)->Prop:=L_ fun (p:κ×V) (q:κ×ae)=>p.1=q.1/\dn p.2 q.2
def kV:gj->V
 |.inl i=>.int i
 |.inr x=>.str x
inductive HO where
 |lst (xs:List V)
 |tup (xs:List V)
 |dK (kvs:List (gj×V))|dT (kvs:List (List gj×V))
 |set (S:Int->Bool) (n:Nat)
 |ins (C dx:ag) (fs:List (Str×V))
 |own (x:ag)
 |xd (fs:List (Str×V))
 |met (f x:ag)
 |rng (lo hi:Int)
 |frz (o:Obj) (u:HO)
 |tbl (ps:Array ae)
 |ext (φ:bw->Prop)
abbrev Hp:=ag->Option HO
def upd (H:Hp) (a:ag) (o:HO):Hp:=fun b=>if b=a then some o else H b
theorem aR   : upd H a o a=some o:=by unfold upd;rw [if_pos rfl]
theorem aU   (h:b≠a):upd H a o b=H b:=by unfold upd;rw [if_neg h]
theorem UD {H:Hp}{a b:ag}{o u:HO} (h:H a=some o) (h':H b=some u) (d:o≠u):a≠b:=by
 intro e;subst e;rw [h] at h';exact d (bx h')
theorem b6 {H:Hp}{a b:ag}{o:HO} (h:H a=some o) (h':H b=none):a≠b:=by
 intro e;subst e;rw [h] at h';cases h'
section
variable (P:bf) (w:bE)
def de (H:Hp) (h:bw) (a:ag):HO->Prop
 |.lst xs=>xs.length<=sizeLine/\∃ (its:List ae) (n:Nat),cV xs its/\h.get? a=some { cls:=.type "list",data:=.seq its.toArray n }
 |.tup xs=>xs.length<=sizeLine/\∃ its:List ae,cV xs its/\DI h a its.toArray
 |.dK kvs=>kvs.length<=sizeLine/\(a==kE)=false/\∃ vs,KV kvs vs/\h.DictOf (dU P w) a vs
 |.dT kvs=>kvs.length<=sizeLine/\(a==kE)=false/\∃ xs:List (List gj×ag×ae),
   L_ (fun (p:List gj×V) (q:List gj×ag×ae)=>p.1=q.1/\H q.2.1=some (.tup (p.1.map kV))/\dn p.2 q.2.2) kvs xs /\
   ∃ o es ep,h.get? a=some o/\o.ExactDict/\o.data=.dict es ep/\es.toList=xs.map (entryOfKey (B_ (dU P w)))/\(xs.map (·.1)).Nodup
 |.set S n=>h.SetOf (intKind P w) a S n
 |.ins C dx fs=>H dx=some (.own a)/\fs.length<=1000/\dx≠a/\h.get? a=some (xl C dx) /\
   ∃ mA,h.Ns1 dx mA/\(∀ f,w6 (fs.lookup f) (mA f))/\PySem.Within mA (fs.map (·.1))
 |.own _=>∃ o,h.get? a=some o
 |.xd fs=>∃ mA,h.Ns1 a mA/\∀ f,w6 (fs.lookup f) (mA f)
 |.rng lo hi=>∃ t u v,h.get? a=some { cls:=.type "range",data:=.fields #[.int lo t,.int hi u,.int 1 v] }
 |.frz o u=>h.get? a=some o/\de H h a u
 |.tbl ps=>h.get? a=some { cls:=.none,data:=.fields ps }
 |.met f x=>h.get? a=some (uN (.ref f) (.ref x))
 |.ext φ=>φ h/\(∃ o,h.get? a=some o)/\∀ h1 h2:bw,φ h1->(∀ o,h1.get? a=some o->h2.get? a=some o)->φ h2
def qF (H:Hp) (h:bw):Prop:=∀ a o,H a=some o->de P w H h a o
end
section
theorem de.lt (x:de P w H h a o):a<h.objs.size:=by
 cases o with
 |lst xs=>obtain ⟨_,_,_,_,e⟩:=x;exact am e
 |tup xs=>obtain ⟨_,_,_,p⟩:=x;exact p.lt
 |dK kvs=>obtain ⟨_,_,_,_,o,_,_,e,_⟩:=x;exact am e
 |dT kvs=>obtain ⟨_,_,_,_,o,_,_,e,_⟩:=x;exact am e
 |set S n=>obtain ⟨o,_,_,_,e,_⟩:=x;exact am e
 |ins C dx fs=>obtain ⟨_,_,_,e,_⟩:=x;exact am e
 |own y=>obtain ⟨_,e⟩:=x;exact am e
 |xd fs=>obtain ⟨_,⟨_,_,_,e,_⟩,_⟩:=x;exact am e
 |rng lo hi=>obtain ⟨_,_,_,e⟩:=x;exact am e
 |frz ob u=>obtain ⟨e,_⟩:=x;exact am e
 |tbl ps=>exact am (show h.get? a=some _ from x)
 |met f y=>exact am (show h.get? a=some _ from x)
 |ext φ=>obtain ⟨_,⟨_,e⟩,_⟩:=x;exact am e
theorem Paired.mapP {α β:Type}{F G:α->β->Prop}{l₁:List α}{l₂:List β} (h:L_ F l₁ l₂) (f:∀ a b,F a b->G a b):L_ G l₁ l₂:=by
 induction h with
 |nil=>exact .nil
 |cons r t ih=>exact .cons (f _ _ r) ih
theorem de.stay (x:de P w H h a o) (k:∀ b u,(b=a\/H b=some (.own a))->h.get? b=some u->h'.get? b=some u)
  (ho:∀ b,H b=some (.own a)->H' b=some (.own a)) (ht:∀ b xs,H b=some (.tup xs)->H' b=some (.tup xs)):de P w H' h' a o:=by
 induction o with
 |lst xs=>obtain ⟨z,its,n,r,e⟩:=x;exact ⟨z,its,n,r,k _ _ (.inl rfl) e⟩
 |tup xs=>obtain ⟨z,its,r,ob,e,c⟩:=x;exact ⟨z,its,r,ob,k _ _ (.inl rfl) e,c⟩
 |dK kvs=>obtain ⟨z,y,vs,r,ob,es,ep,e,c⟩:=x;exact ⟨z,y,vs,r,ob,es,ep,k _ _ (.inl rfl) e,c⟩
 |dT kvs =>
  obtain ⟨z,y,xs,r,ob,es,ep,e,c⟩:=x;exact ⟨z,y,xs,Paired.mapP r fun p q z=>⟨z.1,ht _ _ z.2.1,z.2.2⟩,ob,es,ep,k _ _ (.inl rfl) e,c⟩
 |set S n=>obtain ⟨ob,es,ep,t,e,c⟩:=x;exact ⟨ob,es,ep,t,k _ _ (.inl rfl) e,c⟩
 |ins C dx fs =>
  obtain ⟨d,z,ne,e,mA,⟨od,es,ep,e2,c⟩,r⟩:=x;exact ⟨ho _ d,z,ne,k _ _ (.inl rfl) e,mA,⟨od,es,ep,k _ _ (.inr d) e2,c⟩,r⟩
 |own y=>obtain ⟨ob,e⟩:=x;exact ⟨ob,k _ _ (.inl rfl) e⟩
 |xd fs=>obtain ⟨mA,⟨od,es,ep,e,c⟩,r⟩:=x;exact ⟨mA,⟨od,es,ep,k _ _ (.inl rfl) e,c⟩,r⟩
 |rng lo hi=>obtain ⟨t,u,v,e⟩:=x;exact ⟨t,u,v,k _ _ (.inl rfl) e⟩
 |frz ob u ih=>obtain ⟨e,q⟩:=x;exact ⟨k _ _ (.inl rfl) e,ih q⟩
 |tbl ps =>
  have e:h.get? a=some { cls:=.none,data:=.fields ps }:=x;show h'.get? a=some { cls:=.none,data:=.fields ps };exact k a _ (.inl rfl) e
 |met f y =>
  have e:h.get? a=some (uN (.ref f) (.ref y)):=x;show h'.get? a=some (uN (.ref f) (.ref y));exact k a _ (.inl rfl) e
 |ext φ=>obtain ⟨p,⟨o,e⟩,st⟩:=x;exact ⟨st _ _ p fun o q=>k _ _ (.inl rfl) q,⟨o,k _ _ (.inl rfl) e⟩,st⟩
theorem qF.lt (x:qF P w H h) (e:H a=some o):a<h.objs.size:=(x a o e).lt
theorem qF.fresh (x:qF P w H h) (e:h.objs.size<=a):H a=none:=by
 cases q:H a with
 |none=>rfl
 |some u=>exact absurd (aE (x.lt q) e) (c6 _)
theorem qF.kept (x:qF P w H h) (k:∀ b u,h.get? b=some u->h'.get? b=some u):qF P w H h':=fun a o e =>
 (x a o e).stay (fun b u _ q=>k b u q) (fun _ q=>q) fun _ _ q=>q
theorem qF.laid (x:qF P w H h) (k:∀ b u,h.get? b=some u->h'.get? b=some u) (hp:h.objs.size<=a) (new:de P w (upd H a o) h' a o):qF P w (upd H a o) h':=fun b u e=>by
 have hn:=x.fresh hp;by_cases hb:b=a
 ·subst hb;rw [aR] at e;cases e;exact new
 ·rw [aU hb] at e;exact (x b u e).stay (fun c v _ q=>k c v q) (fun c q=>by rw [aU (b6 q hn)];exact q) fun c xs q=>by rw [aU (b6 q hn)];exact q
end
def Rd (H:Hp) (a:ag) (u:HO):Prop:=H a=some u\/∃ o,H a=some (.frz o u)
theorem Rd.ok      (r:Rd H a u) (x:qF P w H h):de P w H h a u:=by
 rcases r with r|⟨o,r⟩
 ·exact x a u r
 ·obtain ⟨_,q⟩:=x a _ r;exact q
def UE:Option HO->Prop
 |some (.lst _)=>True
 |some (.dK _)=>True
 |some (.dT _)=>True
 |some (.set _ _)=>True
 |some (.ins _ _ _)=>True
 |some (.ext _)=>True
 |_=>False
section
theorem qF.write (ok:qF P w H h) (mu:UE (H x)) (he:e=x\/H e=some (.own x)) (k:∀ b u,b≠e->h.get? b=some u->h'.get? b=some u) (heo:∃ u,h'.get? e=some u)
  (new:de P w (upd H x o') h' x o'):qF P w (upd H x o') h':=fun b u q=>by
 have nown:∀ c y,H c=some (.own y)->c≠x:=fun c y r z=>by subst z;rw [r] at mu;exact mu
 have ntup:∀ c xs,H c=some (.tup xs)->c≠x:=fun c xs r z=>by subst z;rw [r] at mu;exact mu
 by_cases hb:b=x
 ·subst hb;rw [aR] at q;cases q;exact new
 ·rw [aU hb] at q;by_cases hbe:b=e
  ·have q':H b=some (.own x):=by
    rcases he with z|z
    ·exact absurd (hbe.trans z) hb
    ·rw [hbe];exact z
   rw [q] at q';cases q';obtain ⟨v,hv⟩:=heo;exact ⟨v,by rw [hbe];exact hv⟩
  ·refine (ok b u q).stay (fun c v hc r=>k c v ?_ r) (fun c r=>by rw [aU (nown c b r)];exact r) fun c xs r=>by rw [aU (ntup c xs r)];exact r
   rcases hc with rfl|hc
   ·exact hbe
   ·rintro rfl;rcases he with z|z
    ·exact nown c b hc z
    ·rw [hc] at z;cases z;exact hb rfl
end
structure Un (fs ex:List ag) (H H':Hp) (h h':bw):Prop where
 keep:∀ b o,h.get? b=some o->H b=none->b∉fs->b∉ex->h'.get? b=some o
 slot:∀ b o,h.get? b=some o->H b=none->b∈fs->b∉ex->∃ sl,h'.get? b=some { o with slots:=sl }
 free:∀ b o,h.get? b=some o->H b=none->b∉ex->H' b=none
 there:∀ b o,h.get? b=some o->b∉ex->∃ o',h'.get? b=some o'
 tups:∀ b xs,H b=some (.tup xs)->H' b=some (.tup xs)
 frzs:∀ b o u,H b=some (.frz o u)->H' b=some (.frz o u)
 tbls:∀ b ps,H b=some (.tbl ps)->∃ more,H' b=some (.tbl (ps++more))
section
theorem Un.any (u:Un fs ex H H1 h h1)  (q:h.get? b=some ob) (n:H b=none) (hx:b∉ex):∃ sl,h1.get? b=some { ob with slots:=sl }:=by
 by_cases hb:b∈fs
 ·exact u.slot b ob q n hb hx
 ·exact ⟨ob.slots,u.keep b ob q n hb hx⟩
theorem Un.kept (k:∀ b u,h.get? b=some u->h'.get? b=some u):Un fs ex H H h h' :=
 ⟨fun b ob q _ _ _=>k b ob q,fun b ob q _ _ _=>⟨ob.slots,k b ob q⟩,fun _ _ _ n _=>n,fun b ob q _=>⟨ob,k b ob q⟩,fun _ _ q=>q,fun _ _ _ q=>q,fun _ ps q=>⟨#[],by rw [q];simp⟩⟩
theorem Un.refl:Un fs ex H H h h:=Un.kept fun _ _ q=>q
theorem Un.laid (k:∀ b u,h.get? b=some u->h'.get? b=some u) (hp:h.objs.size<=a) (hn:H a=none):Un fs ex H (upd H a o) h h' where
 keep:=fun b u q _ _ _=>k b u q
 slot:=fun b u q _ _ _=>⟨u.slots,k b u q⟩
 free:=fun b u q n _=>by rw [aU (aD (aE (am q) hp))];exact n
 there:=fun b u q _=>⟨u,k b u q⟩
 tups:=fun b xs q=>by rw [aU (b6 q hn)];exact q
 frzs:=fun b u xs q=>by rw [aU (b6 q hn)];exact q
 tbls:=fun b ps q=>⟨#[],by rw [aU (b6 q hn),q];simp⟩
theorem Un.write (mu:UE (H x)) (he:e=x\/H e=some (.own x)) (k:∀ b u,b≠e->h.get? b=some u->h'.get? b=some u) (heo:∃ u,h'.get? e=some u):Un fs ex H (upd H x o) h h':=by
 have hx:∀ b,H b=none->b≠x:=fun b n z=>by subst z;rw [n] at mu;exact mu
 have hb:∀ b,H b=none->b≠e:=fun b n z=>by
  subst z;rcases he with r|r
  ·exact hx b n r
  ·rw [n] at r;cases r
 have hm:∀ b u,H b=some u->¬ UE (some u)->b≠x:=fun b u q nm z=>by subst z;rw [q] at mu;exact nm mu
 refine ⟨fun b u q n _ _=>k b u (hb b n) q,fun b u q n _ _=>⟨u.slots,k b u (hb b n) q⟩,fun b u q n _=>by rw [aU (hx b n)];exact n,fun b u q _=>?_,
  fun b xs q=>by rw [aU (hm b _ q fun z=>z)];exact q,fun b u xs q=>by rw [aU (hm b _ q fun z=>z)];exact q,fun b ps q=>⟨#[],by rw [aU (hm b _ q fun z=>z),q];simp⟩⟩
 by_cases hbe:b=e
 ·subst hbe;exact heo
 ·exact ⟨u,k b u hbe q⟩
end
def Wr (h:bw) (H:Hp):List ag:=(bq h.objs.size).filter fun a=>(H a).isSome
def C9 (h:bw) (H:Hp):bw:=lA h (Wr h H)
theorem Kj (h:bw) (H:Hp):(C9 h H).objs.size=h.objs.size:=PySem.W.hideAll_size _ _
theorem Mf    (e:h.get? b=some o) (n:H b=none):(C9 h H).get? b=some o :=
 fi _ e fun hm=>by
  have q:(H b).isSome=true:=(List.mem_filter.mp hm).2;rw [n] at q;simp at q
theorem PV    (e:(C9 h H).get? b=some o):h.get? b=some o/\H b=none:=by
 have e':h.get? b=some o:=jq (Wr h H) e;refine ⟨e',?_⟩;cases q:H b with
 |none=>rfl
 |some x =>
  have hm:b∈Wr h H:=List.mem_filter.mpr ⟨List.mem_range.mpr (am e'),by simp [q]⟩;have z:(C9 h H).get? b=none:=DR (Wr h H) hm;rw [z] at e;cases e
def PX (g h:bw) (L:ag):List (ag×Obj):=(bq h.objs.size).filterMap fun a=>if a=L\/(g.get? a).isSome=true then none else (h.get? a).map fun o=>(a,o)
def bK (g h:bw) (L d:ag):List (ag×Obj):=(PX g h L).filter fun p=>decide (p.1≠d)
end L2
namespace L2
open PySem PySem.Spec PyProof.Rows
structure Mod (K:a7) (mg:Str->Option ae) (base:bw):Prop where
 kin:K.In base
 glob:base.Ns bt mg
 blt:∃ mb,base.Ns builtinsNs mb/\∀ x:Str,x≠"__name__"->mb x=iG x
 nolimit:base.NoLimit
structure Cx where
 prog:bf
 w:bE
 K:a7
 mg:Str->Option ae
 base:bw
 A:bV
 N:List Str
 s₀:ah
 H₀:Hp
 env:Env
 outer:List Env
 stack:List Env
 ex:List ag
 fn:Str->Bool
 calm:Bool
 pn:List (ag×Obj)
 xe:ae->ah->Prop
def lJ (l:List Env):List ag:=l.filterMap (·.frame)
abbrev Cx.fs (X:Cx):List ag:=lJ X.outer
def Pm (sc:gH) (x:Str):Prop:=sc.names.lookup x=some .local\/sc.names.lookup x=some .cell\/sc.names.lookup x=some .free
def RH (sc:gH) (x:Str):Prop:=sc.names.lookup x=some .local\/sc.names.lookup x=some .cell
def WL (env:Env) (h:bw) (m:Str->Option ae) (x:Str) (u:ae):Prop :=
 (env.kindOf x=some .local/\m x=some u)\/((env.kindOf x=some .cell\/env.kindOf x=some .free)/\∃ c,env.cells.lookup x=some c/\h.IsCell c (some u))
structure Cx.Ok (X:Cx):Prop where
 mod:Mod X.K X.mg X.base
 kind:X.env.scope.kind=.function
 glob:X.env.globals=bt
 blt:X.env.builtins=builtinsNs
 above:X.s₀.heap.objs.size<=X.env.locals
 inj:∀ x y c,X.env.cells.lookup x=some c->X.env.cells.lookup y=some c->x=y
 has:∀ x,(X.env.kindOf x=some .cell\/X.env.kindOf x=some .free)->∃ c,X.env.cells.lookup x=some c
 cab:∀ x c,X.fn x=true->X.env.cells.lookup x=some c->X.s₀.heap.objs.size<=c
 hd:X.calm=true->X.A.handled=none
 frames:X.A.frames=some X.stack
 stk:X.stack=X.outer\/(X.stack=X.env::X.outer/\X.env.frame=some X.env.locals)
 exf:∀ b∈X.ex,b≠X.env.locals/\∀ x c,X.env.cells.lookup x=some c->c≠b
 bs:∀ b o,X.base.get? b=some o->X.s₀.heap.get? b=some o/\X.H₀ b=none
 bsz:X.base.objs.size<=X.s₀.heap.objs.size
 noex:∀ b o,X.base.get? b=some o->b∉X.ex
 exfs:∀ b∈X.ex,b∉X.fs
 funs:X.s₀.heap.FunFrames X.base X.outer
 frf:∀ b∈X.fs,X.H₀ b=none
structure bG (X:Cx) (pins:List (ag×Obj)) (σ:List (Option V)) (H:Hp) (s:ah):Prop where
 ok:X.Ok
 os:s.os=X.s₀.os
 bare:qI s.gens
 base:Un X.fs X.ex X.H₀ H X.s₀.heap s.heap
 loc:∃ m,s.heap.Ns X.env.locals m/\∀ (i:Nat) (x:Str) (v:V),X.N[i]?=some x->σ[i]?=some (some v)->Pm X.env.scope x->∃ u,dn v u/\WL X.env s.heap m x u
 cell:∀ x c,X.env.cells.lookup x=some c->∃ v,s.heap.IsCell c v
 free:H X.env.locals=none
 freeC:∀ x c,X.env.cells.lookup x=some c->H c=none
 pin:∀ p∈X.pn++pins,s.heap.get? p.1=some p.2/\H p.1=none/\p.1≠X.env.locals/\p.1∉X.fs/\∀ v,p.2.data≠.cell v
 hok:qF X.prog X.w H s.heap
 len:σ.length=X.N.length
section
variable {X:Cx}{pins:List (ag×Obj)}{σ:List (Option V)}{H H':Hp}{s:ah}{h':bw}
theorem Cx.Ok.nofr (ok:X.Ok)  (e:X.base.get? b=some o):b∉X.fs:=fun hb=>by
 have:=(ok.funs.mem hb).1;rw [e] at this;cases this
theorem bG.bs (I:bG X pins σ H s):∀ b o,X.base.get? b=some o->s.heap.get? b=some o/\H b=none:=fun b o e =>
 ⟨I.base.keep b o (I.ok.bs b o e).1 (I.ok.bs b o e).2 (I.ok.nofr e) (I.ok.noex b o e),I.base.free b o (I.ok.bs b o e).1 (I.ok.bs b o e).2 (I.ok.noex b o e)⟩
theorem bG.bk (I:bG X pins σ H s):∀ b o,X.base.get? b=some o->s.heap.get? b=some o:=fun b o e=>(I.bs b o e).1
theorem bG.mod (I:bG X pins σ H s):Mod X.K X.mg X.base:=I.ok.mod
theorem bG.kIn (I:bG X pins σ H s):X.K.In s.heap:=I.ok.mod.kin.keeps I.bk
theorem bG.nolimit (I:bG X pins σ H s):s.heap.NoLimit:=I.ok.mod.nolimit.keeps I.bk
theorem bG.fr (I:bG X pins σ H s):∃ m,Fr X.base X.env.locals s.heap m :=
 let ⟨m,hn,_⟩:=I.loc
 ⟨m,hn,I.bk,bD I.ok.bsz I.ok.above⟩
theorem bG.lt (I:bG X pins σ H s):X.env.locals<s.heap.objs.size:=let ⟨_,hn,_⟩:=I.loc;hn.lt
theorem bG.sz (I:bG X pins σ H s):X.s₀.heap.objs.size<=s.heap.objs.size:=bD I.ok.above (b9 I.lt)
theorem bG.nofs (I:bG X pins σ H s) (h:s.heap.objs.size<=a):a∉X.fs:=fun hb=>by
 obtain ⟨_,o,ho,_⟩:=I.ok.funs.mem hb;exact absurd (aE (am ho) (bD I.sz h)) (c6 _)
theorem bG.cne (I:bG X pins σ H s):∀ x c,X.env.cells.lookup x=some c->c≠X.env.locals:=fun x c e z=>by
 obtain ⟨v,o,ho,hd⟩:=I.cell x c e;obtain ⟨m,⟨o',es,ep,ho',hd',_⟩,_⟩:=I.loc;rw [z,ho'] at ho;cases ho;rw [hd'] at hd;cases hd
theorem bG.funs (I:bG X pins σ H s):s.heap.FunFrames X.base X.outer:=by
 have all:∀ (l:List Env),(∀ b∈lJ l,b∈X.fs)->X.s₀.heap.FunFrames X.base l->s.heap.FunFrames X.base l:=by
  intro l;induction l with
  |nil=>intro _ _;trivial
  |cons env r ih =>
   intro hs hl;obtain ⟨hk,⟨L,o,hf,hn,ho,hd⟩,hr⟩:=hl;have hL:L∈X.fs:=hs L (by unfold lJ;rw [jl,hf];exact al);obtain ⟨sl,e⟩:=I.base.slot L o ho (I.ok.frf L hL) hL fun z=>I.ok.exfs L z hL;exact ⟨hk,⟨L,_,hf,hn,e,hd⟩,ih (fun b hb=>hs b (by unfold lJ;rw [jl,hf];exact ao _ hb)) hr⟩
 exact all X.outer (fun _ hb=>hb) I.ok.funs
theorem bG.stack (I:bG X pins σ H s):s.heap.FunFrames X.base X.stack:=by
 rcases I.ok.stk with e|⟨e,hf⟩
 ·rw [e];exact I.funs
 ·rw [e];obtain ⟨m,hn,_⟩:=I.loc;refine .cons (by rw [I.ok.kind];decide) hf hn ?_ I.funs;exact tf (bD I.ok.bsz I.ok.above)
theorem bG.stkSub (I:bG X pins σ H s):∀ b∈lJ X.stack,b∈X.env.locals::X.fs:=fun b hb=>by
 rcases I.ok.stk with e|⟨e,hf⟩
 ·rw [e] at hb;exact ao _ hb
 ·rw [e] at hb;unfold lJ at hb;rw [jl,hf] at hb;exact hb
theorem bG.stkFree (I:bG X pins σ H s):∀ b∈lJ X.stack,H b=none:=fun b hb=>by
 rcases List.mem_cons.mp (I.stkSub b hb) with e|hb
 ·rw [e];exact I.free
 ·obtain ⟨_,o,ho,_⟩:=I.ok.funs.mem hb;exact I.base.free b o ho (I.ok.frf b hb) fun z=>I.ok.exfs b z hb
theorem bG.step {g':Array Gf}{t':Nat}{d':LK}{ch:List ag} (I:bG X pins σ H s)
  (hch:∀ b∈ch,(b∈X.ex\/X.s₀.heap.objs.size<=b)/\b≠X.env.locals/\(∀ x c,X.env.cells.lookup x=some c->c≠b)/\∀ p∈X.pn++pins,p.1≠b)
  (keep:∀ b o,b≠X.env.locals->b∉X.fs->b∉ch->s.heap.get? b=some o->H b=none->h'.get? b=some o)
  (slot:∀ b o,b≠X.env.locals->b∈X.fs->b∉ch->s.heap.get? b=some o->H b=none->∃ sl,h'.get? b=some { o with slots:=sl }) (free:∀ b o,b∉ch->s.heap.get? b=some o->H b=none->H' b=none)
  (there:∀ b o,b∉ch->s.heap.get? b=some o->∃ o',h'.get? b=some o')
  (tups:∀ b xs,H b=some (.tup xs)->H' b=some (.tup xs)) (frzs:∀ b o u,H b=some (.frz o u)->H' b=some (.frz o u)) (tbls:∀ b ps,H b=some (.tbl ps)->∃ more,H' b=some (.tbl (ps++more)))
  (ns:∀ m,s.heap.Ns X.env.locals m->h'.Ns X.env.locals m) (hok:qF X.prog X.w H' h') (hg:qI g') :
  bG X pins σ H' { s with heap:=h',gens:=g',drawn:=d',toks:=t' }:=by
 have neL:∀ b o,X.s₀.heap.get? b=some o->b≠X.env.locals:=fun b o e=>aD (aE (am e) I.ok.above);have neC:∀ b o,X.s₀.heap.get? b=some o->b∉X.ex->b∉ch:=fun b o e hx hb=>by
  rcases (hch b hb).1 with z|z
  ·exact hx z
  ·exact absurd (aE (am e) z) (c6 _)
 have cellK:∀ x c,X.env.cells.lookup x=some c->∀ v,s.heap.IsCell c v->h'.IsCell c v:=fun x c e v h_0=>by
  obtain ⟨o,ho,hd⟩:=h_0;have nch:c∉ch:=fun z=>(hch c z).2.2.1 x c e rfl;by_cases hc:c∈X.fs
  ·obtain ⟨sl,q⟩:=slot c o (I.cne x c e) hc nch ho (I.freeC x c e);exact ⟨_,q,hd⟩
  ·exact ⟨o,keep c o (I.cne x c e) hc nch ho (I.freeC x c e),hd⟩
 refine ⟨I.ok,I.os,hg,⟨fun b o e n hb hx=>?_,fun b o e n hb hx=>?_,fun b o e n hx=>?_,fun b o e hx=>?_,fun b xs e=>tups b xs (I.base.tups b xs e),fun b o xs e=>frzs b o xs (I.base.frzs b o xs e),fun b ps e=>?_⟩,?_,fun x c e=>?_,?_,fun x c e=>?_,fun p hp=>?_,hok,I.len⟩
 ·exact keep b o (neL b o e) hb (neC b o e hx) (I.base.keep b o e n hb hx) (I.base.free b o e n hx)
 ·obtain ⟨sl,e1⟩:=I.base.slot b o e n hb hx;obtain ⟨sl',e2⟩:=slot b _ (neL b o e) hb (neC b o e hx) e1 (I.base.free b o e n hx);exact ⟨sl',e2⟩
 ·obtain ⟨o',e1⟩:=I.base.there b o e hx;exact free b o' (neC b o e hx) e1 (I.base.free b o e n hx)
 ·obtain ⟨o',e1⟩:=I.base.there b o e hx;exact there b o' (neC b o e hx) e1
 ·obtain ⟨m1,e1⟩:=I.base.tbls b ps e;obtain ⟨m2,e2⟩:=tbls b _ e1;exact ⟨m1++m2,by rw [e2,K0]⟩
 ·obtain ⟨m,hn,hl⟩:=I.loc;refine ⟨m,ns m hn,fun i x v e1 e2 e3=>?_⟩;obtain ⟨u,r,l⟩:=hl i x v e1 e2 e3;refine ⟨u,r,?_⟩;rcases l with l|⟨k,c,e,z⟩
  ·exact .inl l
  ·exact .inr ⟨k,c,e,cellK x c e _ z⟩
 ·obtain ⟨v,z⟩:=I.cell x c e;exact ⟨v,cellK x c e v z⟩
 ·obtain ⟨m,⟨o,_,_,ho,_⟩,_⟩:=I.loc;exact free _ o (fun z=>(hch _ z).2.1 rfl) ho I.free
 ·obtain ⟨v,o,ho,hd⟩:=I.cell x c e;exact free c o (fun z=>(hch c z).2.2.1 x c e rfl) ho (I.freeC x c e)
 ·obtain ⟨e,n,ne,nf,d⟩:=I.pin p hp;have nch:p.1∉ch:=fun z=>(hch p.1 z).2.2.2 p hp rfl;exact ⟨keep p.1 p.2 ne nf nch e n,free p.1 p.2 nch e n,ne,nf,d⟩
theorem bG.un {t':Nat} (I:bG X pins σ H s) (u:Un X.fs [] H H' s.heap h') (hok:qF X.prog X.w H' h'):bG X pins σ H' { s with heap:=h',toks:=t' }:=by
 obtain ⟨m,⟨o,es,ep,ho,r⟩,_⟩:=id I.loc;obtain ⟨sl,hL⟩:=u.any ho I.free (by simp);exact I.step (g':=s.gens) (d':=s.drawn) (ch:=[]) (fun _ z=>nomatch z) (fun b o _ hb _ e n=>u.keep b o e n hb (by simp)) (fun b o _ hb _ e n=>u.slot b o e n hb (by simp)) (fun b o _ e n=>u.free b o e n (by simp)) (fun b o _ e=>u.there b o e (by simp)) u.tups u.frzs u.tbls (fun m' hm=>by
  obtain ⟨o',es',ep',ho',r'⟩:=hm;rw [ho] at ho';cases ho';exact ⟨_,es',ep',hL,r'⟩) hok I.bare
theorem bG.call {g':Array Gf}{t':Nat}{d':LK}{ch:List ag} (I:bG X pins σ H s) (u:Un (lJ X.stack) ch H H' s.heap h') (hok:qF X.prog X.w H' h') (hg:qI g')
  (hch:∀ b∈ch,(b∈X.ex\/X.s₀.heap.objs.size<=b)/\b≠X.env.locals/\(∀ x c,X.env.cells.lookup x=some c->c≠b)/\∀ p∈X.pn++pins,p.1≠b) :
  bG X pins σ H' { s with heap:=h',gens:=g',drawn:=d',toks:=t' }:=by
 obtain ⟨m,⟨o,es,ep,ho,r⟩,_⟩:=id I.loc;obtain ⟨sl,hL⟩:=u.any ho I.free fun z=>(hch _ z).2.1 rfl;exact I.step (ch:=ch) hch (fun b o hL hb hc e n=>u.keep b o e n (fun z=>(List.mem_cons.mp (I.stkSub b z)).elim hL hb) hc) (fun b o _ _ hc e n=>u.any e n hc) (fun b o hc e n=>u.free b o e n hc) (fun b o hc e=>u.there b o e hc) u.tups u.frzs u.tbls (fun m' hm=>by
  obtain ⟨o',es',ep',ho',r'⟩:=hm;rw [ho] at ho';cases ho';exact ⟨_,es',ep',hL,r'⟩) hok hg
theorem bG.turned {t':Nat}{it:ag} (I:bG X pins σ H s) (k:∀ b o,b≠it->s.heap.get? b=some o->h'.get? b=some o) (hn:H it=none) (hL:it≠X.env.locals)
  (h1:it∈X.ex\/X.s₀.heap.objs.size<=it) (h2:∀ x c,X.env.cells.lookup x=some c->c≠it) (h3:∀ p∈X.pn++pins,p.1≠it):bG X pins σ H { s with heap:=h',toks:=t' }:=by
 have nit:∀ b u,H b=some u->b≠it:=fun b u e z=>by rw [z,hn] at e;cases e
 refine I.step (g':=s.gens) (d':=s.drawn) (ch:=[it]) (fun b hb=>?_) (fun b o _ _ hc e _=>k b o (fun z=>hc (by simp [z])) e) (fun b o _ _ hc e _=>⟨o.slots,k b o (fun z=>hc (by simp [z])) e⟩) (fun _ _ _ _ n=>n)
  (fun b o hc e=>⟨o,k b o (fun z=>hc (by simp [z])) e⟩) (fun _ _ e=>e) (fun _ _ _ e=>e) (fun b ps e=>⟨#[],by rw [e];simp⟩) (fun m hm=>?_) (fun b u e=>?_) I.bare
 ·have e:b=it:=by simpa using hb
  subst e;exact ⟨h1,hL,h2,h3⟩
 ·obtain ⟨o,es,ep,ho,r⟩:=hm;exact ⟨o,es,ep,k _ o (dq hL) ho,r⟩
 ·refine (I.hok b u e).stay (fun c v hc q=>k c v ?_ q) (fun _ q=>q) fun _ _ q=>q;rcases hc with z|z
  ·rw [z];exact nit b u e
  ·exact nit c _ z
theorem bG.tok (I:bG X pins σ H s) (t:Nat):bG X pins σ H { s with toks:=t }:=I.un (h':=s.heap) (t':=t) Un.refl I.hok
theorem bG.kept (I:bG X pins σ H s) (k:∀ b u,s.heap.get? b=some u->h'.get? b=some u):bG X pins σ H { s with heap:=h',toks:=t' }:=I.un (Un.kept k) (I.hok.kept k)
theorem bG.laid   (I:bG X pins σ H s) (k:∀ b u,s.heap.get? b=some u->h'.get? b=some u) (hp:s.heap.objs.size<=a) (new:de X.prog X.w (upd H a o) h' a o) :
  bG X pins σ (upd H a o) { s with heap:=h',toks:=t' }:=I.un (Un.laid k hp (I.hok.fresh hp)) (I.hok.laid k hp new)
theorem bG.write   (I:bG X pins σ H s) (mu:UE (H x)) (he:e=x\/H e=some (.own x)) (k:∀ b u,b≠e->s.heap.get? b=some u->h'.get? b=some u) (heo:∃ u,h'.get? e=some u)
  (new:de X.prog X.w (upd H x o) h' x o):bG X pins σ (upd H x o) { s with heap:=h',toks:=t' }:=I.un (Un.write mu he k heo) (I.hok.write mu he k heo new)
theorem bG.weak (I:bG X pins σ H s) (hl:σ'.length=σ.length) (w:∀ (i:Nat) v,σ'[i]?=some (some v)->σ[i]?=some (some v)):bG X pins σ' H s :=
 ⟨I.ok,I.os,I.bare,I.base,let ⟨m,hn,hl'⟩:=I.loc;⟨m,hn,fun i x v e1 e2 e3=>hl' i x v e1 (w i v e2) e3⟩,I.cell,I.free,I.freeC,I.pin,I.hok,hl.trans I.len⟩
theorem bG.pins_of (I:bG X pins σ H s) (h:∀ p∈pins',s.heap.get? p.1=some p.2/\H p.1=none/\p.1≠X.env.locals/\p.1∉X.fs/\∀ v,p.2.data≠.cell v):bG X pins' σ H s :=
 ⟨I.ok,I.os,I.bare,I.base,I.loc,I.cell,I.free,I.freeC,fun p hp=>(List.mem_append.mp hp).elim (fun z=>I.pin p (gO _ z)) (h p),I.hok,I.len⟩
theorem DX {N:List Str} (hN:N.Nodup) {i j:Nat}{x:Str} (a:N[i]?=some x) (b:N[j]?=some x):i=j:=by
 obtain ⟨h1,e1⟩:=List.getElem?_eq_some_iff.mp a;obtain ⟨h2,e2⟩:=List.getElem?_eq_some_iff.mp b;exact (List.getElem_inj hN).mp (e1.trans e2.symm)
theorem B2 {M:Gg}{A:bV}{E:ae->ah->Prop}{i:Nat}{x:Str}{v:V}{u:ae}{Q:Unit->ah->Prop} (I:bG X pins σ H s) (hN:X.N.Nodup) (hi:X.N[i]?=some x) (hx:RH X.env.scope x) (r:dn v u)
  (h:∀ s',bG X pins (σ.set i (some v)) H s'->(∃ a,bI a s.heap s'.heap/\(a=X.env.locals\/X.env.cells.lookup x=some a))->Q () s') (hf:X.fn x=true\/X.env.scope.names.lookup x=some .local:=by first|exact .inl rfl|exact .inr rfl|assumption):ak M A (storeName X.env x u) Q E s:=by
 obtain ⟨m,hn,hl⟩:=id I.loc;have hcls:(X.env.scope.kind == .class||(X.env.scope.kind == .module&&X.env.locals != X.env.globals))=false:=by rw [I.ok.kind];rfl
 have hiσ:i<σ.length:=by rw [I.len];exact (List.getElem?_eq_some_iff.mp hi).1
 have cne:=I.cne;have tracked:∀ {a:ag}{h':bw},(∃ o,s.heap.get? a=some o/\H a=none)->bI a s.heap h'->qF X.prog X.w H h':=fun {a h'} ha hs b ob e=>by
  obtain ⟨_,_,hfree⟩:=ha;refine (I.hok b ob e).stay (fun c w' hc q=>(hs.2 c ?_).trans q) (fun _ q=>q) fun _ _ q=>q;rintro rfl;rcases hc with rfl|hc
  ·rw [hfree] at e;cases e
  ·rw [hfree] at hc;cases hc
 rcases hx with hk|hk
 ·refine wpAny_storeName_local hk hn (fun h' hn' hs=>?_) hcls;obtain ⟨oL,_,_,hoL,_⟩:=id hn;refine h _ ⟨I.ok,I.os,I.bare,⟨fun b o e n hb hx=>?_,fun b o e n hb hx=>?_,I.base.free,fun b o e hx=>?_,I.base.tups,I.base.frzs,I.base.tbls⟩,⟨_,hn',fun j y v' e1 e2 e3=>?_⟩,fun y c e=>?_,I.free,I.freeC,fun p hp=>?_,tracked ⟨oL,hoL,I.free⟩ hs,by simpa using I.len⟩ ⟨_,hs,.inl rfl⟩
  ·exact (hs.2 b (aD (aE (am e) I.ok.above))).trans (I.base.keep b o e n hb hx)
  ·obtain ⟨sl,e1⟩:=I.base.slot b o e n hb hx;exact ⟨sl,(hs.2 b (aD (aE (am e) I.ok.above))).trans e1⟩
  ·obtain ⟨o',e1⟩:=I.base.there b o e hx;exact ⟨o',(hs.2 b (aD (aE (am e) I.ok.above))).trans e1⟩
  ·by_cases hj:j=i
   ·subst hj;rw [hi] at e1;cases e1;rw [aI hiσ] at e2;cases e2;exact ⟨u,r,.inl ⟨hk,by simp⟩⟩
   ·rw [aj (dq hj)] at e2;obtain ⟨u',r',q⟩:=hl j y v' e1 e2 e3;refine ⟨u',r',?_⟩;rcases q with ⟨k,e⟩|⟨k,c,e,z⟩
    ·refine .inl ⟨k,?_⟩;have:y≠x:=fun e=>hj (DX hN e1 (e ▸ hi))
     simp [this,e]
    ·exact .inr ⟨k,c,e,z.sameBut hs (cne y c e)⟩
  ·obtain ⟨w',z⟩:=I.cell y c e;exact ⟨w',z.sameBut hs (cne y c e)⟩
  ·obtain ⟨e,n,ne,nf,d⟩:=I.pin p hp;exact ⟨(hs.2 p.1 ne).trans e,n,ne,nf,d⟩
 ·have hfn:X.fn x=true:=by
   rcases hf with z|z
   ·exact z
   ·rw [z] at hk;cases hk
  obtain ⟨c,hc⟩:=I.ok.has x (.inl hk);obtain ⟨w',z⟩:=I.cell x c hc;refine wpAny_storeName_cell I.ok.kind hk hc z (fun h' hc' hs=>?_);obtain ⟨oc,hoc,hocd⟩:=id z;refine h { s with heap:=h' } ⟨I.ok,I.os,I.bare,⟨fun b o e n hb hx=>?_,fun b o e n hb hx=>?_,I.base.free,fun b o e hx=>?_,I.base.tups,I.base.frzs,I.base.tbls⟩,⟨m,hn.sameBut hs (dq (cne x c hc)),fun j y v' e1 e2 e3=>?_⟩,fun y c' e=>?_,I.free,I.freeC,fun p hp=>?_,tracked ⟨oc,hoc,I.freeC x c hc⟩ hs,by simpa using I.len⟩ ⟨c,hs,.inr hc⟩
  ·exact (hs.2 b (aD (aE (am e) (I.ok.cab x c hfn hc)))).trans (I.base.keep b o e n hb hx)
  ·obtain ⟨sl,e1⟩:=I.base.slot b o e n hb hx;exact ⟨sl,(hs.2 b (aD (aE (am e) (I.ok.cab x c hfn hc)))).trans e1⟩
  ·obtain ⟨o',e1⟩:=I.base.there b o e hx;exact ⟨o',(hs.2 b (aD (aE (am e) (I.ok.cab x c hfn hc)))).trans e1⟩
  ·by_cases hj:j=i
   ·subst hj;rw [hi] at e1;cases e1;rw [aI hiσ] at e2;cases e2;exact ⟨u,r,.inr ⟨.inl hk,c,hc,hc'⟩⟩
   ·rw [aj (dq hj)] at e2;obtain ⟨u',r',q⟩:=hl j y v' e1 e2 e3;refine ⟨u',r',?_⟩;rcases q with q|⟨k,c',e,z'⟩
    ·exact .inl q
    ·refine .inr ⟨k,c',e,z'.sameBut hs ?_⟩;rintro rfl;exact hj (DX hN e1 (I.ok.inj _ _ _ e hc ▸ hi))
  ·by_cases hcc:c'=c
   ·subst hcc;exact ⟨_,hc'⟩
   ·obtain ⟨w2,z2⟩:=I.cell y c' e;exact ⟨w2,z2.sameBut hs hcc⟩
  ·obtain ⟨e,n,ne,nf,d⟩:=I.pin p hp;refine ⟨(hs.2 p.1 ?_).trans e,n,ne,nf,d⟩;intro q;rw [q,hoc] at e;have q':oc=p.2:=bx e;exact d w' (by rw [<- q'];exact hocd)
theorem qV        (I:bG X pins σ H s) (hN:X.N.Nodup) (hi:X.N[i]?=some x) (hx:RH X.env.scope x) (r:dn v u)
  (h:∀ s',bG X pins (σ.set i (some v)) H s'->Q () s') (hf:X.fn x=true\/X.env.scope.names.lookup x=some .local:=by first|exact .inl rfl|exact .inr rfl|assumption):ak M A (storeName X.env x u) Q E s :=
 B2 I hN hi hx r (fun s' I' _=>h s' I') hf
theorem bG.call'  (I:bG X pins σ H s) (ho:s'.os=s.os) (u:Un (lJ X.stack) ch H H' s.heap s'.heap) (hok:qF X.prog X.w H' s'.heap) (hg:qI s'.gens)
  (hch:∀ b∈ch,(b∈X.ex\/X.s₀.heap.objs.size<=b)/\b≠X.env.locals/\(∀ x c,X.env.cells.lookup x=some c->c≠b)/\∀ p∈X.pn++pins,p.1≠b):bG X pins σ H' s':=by
 obtain ⟨h',g',d',t',o'⟩:=s';have e:o'=s.os:=ho;subst e;exact I.call (g':=g') (t':=t') (d':=d') u hok hg hch
end
abbrev XK:=ae->Option ag->Hp->Prop
abbrev St:=List (Option V)
abbrev VK:=V->Hp->Prop
abbrev TE:=St->Hp->VK->Prop
abbrev TT:=St->Hp->(Bool->Hp->Prop)->Prop
abbrev TA:=St->Hp->(List V->Hp->Prop)->Prop
structure Ca where
 nx:St->Hp->Prop
 rt:VK
 bk:St->Hp->Prop:=fun _ _=>False
 ct:St->Hp->Prop:=fun _ _=>False
abbrev TS:=Ca->St->Hp->Prop
inductive EP (X:Cx) (pins:List (ag×Obj)) (σ:St) (Q:VK) (u:ae) (s':ah):Prop
 |mk (v H':_) (h0:bG X pins σ H' s') (h1:dn v u) (h2:Q v H'):EP X pins σ Q u s'
inductive TP (X:Cx) (pins:List (ag×Obj)) (σ:St) (Q:Bool->Hp->Prop) (b:Bool) (s':ah):Prop
 |mk (H':_) (h0:bG X pins σ H' s') (h1:Q b H'):TP X pins σ Q b s'
inductive AP (X:Cx) (pins:List (ag×Obj)) (σ:St) (Q:List V->Hp->Prop) (us:List ae) (s':ah):Prop
 |mk (vs H':_) (h0:bG X pins σ H' s') (h1:cV vs us) (h2:Q vs H'):AP X pins σ Q us s'
inductive SN (X:Cx) (pins:List (ag×Obj)) (k:St->Hp->Prop) (s':ah):Prop
 |mk (σ':St) (H':Hp) (I:bG X pins σ' H' s') (q:k σ' H'):SN X pins k s'
inductive SV (X:Cx) (pins:List (ag×Obj)) (k:V->Hp->Prop) (u:ae) (s':ah):Prop
 |mk (v:V) (σ':St) (H':Hp) (I:bG X pins σ' H' s') (r:dn v u) (q:k v H'):SV X pins k u s'
def SP (X:Cx) (pins:List (ag×Obj)) (D:Ca) (f:Flow) (s':ah):Prop :=
 match f with
 |.next=>SN X pins D.nx s'
 |.brk=>SN X pins D.bk s'
 |.cont=>SN X pins D.ct s'
 |.ret u=>SV X pins D.rt u s'
def PE (X:Cx) (e:bR) (t:TE):Prop :=
 ∀ (pins:List (ag×Obj)) (s:ah) (σ:St) (H:Hp) (Q:VK),bG X pins σ H s->t σ H Q->ak (aB X.prog X.w) X.A (cL e X.env) (EP X pins σ Q) X.xe s
def PT (X:Cx) (e:bR) (t:TT):Prop :=
 ∀ (pins:List (ag×Obj)) (s:ah) (σ:St) (H:Hp) (Q:Bool->Hp->Prop),bG X pins σ H s->t σ H Q->ak (aB X.prog X.w) X.A (C0 e X.env (cL e X.env)) (TP X pins σ Q) X.xe s
def PW (X:Cx) (e:bR) (t:TT):Prop :=
 ∀ (whole:Sem ae) (pins:List (ag×Obj)) (s:ah) (σ:St) (H:Hp) (Q:Bool->Hp->Prop),bG X pins σ H s->t σ H Q->ak (aB X.prog X.w) X.A (C0 e X.env whole) (TP X pins σ Q) X.xe s
theorem PW.pt   (h:PW X e t):PT X e t:=h _
def PA (X:Cx) (es:List bR) (t:TA):Prop :=
 ∀ (pos:Pos) (pins:List (ag×Obj)) (s:ah) (σ:St) (H:Hp) (Q:List V->Hp->Prop),bG X pins σ H s->t σ H Q->ak (aB X.prog X.w) X.A (spliced (gm pos (aA es X.env))) (AP X pins σ Q) X.xe s
def PS (X:Cx) (st:cY) (t:TS):Prop :=
 ∀ (pins:List (ag×Obj)) (s:ah) (σ:St) (H:Hp) (D:Ca),bG X pins σ H s->t D σ H->ak (aB X.prog X.w) X.A (exec st X.env) (SP X pins D) X.xe s
def Cb (X:Cx) (st:List cY) (t:TS):Prop :=
 ∀ (pins:List (ag×Obj)) (s:ah) (σ:St) (H:Hp) (D:Ca),bG X pins σ H s->t D σ H->ak (aB X.prog X.w) X.A (execs st X.env) (SP X pins D) X.xe s
theorem fY {α:Type}{t:Sem α}{Q Q':α->ah->Prop}{M:Gg}{A:bV}{E:ae->ah->Prop}{s:ah} (h:ak M A t Q E s) (hQ:∀ a s,Q a s->Q' a s):ak M A t Q' E s:=aZ h hQ fun _ _ x=>x
end L2
namespace L2
open PySem PySem.Spec PyProof.Rows
section
variable {X:Cx}
inductive RI (i:Nat) (σ:St) (H:Hp) (Q:VK):Prop
 |mk (v:_) (h0:σ[i]?=some (some v)) (h1:Q v H):RI i σ H Q
def Cc (i:Nat):TE:=RI i
def tC (v:V):TE:=fun _ H Q=>Q v H
theorem mr   (hN:X.N[i]?=some x) (hv:Pm X.env.scope x) (hd:(x==("__debug__" : Str))=false:=by decide) (hcd:(x==("__classdict__" : Str))=false:=by decide):PE X (.Name x pos) (Cc i):=by
 intro pins s σ H Q I h;obtain ⟨v,e,h⟩:=h;obtain ⟨m,hn,hl⟩:=I.loc;obtain ⟨u,r,l⟩:=hl i x v hN e hv;have fin:EP X pins σ Q u s:=⟨v,H,I,r,h⟩;rcases l with ⟨hk,hm⟩|⟨hk,c,hc,hcell⟩
 ·exact pq (jr I.ok.kind hk hn hm fin) hd
 ·rcases hk with hk|hk
  ·exact pq (wpAny_loadName_cell I.ok.kind hk hc hcell fin) hd
  ·exact pq (wpAny_loadName_free I.ok.kind hk hc hcell fin hcd) hd
theorem yt {i j pos}:PE X (.Constant (.int i) j pos) (tC (.int i)):=fun _ _ _ H _ I h=>wpAny_Constant_int ⟨.int i,H,I.tok _,⟨_,rfl⟩,h⟩
theorem Mh {b j pos}:PE X (.Constant (.bool b) j pos) (tC (.bl b)):=fun _ _ _ H _ I h=>Constant_bool ⟨.bl b,H,I,rfl,h⟩
theorem T5 {j pos}:PE X (.Constant .none j pos) (tC .non):=fun _ _ _ H _ I h=>Constant_none ⟨.non,H,I,rfl,h⟩
theorem GF {x j pos}:PE X (.Constant (.str x) j pos) (tC (.str x)):=fun _ _ _ H _ I h=>Calls.Constant_str ⟨.str x,H,I.tok _,⟨_,rfl⟩,h⟩
def Gl (X:Cx) (x:Str):Prop:=X.env.kindOf x=some .globalImplicit
theorem si         (I:bG X pins σ H s) (hg:Gl X x) (hm:X.mg x=some u) (h:Q u s)
  (hd:(x==("__debug__" : Str))=false:=by decide):ak (aB X.prog X.w) X.A (cL (.Name x pos) X.env) Q E s :=
 mW I.ok.kind hg (DJ (by rw [I.ok.glob];exact I.mod.glob.keeps I.bk) hm h) hd
theorem tY         (I:bG X pins σ H s) (hg:Gl X x) (hm:X.mg x=none) (hv:iG x=some u) (h:Q u s)
  (hn:x≠"__name__":=by decide) (hd:(x==("__debug__" : Str))=false:=by decide):ak (aB X.prog X.w) X.A (cL (.Name x pos) X.env) Q E s:=by
 obtain ⟨mb,h1,h2⟩:=I.mod.blt;exact mW I.ok.kind hg (Calls.loadGlobal_builtin (by rw [I.ok.glob];exact I.mod.glob.keeps I.bk) hm (by rw [I.ok.blt];exact h1.keeps I.bk) ((h2 x hn).trans hv) h) hd
theorem IC    (hg:Gl X x) (hm:X.mg x=some u) (r:dn v u) (hd:(x==("__debug__" : Str))=false:=by decide):PE X (.Name x pos) (tC v) :=
 fun _ _ _ H _ I h=>si I hg hm ⟨v,H,I,r,h⟩ hd
theorem ID    (hg:Gl X x) (hm:X.mg x=none) (hv:iG x=some u) (r:dn v u) (hn:x≠"__name__":=by decide) (hd:(x==("__debug__" : Str))=false:=by decide):PE X (.Name x pos) (tC v) :=
 fun _ _ _ H _ I h=>tY I hg hm hv ⟨v,H,I,r,h⟩ hn hd
variable {a b:bR}{ta tb:TE}{pos:Pos}
def PC (X:Cx) (op:CmpOp) (a b:bR) (t:TE):Prop :=
 ∀ (pins:List (ag×Obj)) (s:ah) (σ:St) (H:Hp) (Q:VK),bG X pins σ H s->t σ H Q ->
  ak (aB X.prog X.w) X.A (cL a X.env) (fun v s₁=>ak (aB X.prog X.w) X.A (cL b X.env) (fun u s₂=>ak (aB X.prog X.w) X.A (bO op v u) (EP X pins σ Q) X.xe s₂) X.xe s₁) X.xe s
theorem Mi (b:bR) (h:op≠.In) (h2:op≠.NotIn):gY op b=false:=by
 have e1:(op==CmpOp.In)=false:=by cases op<;>first|rfl|exact absurd rfl h
 have e2:(op==CmpOp.NotIn)=false:=by cases op<;>first|rfl|exact absurd rfl h2
 cases b<;>simp [gY,e1,e2]
def tB (t:TE):TT:=fun σ H Q=>t σ H fun x H1=>∃ c,x=.bl c/\Q c H1
theorem WM  (h:PC X op a b t) (h1:gY op b=false:=by first|exact Mi _ (by decide) (by decide)|rfl):PT X (.Compare a [op] [b] pos) (tB t):=by
 intro pins s σ H Q I hw;refine Pf (fY (h pins s σ H _ I hw) fun v s1 h1=>fY h1 fun u s2 h2=>fY h2 fun c s3 ⟨x,H1,I1,r1,q1⟩=>?_) h1;obtain ⟨d,rfl,q⟩:=q1;cases r1;exact eE ⟨H1,I1,q⟩
theorem Mj  (h:PE X e t) (he:∀ whole,C0 e X.env whole=(do let v <- whole;G3 e.pos;holding [v] (truthy v)):=by intro _;rfl):PT X e (tB t):=by
 intro pins s σ H Q I hw;refine isTrue_plain (fY (h pins s σ H _ I hw) fun v s1 ⟨x,H1,I1,r1,q1⟩=>?_) (he _);obtain ⟨d,rfl,q⟩:=q1;cases r1;exact eE ⟨H1,I1,q⟩
variable {tA tB':TT}{bK:List bR}
def WN (t u:TT):TT:=fun σ H Q=>t σ H fun c H1=>if c=true then u σ H1 Q else Q false H1
def Ys (t u:TT):TT:=fun σ H Q=>t σ H fun c H1=>if c=true then Q true H1 else u σ H1 Q
def WO (t:TT):TT:=fun σ H Q=>t σ H fun c H1=>Q (!c) H1
theorem PY (ha:PT X a tA):PW X (.BoolOp .And [a] pos) tA:=by
 intro wh pins s σ H Q I h;refine isTrue_and (fY (ha pins s σ H Q I h) fun c s1 e=>?_);cases c with
 |true=>exact isTrue_and_nil e
 |false=>exact e
theorem Mk (ha:PT X a tA):PW X (.BoolOp .Or [a] pos) tA:=by
 intro wh pins s σ H Q I h;refine isTrue_or (fY (ha pins s σ H Q I h) fun c s1 e=>?_);cases c with
 |false=>exact isTrue_or_nil e
 |true=>exact e
theorem T6 (ha:PT X a tA) (hb:PW X (.BoolOp .And (b::bK) pos) tB'):PW X (.BoolOp .And (a::b::bK) pos) (WN tA tB'):=by
 intro wh pins s σ H Q I h;refine isTrue_and (fY (ha pins s σ H _ I h) fun c s1 ⟨H1,I1,q1⟩=>?_);cases c with
 |true=>exact hb wh pins s1 σ H1 Q I1 q1
 |false=>exact ⟨H1,I1,q1⟩
theorem RJ (ha:PT X a tA) (hb:PW X (.BoolOp .Or (b::bK) pos) tB'):PW X (.BoolOp .Or (a::b::bK) pos) (Ys tA tB'):=by
 intro wh pins s σ H Q I h;refine isTrue_or (fY (ha pins s σ H _ I h) fun c s1 ⟨H1,I1,q1⟩=>?_);cases c with
 |true=>exact ⟨H1,I1,q1⟩
 |false=>exact hb wh pins s1 σ H1 Q I1 q1
theorem Ml (ha:PT X a tA):PT X (.UnaryOp .Not a pos) (WO tA):=by
 intro pins s σ H Q I h;exact isTrue_not (fY (ha pins s σ H (fun c H1=>Q (!c) H1) I h) fun _ _ x=>by obtain ⟨a,b,c⟩:=x;exact ⟨a,b,c⟩)
def UF (ta tb:TE):TE:=fun σ H Q=>ta σ H fun x H1=>∃ c,x=.bl c/\if c=true then tb σ H1 Q else Q (.bl false) H1
def UG (ta:TE):TE:=fun σ H Q=>ta σ H fun x H1=>∃ c,x=.bl c/\Q (.bl (!c)) H1
theorem T7 {op} (h:PE X a t):PE X (.BoolOp op [a] pos) t:=fun pins s σ H Q I hw=>BoolOp_one (h pins s σ H Q I hw)
theorem T8 (ha:PE X a ta) (hb:PE X (.BoolOp .And (b::bK) pos) tb):PE X (.BoolOp .And (a::b::bK) pos) (UF ta tb):=by
 intro pins s σ H Q I h;refine BoolOp_and (fY (ha pins s σ H _ I h) fun v s1 ⟨x,H1,I1,r1,q1⟩=>?_);obtain ⟨c,rfl,q1⟩:=q1;cases r1;refine eE ?_;cases c with
 |true=>exact hb pins s1 σ H1 Q I1 q1
 |false=>exact ⟨.bl false,H1,I1,rfl,q1⟩
theorem T9 (ha:PE X a ta):PE X (.UnaryOp .Not a pos) (UG ta):=by
 intro pins s σ H Q I h;refine UnaryOp_ (fY (ha pins s σ H _ I h) fun v s1 ⟨x,H1,I1,r1,q1⟩=>?_);obtain ⟨c,rfl,q1⟩:=q1;cases r1;exact not_of (eE ⟨.bl (!c),H1,I1,rfl,q1⟩)
end
end L2
namespace L2
open PySem PySem.Spec PyProof.Rows
inductive XX (K:a7) (a:ag) (xs:List V):Prop
 |mk (o:Obj) (its:Array ae) (n:Nat) (h0:K.lookup a=some o) (h1:o.cls=.type "list") (h2:o.dict=none) (h3:o.data=.seq its n) (h4:its.size<=sizeLine) (h5:cV xs its.toList):XX K a xs
def mV (K:a7) (H:Hp) (a:ag) (xs:List V):Prop :=
 Rd H a (.lst xs)\/XX K a xs
inductive XY (K:a7) (a:ag) (xs:List V):Prop
 |mk (o:Obj) (its:Array ae) (n:Nat) (h0:K.lookup a=some o) (h1:o.cls=.type "tuple") (h3:o.data=.seq its n) (h4:its.size<=sizeLine) (h5:cV xs its.toList):XY K a xs
def lz (K:a7) (H:Hp) (a:ag) (xs:List V):Prop :=
 Rd H a (.tup xs)\/XY K a xs
def WP:ae->Option V
 |.none=>some .non
 |.bool b=>some (.bl b)
 |.int i _=>some (.int i)
 |.str x _=>some (.str x)
 |.bytes b _=>some (.byt b)
 |.float b _=>some (.flt b)
 |.ref a=>some (.ref a)
 |.type n=>some (.ty n)
 |_=>none
theorem dn.abs  (r:dn x u):WP u=some x:=by
 cases x with
 |non=>cases r;rfl
 |bl _=>cases r;rfl
 |int _=>obtain ⟨t,rfl⟩:=r;rfl
 |str _=>obtain ⟨t,rfl⟩:=r;rfl
 |byt _=>obtain ⟨t,rfl⟩:=r;rfl
 |flt _=>obtain ⟨t,rfl⟩:=r;rfl
 |ref _=>cases r;rfl
 |ty _=>cases r;rfl
theorem dn.inj  (r:dn x u) (q:dn y u):x=y:=bx (r.abs.symm.trans q.abs)
theorem cV.inj  (h:cV xs us):∀ {ys:List V},cV ys us->xs=ys:=by
 induction h with
 |nil=>intro ys k;cases k;rfl
 |cons r t ih=>intro ys k;cases k with|cons r' t'=>rw [r.inj r',ih t']
section
theorem mV.of {K:a7} (h:H a=some (.lst xs)):mV K H a xs:=.inl (.inl h)
theorem lz.of {K:a7} (h:H a=some (.tup xs)):lz K H a xs:=.inl (.inl h)
inductive XZ (h:bw) (a:ag) (xs:List V):Prop
 |mk (its:List ae) (r:cV xs its) (p:PlainL h a its.toArray) (z:xs.length<=sizeLine):XZ h a xs
inductive X_ (h:bw) (a:ag) (xs:List V):Prop
 |mk (its:List ae) (r:cV xs its) (p:DI h a its.toArray) (z:xs.length<=sizeLine):X_ h a xs
inductive Y0 (h:bw) (l:ag) (xs:List V):Prop
 |mk (z:xs.length<=sizeLine) (its:List ae) (n:Nat) (r:cV xs its) (hl:xs.length=its.length) (e:h.get? l=some { cls:=.type "list",data:=.seq its.toArray n }):Y0 h l xs
theorem bG.list (I:bG X pins σ H s) (h:mV X.K H a xs):XZ s.heap a xs:=by
 rcases h with h|⟨o,its,n,hk,hc,hd,hs,hz,r⟩
 ·obtain ⟨z,its,n,r,e⟩:=h.ok I.hok;exact ⟨its,r,⟨_,n,e,rfl,rfl,rfl⟩,z⟩
 ·refine ⟨its.toList,r,⟨o,n,I.kIn a o hk,hc,hd,by simpa using hs⟩,?_⟩;have e:=r.length;simp only [aq] at e;omega
theorem bG.tuple (I:bG X pins σ H s) (h:lz X.K H a xs):X_ s.heap a xs:=by
 rcases h with h|⟨o,its,n,hk,hc,hs,hz,r⟩
 ·obtain ⟨z,its,r,p⟩:=h.ok I.hok;exact ⟨its,r,p,z⟩
 ·refine ⟨its.toList,r,⟨o,I.kIn a o hk,hc,n,by simpa using hs⟩,?_⟩;have e:=r.length;simp only [aq] at e;omega
theorem bG.list_inj (I:bG X pins σ H s) (h:mV X.K H a xs) (h':mV X.K H a ys):xs=ys:=by
 obtain ⟨its,r,⟨o,n,e,_,_,d⟩,_⟩:=I.list h;obtain ⟨its',r',⟨o',n',e',_,_,d'⟩,_⟩:=I.list h';rw [e] at e';cases e';rw [d] at d';injection d' with d1 _;have:its=its':=by simpa using congrArg Array.toList d1
 subst this;exact r.inj r'
theorem bG.tuple_inj (I:bG X pins σ H s) (h:lz X.K H a xs) (h':lz X.K H a ys):xs=ys:=by
 obtain ⟨its,r,⟨o,e,_,n,d⟩,_⟩:=I.tuple h;obtain ⟨its',r',⟨o',e',_,n',d'⟩,_⟩:=I.tuple h';rw [e] at e';cases e';rw [d] at d';injection d' with d1 _;have:its=its':=by simpa using congrArg Array.toList d1
 subst this;exact r.inj r'
end
abbrev Cx.wish (X:Cx) (E:ae->ah->Prop):Cx:={ X with xe:=E }
abbrev Cx.nox (X:Cx):Cx:=X.wish fun _ _=>False
theorem Cx.Ok.wish {X:Cx} (ok:X.Ok) (E:ae->ah->Prop):(X.wish E).Ok :=
 ⟨ok.mod,ok.kind,ok.glob,ok.blt,ok.above,ok.inj,ok.has,ok.cab,ok.hd,ok.frames,ok.stk,ok.exf,ok.bs,ok.bsz,ok.noex,ok.exfs,ok.funs,ok.frf⟩
theorem Cx.Ok.unwish {X:Cx}{E:ae->ah->Prop} (ok:(X.wish E).Ok):X.Ok :=
 ⟨ok.mod,ok.kind,ok.glob,ok.blt,ok.above,ok.inj,ok.has,ok.cab,ok.hd,ok.frames,ok.stk,ok.exf,ok.bs,ok.bsz,ok.noex,ok.exfs,ok.funs,ok.frf⟩
section
theorem bG.wish (I:bG X pins σ H s) (E:ae->ah->Prop):bG (X.wish E) pins σ H s:=⟨I.ok.wish E,I.os,I.bare,I.base,I.loc,I.cell,I.free,I.freeC,I.pin,I.hok,I.len⟩
theorem bG.unwish (I:bG (X.wish E) pins σ H s):bG X pins σ H s:=⟨I.ok.unwish,I.os,I.bare,I.base,I.loc,I.cell,I.free,I.freeC,I.pin,I.hok,I.len⟩
theorem SP.unwish   (h:SP (X.wish E) pins D f s'):SP X pins D f s':=by
 cases f with
 |next=>obtain ⟨σ',H',I,q⟩:=h;exact ⟨σ',H',I.unwish,q⟩
 |brk=>obtain ⟨σ',H',I,q⟩:=h;exact ⟨σ',H',I.unwish,q⟩
 |cont=>obtain ⟨σ',H',I,q⟩:=h;exact ⟨σ',H',I.unwish,q⟩
 |ret u=>obtain ⟨v,σ',H',I,r,q⟩:=h;exact ⟨v,σ',H',I.unwish,r,q⟩
end
section
variable {X:Cx}{st:cY}{bK:List cY}{t u:TS}{e:bR}{te:TE}{pos:Pos}
def UH:TS:=fun D σ H=>D.nx σ H
def WQ (t u:TS):TS:=fun D σ H=>t { D with nx:=u D } σ H
theorem IE:Cb X [] UH:=fun _ _ σ H _ I h=>kq ⟨σ,H,I,h⟩
theorem jT (h1:PS X st t) (h2:Cb X bK u):Cb X (st::bK) (WQ t u):=by
 intro pins s σ H D I h;refine sS (fY (h1 pins s σ H { D with nx:=u D } I h) fun f s1 q=>?_);cases f with
 |next =>
  obtain ⟨σ',H',I',q⟩:=q;exact h2 pins s1 σ' H' D I' q
 |ret v=>exact q
 |brk=>exact q
 |cont=>exact q
theorem xP (h1:PS X st t):Cb X [st] t:=by
 intro pins s σ H D I h;refine sS (fY (h1 pins s σ H D I h) fun f s1 q=>?_);cases f with
 |next=>exact kq q
 |ret v=>exact q
 |brk=>exact q
 |cont=>exact q
theorem bG.quiet    (I:bG X pins σ H s):interactive X.env=false:=by simp [interactive,I.ok.kind]
def UI (te:TE):TS:=fun D σ H=>te σ H fun _ H1=>D.nx σ H1
theorem sj (he:PE X e te) (hs:iq e none pos.line X.env=pure false:=by rfl):PS X (.Expr e pos) (UI te):=by
 intro pins s σ H D I h;exact wpAny_Expr_any (fY (he pins s σ H _ I h) fun v s1 h_7=>by obtain ⟨x,H1,I1,r1,q1⟩:=h_7;exact ⟨σ,H1,I1,q1⟩) I.quiet hs
def PZ (te:TE):TS:=fun D σ H=>te σ H D.rt
theorem Cd (he:PE X e te):PS X (.Return (some e) pos) (PZ te):=by
 intro pins s σ H D I h;exact wpAny_Return_some (fY (he pins s σ H _ I h) fun v s1 h_8=>by obtain ⟨x,H1,I1,r1,q1⟩:=h_8;exact ⟨x,σ,H1,I1,r1,q1⟩)
def WR (c:TT) (t u:TS):TS:=fun D σ H=>c σ H fun b H1=>if b=true then t D σ H1 else u D σ H1
theorem RK   (hc:PT X c tc) (ha:Cb X a t) (hb:Cb X b u):PS X (.If c a b pos) (WR tc t u):=by
 intro pins s σ H D I h;refine wpAny_If (fY (hc pins s σ H _ I h) fun d s1 ⟨H1,I1,q1⟩=>?_);cases d with
 |true=>exact ha pins s1 σ H1 D I1 q1
 |false=>exact hb pins s1 σ H1 D I1 q1
def Ta:TS:=fun _ _ _=>False
theorem oF:Cb X sts Ta:=fun _ _ _ _ _ _ h=>h.elim
end
abbrev TG:=V->St->Hp->(St->Hp->Prop)->Prop
abbrev P_:=List V->St->Hp->(St->Hp->Prop)->Prop
def PG (X:Cx) (target:bR) (t:TG):Prop :=
 ∀ (pins:List (ag×Obj)) (s:ah) (σ:St) (H:Hp) (v:V) (u:ae) (Q:St->Hp->Prop),bG X pins σ H s->dn v u->t v σ H Q ->
  ak (aB X.prog X.w) X.A (qP target X.env u) (fun _ s'=>SN X pins Q s') X.xe s
def RL (X:Cx) (ts:List bR) (t:P_):Prop :=
 ∀ (pins:List (ag×Obj)) (s:ah) (σ:St) (H:Hp) (vs:List V) (us:List ae) (Q:St->Hp->Prop),bG X pins σ H s->cV vs us->t vs σ H Q ->
  ak (aB X.prog X.w) X.A (K1 ((iH ts X.env).map (·.2)) us) (fun _ s'=>SN X pins Q s') X.xe s
section
def wT (i:Nat):TG:=fun v σ H Q=>Q (σ.set i (some v)) H
theorem cH  (hN:X.N.Nodup) (hi:X.N[i]?=some x) (hx:RH X.env.scope x) (hf:X.fn x=true\/X.env.scope.names.lookup x=some .local:=by first|exact .inl rfl|exact .inr rfl|assumption):PG X (.Name x pos) (wT i):=by
 intro pins s σ H v u Q I r h;exact wpAny_assign_Name (qV I hN hi hx r (fun s' I'=>⟨_,H,I',h⟩) hf)
def aC:P_:=fun vs σ H Q=>vs=[]/\Q σ H
inductive Mm (t:TG) (u:P_) (vs:List V) (σ:St) (H:Hp) (Q:St->Hp->Prop):Prop
 |mk (v r:_) (h0:vs=v::r) (h1:t v σ H fun σ' H'=>u r σ' H' Q):Mm t u vs σ H Q
def a9 (t:TG) (u:P_):P_:=Mm t u
theorem Ce:RL X [] aC:=by
 intro pins s σ H vs us Q I r h;obtain ⟨e,h⟩:=h;subst e;cases r;exact assignInOrder_nil ⟨σ,H,I,h⟩
theorem qW    (h1:PG X e t) (h2:RL X es u)
  (hs:(iH (e::es) X.env).map (·.2)=qP e X.env::(iH es X.env).map (·.2):=by rfl):RL X (e::es) (a9 t u):=by
 intro pins s σ H vs us Q I r h;obtain ⟨v,vr,e1,h⟩:=h;subst e1;cases r with
 |cons r rr =>
  rw [hs];refine yc (fY (h1 pins s σ H _ _ _ I r h) fun _ s1 ⟨σ1,H1,I1,q1⟩=>?_);exact h2 pins s1 σ1 H1 _ _ Q I1 rr q1
inductive RM (K:a7) (n:Nat) (t:P_) (v:V) (σ:St) (H:Hp) (Q:St->Hp->Prop):Prop
 |mk (a xs:_) (h0:v=.ref a) (h1:lz K H a xs) (h2:xs.length=n) (h3:t xs σ H Q):RM K n t v σ H Q
def Tb (K:a7) (n:Nat) (t:P_):TG:=RM K n t
theorem GG    (hc:X.calm=true) (h:RL X es t)
  (hn:(iH es X.env).length=n:=by rfl) (hst:(iH es X.env).findIdx? (·.1)=none:=by rfl):PG X (.Tuple es k pos) (Tb X.K n t):=by
 intro pins s σ H v u Q I r hw;obtain ⟨a,xs,e1,hq,hl,hw⟩:=hw;subst e1;cases r;obtain ⟨its,rv,ht,hz⟩:=I.tuple hq;refine assign_Tuple_tuple (I.ok.hd hc) ht (by simp [hn,<- hl,rv.length]) hst fun h' hx=>?_;have I1:bG X pins σ H { s with heap:=h' }:=I.kept (t':=s.toks) fun b o e=>hx b o (aD (am e)) e;exact h pins _ σ H xs _ Q I1 (by simpa using rv) hw
def UJ (te:TE) (g:TG):TS:=fun D σ H=>te σ H fun x H1=>g x σ H1 D.nx
theorem Mn   (he:PE X e te) (hg:PG X tg g) (hs:xL [tg] e pos.line X.env=pure false:=by rfl) (hw:xM [tg] e X.env=pure none:=by rfl)
  (h1:(iH [tg] X.env).map (·.2)=[qP tg X.env]:=by rfl):PS X (.Assign [tg] e pos) (UJ te g):=by
 intro pins s σ H D I h;refine wpAny_Assign_stores (fY (he pins s σ H _ I h) fun v s1 ⟨x,H1,I1,r1,q1⟩=>?_) hs hw;rw [h1];exact fY (hg pins s1 σ H1 x v _ I1 r1 q1) fun _ s2 q=>q
theorem Cf     (hN:X.N.Nodup) (hi:X.N[i]?=some x) (hx:RH X.env.scope x) (he:PE X e te) (hs:iq e (some (.Name x pos')) pos.line X.env=pure false:=by rfl) (hf:X.fn x=true\/X.env.scope.names.lookup x=some .local:=by first|exact .inl rfl|exact .inr rfl|assumption) :
  PS X (.Assign [.Name x pos'] e pos) (UJ te (wT i)):=by
 intro pins s σ H D I h;refine wpAny_Assign_Name (fY (he pins s σ H _ I h) fun v s1 ⟨y,H1,I1,r1,q1⟩=>?_) hs;exact qV I1 hN hi hx r1 (fun s2 I2=>⟨_,H1,I2,q1⟩) hf
def WS (i j:Nat) (ta:TA):TS:=fun D σ H=>ta σ H fun vs H1=>∃ v w,vs=[v,w]/\D.nx ((σ.set i (some v)).set j (some w)) H1
theorem Tc     {kt k2 pt2} (hc:X.calm=true) (hN:X.N.Nodup) (hi:X.N[i]?=some x) (hj:X.N[j]?=some y) (hij:i≠j)
  (hx:X.env.scope.names.lookup x=some .local) (hy:X.env.scope.names.lookup y=some .local) (ha:PA X [a,b] ta)
  (hw:xM [.Tuple [.Name x px,.Name y py] kt pt] (.Tuple [a,b] k2 pt2) X.env=pure (some [x,y]))
  (hs:xL [.Tuple [.Name x px,.Name y py] kt pt] (.Tuple [a,b] k2 pt2) pos.line X.env=pure false:=by rfl) :
  PS X (.Assign [.Tuple [.Name x px,.Name y py] kt pt] (.Tuple [a,b] k2 pt2) pos) (WS i j ta):=by
 intro pins s σ H D I h;rw [exec_Assign_arm];refine a6 (du ?_);rw [hs];refine a6 (aa ?_);rw [if_neg (by decide)];refine a6 (Tuple_ (fY (ha _ pins s σ H _ I h) fun us s1 ⟨vs,H1,I1,r1,q1⟩=>?_));obtain ⟨v,w,e1,q1⟩:=q1;subst e1;obtain ⟨u1,u2,rfl,rv,rw'⟩:∃ u1 u2,us=[u1,u2]/\dn v u1/\dn w u2:=by
  cases r1 with
  |cons p q =>
   cases q with
   |cons p' q' =>
    cases q';exact ⟨_,_,rfl,p,p'⟩
 refine bL ?_ (by show 2<=sizeLine;decide);have I2:bG X pins σ H1 { s1 with heap:=s1.heap.push { cls:=.type "tuple",data:=.seq [u1,u2].toArray } }:=I1.kept (t':=s1.toks) fun b o e=>ac _ e;rw [hw];refine a6 (aa ?_);show ak (aB X.prog X.w) X.A (do rule "assign.swapped-stores";let items <- unpackItems (.ref s1.heap.objs.size) 2 none;K1 [fun v=>Gh X.env y v,fun v=>Gh X.env x v] items.reverse;pure Flow.next) _ _ _;refine a6 (gI (a6 (unpackItems_tuple (items:=#[u1,u2]) (I.ok.hd hc) (tj s1.heap _) fun h' hx'=>?_)));have I3:=I2.kept (h':=h') (t':=s1.toks) fun b o e=>hx' b o (aD (am e)) e;show ak _ _ (K1 [fun v=>Gh X.env y v,fun v=>Gh X.env x v] [u2,u1] >>= fun _=>pure Flow.next) _ _ _;refine a6 (yc (wpAny_bindName (qV I3 hN hj (.inl hy) rw' (fun s2 I4=>?_) (.inr hy))));refine yc (wpAny_bindName (qV I4 hN hi (.inl hx) rv (fun s3 I5=>assignInOrder_nil (aa ?_)) (.inr hx)));rw [List.set_comm _ _ (dq hij)] at I5;exact ⟨_,H1,I5,q1⟩
end
section
end
structure It where
 go:Nat->Hp->Prop
 yld:Nat->Hp->V->Hp->Prop
 stop:Nat->Hp->Prop
structure qX (X:Cx) (pins:List (ag×Obj)) (H:Hp) (b:ag):Prop where
 f0:H b=none
 f1:b≠X.env.locals
 f2:b∉X.fs
 f3:b∈X.ex\/X.s₀.heap.objs.size<=b
 f4:∀ x c,X.env.cells.lookup x=some c->c≠b
 f5:∀ p∈X.pn++pins,p.1≠b
theorem bG.fpOk      (I:bG X pins σ H s) (hb:s.heap.objs.size<=b) (hn:H' b=none):qX X pins H' b:=by
 refine ⟨hn,eh (aE I.lt hb),I.nofs hb,.inr (bD I.sz hb),fun x c e z=>?_,fun p hp z=>?_⟩
 ·obtain ⟨v,q⟩:=I.cell x c e;exact absurd (aE q.lt (by rw [z];exact hb)) (c6 _)
 ·exact absurd (aE (am (I.pin p hp).1) (by rw [z];exact hb)) (c6 _)
structure Aq (P:bf) (w:bE) (K:a7) (tg:bR) (J:It) (fp:List ag) (it:ag) (tn:Nat->bw->Prop):Prop where
 mem:it∈fp
 obj:∀ i h,tn i h->∀ b∈fp,∃ o,h.get? b=some o/\∀ v,o.data≠.cell v
 keep:∀ i h h',tn i h->(∀ b∈fp,∀ o,h.get? b=some o->h'.get? b=some o)->tn i h'
 item:∀ (X:Cx),X.prog=P->X.w=w->X.K=K->X.calm=true->∀ (i:Nat) (pins:List (ag×Obj)) (s:ah) (σ:St) (H:Hp) (E:ae->ah->Prop),bG X pins σ H s->(∀ b∈fp,qX X pins H b)->tn i s.heap->J.go i H ->
  ak (aB P w) X.A (nL (.ref it)) (fun r s1=>∃ u,r=some u /\
   ak (aB P w) X.A (gV tg (.ref it) u) (fun _ s2=>∃ x H',bG X pins σ H' s2/\dn x u/\J.yld i H x H'/\tn (i+1) s2.heap/\∀ b∈fp,H' b=none) E s1) E s
 done:∀ (X:Cx),X.prog=P->X.w=w->X.K=K->X.calm=true->∀ (i:Nat) (pins:List (ag×Obj)) (s:ah) (σ:St) (H:Hp) (E:ae->ah->Prop),bG X pins σ H s->(∀ b∈fp,qX X pins H b)->tn i s.heap->J.stop i H ->
  ak (aB P w) X.A (nL (.ref it)) (fun r s1=>r=none/\bG X pins σ H s1) E s
 self:∀ (A:bV) (i:Nat) (s:ah) (Q:ae->ah->Prop) (E:ae->ah->Prop),tn i s.heap->Q (.ref it) s->ak (aB P w) A (C1 (.ref it)) Q E s
abbrev TI:=St->Hp->(It->Hp->Prop)->Prop
inductive WT (X:Cx) (pins:List (ag×Obj)) (σ:St) (tg:bR) (R:It->Hp->Prop) (itv:ae) (s2:ah):Prop
 |mk (it:ag) (fp:List ag) (tn:Nat->bw->Prop) (J:It) (H':Hp) (h0:itv=.ref it) (I:bG X pins σ H' s2) (T:Aq X.prog X.w X.K tg J fp it tn) (t0:tn 0 s2.heap) (f:∀ b∈fp,qX X pins H' b) (q:R J H'):WT X pins σ tg R itv s2
inductive WU (X:Cx) (pins:List (ag×Obj)) (tn:Nat->bw->Prop) (fp:List ag) (W:Nat->Nat->St->Hp->Prop) (n:Nat) (s':ah):Prop
 |mk (i:Nat) (σ':St) (H':Hp) (I:bG X pins σ' H' s') (t:tn i s'.heap) (f:∀ b∈fp,H' b=none) (q:W i n σ' H'):WU X pins tn fp W n s'
def PI (X:Cx) (tg iter:bR) (wi:TI):Prop :=
 ∀ (pins:List (ag×Obj)) (s:ah) (σ:St) (H:Hp) (R:It->Hp->Prop),bG X pins σ H s->wi σ H R ->
  ak (aB X.prog X.w) X.A (cL iter X.env) (fun v s1=>ak (aB X.prog X.w) X.A (C1 v) (WT X pins σ tg R) X.xe s1) X.xe s
theorem Mo           (ho : s.heap.get? it = some o) (hc : o.cls = .type n) (hd : o.data = .fields vs)
    (hn : ["enumerate", "zip", "dict_itemiterator", "dict_reverseitemiterator", "odict_iterator", "itertools.zip_longest", "itertools.pairwise"].contains n = false) (hQ : Q () s) : ak M A (gV tg (.ref it) u) Q E s := by
  unfold gV;cases tg <;> first
    | exact aa hQ
    | (cases u <;> first
        | exact aa hQ
        | (refine a6 (wpAny_load ho ?_)
           rw [hc, hd];show ak M A (if (["enumerate", "zip", "dict_itemiterator", "dict_reverseitemiterator", "odict_iterator", "itertools.zip_longest", "itertools.pairwise"].contains n && vs[0]? == some (cr _)) = true then _ else _) Q E s;rw [if_neg (by intro h; rw [hn, AU] at h; cases h)];exact aa hQ))
def WV (K:a7) (a:ag):It :=
 ⟨fun i H=>∃ xs x,mV K H a xs/\xs[i]?=some x,fun i H x H'=>H'=H/\∀ xs,mV K H a xs->xs[i]?=some x,fun i H=>∃ xs,mV K H a xs/\xs.length<=i⟩
def WW (K:a7) (a:ag):It :=
 ⟨fun i H=>∃ xs x,lz K H a xs/\xs[i]?=some x,fun i H x H'=>H'=H/\∀ xs,lz K H a xs->xs[i]?=some x,fun i H=>∃ xs,lz K H a xs/\xs.length<=i⟩
def Wt (lo:Int) (n:Nat):It:=⟨fun i _=>i<n,fun i H x H'=>H'=H/\x=.int (lo+i),fun i _=>n<=i⟩
theorem Kk {P:bf}{w:bE}{K:a7}{tg:bR} (a it:ag):Aq P w K tg (WV K a) [it] it (fun i h=>h.IsListIter it a i) where
 mem:=by simp
 obj:=fun i h st b hb=>by
  have e:b=it:=by simpa using hb
  subst e;obtain ⟨o,e,c,d⟩:=st;exact ⟨o,e,fun v z=>by rw [d] at z;cases z⟩
 keep:=fun i h h' st k=>st.at fun o e=>k it (by simp) o e
 item:=by
  intro X hP hw hK hc i pins s σ H E I hf st hg;subst hP hw hK;obtain ⟨xs,x,hq,hx⟩:=hg;obtain ⟨its,rv,p,hz⟩:=I.list hq;obtain ⟨u,hu,ru⟩:=rv.get hx;obtain ⟨f0,f1,f2,f3,f4,f5⟩:=hf it (by simp);refine wpAny_pyNext_list_item st p.isList (x:=u) (by simpa using hu) fun h' st' sb=>?_;have I1:bG X pins σ H { s with heap:=h' }:=I.turned (t':=s.toks) (fun b o hb e=>(sb.2 b hb).trans e) f0 f1 f3 f4 f5;obtain ⟨o,e,c,d⟩:=id st';exact ⟨u,rfl,Mo (s:={ s with heap:=h' }) e c d (by decide) ⟨x,H,I1,ru,⟨rfl,fun ys hy=>by rw [I.list_inj hy hq];exact hx⟩,st',fun b hb=>(hf b hb).1⟩⟩
 done:=by
  intro X hP hw hK hc i pins s σ H E I hf st hg;subst hP hw hK;obtain ⟨xs,hq,hx⟩:=hg;obtain ⟨its,rv,p,hz⟩:=I.list hq;obtain ⟨f0,f1,f2,f3,f4,f5⟩:=hf it (by simp);have hl:=rv.length;exact wpAny_pyNext_list_end (I.ok.hd hc) st p.isList (by simp;omega) fun h' eb=>⟨rfl,I.turned (t':=s.toks) (fun b o hb e=>eb b o hb e) f0 f1 f3 f4 f5⟩
 self:=fun _ _ _ _ _ st h=>wpAny_pyIter_listiter st h
theorem GH {P:bf}{w:bE}{K:a7}{tg:bR} (a it:ag):Aq P w K tg (WW K a) [it] it (fun i h=>h.IsTupleIter it a i) where
 mem:=by simp
 obj:=fun i h st b hb=>by
  have e:b=it:=by simpa using hb
  subst e;obtain ⟨o,e,c,d⟩:=st;exact ⟨o,e,fun v z=>by rw [d] at z;cases z⟩
 keep:=fun i h h' st k=>st.at fun o e=>k it (by simp) o e
 item:=by
  intro X hP hw hK hc i pins s σ H E I hf st hg;subst hP hw hK;obtain ⟨xs,x,hq,hx⟩:=hg;obtain ⟨its,rv,p,hz⟩:=I.tuple hq;obtain ⟨u,hu,ru⟩:=rv.get hx;obtain ⟨f0,f1,f2,f3,f4,f5⟩:=hf it (by simp);refine wpAny_pyNext_tuple_item st (show s.heap.IsTuple a its.toArray from p) (x:=u) (by simpa using hu) fun h' st' sb=>?_;have I1:bG X pins σ H { s with heap:=h' }:=I.turned (t':=s.toks) (fun b o hb e=>(sb.2 b hb).trans e) f0 f1 f3 f4 f5;obtain ⟨o,e,c,d⟩:=id st';exact ⟨u,rfl,Mo (s:={ s with heap:=h' }) e c d (by decide) ⟨x,H,I1,ru,⟨rfl,fun ys hy=>by rw [I.tuple_inj hy hq];exact hx⟩,st',fun b hb=>(hf b hb).1⟩⟩
 done:=by
  intro X hP hw hK hc i pins s σ H E I hf st hg;subst hP hw hK;obtain ⟨xs,hq,hx⟩:=hg;obtain ⟨its,rv,p,hz⟩:=I.tuple hq;obtain ⟨f0,f1,f2,f3,f4,f5⟩:=hf it (by simp);have hl:=rv.length;exact wpAny_pyNext_tuple_end (I.ok.hd hc) st (show s.heap.IsTuple a its.toArray from p) (by simp;omega) fun h' eb=>⟨rfl,I.turned (t':=s.toks) (fun b o hb e=>eb b o hb e) f0 f1 f3 f4 f5⟩
 self:=fun _ _ _ _ _ st h=>wpAny_pyIter_tupleiter st h
theorem GI {P:bf}{w:bE}{K:a7}{tg:bR} (it:ag) (lo:Int) (n:Nat):Aq P w K tg (Wt lo n) [it] it (fun i h=>IsRangeIter h it (lo+(i:Nat)*1) ((n:Int)-(i:Nat)) 1) where
 mem:=by simp
 obj:=fun i h st b hb=>by
  have e:b=it:=by simpa using hb
  subst e;exact ⟨_,st,fun v z=>by
   have z':Data.fields _=Data.cell v:=z;cases z'⟩
 keep:=fun i h h' st k=>k it (by simp) _ st
 item:=by
  intro X hP hw hK hc i pins s σ H E I hf st hg;subst hP hw hK;obtain ⟨f0,f1,f2,f3,f4,f5⟩:=hf it (by simp);have W:=Walks.range (prog:=X.prog) (w:=X.w) (I.ok.hd hc) it lo 1 n;refine W.item i s _ _ hg st fun v h' tk hv st' kk=>?_;obtain ⟨t,rfl⟩:=hv;have I1:bG X pins σ H { s with heap:=h',toks:=tk }:=I.turned (fun b o hb e=>kk b o (by simpa using hb) e) f0 f1 f3 f4 f5;refine ⟨_,rfl,Mo (s:={ s with heap:=h',toks:=tk }) (n:="range_iterator") st' rfl rfl (by decide) ⟨.int (lo+i),H,I1,⟨t,?_⟩,⟨rfl,rfl⟩,st',fun b hb=>(hf b hb).1⟩⟩;rw [Int.mul_one]
 done:=by
  intro X hP hw hK hc i pins s σ H E I hf st hg;subst hP hw hK;obtain ⟨f0,f1,f2,f3,f4,f5⟩:=hf it (by simp);exact wpAny_pyNext_range_end (I.ok.hd hc) st (by have:n<=i:=hg;omega) fun h' eb=>⟨rfl,I.turned (t':=s.toks) (fun b o hb e=>eb b o hb e) f0 f1 f3 f4 f5⟩
 self:=fun _ _ _ _ _ st h=>wpAny_pyIter_rangeiter st h
end L2
namespace L2
open PySem PySem.Spec PyProof.Rows
section
def UK (K:a7) (tl:TE):TI:=fun σ H R=>tl σ H fun x H1=>∃ a,x=.ref a/\(∃ xs,mV K H1 a xs)/\R (WV K a) H1
def WX (K:a7) (tl:TE):TI:=fun σ H R=>tl σ H fun x H1=>∃ a,x=.ref a/\(∃ xs,lz K H1 a xs)/\R (WW K a) H1
theorem uV {l:bR}{tl:TE} (hl:PE X l tl):PI X tg l (UK X.K tl):=by
 intro pins s σ H R I h;refine fY (hl pins s σ H _ I h) fun v s1 h_16=>?_;obtain ⟨x,H1,I1,r1,q1⟩:=h_16;obtain ⟨a,e,⟨xs,hq⟩,q⟩:=q1;subst e;cases r1;obtain ⟨its,rv,p,hz⟩:=I1.list hq;refine lB p.isList ?_;refine ⟨s1.heap.objs.size,[s1.heap.objs.size],_,_,H1,rfl,I1.kept (t':=s1.toks) fun b o e=>ac _ e,Kk a _,⟨_,aF _ rfl,rfl,rfl⟩,fun b hb=>?_,q⟩;have e:b=s1.heap.objs.size:=by simpa using hb
 subst e;exact I1.fpOk (ar _) (I1.hok.fresh (ar _))
theorem Mp {l:bR}{tl:TE} (hl:PE X l tl):PI X tg l (WX X.K tl):=by
 intro pins s σ H R I h;refine fY (hl pins s σ H _ I h) fun v s1 h_17=>?_;obtain ⟨x,H1,I1,r1,q1⟩:=h_17;obtain ⟨a,e,⟨xs,hq⟩,q⟩:=q1;subst e;cases r1;obtain ⟨its,rv,p,hz⟩:=I1.tuple hq;refine gJ (show s1.heap.IsTuple a its.toArray from p) ?_;refine ⟨s1.heap.objs.size,[s1.heap.objs.size],_,_,H1,rfl,I1.kept (t':=s1.toks) fun b o e=>ac _ e,GH a _,⟨_,aF _ rfl,rfl,rfl⟩,fun b hb=>?_,q⟩;have e:b=s1.heap.objs.size:=by simpa using hb
 subst e;exact I1.fpOk (ar _) (I1.hok.fresh (ar _))
theorem Mq {pins:List (ag×Obj)}{σ:St}{H:Hp}{s:ah}{R:It->Hp->Prop}{E:ae->ah->Prop}{lo hi:Int}{t u v:Tok}{tk:Nat} (I:bG X pins σ H s) (h1:-(2 ^ 62)<=lo) (h2:lo<2 ^ 62) (h3:-(2 ^ 62)<=hi) (h4:hi<2 ^ 62)
  (q:R (Wt lo (hi-lo).toNat) H):ak (aB X.prog X.w) X.A (C1 (.ref s.heap.objs.size)) (WT X pins σ tg R) E { s with heap:=s.heap.push { cls:=.type "range",data:=.fields #[.int lo t,.int hi u,.int 1 v] },toks:=tk }:=by
 refine wpAny_pyIter_range (IsRange.new ..) (small_one h1 h2 h3 h4) ?_;have I1:bG X pins σ H { s with heap:=s.heap.push { cls:=.type "range",data:=.fields #[.int lo t,.int hi u,.int 1 v] },toks:=tk }:=I.kept fun b o e=>ac _ e;refine ⟨(s.heap.push { cls:=.type "range",data:=.fields #[.int lo t,.int hi u,.int 1 v] }).objs.size,[(s.heap.push { cls:=.type "range",data:=.fields #[.int lo t,.int hi u,.int 1 v] }).objs.size],_,_,H,rfl,
  I1.kept (t':=tk) fun b o e=>ac _ e,GI _ lo (hi-lo).toNat,?_,fun b hb=>?_,q⟩
 ·have e1:lo+((0:Nat):Int)*1=lo:=by simp
  have e2:(((hi-lo).toNat:Nat):Int)-((0:Nat):Int)=Builtin.Range.rangeSize lo hi 1:=by rw [rangeSize_one];split<;>omega
  show IsRangeIter _ _ (lo+((0:Nat):Int)*1) ((((hi-lo).toNat:Nat):Int)-((0:Nat):Int)) 1;rw [e1,e2];exact aF _ rfl
 ·have e:b=(s.heap.push { cls:=.type "range",data:=.fields #[.int lo t,.int hi u,.int 1 v] }).objs.size:=by simpa using hb
  subst e;exact I1.fpOk (ar _) (I1.hok.fresh (ar _))
def UL (ta:TA):TI:=fun σ H R=>ta σ H fun vs H1=>∃ j:Int,vs=[.int j]/\-(2 ^ 62)<=j/\j<2 ^ 62/\R (Wt 0 j.toNat) H1
theorem Kl {a:bR}{ta:TA}{p pos:Pos} (hg:Gl X "range") (hm:X.mg "range"=none) (ha:PA X [a] ta) (hs:aA [a] X.env=[(false,cL a X.env)]:=by rfl):PI X tg (.Call (.Name "range" p) [a] [] pos) (UL ta):=by
 intro pins s σ H R I h;refine Call_ (tY I hg hm boot_range (e_ (fY (ha pos pins s σ H _ I h) fun us s1 ⟨vs,H1,I1,r1,q1⟩=>?_) hs rfl));obtain ⟨j,e,q1,q2,q⟩:=q1;subst e;cases r1 with
 |cons r rr =>
  cases rr;obtain ⟨t,rfl⟩:=r;exact call_range_1 (Mq I1 (by omega) (by omega) q1 q2 (by simpa using q))
inductive WY (g:TG) (tb:TS) (D:Ca) (σ:St) (J:It) (H1:Hp):Prop
 |mk (W:Nat->Nat->St->Hp->Prop) (w0:∃ m,W 0 m σ H1) (turn:∀ i m σ H,W i m σ H ->
 (J.stop i H/\D.nx σ H)\/(J.go i H/\∃ N:St->Hp->Prop,(∀ σ' H',N σ' H'->∃ m',m'<m/\W (i+1) m' σ' H')/\∀ x H',J.yld i H x H'->g x σ H' fun σ2 H2=>tb { D with nx:=N,ct:=N,bk:=D.nx } σ2 H2)):WY g tb D σ J H1
def WZ (wi:TI) (g:TG) (tb:TS):TS:=fun D σ H=>wi σ H (WY g tb D σ)
def w9 (fp:List ag) (h:bw):List (ag×Obj):=fp.filterMap fun b=>(h.get? b).map fun o=>(b,o)
theorem kK    (hb:b∈fp) (e:h.get? b=some o):(b,o)∈w9 fp h:=List.mem_filterMap.mpr ⟨b,hb,by rw [e];rfl⟩
theorem Km   (hp:p∈w9 fp h):p.1∈fp/\h.get? p.1=some p.2:=by
 obtain ⟨b,hb,e⟩:=List.mem_filterMap.mp hp;cases q:h.get? b with
 |none=>rw [q] at e;cases e
 |some o =>
  rw [q] at e;have e':(b,o)=p:=bx e;subst e';exact ⟨hb,q⟩
theorem bG.pinned     (I:bG X pins σ H s) (hf:∀ b∈fp,qX X pins H b) (ho:∀ b∈fp,∃ o,s.heap.get? b=some o/\∀ v,o.data≠.cell v):bG X (pins++w9 fp s.heap) σ H s :=
 I.pins_of fun p hp=>(List.mem_append.mp hp).elim (fun z=>I.pin p (aY _ z)) fun z=>by
  obtain ⟨hb,e⟩:=Km z;obtain ⟨f0,f1,f2,_⟩:=hf p.1 hb;obtain ⟨o,e',d⟩:=ho p.1 hb;rw [e] at e';cases e';exact ⟨e,f0,f1,f2,d⟩
theorem bG.unpinned    (I:bG X (pins++pl) σ H s):bG X pins σ H s:=I.pins_of fun p hp=>I.pin p (aY _ (gO _ hp))
theorem Mr      (hp:PassesOwn (aB X.prog X.w) X.A X.env X.xe) (hc:X.calm=true) (hi:PI X tg iter wi) (hg:PG X tg g) (hb:Cb X body tb)
  (hs:∀ x,eF iter X.env x=pure x:=by intro _;rfl):PS X (.For tg iter body [] pos) (WZ wi g tb):=by
 intro pins s σ H D I h
 refine wpAny_For (fY (hi pins s σ H _ I h) fun v s1 h1=>fY h1 fun itv s2 h2=>?_) hs
 obtain ⟨it,fp,tn,J,H2,e,I2,T,st2,f2,W,⟨m0,w0⟩,turn⟩:=h2
 subst e
 have stat:∀ {H':Hp},(∀ b∈fp,H' b=none)->∀ b∈fp,qX X pins H' b:=fun hn b hb=>⟨hn b hb,(f2 b hb).f1,(f2 b hb).f2,(f2 b hb).f3,(f2 b hb).f4,(f2 b hb).f5⟩
 refine codeAny_forLoop_any (WU X pins tn fp W) ?_ m0 ⟨0,σ,H2,I2,st2,fun b hb=>(f2 b hb).1,w0⟩
 rintro n s3 ⟨i,σ3,H3,I3,st3,fr3,w3⟩
 rcases turn i n σ3 H3 w3 with ⟨stop,qn⟩|⟨go,N,hN,step⟩
 ·refine nM hp (fY (T.done X rfl rfl rfl hc i pins s3 σ3 H3 X.xe I3 (stat fr3) st3 stop) fun r s4 ⟨hr,I4⟩=>?_)
  subst hr
  exact kq ⟨σ3,H3,I4,qn⟩
 ·refine nM hp (fY (T.item X rfl rfl rfl hc i pins s3 σ3 H3 X.xe I3 (stat fr3) st3 go) fun r s4 ⟨u,hr,h4⟩=>?_)
  subst hr
  refine nM hp (fY h4 fun _ s5 ⟨x,H5,I5,r5,y5,st5,fr5⟩=>?_)
  have I5':=I5.pinned (stat fr5) (T.obj _ _ st5)
  refine nM hp (fY (hg _ s5 σ3 H5 x u _ I5' r5 (step x H5 y5)) fun _ s6 ⟨σ6,H6,I6,q6⟩=>?_)
  refine nM hp (fY (hb _ s6 σ6 H6 _ I6 q6) fun f s7 q7=>?_)
  have again:∀ {σ7:St}{H7:Hp},bG X (pins++w9 fp s5.heap) σ7 H7 s7->N σ7 H7->∃ m,m<n/\WU X pins tn fp W m s7:=fun {σ7 H7} I7 n7=>by
   obtain ⟨m',hm,w7⟩:=hN σ7 H7 n7
   refine ⟨m',hm,i+1,σ7,H7,I7.unpinned,T.keep _ _ _ st5 fun b hb o e=>(I7.pin (b,o) (aY _ (aY _ (kK hb e)))).1,fun b hb=>?_,w7⟩
   obtain ⟨o,e,d⟩:=T.obj _ _ st5 b hb
   exact (I7.pin (b,o) (aY _ (aY _ (kK hb e)))).2.1
  cases f with
  |next=>obtain ⟨σ7,H7,I7,n7⟩:=q7;exact again I7 n7
  |cont=>obtain ⟨σ7,H7,I7,n7⟩:=q7;exact again I7 n7
  |brk=>obtain ⟨σ7,H7,I7,q7⟩:=q7;exact ⟨σ7,H7,I7.unpinned,q7⟩
  |ret v=>obtain ⟨x7,σ7,H7,I7,r7,q7⟩:=q7;exact ⟨x7,σ7,H7,I7.unpinned,r7,q7⟩
end
end L2
namespace L2
open PySem PySem.Spec PyProof.Rows
abbrev R2:=V->V->Hp->VK->Prop
def oG (X:Cx) (f:ae->ae->Sem ae) (r:R2):Prop :=
 ∀ (pins:List (ag×Obj)) (s:ah) (σ:St) (H:Hp) (x y:V) (v u:ae) (Q:VK),bG X pins σ H s->dn x v->dn y u->r x y H Q ->
  ak (aB X.prog X.w) X.A (f v u) (EP X pins σ Q) X.xe s
def W_ (X:Cx) (f:ae->Sem ae) (r:V->Hp->VK->Prop):Prop :=
 ∀ (pins:List (ag×Obj)) (s:ah) (σ:St) (H:Hp) (x:V) (v:ae) (Q:VK),bG X pins σ H s->dn x v->r x H Q ->
  ak (aB X.prog X.w) X.A (f v) (EP X pins σ Q) X.xe s
def ja (X:Cx) (f:ae) (r:List V->Hp->VK->Prop):Prop :=
 ∀ (pins:List (ag×Obj)) (s:ah) (σ:St) (H:Hp) (xs:List V) (us:List ae) (Q:VK),bG X pins σ H s->cV xs us->r xs H Q ->
  ak (aB X.prog X.w) X.A (call f us) (EP X pins σ Q) X.xe s
def UM (r:R2) (ta tb:TE):TE:=fun σ H Q=>ta σ H fun x H1=>tb σ H1 fun y H2=>r x y H2 Q
def Yt (r:V->Hp->VK->Prop) (ta:TE):TE:=fun σ H Q=>ta σ H fun x H1=>r x H1 Q
inductive Y1 (C:Int->Int->Prop) (g:Int->Int->V) (x:V) (y:V) (H:Hp) (Q:VK):Prop
 |mk (i j:_) (h0:x=.int i) (h1:y=.int j) (h2:C i j) (h3:Q (g i j) H):Y1 C g x y H Q
def rI (C:Int->Int->Prop) (g:Int->Int->V):R2:=Y1 C g
inductive UN (g:Int->Int->V) (x:V) (y:V) (H:Hp) (Q:VK):Prop
 |mk (i j:_) (h0:x=.int i) (h1:y=.int j) (h2:Q (g i j) H):UN g x y H Q
def Q0 (g:Int->Int->V):R2:=UN g
inductive Y2 (g:Int->V) (x:V) (H:Hp) (Q:VK):Prop
 |mk (i:_) (h0:x=.int i) (h1:Q (g i) H):Y2 g x H Q
def rU (g:Int->V):V->Hp->VK->Prop:=Y2 g
section
theorem Td (ha:PE X a ta) (hb:PE X b tb) {pins:List (ag×Obj)}{s:ah}{σ:St}{H:Hp}{R:V->V->Hp->Prop} (I:bG X pins σ H s)
  (h:ta σ H fun x H1=>tb σ H1 fun y H2=>R x y H2) {Q:ae->ah->Prop}{f:ae->ae->Sem ae}
  (hf:∀ v u s2 x y H2,bG X pins σ H2 s2->dn x v->dn y u->R x y H2->ak (aB X.prog X.w) X.A (f v u) Q X.xe s2) :
  ak (aB X.prog X.w) X.A (cL a X.env) (fun v s₁=>ak (aB X.prog X.w) X.A (cL b X.env) (fun u s₂=>ak (aB X.prog X.w) X.A (f v u) Q X.xe s₂) X.xe s₁) X.xe s:=by
 refine fY (ha pins s σ H _ I h) fun v s1 h_19=>?_;obtain ⟨x,H1,I1,r1,q1⟩:=h_19;refine fY (hb pins s1 σ H1 _ I1 q1) fun u s2 h_20=>?_;obtain ⟨y,H2,I2,r2,q2⟩:=h_20;exact hf v u s2 x y H2 I2 r1 r2 q2
theorem IG {op:Operator}{r:R2} (ho:oG X (eW op) r) (ha:PE X a ta) (hb:PE X b tb):PE X (.BinOp a op b pos) (UM r ta tb):=by
 intro pins s σ H Q I h;exact wpAny_BinOp (Td ha hb I h fun v u s2 x y H2 I2 rx ry q=>ho pins s2 σ H2 x y v u Q I2 rx ry q)
theorem RN  (ho:W_ X (unaryOp op) r) (ha:PE X a ta):PE X (.UnaryOp op a pos) (Yt r ta):=by
 intro pins s σ H Q I h;exact UnaryOp_ (fY (ha pins s σ H _ I h) fun v s1 h_21=>by obtain ⟨x,H1,I1,r1,q1⟩:=h_21;exact ho pins s1 σ H1 x v Q I1 r1 q1)
theorem X2 {f:ae->ae->Sem ae}{C:Int->Int->Prop}{g:Int->Int->Int}
  (rule:∀ (i j:Int) (t u:Tok) (s:ah) (Q:ae->ah->Prop) (E:ae->ah->Prop),C i j->Q (.int (g i j) s.toks) { s with toks:=s.toks+1 }->ak (aB X.prog X.w) X.A (f (.int i t) (.int j u)) Q E s) :
  oG X f (rI C fun i j=>.int (g i j)):=by
 intro pins s σ H x y v u Q I rx ry h;obtain ⟨i,j,rfl,rfl,hc,q⟩:=h;obtain ⟨t,rfl⟩:=rx;obtain ⟨t',rfl⟩:=ry;exact rule i j t t' s _ _ hc ⟨.int (g i j),H,I.tok _,⟨_,rfl⟩,q⟩
theorem UO {f:ae->ae->Sem ae}{g:Int->Int->Int}
  (rule:∀ (i j:Int) (t u:Tok) (s:ah) (Q:ae->ah->Prop) (E:ae->ah->Prop),Q (.int (g i j) s.toks) { s with toks:=s.toks+1 }->ak (aB X.prog X.w) X.A (f (.int i t) (.int j u)) Q E s) :
  oG X f (Q0 fun i j=>.int (g i j)):=by
 intro pins s σ H x y v u Q I rx ry h;obtain ⟨i,j,rfl,rfl,q⟩:=h;obtain ⟨t,rfl⟩:=rx;obtain ⟨t',rfl⟩:=ry;exact rule i j t t' s _ _ ⟨.int (g i j),H,I.tok _,⟨_,rfl⟩,q⟩
theorem Te {f:ae->ae->Sem ae}{g:Int->Int->Bool}
  (rule:∀ (i j:Int) (t u:Tok) (s:ah) (Q:ae->ah->Prop) (E:ae->ah->Prop),Q (.bool (g i j)) s->ak (aB X.prog X.w) X.A (f (.int i t) (.int j u)) Q E s) :
  oG X f (Q0 fun i j=>.bl (g i j)):=by
 intro pins s σ H x y v u Q I rx ry h;obtain ⟨i,j,rfl,rfl,q⟩:=h;obtain ⟨t,rfl⟩:=rx;obtain ⟨t',rfl⟩:=ry;exact rule i j t t' s _ _ ⟨.bl (g i j),H,I,rfl,q⟩
def X3 (i j:Int):Prop:=0<j/\j<1073741824
def Tf (i j:Int):Prop:=(-(2 ^ 64)<i/\i<2 ^ 64)\/(-(2 ^ 64)<j/\j<2 ^ 64)
theorem Tf.ok (h:Tf i j):IntMulOk i j:=by
 rcases h with ⟨h1,h2⟩|⟨h1,h2⟩
 ·exact .of_left (intBits_le_64 h1 h2)
 ·exact .of_right (intBits_le_64 h1 h2)
theorem Tg:oG X (eW .Add) (Q0 fun i j=>.int (i+j)):=UO fun _ _ _ _ _ _ _ q=>add_int q
theorem Th:oG X (eW .Sub) (Q0 fun i j=>.int (i-j)):=UO fun _ _ _ _ _ _ _ q=>sub_int q
theorem Ti:oG X (eW .Mult) (rI Tf fun i j=>.int (i*j)):=X2 fun _ _ _ _ _ _ _ hc q=>mul_int q hc.ok
theorem Q1:oG X (eW .FloorDiv) (rI X3 fun i j=>.int (i / j)):=X2 fun i j _ _ _ _ _ hc q=>by
 have h1:(0:Int)<j:=hc.1;have h2:j<1073741824:=hc.2;exact floordiv_int (by omega) (by rw [Int.fdiv_eq_ediv_of_nonneg i (by omega)];exact q) (.inl (PyProof.noPylong_small (by omega)))
theorem Tj:oG X (eW .Mod) (rI (fun _ j=>0<j) fun i j=>.int (i % j)):=X2 fun i j _ _ _ _ _ hc q=>by
 have h1:(0:Int)<j:=hc;exact mod_int' (by omega) (by rw [Int.fmod_eq_emod_of_nonneg i (by omega)];exact q)
theorem Yu {f:ae->Sem ae}{g:Int->Int}
  (rule:∀ (i:Int) (t:Tok) (s:ah) (Q:ae->ah->Prop) (E:ae->ah->Prop),Q (.int (g i) s.toks) { s with toks:=s.toks+1 }->ak (aB X.prog X.w) X.A (f (.int i t)) Q E s) :
  W_ X f (rU fun i=>.int (g i)):=by
 intro pins s σ H x v Q I rx h;obtain ⟨i,rfl,q⟩:=h;obtain ⟨t,rfl⟩:=rx;exact rule i t s _ _ ⟨.int (g i),H,I.tok _,⟨_,rfl⟩,q⟩
theorem Ms:W_ X (unaryOp .USub) (rU fun i=>.int (-i)):=Yu fun _ _ _ _ _ q=>neg_int q
end
def X4:V->V->Bool
 |.non,.non=>true | .non,.int _=>true | .int _,.non=>true | .non,.bl _=>true | .bl _,.non=>true | .non,.str _=>true | .str _,.non=>true
 |.int _,.int _=>true | .bl _,.bl _=>true | .str _,.str _=>true | .byt _,.byt _=>true
 |.int _,.str _=>true | .str _,.int _=>true | .bl _,.str _=>true | .str _,.bl _=>true
 |_,_=>false
def Yv:R2:=fun x y H Q=>X4 x y=true/\Q (.bl (!decide (x=y))) H
theorem Q2:decide (V.int i=V.int j)=(i==j):=by
 rw [iw];simp
theorem Tk:decide (V.bl i=V.bl j)=(i==j):=by
 rw [iw];simp
theorem Q3:decide (V.str i=V.str j)=(i==j):=by
 rw [iw];simp
theorem Q4:decide (V.byt i=V.byt j)=(i.toList==j.toList):=by
 rw [iw];cases i;cases j;simp
section
theorem g_      (I:bG X pins σ H s) (q:Q (.bl k) H) (e:k=k'):EP X pins σ Q (.bool k') s:=by
 subst e;exact ⟨.bl k,H,I,rfl,q⟩
theorem UP:oG X (bO .NotEq) Yv:=by
 intro pins s σ H x y v u Q I rx ry h;obtain ⟨hs,q⟩:=h;cases x with
 |non =>
  cases rx;cases y with
  |non=>cases ry;exact PySem.EqNone.ne_none_none (g_ I q (by simp))
  |bl j=>cases ry;exact PySem.EqNone.ne_none_bool (g_ I q (by simp))
  |int j=>obtain ⟨t',rfl⟩:=ry;exact PySem.EqNone.ne_none_int (g_ I q (by simp))
  |str j=>obtain ⟨t',rfl⟩:=ry;exact PySem.EqNone.ne_none_str (g_ I q (by simp))
  |_=>exact absurd (show false=true from hs) aL
 |bl i =>
  cases rx;cases y with
  |non=>cases ry;exact PySem.EqNone.ne_bool_none (g_ I q (by simp))
  |bl j=>cases ry;exact ne_bool (g_ I q (congrArg not Tk))
  |str j=>obtain ⟨t',rfl⟩:=ry;exact PySem.EqMixed.ne_bool_str (g_ I q (by simp))
  |_=>exact absurd (show false=true from hs) aL
 |int i =>
  obtain ⟨t,rfl⟩:=rx;cases y with
  |non=>cases ry;exact PySem.EqNone.ne_int_none (g_ I q (by simp))
  |int j=>obtain ⟨t',rfl⟩:=ry;exact ne_int (g_ I q (congrArg not Q2))
  |str j=>obtain ⟨t',rfl⟩:=ry;exact PySem.EqMixed.ne_int_str (g_ I q (by simp))
  |_=>exact absurd (show false=true from hs) aL
 |str i =>
  obtain ⟨t,rfl⟩:=rx;cases y with
  |non=>cases ry;exact PySem.EqNone.ne_str_none (g_ I q (by simp))
  |bl j=>cases ry;exact PySem.EqMixed.ne_str_bool (g_ I q (by simp))
  |int j=>obtain ⟨t',rfl⟩:=ry;exact PySem.EqMixed.ne_str_int (g_ I q (by simp))
  |str j=>obtain ⟨t',rfl⟩:=ry;exact ne_str (g_ I q (congrArg not Q3))
  |_=>exact absurd (show false=true from hs) aL
 |byt i =>
  obtain ⟨t,rfl⟩:=rx;cases y with
  |byt j=>obtain ⟨t',rfl⟩:=ry;exact PySem.W.ne_bytes (g_ I q (congrArg not Q4))
  |_=>exact absurd (show false=true from hs) aL
 |_=>cases y<;>exact absurd (show false=true from hs) aL
theorem UQ:oG X (bO .Lt) (Q0 fun i j=>.bl (decide (i<j))):=Te fun _ _ _ _ _ _ _ q=>lt_int q
theorem UR:oG X (bO .LtE) (Q0 fun i j=>.bl (decide (i<=j))):=Te fun _ _ _ _ _ _ _ q=>le_int q
theorem US:oG X (bO .Gt) (Q0 fun i j=>.bl (decide (j<i))):=Te fun _ _ _ _ _ _ _ q=>gt_int q
theorem Kn:oG X (bO .Lt) (fun x y H Q=>∃ i j,x=.str i/\y=.str j/\Q (.bl (decide (i.cps.toList<j.cps.toList))) H):=by
 intro pins s σ H x y v u Q I rx ry h;obtain ⟨i,j,rfl,rfl,q⟩:=h;obtain ⟨t,rfl⟩:=rx;obtain ⟨t',rfl⟩:=ry;exact lt_str (g_ I q rfl)
theorem Tl:oG X (bO .Is) (fun x y H Q=>y=.non/\Q (.bl (decide (x=.non))) H):=by
 intro pins s σ H x y v u Q I rx ry h;obtain ⟨rfl,q⟩:=h;cases ry;refine is_none_gen (g_ I q ?_);cases x<;>first
  |(cases rx;rfl)
  |(obtain ⟨t,rfl⟩:=rx;rfl)
theorem Q5:oG X (bO .IsNot) (fun x y H Q=>y=.non/\Q (.bl (!decide (x=.non))) H):=by
 intro pins s σ H x y v u Q I rx ry h;obtain ⟨rfl,q⟩:=h;cases ry;refine isnot_none_gen (g_ I q ?_);cases x<;>first
  |(cases rx;rfl)
  |(obtain ⟨t,rfl⟩:=rx;rfl)
theorem GJ (b:bR) (h:op≠.In:=by decide) (h2:op≠.NotIn:=by decide):gY op b=false:=by
 have e1:(op==CmpOp.In)=false:=by cases op<;>first|rfl|exact absurd rfl h
 have e2:(op==CmpOp.NotIn)=false:=by cases op<;>first|rfl|exact absurd rfl h2
 cases b<;>simp [gY,e1,e2]
theorem Q6  (ho:oG X (bO op) r) (ha:PE X a ta) (hb:PE X b tb) (hm:gY op b=false):PE X (.Compare a [op] [b] pos) (UM r ta tb):=by
 intro pins s σ H Q I h;exact wpAny_Compare1 (Td ha hb I h fun v u s2 x y H2 I2 rx ry q=>ho pins s2 σ H2 x y v u Q I2 rx ry q) hm
def RO (t:TE):TT:=fun σ H Q=>t σ H fun x H'=>∃ k,x=.bl k/\Q k H'
theorem IH  (ho:oG X (bO op) r) (ha:PE X a ta) (hb:PE X b tb) (hm:gY op b=false):PT X (.Compare a [op] [b] pos) (RO (UM r ta tb)):=by
 intro pins s σ H Q I h;refine Pf (fY (ha pins s σ H _ I h) fun v s1 ⟨x,H1,I1,r1,q1⟩=>fY (hb pins s1 σ H1 _ I1 q1) fun u s2 ⟨y,H2,I2,r2,q2⟩ =>
  fY (ho pins s2 σ H2 x y v u _ I2 r1 r2 q2) fun c s3 ⟨z,H3,I3,r3,k,e,q3⟩=>?_) hm
 subst e;cases r3;exact eE ⟨H3,I3,q3⟩
def GK (r r':R2) (ta tb tc:TE):TE:=fun σ H Q=>ta σ H fun x H1=>tb σ H1 fun y H2=>r x y H2 fun z H3=>∃ k,z=.bl k /\
 (if k=true then tc σ H3 fun w' H4=>r' y w' H4 Q else Q (.bl false) H3)
theorem Mt  (ho:oG X (bO op) r) (ho':oG X (bO op') r') (ha:PE X a ta) (hb:PE X b tb) (hc:PE X c tc)
  (hm:LL [op,op'] [b,c]=false:=by with_unfolding_all rfl):PE X (.Compare a [op,op'] [b,c] pos) (GK r r' ta tb tc):=by
 intro pins s σ H Q I h;refine Compare_chain (fY (ha pins s σ H _ I h) fun v s1 ⟨x,H1,I1,r1,q1⟩=>chain_link (fY (hb pins s1 σ H1 _ I1 q1) fun u s2 ⟨y,H2,I2,r2,q2⟩ =>
  fY (ho pins s2 σ H2 x y v u _ I2 r1 r2 q2) fun d s3 ⟨z,H3,I3,r3,k,e,q3⟩=>?_)) hm
 subst e;cases r3;refine eE ?_;cases k with
 |false=>exact ite_ff ⟨.bl false,H3,I3,rfl,q3⟩
 |true=>exact ite_tt (chain_last (fY (hc pins s3 σ H3 _ I3 q3) fun w' s4 h_22=>by obtain ⟨z',H4,I4,r4,q4⟩:=h_22;exact ho' pins s4 σ H4 y z' u w' Q I4 r2 r4 q4))
theorem Mu  (ho:oG X (bO op) r) (ho':oG X (bO op') r') (ha:PE X a ta) (hb:PE X b tb) (hc:PE X c tc)
  (hm:LL [op,op'] [b,c]=false:=by with_unfolding_all rfl):PT X (.Compare a [op,op'] [b,c] pos) (RO (GK r r' ta tb tc)):=by
 intro pins s σ H Q I h;refine isTrue_chain (fY (ha pins s σ H _ I h) fun v s1 ⟨x,H1,I1,r1,q1⟩=>test_link (fY (hb pins s1 σ H1 _ I1 q1) fun u s2 ⟨y,H2,I2,r2,q2⟩ =>
  fY (ho pins s2 σ H2 x y v u _ I2 r1 r2 q2) fun d s3 ⟨z,H3,I3,r3,k,e,q3⟩=>?_)) hm
 subst e;cases r3;refine eE ?_;cases k with
 |false =>
  obtain ⟨k',e',q'⟩:=q3;cases e';exact ite_ff ⟨H3,I3,q'⟩
 |true =>
  refine ite_tt (test_last (fY (hc pins s3 σ H3 _ I3 q3) fun w' s4 ⟨z',H4,I4,r4,q4⟩=>fY (ho' pins s4 σ H4 y z' u w' _ I4 r2 r4 q4) fun d' s5 ⟨z2,H5,I5,r5,k2,e2,q5⟩=>?_));subst e2;cases r5;exact eE ⟨H5,I5,q5⟩
theorem yu:(sizeLine:Nat)<2 ^ 63:=by rw [vR];decide
theorem GL:oG X (eW .Add) (fun x y H Q=>∃ i j,x=.str i/\y=.str j/\i.length+j.length<=sizeLine/\Q (.str (i++j)) H):=by
 intro pins s σ H x y v u Q I rx ry h;obtain ⟨i,j,rfl,rfl,hz,q⟩:=h;obtain ⟨t,rfl⟩:=rx;obtain ⟨t',rfl⟩:=ry;exact add_str (fun t' tk=>⟨.str (i++j),H,I.tok _,⟨_,rfl⟩,q⟩) hz
theorem jU  (r:cV [x] us):∃ u,us=[u]/\dn x u:=by
 cases r with
 |cons r1 r2=>cases r2;exact ⟨_,rfl,r1⟩
theorem Mv  (r:cV [x,y] us):∃ u w',us=[u,w']/\dn x u/\dn y w':=by
 cases r with
 |cons r1 r2 =>
  cases r2 with
  |cons r3 r4=>cases r4;exact ⟨_,_,rfl,r1,r3⟩
theorem Ko:ja X (.type "int") (fun xs H Q=>(∃ i,xs=[.int i]/\Q (.int i) H)\/∃ k,xs=[.bl k]/\Q (.int (if k then 1 else 0)) H):=by
 intro pins s σ H xs us Q I r h;rcases h with ⟨i,rfl,q⟩|⟨k,rfl,q⟩
 ·obtain ⟨u,rfl,t,rfl⟩:=jU r;exact call_int_int ⟨.int i,H,I,⟨_,rfl⟩,q⟩
 ·obtain ⟨u,rfl,r1⟩:=jU r;cases r1;exact call_int_bool ⟨.int (if k then 1 else 0),H,I.tok _,⟨_,rfl⟩,q⟩
end
end L2
namespace L2
open PySem PySem.Spec PyProof.Rows
structure Tn (h:bw) (x dx C:ag) (mA:Str->Option ae):Prop where
 obj:h.get? x=some (xl C dx)
 ns:h.Ns1 dx mA
 ne:dx≠x
theorem B3 {h:bw}{dx:ag}{mA:Str->Option ae} (n:h.Ns1 dx mA):∃ od,h.get? dx=some od/\∀ name,yd name od=some (mA name):=by
 obtain ⟨o,es,ep,ho,hd,hk,_,hm⟩:=n;refine ⟨o,ho,fun name=>?_⟩;have e:=hm name;unfold nsFind findBy at e;rw [<- K2] at e;unfold yd;rw [hd];dsimp only;split
 ·rename_i y q
  rw [q] at e;exact congrArg some e
 ·rename_i q
  rw [q] at e;have a:es.toList.any (·.refKey)=false:=by
   rw [List.any_eq_false];intro y hy;obtain ⟨z,t,hkey⟩:=hk y (Array.mem_toList_iff.mp hy);simp [DictEntry.refKey,hkey]
  have a':¬ es.toList.any (·.refKey)=true:=by rw [a];exact aL
  rw [if_neg a'];exact congrArg some e
theorem Tn.look   (I:Tn h x dx C mA):∃ od,ye h x (xl C dx) C (some od)/\∀ name,yd name od=some (mA name) :=
 let ⟨od,ho,hl⟩:=B3 I.ns
 ⟨od,⟨I.obj,rfl,rfl,ho⟩,hl⟩
section
variable {prog:bf}{w:bE}{A:bV}{E:ae->ah->Prop}{s:ah}{K:a7}{x dx C f:ag}{mA:Str->Option ae}{name:Str}{v:ae}
end
theorem w6.some_of  (r:w6 (some v) o):∃ u,o=some u/\dn v u:=by
 cases o with
 |none=>exact (show False from r).elim
 |some u=>exact ⟨u,rfl,r⟩
theorem Kp  (r:dn v u):K3 u=true:=by
 cases v with
 |non=>cases (show u=dz from r);rfl
 |bl b=>cases (show u=i6 b from r);rfl
 |int i=>obtain ⟨t,e⟩:=(show ∃ t,u=mS i t from r);cases e;rfl
 |str x=>obtain ⟨t,e⟩:=(show ∃ t,u=j5 x t from r);cases e;rfl
 |byt b=>obtain ⟨t,e⟩:=(show ∃ t,u=Value.bytes b t from r);cases e;rfl
 |flt b=>obtain ⟨t,e⟩:=(show ∃ t,u=Ge b t from r);cases e;rfl
 |ref a=>cases (show u=bg a from r);rfl
 |ty n=>cases (show u=i7 n from r);rfl
section
theorem Q7 (hok:qF P w H h) (e:H a=some (.ins C dx fs)):∃ mA,Tn h a dx C mA/\(∀ f,w6 (fs.lookup f) (mA f))/\PySem.Within mA (fs.map (·.1))/\fs.length<=1000/\H dx=some (.own a):=by
 obtain ⟨d,z,ne,ob,mA,n,r,q⟩:=(show de P w H h a (.ins C dx fs) from hok a _ e);exact ⟨mA,⟨ob,n,ne⟩,r,q,z,d⟩
end
structure X5 (K:a7) (C:ag):Prop where
 pg:K4 K C Str.empty=true
 hd:Ix K C=true
 po:PySem.W.plainOver K C=true
 sa:fL K (.ref C) "__setattr__"=some (some (.builtin "object.__setattr__"))
theorem X5.get {K:a7}{C:ag} (c:X5 K C) (f:Str):K4 K C f=true:=c.pg
section
theorem Q8        (hb:kf e f env (cL e env)=cL e env)
  (h:ak (aB prog w) A (cL e env) (fun o s₁=>ak (aB prog w) A (getAttr o f true) Q E s₁) E s):ak (aB prog w) A (cL (.Attribute e f pos) env) Q E s :=
 Attribute_any_ h (by rw [arm_eval_Attribute,hb])
end
section
end
section
inductive wa (K:a7) (H:Hp):V->ae->Prop where
 |non:wa K H .non (.type "NoneType")
 |bl (x:Bool):wa K H (.bl x) (.type "bool")
 |int (i:Int):wa K H (.int i) (.type "int")
 |str (x:Str):wa K H (.str x) (.type "str")
 |flt (x:UInt64):wa K H (.flt x) (.type "float")
 |lst {a:ag}{xs:List V} (e:H a=some (.lst xs)):wa K H (.ref a) (.type "list")
 |frz {a:ag}{o:Obj}{xs:List V} (e:H a=some (.frz o (.lst xs))):wa K H (.ref a) (.type "list")
 |tup {a:ag}{xs:List V} (e:H a=some (.tup xs)):wa K H (.ref a) (.type "tuple")
 |dK {a:ag}{kvs:List (gj×V)} (e:H a=some (.dK kvs)):wa K H (.ref a) (.type "dict")
 |dT {a:ag}{kvs:List (List gj×V)} (e:H a=some (.dT kvs)):wa K H (.ref a) (.type "dict")
 |ins {a C dx:ag}{fs:List (Str×V)} (e:H a=some (.ins C dx fs)) (cl:X5 K C) (ha:fL K (.ref C) "__class__"=some (some (.builtin "object.__class__")))
   (hn:uO K (.builtin "object.__class__") "__get__"=some (some (.builtin "getset_descriptor.__get__"))) (htk:xm K (.builtin "object.__class__")=some true)
   (hm:bU K C (.type "object")=some true):wa K H (.ref a) (.ref C)
theorem oH  (I:bG X pins σ H s) (rx:dn x u) (ty:wa X.K H x t) (e:dC X.K t c=some b) (h:∀ tk,Q (.bool b) { s with toks:=tk }) :
  ak (aB X.prog X.w) A (call (.builtin "isinstance") [u,c]) Q E s:=by
 cases ty with
 |non=>cases (show u=dz from rx);exact cz PySem.W.kitx_none I.kIn iX e (fun z=>nomatch z) h
 |bl y=>cases (show u=i6 y from rx);exact cz PySem.W.kitx_bool I.kIn iX e (fun z=>nomatch z) h
 |int i=>obtain ⟨t,q⟩:=(show ∃ t,u=mS i t from rx);cases q;exact cz PySem.W.kitx_int I.kIn iX e (fun z=>nomatch z) h
 |str y=>obtain ⟨t,q⟩:=(show ∃ t,u=j5 y t from rx);cases q;exact cz PySem.W.kitx_str I.kIn iX e (fun z=>nomatch z) h
 |flt y=>obtain ⟨t,q⟩:=(show ∃ t,u=Ge y t from rx);cases q;exact cz PySem.W.kitx_float I.kIn iX e (fun z=>nomatch z) h
 | @lst a xs ea =>
  cases (show u=bg a from rx);obtain ⟨_,_,n,_,h1⟩:=(show de X.prog X.w H s.heap a (.lst xs) from I.hok a _ ea);exact cz uP I.kIn ⟨_,h1,rfl⟩ e (fun z=>nomatch z) h
 | @frz a ob xs ea =>
  cases (show u=bg a from rx);obtain ⟨_,_,_,n,_,h1⟩:=(show de X.prog X.w H s.heap a (.frz ob (.lst xs)) from I.hok a _ ea);exact cz uP I.kIn ⟨_,h1,rfl⟩ e (fun z=>nomatch z) h
 | @tup a xs ea =>
  cases (show u=bg a from rx);obtain ⟨_,_,_,p⟩:=(show de X.prog X.w H s.heap a (.tup xs) from I.hok a _ ea);obtain ⟨o,h1,h2,_⟩:=p;exact cz Gi I.kIn ⟨o,h1,h2⟩ e (fun z=>nomatch z) h
 | @dK a kvs ea =>
  cases (show u=bg a from rx);obtain ⟨_,_,vs,_,p⟩:=(show de X.prog X.w H s.heap a (.dK kvs) from I.hok a _ ea);obtain ⟨o,es,ep,h1,h2,_⟩:=p;exact cz Iy I.kIn ⟨o,h1,h2.1⟩ e (fun z=>nomatch z) h
 | @dT a kvs ea =>
  cases (show u=bg a from rx);obtain ⟨_,_,xs,_,o,es,ep,h1,h2,_⟩:=(show de X.prog X.w H s.heap a (.dT kvs) from I.hok a _ ea);exact cz Iy I.kIn ⟨o,h1,h2.1⟩ e (fun z=>nomatch z) h
 | @ins a C dx fs ea cl ha hn htk hm =>
  cases (show u=bg a from rx);obtain ⟨mA,O,_⟩:=Q7 I.hok ea;obtain ⟨od,J,_⟩:=O.look;exact cz (PySem.W.kitx_own (cl.get _) cl.hd ha hn htk hm) I.kIn J e (fun z=>nomatch z) h
end
end L2
namespace L2
open PySem PySem.Spec PyProof.Rows
structure kj (k:Nat) (A:bV):Prop where
 hd:A.handled=none
 dp:A.depth+3*k+5<gK
 un:A.units+16*k+200<sU
theorem kj.mono  (r:kj k A) (h:j<=k):kj j A:=⟨r.hd,by have:=r.dp;omega,by have:=r.un;omega⟩
theorem kj.deeper  (r:kj (k+1) A) (env:Env):kj k (A.deeper env) :=
 ⟨r.hd,by have:=r.dp;show A.depth+1+3*k+5<_;omega,by have:=r.un;show A.units+3+16*k+200<_;omega⟩
theorem kj.depth  (r:kj k A):A.depth<gK:=by have:=r.dp;omega
theorem kj.units  (r:kj k A):A.units+64<sU:=by have:=r.un;omega
def DY:TA:=fun _ H Q=>Q [] H
def tE (ta:TE) (tr:TA):TA:=fun σ H Q=>ta σ H fun x H1=>tr σ H1 fun xs H2=>Q (x::xs) H2
section
theorem el:PA X [] DY:=fun _ _ _ _ H Q I h=>Calls.spliced_nil ⟨[],H,I,.nil,h⟩
theorem bX (ha:PE X e te) (hr:PA X es t) (hs:aA (e::es) X.env=(false,cL e X.env)::aA es X.env:=by rfl):PA X (e::es) (tE te t):=by
 intro pos pins s σ H Q I h;rw [hs];show ak _ _ (spliced ((false,cL e X.env)::gm pos (aA es X.env))) _ _ s;refine Calls.spliced_cons (fY (ha pins s σ H _ I h) fun u s1 ⟨x,H1,I1,r1,q1⟩=>?_);exact fY (hr pos pins s1 σ H1 _ I1 q1) fun us s2 h_25=>by obtain ⟨xs,H2,I2,r2,q2⟩:=h_25;exact ⟨x::xs,H2,I2,.cons r1 r2,q2⟩
def UT (t:TA):TE:=fun σ H Q=>t σ H fun xs H1=>xs.length<=sizeLine/\∀ p,H1 p=none->Q (.ref p) (upd H1 p (.tup xs))
def X6 (t:TA):TE:=fun σ H Q=>t σ H fun xs H1=>xs.length<=sizeLine/\∀ p,H1 p=none->Q (.ref p) (upd H1 p (.lst xs))
theorem GM {x1} (h:PA X es t):PE X (.Tuple es x1 pos) (UT t):=by
 intro pins s σ H Q I hq;refine wpAny_Tuple_spliced (fY (h pos pins s σ H _ I hq) fun us s1 ⟨xs,H1,I1,r,z,q⟩=>⟨by rw [<- r.length];exact z,?_⟩);have hf:H1 s1.heap.objs.size=none:=I1.hok.fresh (ar _);refine ⟨.ref s1.heap.objs.size,upd H1 s1.heap.objs.size (.tup xs),I1.laid (t':=s1.toks) (fun b u e=>ac _ e) (ar _) ?_,rfl,q _ hf⟩;exact ⟨z,us,r,⟨_,aF _ rfl,rfl,_,rfl⟩⟩
theorem ms (h:PA X es t):PE X (.List es pos) (X6 t):=by
 intro pins s σ H Q I hq;refine wpAny_List_spliced (fY (h pos pins s σ H _ I hq) fun us s1 ⟨xs,H1,I1,r,z,q⟩=>⟨by rw [<- r.length];exact z,?_⟩);have hf:H1 s1.heap.objs.size=none:=I1.hok.fresh (ar _);refine ⟨.ref s1.heap.objs.size,upd H1 s1.heap.objs.size (.lst xs),I1.laid (t':=s1.toks) (fun b u e=>ac _ e) (ar _) ?_,rfl,q _ hf⟩;exact ⟨z,us,0,r,aF _ rfl⟩
end
abbrev Sp:=List V->Hp->VK->XK->Prop
abbrev LV:=List Env->Hp->ah->XK->ae->ah->Prop
structure GN (P:bf) (w:bE) (K:a7) (mg:Str->Option ae) (base:bw) (A:bV) (outer:List Env) (s:ah) (H:Hp):Prop where
 frames:A.frames=some outer
 mod:Mod K mg base
 bs:∀ b o,base.get? b=some o->s.heap.get? b=some o/\H b=none
 bsz:base.objs.size<=s.heap.objs.size
 funs:s.heap.FunFrames base outer
 frf:∀ b∈lJ outer,H b=none
 hok:qF P w H s.heap
 bare:qI s.gens
inductive CE (outer:List Env) (P:bf) (w:bE) (H:Hp) (s:ah) (Q:VK) (u:ae) (s':ah):Prop
 |mk (v H':_) (h0:s'.os=s.os) (h1:qI s'.gens) (h2:Un (lJ outer) [] H H' s.heap s'.heap) (h3:qF P w H' s'.heap) (h4:dn v u) (h5:Q v H'):CE outer P w H s Q u s'
def CR (CX:LV) (outer:List Env) (P:bf) (w:bE) (H:Hp) (s:ah) (Q:VK) (E:XK) (r:Result) (s':ah):Prop :=
 match r with
 |.ok (.ret u)=>CE outer P w H s Q u s'
 |.ok _=>False
 |.error e=>CX outer H s E e s'
structure sY (P:bf) (w:bE) (K:a7) (mg:Str->Option ae) (base:bw) (CX:LV) (k:Nat) (f:ag) (fd:eX) (ps:List Str) (sp:Sp):Prop where
 len:∀ vs H Q E,sp vs H Q E->vs.length=ps.length
 run:∀ (A:bV) (outer:List Env) (s:ah) (H:Hp) (args:Args) (us:List ae) (vs:List V) (Q:VK) (E:XK),kj k A->GN P w K mg base A outer s H->wN s fd args (ps.zip us)->cV vs us->sp vs H Q E ->
  ij (aB P w) A (.call (.ref f) args) (CR CX outer P w H s Q E) s
theorem sY.imp {P:bf}{w:bE}{K:a7}{mg:Str->Option ae}{base:bw}{CX:LV}{k:Nat}{f:ag}{fd:eX}{ps:List Str}{sp sp':Sp} (F:sY P w K mg base CX k f fd ps sp)
  (h:∀ vs H Q E,sp' vs H Q E->sp vs H Q E):sY P w K mg base CX k f fd ps sp' :=
 ⟨fun vs H Q E q=>F.len vs H Q E (h _ _ _ _ q),fun A outer s H args us vs Q E hr he hb hv hs=>F.run A outer s H args us vs Q E hr he hb hv (h _ _ _ _ hs)⟩
section
theorem bG.env0 (I:bG X pins σ H s):GN X.prog X.w X.K X.mg X.base X.A X.stack s H :=
 ⟨I.ok.frames,I.ok.mod,I.bs,bD I.ok.bsz I.sz,I.stack,I.stkFree,I.hok,I.bare⟩
theorem bG.after  (I:bG X pins σ H s) (h:CE X.stack X.prog X.w H s Q u s'):EP X pins σ Q u s':=by
 obtain ⟨v,H',os,bare,un,hok,r,q⟩:=h;obtain ⟨hh,g,d,t,os'⟩:=s';obtain rfl:os'=s.os:=os;exact ⟨v,H',I.call (h':=hh) (g':=g) (d':=d) (t':=t) (ch:=[]) un hok bare (fun b z=>absurd z (by simp)),r,q⟩
end
def B4 (sp:Sp) (dvs:List V) (E:XK) (t:TA):TE:=fun σ H Q=>t σ H fun vs H1=>sp (vs++dvs) H1 Q E
def kC (K:a7) (fd:eX) (ps:List Str) (ds:List ae):Prop :=
 ∀ (s:ah) (us:List ae),K.In s.heap->(us++ds).length=ps.length->wN s fd ⟨us,[]⟩ (ps.zip (us++ds))
theorem kC.all {K:a7}{fd:eX}{ps:List Str} (h:∀ us:List ae,us.length=ps.length->Pr fd ⟨us,[]⟩=pure (ps.zip us)):kC K fd ps []:=fun s us _ hl=>by
 rw [cB] at hl ⊢;exact .of_eq (h us hl)
def nV (CX:LV) (X:Cx) (E:XK):Prop:=∀ (pins:List (ag×Obj)) (σ:St) (H:Hp) (s:ah) (e:ae) (s':ah),bG X pins σ H s->CX X.stack H s E e s'->X.xe e s'
section
theorem To       (F:sY X.prog X.w X.K X.mg X.base CX k f fd ps sp) (hr:kj k X.A) (hb:kC X.K fd ps ds) (hd:cV dvs ds) (hx:nV CX X E)
  (I:bG X pins σ H s) (r:cV vs us) (h:sp (vs++dvs) H Q E):ak (aB X.prog X.w) X.A (call (.ref f) us) (EP X pins σ Q) X.xe s:=by
 have r2:cV (vs++dvs) (us++ds):=r.append hd;have hl:(us++ds).length=ps.length:=by rw [<- r2.length];exact F.len _ _ _ _ h
 refine kF (oA (F.run X.A X.stack s H ⟨us,[]⟩ (us++ds) (vs++dvs) Q E hr I.env0 (hb s us I.kIn hl) r2 h) fun r s' hq=>?_);cases r with
 |error e=>exact hx pins σ H s e s' I hq
 |ok fl =>
  cases fl with
  |ret u=>exact I.after hq
  |next=>exact eN hq
  |brk=>exact eN hq
  |cont=>exact eN hq
theorem Q9 (F:sY X.prog X.w X.K X.mg X.base CX k f fd ps sp) (hr:kj k X.A) (hg:Gl X x) (hm:X.mg x=some (.ref f)) (hk:d_ X.K (.ref f)=true) (hb:kC X.K fd ps ds) (hd:cV dvs ds) (hx:nV CX X E)
  (ha:PA X (e::es) t) (hdb:(x==("__debug__" : Str))=false:=by decide) (he:aA (e::es) X.env=(false,cL e X.env)::aA es X.env:=by rfl) (hpl:(gm pos (aA es X.env)).any (·.1)=false:=by rfl) :
  PE X (.Call (.Name x p) (e::es) [] pos) (B4 sp dvs E t):=by
 intro pins s σ H Q I h;refine pw (si I hg hm ?_ hdb);refine Gj (h₀:=X.base) I.ok.mod.kin hk (fY (ha pos pins s σ H _ I h) fun us s1 ⟨vs,H1,I1,r,q⟩=>⟨I1.kIn,?_⟩) he hpl;exact To F hr hb hd hx I1 r q
end
section
end
structure bA (N P:List Str) (sc:gH):Prop where
 kind:sc.kind=.function
 co:sc.isCoroutine=false
 gen:sc.isGenerator=false
 nd:N.Nodup
 pre:N.take P.length=P
 par:∀ x∈P,sc.names.lookup x=some .local\/sc.names.lookup x=some .cell
 nofree:∀ y∈sc.names,y.2≠.free
theorem B5 {kindOf:Str->Option lC}{x:Str}:∀ {binds:List (Str×ae)}{m:Str->Option ae},(∀ v,(x,v)∉binds)->Gk kindOf binds m x=m x
 |[],_,_=>rfl
 |(n,v)::r,m,h=>by
  unfold Gk;rw [B5 fun w hw=>h w (ao _ hw)];split
  ·have:x≠n:=by rintro rfl;exact h v al
   simp [this]
  ·rfl
theorem B6 {kindOf:Str->Option lC}{x:Str}:∀ {binds:List (Str×ae)}{m:Str->Option ae},(∀ v,(x,v)∉binds)->Gm kindOf binds m x=m x
 |[],_,_=>rfl
 |(n,v)::r,m,h=>by
  unfold Gm;rw [B6 fun w hw=>h w (ao _ hw)];split
  ·rfl
  ·have:x≠n:=by rintro rfl;exact h v al
   simp [this]
theorem B7 {kindOf:Str->Option lC}{x:Str}{v:ae}:∀ {P:List Str}{vs:List ae}{i:Nat}{m:Str->Option ae},P.Nodup->P[i]?=some x->vs[i]?=some v->kindOf x=some .local ->
  Gk kindOf (P.zip vs) m x=some v
 |[],_,_,_,_,h,_,_=>by simp at h
 |_::_,[],_,_,_,_,h,_=>by simp at h
 |p::P,w::vs,0,m,nd,h1,h2,hk=>by
  simp at h1 h2;subst h1;subst h2;show Gk kindOf ((p,w)::P.zip vs) m p=_;unfold Gk;rw [B5 fun v hv=>(List.nodup_cons.mp nd).1 (qQ hv).1,if_pos hk];simp
 |p::P,w::vs,i+1,m,nd,h1,h2,hk=>by
  show Gk kindOf ((p,w)::P.zip vs) m x=_;unfold Gk;exact B7 (i:=i) (List.nodup_cons.mp nd).2 (by simpa using h1) (by simpa using h2) hk
theorem B8 {kindOf:Str->Option lC}{x:Str}{v:ae}:∀ {P:List Str}{vs:List ae}{i:Nat}{m:Str->Option ae},P.Nodup->P[i]?=some x->vs[i]?=some v->kindOf x≠some .local ->
  Gm kindOf (P.zip vs) m x=some v
 |[],_,_,_,_,h,_,_=>by simp at h
 |_::_,[],_,_,_,_,h,_=>by simp at h
 |p::P,w::vs,0,m,nd,h1,h2,hk=>by
  simp at h1 h2;subst h1;subst h2;show Gm kindOf ((p,w)::P.zip vs) m p=_;unfold Gm;rw [B6 fun v hv=>(List.nodup_cons.mp nd).1 (qQ hv).1,if_neg hk];simp
 |p::P,w::vs,i+1,m,nd,h1,h2,hk=>by
  show Gm kindOf ((p,w)::P.zip vs) m x=_;unfold Gm;exact B8 (i:=i) (List.nodup_cons.mp nd).2 (by simpa using h1) (by simpa using h2) hk
def start (N:List Str) (vs:List V):St:=vs.map some++bc (N.length-vs.length) none
def eZ (CX:LV) (P:bf) (w:bE) (K:a7) (mg:Str->Option ae) (base:bw) (N:List Str) (qual:Str) (scope:gH) (f:ag) (cd:ae) (A:bV) (outer:List Env) (s:ah) (H:Hp) (E:XK):Cx where
 prog:=P
 w:=w
 K:=K
 mg:=mg
 base:=base
 A:=A.deeper (jN qual scope s.heap.objs.size f cd)
 N:=N
 s₀:=s
 H₀:=H
 env:=jN qual scope s.heap.objs.size f cd
 outer:=outer
 stack:=jN qual scope s.heap.objs.size f cd::outer
 ex:=[]
 calm:=true
 fn:=fun _=>true
 pn:=[]
 xe:=fun e s'=>ak (aB P w) (A.deeper (jN qual scope s.heap.objs.size f cd)) (Ac (jN qual scope s.heap.objs.size f cd) e) (fun _ s''=>CX outer H s E e s'') (fun e' s''=>CX outer H s E e' s'') s'
theorem DZ {sc:gH}{n:Nat}{x:Str} (h:sc.names.lookup x=some .cell):∃ c,(ba n sc.names []).lookup x=some c:=by
 have q:=fk sc.names n [] (.inl h);exact Option.isSome_iff_exists.mp q
theorem B9 {CX:LV}{P:bf}{w:bE}{K:a7}{mg:Str->Option ae}{base:bw}{N ps:List Str}{qual:Str}{scope:gH}{f:ag}{cd:ae}{A:bV}{outer:List Env}{s s1:ah}{H:Hp}{E:XK}{us:List ae}{vs:List V}
  (S:bA N ps scope) (hd:A.handled=none) (e0:GN P w K mg base A outer s H) (hl:vs.length=ps.length) (r:cV vs us)
  (x:InCallC s s.heap.objs.size (Gk (jN qual scope s.heap.objs.size f cd).kindOf (ps.zip us) fun _=>none) (ba (s.heap.objs.size+1) scope.names []) (Gm (jN qual scope s.heap.objs.size f cd).kindOf (ps.zip us) fun _=>none) s1) :
  bG (eZ CX P w K mg base N qual scope f cd A outer s H E) [] (start N vs) H s1:=by
 have hpl:ps.length<=N.length:=by have:=congrArg tm S.pre;rw [j7] at this;omega
 obtain ⟨h1,tk,rfl,hk⟩:=x.done;have noA:∀ b:ag,b∉(eZ CX P w K mg base N qual scope f cd A outer s H E).ex:=fun b z=>absurd (show b∈([] : List ag) from z) (by simp);refine ⟨⟨e0.mod,S.kind,rfl,rfl,ar _,fun y z c h1 h2=>?_,fun y hy=>?_,fun y c _ h=>?_,fun _=>hd,Around.frames_deeper e0.frames,.inr ⟨rfl,rfl⟩,fun b z=>absurd z (noA b),e0.bs,e0.bsz,fun b _ _=>noA b,fun b z=>absurd z (noA b),e0.funs,e0.frf⟩,
  rfl,e0.bare,Un.kept hk,⟨_,x.toInCall.ns,fun i y v h1 h2 h3=>?_⟩,fun y c h=>⟨_,x.cell y c h⟩,e0.hok.fresh (ar _),fun y c h=>?_,fun p hp=>absurd (show p∈([] : List (ag×Obj)) from hp) (by simp),e0.hok.kept hk,?_⟩
 ·exact name_of_addr x.apart (dA h1) (dA h2)
 ·have hy:scope.names.lookup y=some .cell\/scope.names.lookup y=some .free:=hy;rcases hy with hy|hy
  ·exact DZ hy
  ·exact absurd rfl (S.nofree _ (dA hy))
 ·exact b9 (x.above y c (dA h))
 ·have hi:i<vs.length:=by
   unfold start at h2;by_cases hi:i<vs.length
   ·exact hi
   ·rw [bd (by simpa using hi)] at h2;rw [bP] at h2;split at h2<;>cases h2
  have ha:vs[i]?=some v:=by
   unfold start at h2;rw [bQ (by simpa using hi),aO] at h2;cases e:vs[i]? with
   |none=>rw [e] at h2;cases h2
   |some a=>rw [e] at h2;cases h2;rfl
  obtain ⟨u,hu,rv⟩:=r.get ha;have hp:ps[i]?=some y:=by
   rw [<- S.pre,List.getElem?_take_of_lt (by omega)];exact h1
  have ndP:ps.Nodup:=by rw [<- S.pre];exact S.nd.sublist (List.take_sublist _ _)
  refine ⟨u,rv,?_⟩;rcases S.par y (f9 hp) with k|k
  ·exact .inl ⟨k,B7 ndP hp hu k⟩
  ·obtain ⟨c,e⟩:=DZ (n:=s.heap.objs.size+1) k;refine .inr ⟨.inl k,c,e,?_⟩;have q:=x.cell y c e;rw [B8 ndP hp hu (by show scope.names.lookup y≠_;rw [k];decide)] at q;exact q
 ·exact e0.hok.fresh (b9 (x.above y c (dA h)))
 ·unfold start;show _=N.length;rw [aJ,au,cX];omega
theorem UU {CX:LV}{P:bf}{w:bE}{K:a7}{mg:Str->Option ae}{base:bw}{k:Nat}{f:ag}{name qual:Str}{params:Arguments}{body:List cY}{scope:gH}{dV kV doc pm cdv ct oc:ae}{an od:Option ag}
  {osl:Array (Option ae)}{N ps:List Str}{sp:Sp} (lk:K.lookup f=some ⟨oc,od,.func (eO name qual params body scope dV kV doc pm an cdv ct),osl⟩) (hcd:jO K cdv qual=true) (S:bA N ps scope)
  (len:∀ vs H Q E,sp vs H Q E->vs.length=ps.length)
  (hbody:∀ (A:bV) (outer:List Env) (s:ah) (H:Hp) (vs:List V) (Q:VK) (E:XK),kj k (A.deeper (jN qual scope s.heap.objs.size f cdv))->sp vs H Q E ->
   ∃ t,Cb (eZ CX P w K mg base N qual scope f cdv A outer s H E) body t/\t { nx:=fun _ H'=>Q .non H',rt:=Q } (start N vs) H) :
  sY P w K mg base CX (k+1) f (eO name qual params body scope dV kV doc pm an cdv ct) ps sp:=by
 refine ⟨len,fun A outer s H args us vs Q E hr e0 hb r hsp=>?_⟩;have hl:=len _ _ _ _ hsp;have KX:K.In s.heap:=e0.mod.kin.keeps fun b o e=>(e0.bs b o e).1;have lim:s.heap.NoLimit:=e0.mod.nolimit.keeps fun b o e=>(e0.bs b o e).1;have hkind:∀ y∈ps.zip us,scope.names.lookup y.1=some .local\/(scope.names.lookup y.1=some .cell/\((ba (s.heap.objs.size+1) scope.names []).lookup y.1).isSome=true):=fun ⟨n,v⟩ hy=>by
  rcases S.par n (qQ hy).1 with q|q
  ·exact .inl q
  ·exact .inr ⟨q,fk _ _ _ (.inl q)⟩
 refine Pg hr.depth (KX _ _ lk) rfl S.co S.gen rfl (tT KX hcd) (hb _ _ _ _ ?_);refine Gn S.kind hkind fun env he s1 x=>?_;subst he;refine ⟨lim.keeps x.toInCall.keep,codeAny_func ?_⟩;obtain ⟨t,ht,hq⟩:=hbody A outer s H vs Q E (hr.deeper _) hsp;have I:bG (eZ CX P w K mg base N qual scope f cdv A outer s H E) [] (start N vs) H s1:=B9 S hr.hd e0 hl r x;refine aZ (ht [] s1 (start N vs) H _ I hq) (fun fl s' hs=>?_) fun e s' hs=>hs;have fin:∀ {σ':St}{H':Hp}{v:V}{u:ae},bG (eZ CX P w K mg base N qual scope f cdv A outer s H E) [] σ' H' s'->dn v u->Q v H'->CE outer P w H s Q u s' :=
  fun {σ' H' v u} J rv q=>⟨v,H',J.os,J.bare,J.base,J.hok,rv,q⟩
 cases fl with
 |ret u =>
  obtain ⟨v,σ',H',J,rv,q⟩:=hs;exact fin J rv q
 |next =>
  obtain ⟨σ',H',J,q⟩:=hs;exact fin (v:=V.non) (u:=dz) J rfl q
 |brk =>
  obtain ⟨_,_,_,q⟩:=hs;exact eN q
 |cont =>
  obtain ⟨_,_,_,q⟩:=hs;exact eN q
end L2
namespace L2
open PySem PySem.Spec PyProof.Rows
section
variable {X:Cx}{x:Str}{p pos:Pos}{e:bR}{es:List bR}{t:TA}{id T:String}{r:List V->Hp->VK->Prop}
def Uz (r:List V->Hp->VK->Prop) (t:TA):TE:=fun σ H Q=>t σ H fun vs H1=>r vs H1 Q
theorem oJ (hc:ja X (.builtin id) r) (hg:Gl X x) (hm:X.mg x=none) (hv:iG x=some (.builtin id)) (ha:PA X (e::es) t) (hn:x≠"__name__":=by decide) (hdb:(x==("__debug__" : Str))=false:=by decide)
  (he:aA (e::es) X.env=(false,cL e X.env)::aA es X.env:=by rfl) (hpl:(gm pos (aA es X.env)).any (·.1)=false:=by rfl):PE X (.Call (.Name x p) (e::es) [] pos) (Uz r t):=by
 intro pins s σ H Q I h;refine pw (tY I hg hm hv ?_ hn hdb);exact PyProof.Rows.callWith_builtin1 (fY (ha pos pins s σ H _ I h) fun us s1 h_27=>by obtain ⟨vs,H1,I1,r1,q1⟩:=h_27;exact hc pins s1 σ H1 vs us Q I1 r1 q1) he hpl
theorem wc (hc:ja X (.type T) r) (hg:Gl X x) (hm:X.mg x=none) (hv:iG x=some (.type T)) (ha:PA X (e::es) t) (hn:x≠"__name__":=by decide) (hdb:(x==("__debug__" : Str))=false:=by decide)
  (he:aA (e::es) X.env=(false,cL e X.env)::aA es X.env:=by rfl) (hpl:(gm pos (aA es X.env)).any (·.1)=false:=by rfl):PE X (.Call (.Name x p) (e::es) [] pos) (Uz r t):=by
 intro pins s σ H Q I h;refine pw (tY I hg hm hv ?_ hn hdb);exact e_ (fY (ha pos pins s σ H _ I h) fun us s1 h_28=>by obtain ⟨vs,H1,I1,r1,q1⟩:=h_28;exact hc pins s1 σ H1 vs us Q I1 r1 q1) he hpl
end
end L2
namespace HT
open PySem PyProof.Rows
section
open PySem.SeqAt
open PySem.AutoSeq1 (wpAny_loadPart')
open PySem.MeetsSeq PySem.MeetsSeq2 PySem.MeetsSeq3
end
section
theorem Qa   (ht:DI s.heap t vs.toArray) (hb:DI s.heap b ws.toArray) (hv:vs≠[])
  (h1:ws=[]->Q (.ref t) s) (h2:ws≠[]->Q (.ref s.heap.objs.size) { s with heap:=s.heap.push { cls:=.type "tuple",data:=.seq (vs++ws).toArray } })
  (hsz:vs.length+ws.length<=sizeLine):ak (aB prog w) A (eW .Add (.ref t) (.ref b)) Q E s:=by
 obtain ⟨⟨cls,dd,data,sl⟩,ho,hc,n,hd⟩:=id ht;obtain ⟨⟨cls2,dd2,data2,sl2⟩,ho2,hc2,n2,hd2⟩:=id hb;simp only at hc hd hc2 hd2;subst hc hd hc2 hd2;have e:vs.toArray++ws.toArray=(vs++ws).toArray:=by simp
 by_cases hw:ws=[]
 ·exact Ad ⟨_,ho,rfl⟩ ⟨_,ho2,rfl⟩ C2 K5 pz oB (nN _ _)
   (tuple_addW1 t b vs.toArray ws.toArray n n2 dd dd2 sl sl2 (by simpa using hv) (by simp [hw])) ⟨ho,ho2,h1 hw⟩
 ·refine Ad ⟨_,ho,rfl⟩ ⟨_,ho2,rfl⟩ C2 K5 pz oB (nN _ _)
   (tuple_addW2 t b vs.toArray ws.toArray n n2 dd dd2 sl sl2 (by simpa using hv) (by simpa using hw) (by rw [aG,aG];exact hsz)) ⟨ho,ho2,?_⟩
  rw [e];exact h2 hw
def j3 (n d:Nat):Option Int->Nat
 |none=>d
 |some v=>if v<0 then (v+(n:Int)).toNat else min v.toNat n
theorem yv (n d:Nat):j3 n d none=d:=rfl
theorem Cg (n d k:Nat):j3 n d (some (k:Int))=min k n:=by
 show (if (k:Int)<0 then ((k:Int)+(n:Int)).toNat else min (k:Int).toNat n)=min k n;rw [if_neg (by omega),kG]
theorem Tp (n d:Nat) (hd:d<=n) (o:Option Int):j3 n d o<=n:=by
 cases o with
 |none=>exact hd
 |some v =>
  show (if v<0 then (v+(n:Int)).toNat else min v.toNat n)<=n;by_cases hv:v<0
  ·rw [if_pos hv];omega
  ·rw [if_neg hv];exact qC _ _
theorem II (v:Int) (n d:Nat):(if v<0 then max (v+(n:Int)) 0 else min v (n:Int))=((j3 n d (some v):Nat):Int):=by
 show (if v<0 then max (v+(n:Int)) 0 else min v (n:Int))=(((if v<0 then (v+(n:Int)).toNat else min v.toNat n):Nat):Int);by_cases hv:v<0
 ·simp only [if_pos hv];omega
 ·simp only [if_neg hv];omega
theorem GO (lo hi:Option Int) (n:Nat):lE lo hi 1 (n:Int)=(((j3 n 0 lo:Nat):Int),((j3 n n hi:Nat):Int)):=by
 have h1:¬ ((1:Int)<0):=by omega
 unfold lE;simp only [h1,if_false];refine Prod.ext ?_ ?_
 ·cases lo with
  |none=>rfl
  |some v=>exact II v n 0
 ·cases hi with
  |none=>rfl
  |some v=>exact II v n n
theorem GP (i j:Nat):da (i:Int) (j:Int) 1=j-i:=by
 unfold da;have h1:(1:Int) > 0:=by omega
 simp only [h1,if_true,Int.ediv_one];split<;>omega
theorem yw   (p:vS v o) (h:Q o s):ak (aB prog w) A (Builtin.Slice.slicePartIndex v) Q E s:=by
 cases p with
 |none=>exact vT h
 |int i t=>exact slicePart_int h
theorem oK {sl:ag}{vl vu:ae}{lo hi:Option Int}{n:Nat}{Q:Int×Int×Nat->ah->Prop} (hs:s.heap.IsSliceOf sl vl vu .none) (pl:vS vl lo) (pu:vS vu hi)
  (h:Q (((j3 n 0 lo:Nat):Int),1,j3 n n hi-j3 n 0 lo) s):ak (aB prog w) A (i8 (.ref sl) (pure (n:Int))) Q E s:=by
 obtain ⟨os,hos,hcs,hds⟩:=id hs;unfold i8 vN;refine a6 (a6 (cO hos hds (x:=vl) rfl (a6 (cO hos hds (x:=vu) rfl (a6 (cO hos hds (x:=.none) rfl (aa ?_)))))));refine a6 (vT ?_);show ak _ _ (if ((1:Int)==0)=true then _ else _) _ _ s;rw [if_neg (by decide)];refine a6 (yw pl (a6 (yw pu (a6 (aa ?_)))));show ak _ _ (match lE lo hi 1 (n:Int) with|(lo,hi)=>pure (lo,(1:Int),da lo hi 1)) _ _ s;rw [GO lo hi n];show ak _ _ (pure (((j3 n 0 lo:Nat):Int),(1:Int),da ((j3 n 0 lo:Nat):Int) ((j3 n n hi:Nat):Int) 1)) _ _ s;rw [GP];exact aa h
theorem Mw (xs:Array ae) (i k:Nat):((bq k).filterMap fun (m:Nat)=>xs[((i:Int)+(m:Int)*1).toNat]?).toArray=((xs.toList.drop i).take k).toArray:=by
 have e:(fun (m:Nat)=>xs[((i:Int)+(m:Int)*1).toNat]?)=fun m=>xs[i+m]?:=by
  funext m;have:((i:Int)+(m:Int)*1).toNat=i+m:=by omega
  rw [this]
 rw [e];have:=pick_run xs i k;rw [m_] at this;have e2:((fun x=>xs[x]?)∘fun x=>i+x)=fun m=>xs[i+m]?:=rfl;rw [e2] at this;rw [this]
theorem uW {t sl:ag}{items:Array ae}{vl vu:ae}{lo hi:Option Int}{Q:ae->ah->Prop} (ht:DI s.heap t items) (hs:s.heap.IsSliceOf sl vl vu .none) (pl:vS vl lo) (pu:vS vu hi)
  (hw:¬ (j3 items.size 0 lo=0/\j3 items.size items.size hi=items.size))
  (h:Q (.ref s.heap.objs.size) { s with heap:=s.heap.push { cls:=.type "tuple",data:=.seq ((items.toList.drop (j3 items.size 0 lo)).take (j3 items.size items.size hi-j3 items.size 0 lo)).toArray } })
  (hsz:items.size<=sizeLine):ak (aB prog w) A (mT (.ref t) (.ref sl)) Q E s:=by
 have htake:sizeOk (.seq ((items.toList.drop (j3 items.size 0 lo)).take (j3 items.size items.size hi-j3 items.size 0 lo)).toArray):=by
  show ((items.toList.drop (j3 items.size 0 lo)).take (j3 items.size items.size hi-j3 items.size 0 lo)).toArray.size<=sizeLine;rw [aG,j7,lu,aq];omega
 have hj:j3 items.size items.size hi<=items.size:=Tp _ _ (ar _) hi;obtain ⟨os,hos,hcs,hds⟩:=id hs;have hTs:s.TypeIs (.ref sl) "slice":=⟨os,hos,hcs⟩;unfold mT;try with_reducible refine bW ?_
 first|refine a6 (aa ?_)|skip
 refine a6 (Ae ht.typeIs (by decide) ?_);refine a6 (cF (name:=ir "__getitem__") ht.typeIs cS
  (cx cS ht.typeIs xn ?_ (yf _ _)))
 show ak _ _ (l7 (.ref t) >>= _) _ _ s;refine a6 (K6 ht ?_);refine a6 (iI hTs ?_);rw [if_pos (by decide)];refine a6 (oK hs pl pu ?_);have hno:¬ ((((j3 items.size 0 lo:Nat):Int)==0&&(1:Int)==1&&(j3 items.size items.size hi-j3 items.size 0 lo)==items.size)=true):=by
  intro q;rw [aP,aP] at q;have q1:((j3 items.size 0 lo:Nat):Int)=0:=eq_of_beq q.1.1;have q2:j3 items.size items.size hi-j3 items.size 0 lo=items.size:=eq_of_beq q.2;exact hw ⟨by omega,by omega⟩
 show ak _ _ (if (((j3 items.size 0 lo:Nat):Int)==0&&(1:Int)==1&&(j3 items.size items.size hi-j3 items.size 0 lo)==items.size)=true then _ else _) _ _ s;rw [if_neg hno,Mw];first
  |exact a6 (m:=cG _) (bL (aa ⟨_,rfl,aa h⟩) htake)
  |exact a6 (m:=cG _) (bL (a6 (aa (aa ⟨_,rfl,aa h⟩))) htake)
  |exact a6 (a6 (m:=cG _) (bL (aa (aa ⟨_,rfl,aa h⟩)) htake))
  |exact a6 (a6 (m:=cG _) (bL (aa ⟨_,rfl,aa h⟩) htake))
end
end HT
namespace L2
open PySem PySem.Spec PyProof.Rows
abbrev TO:=St->Hp->(Option Int->Hp->Prop)->Prop
def PO (X:Cx) (e:Option bR) (t:TO):Prop :=
 ∀ (pins:List (ag×Obj)) (s:ah) (σ:St) (H:Hp) (Q:Option Int->Hp->Prop),bG X pins σ H s->t σ H Q ->
  ak (aB X.prog X.w) X.A (evalPart e X.env) (fun u s'=>∃ o H',bG X pins σ H' s'/\vS u o/\Q o H') X.xe s
def Qb:TO:=fun _ H Q=>Q none H
def UV (t:TE):TO:=fun σ H Q=>t σ H fun x H1=>∃ i,x=.int i/\Q (some i) H1
section
variable {X:Cx}{e:bR}{te:TE}{lo hi:Option bR}{tl th:TO}{pos p2:Pos}
theorem Qc:PO X none Qb:=by
 intro pins s σ H Q I h;rw [K7];exact aa ⟨none,H,I,.none,h⟩
theorem Qd (h:PE X e te):PO X (some e) (UV te):=by
 intro pins s σ H Q I hw;rw [evalPart_some];refine fY (h pins s σ H _ I hw) fun u s1 h_29=>?_;obtain ⟨x,H1,I1,r1,q1⟩:=h_29;obtain ⟨i,rfl,q⟩:=q1;obtain ⟨t,rfl⟩:=r1;exact ⟨some i,H1,I1,.int i t,q⟩
def UW (X:Cx) (r:V->Option Int->Option Int->Hp->VK->Prop):Prop :=
 ∀ (pins:List (ag×Obj)) (s:ah) (σ:St) (H:Hp) (x:V) (v vl vu:ae) (lo hi:Option Int) (sl:ag) (Q:VK),bG X pins σ H s->dn x v->s.heap.IsSliceOf sl vl vu .none->vS vl lo->vS vu hi->r x lo hi H Q ->
  ∃ T id,fM (.type T) "__getitem__"=pure (some (.builtin id))/\s.TypeIs v T/\ak (aB X.prog X.w) X.A (mT v (.ref sl)) (EP X pins σ Q) X.xe s
def Yw (r:V->Option Int->Option Int->Hp->VK->Prop) (te:TE) (tl th:TO):TE:=fun σ H Q=>te σ H fun x H1=>tl σ H1 fun l H2=>th σ H2 fun u H3=>r x l u H3 Q
theorem D_ (hr:UW X r) (he:PE X e te) (hl:PO X lo tl) (hu:PO X hi th):PE X (.Subscript e (.Slice lo hi none p2) pos) (Yw r te tl th):=by
 intro pins s σ H Q I h;refine Go (fY (he pins s σ H _ I h) fun v s1 ⟨x,H1,I1,r1,q1⟩=>?_);refine wpAny_Slice (fY (hl pins s1 σ H1 _ I1 q1) fun vl s2 ⟨l,H2,I2,pl,q2⟩=>fY (hu pins s2 σ H2 _ I2 q2) fun vu s3 ⟨u,H3,I3,pu,q3⟩=>?_);rw [K7];refine aa ?_;have I4:bG X pins σ H3 { s3 with heap:=s3.heap.push { cls:=.type "slice",data:=.fields #[vl,vu,.none] } }:=I3.kept (t':=s3.toks) fun b ob q=>ac _ q;obtain ⟨T,id,hT,ht,hg⟩:=hr pins { s3 with heap:=s3.heap.push { cls:=.type "slice",data:=.fields #[vl,vu,.none] } } σ H3 x v vl vu l u s3.heap.objs.size Q I4 r1 (Aa ..) pl pu q3;show ak (aB X.prog X.w) X.A (xN e (.Slice lo hi none p2) v (.ref s3.heap.objs.size)) (EP X pins σ Q) X.xe { s3 with heap:=s3.heap.push { cls:=.type "slice",data:=.fields #[vl,vu,.none] } };exact tail_any (ops:=[.ref s3.heap.objs.size,v]) ht hT hg (by with_unfolding_all rfl)
def xw (xs:List V) (lo hi:Option Int):List V:=(xs.drop (HT.j3 xs.length 0 lo)).take (HT.j3 xs.length xs.length hi-HT.j3 xs.length 0 lo)
theorem wU (xs:List V) (lo hi:Option Int):(xw xs lo hi).length<=xs.length:=by
 unfold xw;rw [j7,lu];omega
def X7 (K:a7):V->Option Int->Option Int->Hp->VK->Prop:=fun x lo hi H Q=>∃ a xs,x=.ref a/\lz K H a xs /\
 ¬ (HT.j3 xs.length 0 lo=0/\HT.j3 xs.length xs.length hi=xs.length)/\∀ p,H p=none->Q (.ref p) (upd H p (.tup (xw xs lo hi)))
theorem Tq:UW X (X7 X.K):=by
 intro pins s σ H x v vl vu lo hi sl Q I rx hs pl pu h;obtain ⟨a,xs,rfl,hx,hw,q⟩:=h;cases rx;obtain ⟨its,r,ht,hz⟩:=I.tuple hx;have hlen:its.toArray.size=xs.length:=by rw [aG];exact r.length.symm
 refine ⟨"tuple",_,PyProof.Rows.slot_tuple_getitem.lookup,ht.typeIs,?_⟩;refine HT.uW ht hs pl pu (by rw [hlen];exact hw) ?_ (by rw [hlen];exact hz);rw [hlen];refine ⟨.ref s.heap.objs.size,_,I.laid (t':=s.toks) (o:=.tup (xw xs lo hi)) (fun b ob q=>ac _ q) (ar _) ?_,rfl,q _ (I.hok.fresh (ar _))⟩;exact ⟨bD (wU xs lo hi) hz,_,(r.drop (HT.j3 xs.length 0 lo)).take (HT.j3 xs.length xs.length hi-HT.j3 xs.length 0 lo),tj _ _⟩
inductive Mx (K:a7) (x:V) (y:V) (H:Hp) (Q:VK):Prop
 |mk (a b xs ys:_) (h0:x=.ref a) (h1:y=.ref b) (h2:lz K H a xs) (h3:lz K H b ys) (h4:xs≠[]) (h5:xs.length+ys.length<=sizeLine) (h6:(ys=[]->Q (.ref a) H)) (h7:(ys≠[]->∀ p,H p=none->Q (.ref p) (upd H p (.tup (xs++ys))))):Mx K x y H Q
def UX (K:a7):R2:=Mx K
theorem cV.nil_iff  (r:cV xs us):us=[]↔xs=[]:=by
 cases r with
 |nil=>simp
 |cons _ _=>simp
theorem Qe:oG X (eW .Add) (UX X.K):=by
 intro pins s σ H x y v u Q I rx ry h;obtain ⟨a,b,xs,ys,rfl,rfl,ha,hb,hx,hz,q1,q2⟩:=h;cases rx;cases ry;obtain ⟨its,r1,p1,_⟩:=I.tuple ha;obtain ⟨its2,r2,p2,_⟩:=I.tuple hb;refine HT.Qa p1 p2 (fun z=>hx (r1.nil_iff.mp z)) (fun z=>⟨.ref a,H,I,rfl,q1 (r2.nil_iff.mp z)⟩) (fun z=>?_) (by rw [<- r1.length,<- r2.length];exact hz);refine ⟨.ref s.heap.objs.size,_,I.laid (t':=s.toks) (o:=.tup (xs++ys)) (fun b ob q=>ac _ q) (ar _) ?_,rfl,q2 (fun w=>z (r2.nil_iff.mpr w)) _ (I.hok.fresh (ar _))⟩;exact ⟨by rw [aJ];exact hz,_,r1.append r2,tj _ _⟩
end
end L2
namespace L2
open PySem PySem.Spec PyProof.Rows
def RP (n:Nat) (i:Int):Option Nat:=if 0<=i then (if i<n then some i.toNat else none) else if -(n:Int)<=i then some (i+n).toNat else none
def DP {α:Type} (xs:List α) (i:Int):Option α:=(RP xs.length i).bind fun j=>xs[j]?
theorem Qf   (h:RP n i=some j):seqIndex? i n=some j/\j<n/\-(n:Int)<=i/\i<n:=by
 unfold RP at h;by_cases h0:0<=i
 ·rw [if_pos h0] at h;by_cases h1:i<n
  ·rw [if_pos h1] at h;have e:i.toNat=j:=bx h;exact ⟨by rw [seqIndex_of h0 h1,e],by omega,by omega,h1⟩
  ·rw [if_neg h1] at h;cases h
 ·rw [if_neg h0] at h;by_cases h1:-(n:Int)<=i
  ·rw [if_pos h1] at h;have e:(i+n).toNat=j:=bx h;exact ⟨by rw [seqIndex_neg (by omega) h1,e],by omega,h1,by omega⟩
  ·rw [if_neg h1] at h;cases h
theorem Ch {α:Type}{xs:List α}{i:Int}{v:α} (h:DP xs i=some v):∃ j,seqIndex? i xs.length=some j/\xs[j]?=some v/\j<xs.length/\-(xs.length:Int)<=i/\i<xs.length:=by
 unfold DP at h;cases e:RP xs.length i with
 |none=>rw [e] at h;cases h
 |some j =>
  rw [e] at h;obtain ⟨h1,h2,h3,h4⟩:=Qf e;exact ⟨j,h1,h,h2,h3,h4⟩
theorem pC {α:Type}{xs:List α}{j:Nat}{v:α} (h:xs[j]?=some v):DP xs (j:Int)=some v:=by
 have hj:j<xs.length:=(List.getElem?_eq_some_iff.mp h).1;have e:RP xs.length (j:Int)=some j:=by
  unfold RP;rw [if_pos (by omega),if_pos (by omega)];simp
 unfold DP;rw [e];exact h
def xQ (b:bR):Prop:=∀ o i,DL b false o i=operate [o,i] (mT o i)
def UY (X:Cx) (r:R2):Prop :=
 ∀ (value slice:bR) (pins:List (ag×Obj)) (s:ah) (σ:St) (H:Hp) (x y:V) (v u:ae) (Q:VK),bG X pins σ H s->dn x v->dn y u->r x y H Q ->
  DL slice false v u=operate [v,u] (mT v u)->ak (aB X.prog X.w) X.A (xN value slice v u) (EP X pins σ Q) X.xe s
def X8 (X:Cx) (id:String) (r:V->List V->Hp->VK->Prop):Prop :=
 ∀ (pins:List (ag×Obj)) (s:ah) (σ:St) (H:Hp) (x:V) (xs:List V) (v:ae) (us:List ae) (Q:VK),bG X pins σ H s->dn x v->cV xs us->r x xs H Q ->
  ak (aB X.prog X.w) X.A (call (.builtin id) (v::us)) (EP X pins σ Q) X.xe s
section
variable {X:Cx}{a b:bR}{ta tb:TE}{pos:Pos}
theorem RQ (hr:UY X r) (ha:PE X a ta) (hb:PE X b tb) (hs:xQ b):PE X (.Subscript a b pos) (UM r ta tb):=by
 intro pins s σ H Q I h;exact Go (Td ha hb I h fun v u s2 x y H2 I2 rx ry q=>hr a b pins s2 σ H2 x y v u Q I2 rx ry q (hs _ _))
inductive RS (K:a7) (x:V) (y:V) (H:Hp) (Q:VK):Prop
 |mk (p xs i v:_) (h0:x=.ref p) (h1:y=.int i) (h2:mV K H p xs) (h3:DP xs i=some v) (h4:Q v H):RS K x y H Q
def UZ (K:a7):R2:=RS K
inductive RT (K:a7) (x:V) (y:V) (H:Hp) (Q:VK):Prop
 |mk (p xs i v:_) (h0:x=.ref p) (h1:y=.int i) (h2:lz K H p xs) (h3:DP xs i=some v) (h4:Q v H):RT K x y H Q
def X9 (K:a7):R2:=RT K
inductive RU (x:V) (y:V) (H:Hp) (Q:VK):Prop
 |mk (z i c:_) (h0:x=.str z) (h1:y=.int i) (h2:z.length<=sizeLine) (h3:DP z.cps.toList i=some c) (h4:Q (.str ⟨#[c]⟩) H):RU  x y H Q
def Xa:R2:=RU
theorem pE:UY X (UZ X.K):=by
 intro value slice pins s σ H x y v u Q I rx ry h hs;obtain ⟨p,xs,i,z,rfl,rfl,hq,he,q⟩:=h;cases rx;obtain ⟨t,rfl⟩:=ry;obtain ⟨its,r,pl,hz⟩:=I.list hq;obtain ⟨j,h1,h2,h3,h4,h5⟩:=Ch he;obtain ⟨w,ew,rw'⟩:=r.get h2;have hl:=r.length;have hn:=yu;have fin:EP X pins σ Q w s:=⟨z,H,I,rw',q⟩;by_cases h0:0<=i
 ·have hj:i.toNat=j:=by
   rw [seqIndex_of h0 h5] at h1;exact bx h1
  exact item_listR pl.isList h0 (by omega) (by rw [hj];simpa using ew) fin hs
 ·have hj:(i+(its.toArray.size:Int)).toNat=j:=by
   rw [seqIndex_neg (by omega) h4] at h1;rw [aG,<- hl];exact bx h1
  exact M0 (x:=w) pl.isList.typeIs slot_list_getitem.lookup
   (wpAny_getItem_list_neg (Q:=fun r s'=>r=w/\EP X pins σ Q r s') pl.isList (by omega) (by rw [aG]<;>omega) (by omega) (by rw [hj];simpa using ew) ⟨rfl,fin⟩) hs
theorem Tr:UY X (X9 X.K):=by
 intro value slice pins s σ H x y v u Q I rx ry h hs;obtain ⟨p,xs,i,z,rfl,rfl,hq,he,q⟩:=h;cases rx;obtain ⟨t,rfl⟩:=ry;obtain ⟨its,r,pl,hz⟩:=I.tuple hq;obtain ⟨j,h1,h2,h3,h4,h5⟩:=Ch he;obtain ⟨w,ew,rw'⟩:=r.get h2;have hl:=r.length;have hn:=yu;have fin:EP X pins σ Q w s:=⟨z,H,I,rw',q⟩;exact M0 (x:=w) pl.typeIs slot_tuple_getitem.lookup
  (getItem_tuple (j:=j) (Q:=fun r s'=>r=w/\EP X pins σ Q r s') pl (by omega) (by omega) (by rw [aG,<- hl];exact h1) (by simpa using ew) ⟨rfl,fin⟩) hs
theorem Tt:UY X Xa:=by
 intro value slice pins s σ H x y v u Q I rx ry h hs;obtain ⟨z,i,c,rfl,rfl,hz,he,q⟩:=h;obtain ⟨t,rfl⟩:=rx;obtain ⟨t',rfl⟩:=ry;obtain ⟨j,h1,h2,h3,h4,h5⟩:=Ch he;have hl:z.cps.toList.length=z.length:=by simp [Str.length]
 rw [hl] at h1 h4 h5;have hn:=yu;exact tail_any (typeIs_str s z t) slot_str_getitem.lookup (getItem_str (c:=c) (by
  have e1:decide (i < -(2 ^ 63:Int))=false:=decide_eq_false (by omega);have e2:decide (i ≥ 2 ^ 63)=false:=decide_eq_false (by omega);rw [e1,e2,Bool.or_false]) (by rw [h1];simpa using h2) ⟨.str ⟨#[c]⟩,H,I.tok _,⟨_,rfl⟩,q⟩) hs
theorem Ci (lo hi:Option Int) (n:Nat):(mX lo hi none n).1=((HT.j3 n 0 lo:Nat):Int)/\(mX lo hi none n).2.1=((HT.j3 n n hi:Nat):Int)/\(mX lo hi none n).2.2=1:=by
 refine ⟨?_,?_,rfl⟩
 ·cases lo with
  |none=>simp [mX,HT.j3]
  |some i =>
   simp only [mX,HT.j3,gW,show (1:Int) > 0 by decide,if_true];by_cases h:i<0
   ·simp only [h,if_true]<;>omega
   ·simp only [h,if_false]<;>omega
 ·cases hi with
  |none=>simp [mX,HT.j3]
  |some i =>
   simp only [mX,HT.j3,gW,show (1:Int) > 0 by decide,if_true];by_cases h:i<0
   ·simp only [h,if_true]<;>omega
   ·simp only [h,if_false]<;>omega
theorem Ar (its:List ae) (lo hi:Option Int):slicePick its.toArray lo hi none=((its.drop (HT.j3 its.length 0 lo)).take (HT.j3 its.length its.length hi-HT.j3 its.length 0 lo)).toArray:=by
 obtain ⟨h1,h2,h3⟩:=Ci lo hi its.toArray.size;unfold slicePick;rw [h1,h2,h3];simp only [sliceRange_one,pick_run,aG]<;>rfl
def Xb (K:a7):V->Option Int->Option Int->Hp->VK->Prop:=fun x lo hi H Q=>∃ a xs,x=.ref a/\mV K H a xs/\∀ p,H p=none->Q (.ref p) (upd H p (.lst (xw xs lo hi)))
theorem IJ:UW X (Xb X.K):=by
 intro pins s σ H x v vl vu lo hi sl Q I rx hs pl pu h;obtain ⟨a,xs,rfl,hx,q⟩:=h;cases rx;obtain ⟨its,r,ht,hz⟩:=I.list hx;have hlen:=r.length;refine ⟨"list",_,slot_list_getitem.lookup,ht.isList.typeIs,?_⟩;refine wpAny_getItem_list_slice ht.isList hs pl pu .none (by simp) ?_ (by rw [aG]<;>omega);rw [Ar,<- hlen];refine ⟨.ref s.heap.objs.size,_,I.laid (t':=s.toks) (o:=.lst (xw xs lo hi)) (fun b ob q=>ac _ q) (ar _) ?_,rfl,q _ (I.hok.fresh (ar _))⟩;exact ⟨bD (wU xs lo hi) hz,_,0,(r.drop (HT.j3 xs.length 0 lo)).take (HT.j3 xs.length xs.length hi-HT.j3 xs.length 0 lo),aF _ rfl⟩
def qY:V->Bool
 |.non=>true
 |.bl _=>true
 |.int _=>true
 |.str _=>true
 |_=>false
def Qg:V->V->Bool
 |.non,.non=>true
 |.bl a,.bl b=>a==b
 |.bl a,.int b=>(if a then 1 else 0)==b
 |.int a,.bl b=>a==(if b then 1 else 0)
 |.int a,.int b=>a==b
 |.str a,.str b=>a==b
 |_,_=>false
theorem Tu    (ry:dn y u) (rx:dn x v) (fy:qY y=true) (fx:qY x=true):K8 A s u v (Qg y x):=by
 cases y with
 |non =>
  cases ry;cases x with
  |non=>cases rx;exact SeqAt.EqAt.same _
  |bl b=>cases rx;exact SeqAt.EqAt.none_bool b
  |int b=>obtain ⟨t,rfl⟩:=rx;exact SeqAt.EqAt.none_int b t
  |str b=>obtain ⟨t,rfl⟩:=rx;exact SeqAt.EqAt.none_str b t
  |_=>exact absurd (show false=true from fx) aL
 |bl a =>
  cases ry;cases x with
  |non=>cases rx;exact SeqAt.EqAt.bool_none a
  |bl b=>cases rx;exact AV a b
  |int b=>obtain ⟨t,rfl⟩:=rx;exact SeqAt.EqAt.bool_int a b t
  |str b=>obtain ⟨t,rfl⟩:=rx;exact SeqAt.EqAt.bool_str a b t
  |_=>exact absurd (show false=true from fx) aL
 |int a =>
  obtain ⟨t',rfl⟩:=ry;cases x with
  |non=>cases rx;exact SeqAt.EqAt.int_none a t'
  |bl b=>cases rx;exact SeqAt.EqAt.int_bool a t' b
  |int b=>obtain ⟨t,rfl⟩:=rx;exact SeqAt.EqAt.int_int a t' b t
  |str b=>obtain ⟨t,rfl⟩:=rx;exact DG a t' b t
  |_=>exact absurd (show false=true from fx) aL
 |str a =>
  obtain ⟨t',rfl⟩:=ry;cases x with
  |non=>cases rx;exact SeqAt.EqAt.str_none a t'
  |bl b=>cases rx;exact SeqAt.EqAt.str_bool a t' b
  |int b=>obtain ⟨t,rfl⟩:=rx;exact DH a t' b t
  |str b=>obtain ⟨t,rfl⟩:=rx;exact SeqAt.EqAt.str_str a t' b t
  |_=>exact absurd (show false=true from fx) aL
 |_=>exact absurd (show false=true from fy) aL
def GQ (x:V) (u:ae):Bool:=match u with
 |.none=>Qg .non x
 |.bool b=>Qg (.bl b) x
 |.int i _=>Qg (.int i) x
 |.str z _=>Qg (.str z) x
 |_=>false
theorem My  (r:dn y u) (f:qY y=true):GQ x u=Qg y x:=by
 cases y with
 |non=>cases r;rfl
 |bl b=>cases r;rfl
 |int i=>obtain ⟨t,rfl⟩:=r;rfl
 |str z=>obtain ⟨t,rfl⟩:=r;rfl
 |_=>exact absurd (show false=true from f) aL
theorem uX:∀ {xs:List V}{us:List ae},cV xs us->xs.all qY=true->us.any (GQ x)=xs.any fun y=>Qg y x
 |_,_,.nil,_=>rfl
 |y::xs,u::us,.cons r t,f=>by
  rw [uQ,aP] at f;rw [fN,fN,My r f.1,uX t f.2]
theorem qZ    (rx:dn x v) (fx:qY x=true):∀ {xs:List V}{us:List ae},cV xs us->xs.all qY=true->∀ u∈us,K8 A s u v (GQ x u)
 |_,_,.nil,_=>fun u hu=>by cases hu
 |y::xs,u::us,.cons r t,f=>fun u' hu=>by
  rw [uQ,aP] at f;rcases List.mem_cons.mp hu with rfl|hu
  ·rw [My r f.1];exact Tu r rx f.1 fx
  ·exact qZ rx fx t f.2 u' hu
def Wu (x:V) (xs:List V):Bool:=xs.any fun y=>Qg y x
inductive U_ (K:a7) (neg:Bool) (x:V) (y:V) (H:Hp) (Q:VK):Prop
 |mk (p xs:_) (h0:y=.ref p) (h1:(mV K H p xs\/lz K H p xs)) (h2:qY x=true) (h3:xs.all qY=true) (h4:Q (.bl (if neg then !Wu x xs else Wu x xs)) H):U_ K neg x y H Q
def Xc (K:a7) (neg:Bool):R2:=U_ K neg
theorem Kq:oG X (bO .In) (Xc X.K false):=by
 intro pins s σ H x y v u Q I rx ry h;obtain ⟨p,xs,rfl,hq,fx,fs,q⟩:=h;cases ry;rcases hq with hq|hq
 ·obtain ⟨its,r,pl,hz⟩:=I.list hq;refine SeqAt.in_listAt (GQ x) pl.isList (fun w hw=>qZ rx fx r fs w (by simpa using hw)) ⟨.bl _,H,I,rfl,?_⟩;rw [show its.toArray.any (GQ x)=its.any (GQ x) by simp,uX r fs];exact q
 ·obtain ⟨its,r,pl,hz⟩:=I.tuple hq;refine SeqAt.in_tupleAt (GQ x) pl (fun w hw=>qZ rx fx r fs w (by simpa using hw)) ⟨.bl _,H,I,rfl,?_⟩;rw [show its.toArray.any (GQ x)=its.any (GQ x) by simp,uX r fs];exact q
theorem Cj:oG X (bO .NotIn) (Xc X.K true):=by
 intro pins s σ H x y v u Q I rx ry h;obtain ⟨p,xs,rfl,hq,fx,fs,q⟩:=h;cases ry;rcases hq with hq|hq
 ·obtain ⟨its,r,pl,hz⟩:=I.list hq;refine SeqAt.notIn_listAt (GQ x) pl.isList (fun w hw=>qZ rx fx r fs w (by simpa using hw)) ⟨.bl _,H,I,rfl,?_⟩;rw [show its.toArray.any (GQ x)=its.any (GQ x) by simp,uX r fs];exact q
 ·obtain ⟨its,r,pl,hz⟩:=I.tuple hq;refine SeqAt.notIn_tupleAt (GQ x) pl (fun w hw=>qZ rx fx r fs w (by simpa using hw)) ⟨.bl _,H,I,rfl,?_⟩;rw [show its.toArray.any (GQ x)=its.any (GQ x) by simp,uX r fs];exact q
theorem uY:ja X (.builtin "len") (fun xs H Q=>∃ p ys,xs=[.ref p]/\(mV X.K H p ys\/lz X.K H p ys)/\Q (.int ys.length) H):=by
 intro pins s σ H xs us Q I r h;obtain ⟨p,ys,rfl,hq,q⟩:=h;obtain ⟨u,rfl,rx⟩:=jU r;cases rx;have hn:=yu;rcases hq with hq|hq
 ·obtain ⟨its,r',pl,hz⟩:=I.list hq;have hlen:=r'.length;exact Calls.call_len_list pl.isList (by simp only [aG]<;>omega) ⟨.int ys.length,H,I.tok _,⟨s.toks+1,by rw [aG,hlen]⟩,q⟩
 ·obtain ⟨its,r',pl,hz⟩:=I.tuple hq;have hlen:=r'.length;exact len_tuple pl (by simp only [aG]<;>omega) ⟨.int ys.length,H,I.tok _,⟨s.toks+1,by rw [aG,hlen]⟩,q⟩
theorem Ck:ja X (.builtin "len") (fun xs H Q=>∃ z,xs=[.str z]/\z.length<=sizeLine/\Q (.int z.length) H):=by
 intro pins s σ H xs us Q I r h;obtain ⟨z,rfl,hz,q⟩:=h;obtain ⟨u,rfl,t,rfl⟩:=jU r;have hn:=yu;exact len_str (by omega) ⟨.int z.length,H,I.tok _,⟨_,rfl⟩,q⟩
theorem uZ:ja X (.type "list") (fun xs H Q=>∃ p ys,xs=[.ref p]/\(mV X.K H p ys\/lz X.K H p ys)/\∀ l,H l=none->Q (.ref l) (upd H l (.lst ys))):=by
 intro pins s σ H xs us Q I r h;obtain ⟨p,ys,rfl,hq,q⟩:=h;obtain ⟨u,rfl,rx⟩:=jU r;cases rx;have fin:∀ (its:List ae),cV ys its->ys.length<=sizeLine->∀ (h':bw) (c':Nat),(∀ b o',s.heap.get? b=some o'->h'.get? b=some o') ->
   h'.get? s.heap.objs.size=some { cls:=.type "list",dict:=none,data:=.seq its.toArray c',slots:=#[] }->EP X pins σ Q (.ref s.heap.objs.size) { s with heap:=h' }:=fun its r' hz h' c' kp e =>
  ⟨.ref s.heap.objs.size,_,I.laid (t':=s.toks) kp (ar _) (show de X.prog X.w _ h' _ (.lst ys) from ⟨hz,its,c',r',e⟩),rfl,q _ (I.hok.fresh (ar _))⟩
 rcases hq with hq|hq
 ·obtain ⟨its,r',pl,hz⟩:=I.list hq;have hlen:=r'.length;obtain ⟨o,ho,hc,n,hd⟩:=pl.isList;exact call_list_seq p (.inl rfl) ho hc hd (fun h' c' kp e=>fin its r' hz h' c' kp e) (by simp only [aG]<;>omega)
 ·obtain ⟨its,r',pl,hz⟩:=I.tuple hq;have hlen:=r'.length;obtain ⟨o,ho,hc,n,hd⟩:=pl;exact call_list_seq p (.inr rfl) ho hc hd (fun h' c' kp e=>fin its r' hz h' c' kp e) (by simp only [aG]<;>omega)
theorem tF:ja X (.type "tuple") (fun xs H Q=>∃ p ys,xs=[.ref p]/\((mV X.K H p ys/\∀ l,H l=none->Q (.ref l) (upd H l (.tup ys)))\/(lz X.K H p ys/\Q (.ref p) H))):=by
 intro pins s σ H xs us Q I r h;obtain ⟨p,ys,rfl,h⟩:=h;obtain ⟨u,rfl,rx⟩:=jU r;cases rx;rcases h with ⟨hq,q⟩|⟨hq,q⟩
 ·obtain ⟨its,r',pl,hz⟩:=I.list hq;have hlen:=r'.length;refine call_tuple_list pl.isList (fun h' kp=>?_) (by simp only [aG]<;>omega);have I1:bG X pins σ H { s with heap:=h' }:=I.kept (t':=s.toks) kp;have I2:bG X pins σ (upd H h'.objs.size (.tup ys)) { s with heap:=h'.push { cls:=.type "tuple",data:=.seq its.toArray } } :=
   I1.laid (t':=s.toks) (fun b o e=>ac _ e) (ar _) (show de X.prog X.w _ _ _ (.tup ys) from ⟨hz,its,r',tj _ _⟩)
  exact ⟨.ref h'.objs.size,_,I2,rfl,q _ (I1.hok.fresh (ar _))⟩
 ·obtain ⟨its,r',pl,hz⟩:=I.tuple hq;exact call_tuple_same pl ⟨.ref p,H,I,rfl,q⟩
def Y3 (K:a7) (T:String) (x:V) (H:Hp):Prop:=match x with
 |.str _=>T="str"
 |.int _=>T="int"
 |.ref p=>(T="list"/\∃ xs,mV K H p xs)\/(T="tuple"/\∃ o,K.lookup p=some o/\o.cls=.type "tuple"/\o.dict=none) \/
   (T="dict"/\((∃ kvs,H p=some (.dK kvs))\/∃ kvs,H p=some (.dT kvs)))\/(T="set"/\∃ S n,H p=some (.set S n))
 |_=>False
theorem Tv       (I:bG X pins σ H s) (r:dn x v) (ty:Y3 X.K T x H) :
  s.TypeIs v T/\∀ a,v=.ref a->∃ ob,s.heap.get? a=some ob/\ob.dict=none:=by
 cases x with
 |str z =>
  obtain ⟨t,rfl⟩:=r;cases (show T="str" from ty);exact ⟨typeIs_str s z t,fun _ e=>nomatch e⟩
 |int i =>
  obtain ⟨t,rfl⟩:=r;cases (show T="int" from ty);exact ⟨typeIs_int s i t,fun _ e=>nomatch e⟩
 |ref p =>
  cases r;rcases ty with ⟨rfl,xs,hq⟩|⟨rfl,o,hk,hc,hd⟩|⟨rfl,hk⟩|⟨rfl,S,n,hk⟩
  ·obtain ⟨its,_,pl,_⟩:=I.list hq;refine ⟨pl.isList.typeIs,fun a e=>?_⟩;cases e;obtain ⟨o,n,e,c,hd,_⟩:=pl;exact ⟨o,e,hd⟩
  ·refine ⟨⟨o,I.kIn p o hk,hc⟩,fun a e=>?_⟩;cases e;exact ⟨o,I.kIn _ o hk,hd⟩
  ·have z:∃ o,s.heap.get? p=some o/\o.ExactDict:=by
    rcases hk with ⟨kvs,hk⟩|⟨kvs,hk⟩
    ·obtain ⟨_,_,_,_,o,_,_,e,ex,_⟩:=I.hok p _ hk;exact ⟨o,e,ex⟩
    ·obtain ⟨_,_,_,_,o,_,_,e,ex,_⟩:=I.hok p _ hk;exact ⟨o,e,ex⟩
   obtain ⟨o,e,ex⟩:=z;refine ⟨⟨o,e,ex.1⟩,fun a e2=>?_⟩;cases e2;exact ⟨o,e,ex.2.1⟩
  ·obtain ⟨o,_,_,_,e,ex,_⟩:=I.hok p _ hk;refine ⟨⟨o,e,ex.1⟩,fun a e2=>?_⟩;cases e2;exact ⟨o,e,ex.2.1⟩
 |_=>exact eN ty
def Yx (K:a7) (T:String) (r:V->List V->Hp->VK->Prop) (to:TE) (t:TA):TE:=fun σ H Q=>to σ H fun x H1=>Y3 K T x H1/\t σ H1 fun xs H2=>r x xs H2 Q
variable {o e:bR}{es:List bR}{to:TE}{t:TA}{name:Str}{apos cpos:Pos}{T id:String}{r:V->List V->Hp->VK->Prop}
theorem yx (pa:PlainAttrs T) (slot:Slot T name id) (hty:typeOf (.builtin id)=pure (.type "method_descriptor")) (hm:X8 X id r) (ho:PE X o to) (ha:PA X (e::es) t)
  (hbase:kf o name X.env (cL o X.env)=cL o X.env:=by rfl)
  (hfew:((gm cpos (aA (e::es) X.env)).all (fun x=>!x.1)&&(Ps cpos (DM [] X.env)).all (fun x=>x.1.isSome)
   && decide ((e::es).length+([] : List wO).length+(if ([] : List wO).isEmpty then 0 else 1)<30))=true:=by rfl)
  (hline:(apos.endLine==cpos.line)=true:=by rfl) (hs:aA (e::es) X.env=(false,cL e X.env)::aA es X.env:=by rfl) (hplain:(gm cpos (aA es X.env)).any (·.1)=false:=by rfl) :
  PE X (.Call (.Attribute o name apos) (e::es) [] cpos) (Yx X.K T r to t):=by
 intro pins s σ H Q I h;refine wpAny_Call_method_late hbase hfew hline rfl (fY (ho pins s σ H _ I h) fun v s1 ⟨x,H1,I1,r1,ty,q1⟩=>?_);obtain ⟨h1,h2⟩:=Tv I1 r1 ty;refine ⟨T,id,pa,slot,hty,h1,h2,?_⟩;have hA:=ha cpos pins s1 σ H1 _ I1 q1;rw [hs] at hA ⊢;refine Calls.callWith_builtin (by show (false||(gm cpos (aA es X.env)).any (·.1))=false;rw [hplain]<;>rfl) (lF ?_);exact fY hA fun us s2 h_30=>by obtain ⟨vs,H2,I2,r2,q2⟩:=h_30;exact hm pins s2 σ H2 x vs v us Q I2 r1 r2 q2
end
end L2
namespace L2
open PySem PySem.Spec PyProof.Rows
def Xd (X:Cx) (id:String) (r:V->List V->Hp->VK->Prop):Prop :=
 ∀ (pins:List (ag×Obj)) (s:ah) (σ:St) (H:Hp) (x:V) (xs:List V) (v:ae) (us:List ae) (Q:VK),bG X pins σ H s->dn x v->cV xs us->r x xs H Q ->
  ak (aB X.prog X.w) X.A (call (.builtin id) (v::us)) (EP X pins σ Q) X.xe s
theorem cV.one  (h:cV [x] us):∃ u,us=[u]/\dn x u:=by
 cases h with|cons r t=>cases t;exact ⟨_,rfl,r⟩
theorem cV.rep  (h:cV xs us):∀ k:Nat,cV (bc k xs).flatten (bc k us).flatten
 | 0=>.nil
 |k+1=>by
  rw [cU,cU,gP,gP];exact cV.append h (cV.rep h k)
theorem Ba (its:List ae):∀ (k:Nat) (acc:List ae),
  LM (fun x1 x2=>x1++x2) acc.toArray (bc k its.toArray)=(acc++(bc k its).flatten).toArray
 | 0,acc=>by simp
 |k+1,acc=>by
  have e:acc.toArray++its.toArray=(acc++its).toArray:=by simp
  have e2:(acc++its)++(bc k its).flatten=acc++(bc (k+1) its).flatten:=by
   rw [cU,gP,kr]
  rw [<- e2,<- Ba its k (acc++its),<- e,cU,m5]
section
theorem bG.lset {its its':List ae}{n:Nat}{f:Array ae->Array ae}{t':Nat} (I:bG X pins σ H s) (hH:H l=some (.lst xs))
  (e:s.heap.get? l=some { cls:=.type "list",data:=.seq its.toArray n }) (hf:f its.toArray=its'.toArray) (hv:cV ys its') (hz:ys.length<=sizeLine) :
  bG X pins σ (upd H l (.lst ys)) { s with heap:=s.heap.update l (jP f),toks:=t' }:=by
 have q:=PySem.IsL.update e f;rw [hf] at q;refine I.write (x:=l) (e:=l) (by rw [hH];exact trivial) (.inl rfl) (fun b' u hb hu=>(qJ s.heap (jP f) (dq hb)).trans hu) ⟨_,q⟩ ?_;exact ⟨hz,its',_,hv,q⟩
theorem bG.lnew  (I:bG X pins σ H s) (hv:cV ys its) (hz:ys.length<=sizeLine) :
  bG X pins σ (upd H s.heap.objs.size (.lst ys)) { s with heap:=s.heap.push { cls:=.type "list",data:=.seq its.toArray },toks:=t' } :=
 I.laid (fun _ _ q=>ac _ q) (ar _) ⟨hz,its,0,hv,aF _ rfl⟩
theorem bG.fresh (I:bG X pins σ H s):H s.heap.objs.size=none:=I.hok.fresh (ar _)
theorem bG.lstM (I:bG X pins σ H s) (hH:H l=some (.lst xs)):Y0 s.heap l xs:=by
 obtain ⟨z,its,n,r,e⟩:=I.hok l _ hH;exact ⟨z,its,n,r,r.length,e⟩
theorem yy (h:n<=sizeLine):g6 n=false:=by
 unfold g6;exact decide_eq_false (by omega)
end
section
inductive E2 (x:V) (vs:List V) (H:Hp) (Q:VK):Prop
 |mk (l xs y:_) (h0:x=.ref l) (h1:vs=[y]) (h2:H l=some (.lst xs)) (h3:xs.length<sizeLine) (h4:Q .non (upd H l (.lst (xs++[y])))):E2  x vs H Q
def Qh:V->List V->Hp->VK->Prop:=E2
theorem Bb:Xd X "list.append" Qh:=by
 intro pins s σ H x vs v us Q I rx rv h;obtain ⟨l,xs,y,rfl,rfl,hH,hz,q⟩:=h;cases rx;obtain ⟨u,rfl,ru⟩:=rv.one;obtain ⟨z,its,n,r,hl,e⟩:=I.lstM hH;refine mj F.slot_list_append ⟨_,e,rfl⟩ F.entry_list_append (F.args_list_append_2 _ _) (PySem.list_append l its.toArray n u (by rw [aG];omega)) ⟨e,?_⟩;refine ⟨.non,_,I.lset (its':=its++[u]) hH e (by simp) (r.append (.cons ru .nil)) ?_,rfl,q⟩;rw [aJ,iB];omega
inductive E3 (x:V) (vs:List V) (H:Hp) (Q:VK):Prop
 |mk (l b xs zs:_) (h0:x=.ref l) (h1:vs=[.ref b]) (h2:H l=some (.lst xs)) (h3:H b=some (.lst zs)) (h4:xs.length+zs.length<=sizeLine) (h5:Q .non (upd H l (.lst (xs++zs)))):E3  x vs H Q
def Qi:V->List V->Hp->VK->Prop:=E3
theorem Bc:Xd X "list.extend" Qi:=by
 intro pins s σ H x vs v us Q I rx rv h;obtain ⟨l,b,xs,zs,rfl,rfl,hH,hB,hz,q⟩:=h;cases rx;obtain ⟨u,rfl,ru⟩:=rv.one;cases ru;obtain ⟨z,its,n,r,hl,e⟩:=I.lstM hH;obtain ⟨z2,its2,n2,r2,hl2,e2⟩:=I.lstM hB;have hsz:its.toArray.size+its2.toArray.size<=sizeLine:=by rw [aG,aG];omega
 have hlong:¬ (!its.toArray.isEmpty&&g6 (its.toArray.size+its2.toArray.size))=true:=by
  rw [yy hsz,iY];exact aL
 refine mj Pt ⟨_,e,rfl⟩ Ph (M1 _ _)
  (AutoSeq1.list_extend_list_list_0 l its.toArray n b its2.toArray n2 hlong (by rw [aG];omega) (by omega)) ⟨e,e2,?_⟩
 refine ⟨.non,_,I.lset (its':=its++its2) hH e (by simp) (r.append r2) ?_,rfl,q⟩;rw [aJ];omega
def Xe:R2:=fun x y H Q=>∃ l k xs,x=.ref l/\y=.int k/\H l=some (.lst xs)/\-(2 ^ 63)<=k/\k<2 ^ 63/\xs.length*k.toNat<=sizeLine /\
 ∀ p,H p=none->Q (.ref p) (upd H p (.lst (bc k.toNat xs).flatten))
theorem Qj {α:Type} (xs:List α) (k:Nat):(bc k xs).flatten.length=k*xs.length:=by
 induction k with
 |zero=>simp
 |succ k ih=>rw [cU,gP,aJ,ih,Nat.succ_mul,Nat.add_comm]
theorem Mz:oG X (eW .Mult) Xe:=by
 intro pins s σ H x y v u Q I rx ry h;obtain ⟨l,k,xs,rfl,rfl,hH,h1,h2,hz,q⟩:=h;cases rx;obtain ⟨t,rfl⟩:=ry;obtain ⟨z,its,n,r,hl,e⟩:=I.lstM hH;have hlen:its.toArray.size*k.toNat<=sizeLine:=by rw [aG,<- hl];exact hz
 have hcap:¬ its.toArray.size*k.toNat > (2 ^ 63-1) / 8:=by
  have:(sizeLine:Nat)<=(2 ^ 63-1) / 8:=by decide
  omega
 have hfit:¬ (!Builtin.List.listFitsIndex k)=true:=by
  rw [fitsIndex_both h1 h2];exact aL
 have hlong:¬ g6 (its.toArray.size*k.toNat)=true:=by
  rw [yy hlen];exact aL
 have hnew:LM (fun x1 x2=>x1++x2) #[] (bc (if its.toArray.isEmpty=true then 0 else k.toNat) its.toArray)=(bc k.toNat its).flatten.toArray:=by
  have f0:∀ m:Nat,LM (fun x1 x2=>x1++x2) #[] (bc m its.toArray)=(bc m its).flatten.toArray:=fun m=>by
   have:=Ba its m [];rw [df] at this;exact this
  rw [f0];cases its with
  |nil=>simp
  |cons a r'=>rw [if_neg (by simp)]
 refine wpAny_binaryOp_repeat_ref (T:="list") (U:="int") (by decide) ⟨_,e,rfl⟩ (fun s'=>typeIs_int s' k t) noFill_list_mul F.fills_int_mul F.slot_int_rmul repeat_list F.slot_int_index.lookup
  (mj F.slot_int_rmul (typeIs_int s k t) F.entry_int_rmul (F.args_int_rmul_2 _ _) (int___rmul___int_list k t l its.toArray n)
   ⟨e,rfl,⟨_,e,rfl⟩,mj F.slot_list_mul ⟨_,e,rfl⟩ F.entry_list_mul (F.args_list_mul_2 _ _) (AutoListH.list___mul___list_int_3 l its.toArray n k t hfit hcap hlong) ⟨e,?_⟩⟩)
 rw [hnew];exact ⟨.ref _,_,I.lnew (t':=s.toks) (r.rep k.toNat) (by rw [Qj,Nat.mul_comm];exact hz),rfl,q _ I.fresh⟩
end
section
end
section
end
end L2
namespace Att
open PySem PySem.W PySem.Calls PyProof.Rows
theorem xx  : ∀ (ns:List Int) (vs:List ae),WellAll P h vs (ns.map WData.int)->M2 vs ns:=by
 intro ns;induction ns with
 |nil =>
  intro vs w;rw [ed] at w;cases w;exact .nil
 |cons n ns ih =>
  intro vs w;rw [aS] at w;cases w with
  |cons a b =>
   cases a;exact .cons _ _ (ih _ b)
theorem Kr {l:OpenLaw}{n:Nat} (hn:l.most=some n) {P:Params}{h:bw}{args:List WData}{vals:List ae}
  (hpre:l.row.toRowW.claim.pre args=true) (hwl:WellAll P h vals args) :
  ∃ a vs ns,vals=[bg a]/\args=[WData.list (ns.map WData.int)]/\h.get? a=some { cls:=.type "list",data:=.seq vs.toArray }/\M2 vs ns/\ns.length<=n:=by
 have hsh:WShape.hasAll [] args [.list .int]=true:=(pre_splitW hpre).1;have hc:l.pre.holds [] { args:=args }=true:=(pre_splitW hpre).2;obtain ⟨d,r,rfl,h1,h2⟩:=hasAllW_cons hsh;obtain rfl:=hasAllW_nil h2;obtain ⟨xs,rfl,h3⟩:=hasW_list h1;obtain ⟨ns,rfl⟩:=items_int h3;have hlen:ns.length<=n:=by
  unfold OpenLaw.pre at hc;have h4:(WTm.not (.lt (.lit (.int (n:Int))) (.len (.arg 0)))).holds [] { args:=[.list (ns.map .int)] }=true:=by
   have h4:=(holds_andW hc).1;rw [hn] at h4;exact h4
  have h5:=condW_of h4 (w_not (w_lt w_lit (w_len_list (w_arg rfl))));rw [au] at h5;refine Pu fun q=>?_;have q':(n:Int)<((ns.length:Nat):Int):=by omega
  first
   |(rw [decide_eq_true q'] at h5;exact absurd h5 (by decide))
   |(simp at h5;omega)
 cases hwl with
 |cons w1 w2 =>
  cases w2;cases w1 with
  |list ho hall=>exact ⟨_,_,ns,rfl,rfl,ho,xx ns _ hall,hlen⟩
theorem Ks (l:OpenLaw) (args:List WData):l.row.toRowW.claim.post args (.bool true) args=true :=
 postW_of (r:=l.row.toRowW) (X:=(true==true))
  (show WShape.has [] (.bool true) .bool=true by first|rfl|decide|simp [WShape.has,WShape.arms,WShape.armsAll])
  (show (WTm.eq .res (.lit (.bool true))).value [] { args:=args,res:=some (.bool true),after:=args }=some (.bool (true==true)) from w_eq_bool (w_res rfl) w_lit) rfl
theorem attach_call {l:OpenLaw}{n:Nat}{q:bf}{loose:List Str}{XP:(Str->Option ae)->bw->Prop}{YP:bE->bw->Prop}{d:DefRec}
  (hn:l.most=some n) (hdf:d.params.defaults=[])
  (call:∀ (w:bE) (s₀ s₁:ah) (mg mb:Str->Option ae) (fa:ag) (o:Obj) (pm cd doc:ae) (a:ag) (vs:List ae) (ns:List Int),
   Ground q loose [] XP w s₀ mg mb s₁.heap->YP w s₁.heap ->
   s₁.heap.get? fa=some o->o.data=.func (docDef d.name d.params d.body d.scope pm cd doc)->s₁.heap.CodeRec cd d.name->mg d.name=some (.ref fa) ->
   s₁.heap.get? a=some { cls:=.type "list",data:=.seq vs.toArray }->M2 vs ns->ns.length<=n->s₁.gens=#[] ->
   ij (aB l.prog w) wP (.call (.ref fa) ⟨[.ref a],[]⟩) (fun r s'=>r=.ok (.ret (.bool true))/\OldK s₁.heap s'.heap/\s'.os=s₁.os/\qI s'.gens) s₁) :
  WalkO q loose XP YP l.row.toRowW d [] (fun f vs=>K9 f vs):=by
 intro w s₀ s₁ mg mb G Y fa o pm cd doc dV kV ho hd hcd hD hmg hg args vals as hpre hlay hrd hwl hlo;obtain rfl:dV=.none:=Dflts.none hD hdf;obtain rfl:kV=.none:=Dflts.noKw hD;obtain ⟨a,vs,ns,rfl,rfl,hobj,hints,hlen⟩:=Kr hn hpre hwl;refine enter_call (oA (call w s₀ s₁ mg mb fa o pm cd doc a vs ns G Y ho (fd_plain hd) hcd hmg hobj hints hlen hg) fun r s' hq=>?_);obtain ⟨rfl,h2,h3,h4⟩:=hq;exact ⟨.inl ⟨.bool true,.bool true,[],rfl,fun _=>rfl,.bool true,Ks l _,fun _=>⟨AW,fun _ hm=>(nomatch hm)⟩⟩,h2,h3,h4⟩
section
variable {prog:bf}{w:bE}{A:bV}{E:ae->ah->Prop}{s:ah}{K:Frag}
def Xg (h:bw) (L d:ag):List (ag×Obj):=(bq h.objs.size).filterMap fun a=>if a=L\/a=d then none else (h.get? a).map fun o=>(a,o)
end
end Att
namespace L2
open PySem PySem.Spec PyProof.Rows
theorem Kt  (h:M2 vs ns):cV (ns.map V.int) vs:=by
 induction h with
 |nil=>exact .nil
 |cons n t h ih=>exact .cons ⟨t,rfl⟩ ih
def Tw (H:Hp):Prop:=∀ b,H b=none\/∃ o xs,H b=some (.frz o (.lst xs))
theorem MA {P:bf}{w:bE}{K:a7}{mg mb:Str->Option ae}{CX:LV}{k:Nat}{fa a:ag}{fd:eX}{x:Str}{sp:Sp}{s₁:ah}{vs:List ae}{ns:List Int}
  (KX:K.In s₁.heap) (hns:s₁.heap.Ns bt mg) (hb:s₁.heap.Ns builtinsNs mb) (hbb:∀ x:Str,x≠"__name__"->mb x=iG x) (hlim:s₁.heap.NoLimit) (hg:s₁.gens=#[])
  (ha:s₁.heap.get? a=some { cls:=.type "list",data:=.seq vs.toArray }) (hi:M2 vs ns) (hl:ns.length<=sizeLine) (hr:kj k wP)
  (F:∀ base:bw,K.In base->base.Ns bt mg->sY P w K mg base CX k fa fd [x] sp) (hbind:∀ (s:ah) (u:ae),wN s fd ⟨[u],[]⟩ [(x,u)])
  (hsp:∀ H:Hp,Tw H->mV K H a (ns.map V.int)->sp [.ref a] H (fun v _=>v=.bl true) fun _ _ _=>False)
  (hCX:∀ H e s',CX [] H s₁ (fun _ _ _=>False) e s'->False) :
  ij (aB P w) wP (.call (.ref fa) ⟨[.ref a],[]⟩) (fun r s'=>r=.ok (.ret (.bool true))/\OldK s₁.heap s'.heap/\s'.os=s₁.os/\qI s'.gens) s₁:=by
 have rv:=Kt hi
 have lenV:=hi.length
 have core:∀ H:Hp,Tw H->mV K H a (ns.map V.int)->qF P w H s₁.heap->(∀ b,H b≠none->b=a)->(H a≠none->K.lookup a=none) ->
   ij (aB P w) wP (.call (.ref fa) ⟨[.ref a],[]⟩) (fun r s'=>r=.ok (.ret (.bool true))/\OldK s₁.heap s'.heap/\s'.os=s₁.os/\qI s'.gens) s₁:=by
  intro H hO hS hok hA hK
  have base_of:∀ {b:ag}{o:Obj},s₁.heap.get? b=some o->H b=none->(C9 s₁.heap H).get? b=some o:=fun e n=>Mf e n
  have noA:∀ {b:ag}{o:Obj}{es:Array DictEntry}{ep:Nat},s₁.heap.get? b=some o->o.data=.dict es ep->H b=none:=fun {b o es ep} e d=>by
   cases q:H b with
   |none=>rfl
   |some u =>
    have e':b=a:=hA b (by rw [q];simp)
    subst e'
    rw [ha] at e;cases e
    have d':Data.seq vs.toArray _=Data.dict es ep:=d
    cases d'
  have nsK:∀ {b:ag}{m:Str->Option ae},s₁.heap.Ns b m->(C9 s₁.heap H).Ns b m:=fun {b m} ⟨o,es,ep,e,d,r⟩=>⟨o,es,ep,base_of e (noA e d),d,r⟩
  have hKb:K.In (C9 s₁.heap H):=fun b o e=>base_of (KX b o e) (by
   cases q:H b with
   |none=>rfl
   |some u =>
    have e':b=a:=hA b (by rw [q];simp)
    subst e'
    rw [hK (by rw [q];simp)] at e;cases e)
  have hM:Mod K mg (C9 s₁.heap H):=⟨hKb,nsK hns,⟨mb,nsK hb,hbb⟩,let ⟨mc,h1,h2⟩:=hlim;⟨mc,nsK h1,h2⟩⟩
  have e0:GN P w K mg (C9 s₁.heap H) wP [] s₁ H:=⟨rfl,hM,fun b o e=>PV e,Nat.le_of_eq (Kj _ _),trivial,fun b hb=>absurd (show b∈([] : List ag) from hb) (by simp),hok,.of_eq hg⟩
  refine oA ((F _ hKb (nsK hns)).run wP [] s₁ H ⟨[.ref a],[]⟩ [.ref a] [.ref a] _ _ hr e0 (hbind s₁ (.ref a)) (.cons rfl .nil) (hsp H hO hS)) fun r s' h=>?_
  cases r with
  |error e=>exact (hCX H e s' h).elim
  |ok fl =>
   cases fl with
   |next=>exact eN h
   |brk=>exact eN h
   |cont=>exact eN h
   |ret u =>
    obtain ⟨v,H',os,bare,un,hok',r',q⟩:=h
    have q':v=.bl true:=q
    subst q'
    obtain rfl:u=i6 true:=r'
    refine ⟨rfl,OldK.of_keep fun b o e=>?_,os,bare⟩
    cases q:H b with
    |none=>exact un.keep b o e q (by intro z;exact absurd (show b∈([] : List ag) from z) (by simp)) (by simp)
    |some u =>
     rcases hO b with z|⟨ob,xs,z⟩
     ·rw [q] at z;cases z
     ·have z2:=un.frzs b ob _ z
      obtain ⟨e1,_⟩:=hok b _ z
      obtain ⟨e2,_⟩:=hok' b _ z2
      rw [e] at e1;cases e1
      exact e2
 cases hk:K.lookup a with
 |some o =>
  have e:=KX a o hk
  rw [ha] at e
  cases e
  refine core (fun _=>none) (fun _=>.inl rfl) (.inr ⟨_,vs.toArray,_,hk,rfl,rfl,rfl,by rw [aG,lenV];exact hl,by simpa using rv⟩) (fun b u z=>by have z':(none:Option HO)=some u:=z;cases z') (fun b z=>absurd rfl z) fun z=>absurd rfl z
 |none =>
  refine core (fun b=>if b=a then some (.frz { cls:=.type "list",data:=.seq vs.toArray } (.lst (ns.map V.int))) else none) (fun b=>?_) (.inl (.inr ⟨{ cls:=.type "list",data:=.seq vs.toArray },if_pos rfl⟩)) (fun b u z=>?_) (fun b z=>?_) fun _=>hk
  ·by_cases hb:b=a
   ·exact .inr ⟨_,_,if_pos hb⟩
   ·exact .inl (if_neg hb)
  ·by_cases hb:b=a
   ·have z':=(if_pos hb).symm.trans z
    cases z'
    subst hb
    exact ⟨ha,by rw [au];exact hl,vs,_,rv,ha⟩
   ·have z':=(if_neg hb).symm.trans z
    cases z'
  ·by_cases hb:b=a
   ·exact hb
   ·exact absurd (if_neg hb) z
end L2
namespace L2
open PySem PySem.Spec PyProof.Rows
abbrev YL {K:a7}{h:bw} (_:K.In h):a7:=K
theorem Qk {l:xo}{n k:Nat}{q:bf}{loose:List Str}{XP:(Str->Option ae)->bw->Prop}{YP:bE->bw->Prop}{d:DefRec}{K:Params->a7}{CX:bE->LV}{sp:bE->Sp}{x:Str}
  (hn:l.most=some n) (hn2:n<=sizeLine) (hdf:d.params.defaults=[]) (hr:kj k wP)
  (hY:∀ (w:bE) (h:bw),YP w h->(K w.params).In h)
  (F:∀ (w:bE) (mg:Str->Option ae) (fa:ag) (h:bw),(K w.params).In h->h.Ns bt mg->mg d.name=some (.ref fa) ->
   ∃ fd:eX,(∀ (s:ah) (u:ae),wN s fd ⟨[u],[]⟩ [(x,u)]) /\
    ∀ base:bw,(K w.params).In base->base.Ns bt mg->sY l.prog w (K w.params) mg base (CX w) k fa fd [x] (sp w))
  (hsp:∀ (w:bE) (H:Hp) (a:ag) (ns:List Int),ns.length<=n->Tw H->mV (K w.params) H a (ns.map V.int)->sp w [.ref a] H (fun v _=>v=.bl true) fun _ _ _=>False)
  (hCX:∀ (w:bE) (H:Hp) (s:ah) (e:ae) (s':ah),CX w [] H s (fun _ _ _=>False) e s'->False) :
  Pi q loose XP YP l.row.toRowW d [] (fun f vs=>K9 f vs):=by
 refine Att.attach_call hn hdf fun w s₀ s₁ mg mb fa o pm cd doc a vs ns G Y ho hd hcd hmg hobj hints hlen hg=>?_;have KX:=hY w _ Y;obtain ⟨fd,hb,hF⟩:=F w mg fa _ KX G.T.g hmg;exact MA KX G.T.g G.T.b G.T.builtins G.T.nolimit hg hobj hints (bD hlen hn2) hr hF hb (fun H hO hS=>hsp w H a ns hlen hO hS) fun H e s'=>hCX w H s₁ e s'
end L2
namespace L2
open PySem PySem.Spec PyProof.Rows
def kU (s:cY):Arguments:=match s with
 |.FunctionDef _ a _ _ _ _ _ _ _ _=>a
 |_=>{ posonlyargs:=[],args:=[],vararg:=none,kwonlyargs:=[],kw_defaults:=[],kwarg:=none,defaults:=[] }
def hJ (s:cY):List cY:=match s with
 |.FunctionDef _ _ b _ _ _ _ _ _ _=>b
 |_=>[]
def ax (s:cY):gH:=match s with
 |.FunctionDef _ _ _ _ _ _ sc _ _ _=>sc
 |_=>{ kind:=.function,names:=[],isGenerator:=false,isCoroutine:=false }
abbrev Y4:LV:=fun _ _ _ _ _ _=>False
abbrev E0:XK:=fun _ _ _=>False
structure Gb (K:a7) (x qual:Str) (st:cY) (f:ag) (fd:eX):Prop where
 ex:∃ (oc:ae) (od:Option ag) (kV doc pm:ae) (an:Option ag) (cdv ct:ae) (osl:Array (Option ae)),
  fd=eO x qual (kU st) (hJ st) (ax st) .none kV doc pm an cdv ct/\K.lookup f=some ⟨oc,od,.func fd,osl⟩/\jO K cdv qual=true
 kp:d_ K (.ref f)=true
section
variable {P:bf}{w:bE}{K:a7}{mg:Str->Option ae}{base:bw}
theorem Gb.binds {x qual:Str}{st:cY}{f:ag}{fd:eX}{ps:List Str} (F:Gb K x qual st f fd)
  (h:∀ (kV doc pm:ae) (an:Option ag) (cdv ct:ae) (us:List ae),us.length=ps.length->Pr (eO x qual (kU st) (hJ st) (ax st) .none kV doc pm an cdv ct) ⟨us,[]⟩=pure (ps.zip us)):kC K fd ps []:=by
 obtain ⟨oc,od,kV,doc,pm,an,cdv,ct,osl,rfl,lk,hcd⟩:=F.ex;exact .all (h kV doc pm an cdv ct)
theorem MB {x qual:Str}{st:cY}{f:ag}{oc:ae}{od an:Option ag}{osl:Array (Option ae)}{kV doc pm cdv ct:ae} (l:K.lookup f=some ⟨oc,od,.func (eO x qual (kU st) (hJ st) (ax st) .none kV doc pm an cdv ct),osl⟩)
  (c:jO K cdv qual=true) (k:d_ K (.ref f)=true):Gb K x qual st f (eO x qual (kU st) (hJ st) (ax st) .none kV doc pm an cdv ct):=⟨⟨oc,od,kV,doc,pm,an,cdv,ct,osl,rfl,l,c⟩,k⟩
end
theorem jb  (hr:kj k A):A.units+1<sU:=jQ (uR (by decide:1<=64) _) hr.units
theorem c8 (h:n<=1000):n<sizeLine:=jQ h (by decide)
section
theorem pv (i:Nat)  (hN:X.N[i]?=some x:=by rfl) (hv:Pm X.env.scope x:=by first|exact i4 rfl|exact eU (i4 rfl)|exact eU (eU rfl)) (hd:(x==("__debug__" : Str))=false:=by decide)
  (hcd:(x==("__classdict__" : Str))=false:=by decide):PE X (.Name x pos) (Cc i):=mr hN hv hd hcd
end
theorem Cm {A B:Prop} (h:B):if false=true then A else B:=by
 rw [if_neg aL];exact h
theorem GR {A B:Prop} (h:A):if true=true then A else B:=by
 rw [if_pos rfl];exact h
def dD (H H':Hp):Prop:=∀ b o,H b=some o->H' b=some o
theorem dD.refl (H:Hp):dD H H:=fun _ _ h=>h
theorem dD.trans (a:dD H H1) (b:dD H1 H2):dD H H2:=fun c o h=>b c o (a c o h)
theorem dD.free (e:dD H H') (h:H' l=Option.none):H l=Option.none:=by
 cases q:H l with
 |none=>rfl
 |some o =>
  rw [e l o q] at h;cases h
theorem dD.seq {K:a7}{H H':Hp}{a:ag}{xs:List V} (e:dD H H') (h:mV K H a xs):mV K H' a xs:=by
 rcases h with (h|⟨o,h⟩)|h
 ·exact .inl (.inl (e _ _ h))
 ·exact .inl (.inr ⟨o,e _ _ h⟩)
 ·exact .inr h
end L2
end
section
namespace L2
open PySem PySem.Spec PyProof.Rows
section
variable {κ:Type} [DecidableEq κ]
def u_ (kvs:List (κ×V)) (k:κ):Option V:=(kvs.find? fun kv=>decide (kv.1=k)).map (·.2)
def q_ (kvs:List (κ×V)) (k:κ) (v:V):List (κ×V) :=
 if (kvs.any fun kv=>decide (kv.1=k))=true then kvs.map (fun kv=>if kv.1=k then (kv.1,v) else kv) else kvs++[(k,v)]
def MC (kvs:List (κ×V)) (k:κ):List (κ×V):=kvs.filter fun kv=>decide (kv.1≠k)
theorem yz {p:κ×V}{r:List (κ×V)}{k:κ} (e:p.1=k):u_ (p::r) k=some p.2:=by simp [u_,dL,e]
theorem yA {p:κ×V}{r:List (κ×V)}{k:κ} (e:¬ p.1=k):u_ (p::r) k=u_ r k:=by simp [u_,dL,e]
theorem E4 (k:κ):∀ kvs:List (κ×V),(kvs.any fun kv=>decide (kv.1=k))=(u_ kvs k).isSome
 |[]=>rfl
 |p::r=>by
  rw [fN];by_cases e:p.1=k
  ·simp only [yz e,decide_eq_true e,Bool.true_or,uE]
  ·rw [yA e,decide_eq_false e,uS];exact E4 k r
theorem r6 (kvs:List (κ×V)) (k:κ) (v:V):(q_ kvs k v).length<=kvs.length+1:=by
 unfold q_;split
 ·rw [au];omega
 ·rw [aJ,aM,bi];omega
theorem w6.isSome_eq  (r:w6 o u):o.isSome=u.isSome:=by
 cases o with
 |none=>cases u with
  |none=>rfl
  |some _=>exact (show False from r).elim
 |some _=>cases u with
  |none=>exact (show False from r).elim
  |some _=>rfl
theorem KV.val {kvs:List (κ×V)}{vs:List (κ×ae)} (r:KV kvs vs) (k:κ):w6 (u_ kvs k) (Af vs k):=by
 unfold KV at r;induction r with
 |nil=>exact iX
 | @cons p q ps qs h t ih =>
  obtain ⟨h1,h2⟩:=h;by_cases e:p.1=k
  ·have e':q.1=k:=h1.symm.trans e;have b:Af (q::qs) k=some q.2:=by simp [Af,dL,e']
   rw [yz e,b];exact h2
  ·have e':¬ q.1=k:=fun z=>e (h1.trans z);have b:Af (q::qs) k=Af qs k:=by simp [Af,dL,e']
   rw [yA e,b];exact ih
theorem KV.any  (r:KV kvs vs) (k:κ):(kvs.any fun kv=>decide (kv.1=k))=vs.any fun kv=>decide (kv.1=k):=by
 unfold KV at r;induction r with
 |nil=>rfl
 |cons h t ih=>rw [fN,fN,ih,h.1]
theorem KV.repl  (r:KV kvs vs) (k:κ)  (ry:dn y u) :
  KV (kvs.map fun kv=>if kv.1=k then (kv.1,y) else kv) (vs.map fun kv=>if kv.1=k then (kv.1,u) else kv):=by
 unfold KV at r ⊢;induction r with
 |nil=>exact .nil
 | @cons p q ps qs h t ih =>
  rw [aS,aS];refine .cons ?_ ih;obtain ⟨h1,h2⟩:=h;by_cases e:p.1=k
  ·rw [if_pos e,if_pos (h1.symm.trans e)];exact ⟨h1,ry⟩
  ·rw [if_neg e,if_neg (fun z=>e (h1.trans z))];exact ⟨h1,h2⟩
theorem KV.put  (r:KV kvs vs) (k:κ)  (ry:dn y u):KV (q_ kvs k y) (Gp vs k u):=by
 unfold q_ Gp;rw [r.any k];by_cases e:(vs.any fun kv=>decide (kv.1=k))=true
 ·rw [if_pos e,if_pos e];exact r.repl k ry
 ·rw [if_neg e,if_neg e];exact Paired.snoc r ⟨rfl,ry⟩
theorem KV.length  (r:KV kvs vs):kvs.length=vs.length:=tS r
end
theorem E5    (r:dn (kV k) u):(dU P w).is k u=true:=by
 cases k with
 |inl i=>obtain ⟨t,e⟩:=(show ∃ t,u=mS i t from r);subst e;exact DV P w i t
 |inr x=>obtain ⟨t,e⟩:=(show ∃ t,u=j5 x t from r);subst e;exact DW P w x t
theorem Bd  : ∀ {ks:List gj}{us:List ae},cV (ks.map kV) us->ItemsAre (dU P w) ks us
 |[],_,r=>by rw [ed] at r;cases r;exact .nil
 |k::ks,_,r=>by
  rw [aS] at r;cases r with
  |cons h t=>exact .cons (E5 h) (Bd t)
abbrev KT (H:Hp):List (List gj×V)->List (List gj×ag×ae)->Prop:=L_ fun p q=>p.1=q.1/\H q.2.1=some (.tup (p.1.map kV))/\dn p.2 q.2.2
theorem KT.val {H:Hp}{kvs:List (List gj×V)}{xs:List (List gj×ag×ae)} (r:KT H kvs xs) (k:List gj):w6 (u_ kvs k) ((Gq xs k).map (·.2)):=by
 induction r with
 |nil=>exact iX
 | @cons p q ps qs h t ih =>
  obtain ⟨h1,_,h2⟩:=h;by_cases e:p.1=k
  ·have e':q.1=k:=h1.symm.trans e;have b:Gq (q::qs) k=some q.2:=by simp [Gq,dL,e']
   rw [yz e,b];exact h2
  ·have e':¬ q.1=k:=fun z=>e (h1.trans z);have b:Gq (q::qs) k=Gq qs k:=by simp [Gq,dL,e']
   rw [yA e,b];exact ih
theorem KT.repl   (r:KT H kvs xs) (k:List gj)  (ry:dn y u) :
  KT H (kvs.map fun kv=>if kv.1=k then (kv.1,y) else kv) (xs.map (putAt k u)):=by
 induction r with
 |nil=>exact .nil
 | @cons p q ps qs h t ih =>
  rw [aS,aS];refine .cons ?_ ih;obtain ⟨h1,h2,h3⟩:=h;unfold putAt;by_cases e:p.1=k
  ·rw [if_pos e,if_pos (h1.symm.trans e)];exact ⟨h1,h2,ry⟩
  ·rw [if_neg e,if_neg (fun z=>e (h1.trans z))];exact ⟨h1,h2,h3⟩
theorem KT.put   (r:KT H kvs xs) (k:List gj)   (hb:H b=some (.tup (k.map kV))) (ry:dn y u) :
  KT H (q_ kvs k y) (storedH xs k b u):=by
 have e:(kvs.any fun kv=>decide (kv.1=k))=(Gq xs k).isSome:=by
  rw [E4,(r.val k).isSome_eq,Ka]
 unfold q_ storedH;rw [e];by_cases q:(Gq xs k).isSome=true
 ·rw [if_pos q,if_pos q];exact r.repl k ry
 ·rw [if_neg q,if_neg q];exact Paired.snoc r ⟨rfl,hb,ry⟩
theorem KT.keeps   (r:KT H kvs xs) (ht:∀ b ys,H b=some (.tup ys)->H' b=some (.tup ys)):KT H' kvs xs :=
 Paired.mapP r fun _ _ z=>⟨z.1,ht _ _ z.2.1,z.2.2⟩
section
theorem RV (ok:qF P w H h) (e:Rd H a u):de P w H h a u:=e.ok ok
theorem IK (ok:qF P w H h) (e:Rd H a (.dK kvs)):kvs.length<=sizeLine/\(a==kE)=false/\∃ vs,KV kvs vs/\h.DictOf (dU P w) a vs :=
 show de P w H h a (.dK kvs) from RV ok e
theorem V0 (ok:qF P w H h) (e:H a=some (.dK kvs)):kvs.length<=sizeLine/\(a==kE)=false/\∃ vs,KV kvs vs/\h.DictOf (dU P w) a vs:=IK ok (.inl e)
theorem Co (ok:qF P w H h) (e:H a=some (.tup (ks.map kV))):(B_ (dU P w)).is h ks a:=by
 obtain ⟨_,its,r,o,h1,h2,n,h3⟩:=(show de P w H h a (.tup (ks.map kV)) from ok a _ e);exact ⟨o,its.toArray,n,h1,h2,h3,by simpa using Bd r⟩
theorem IL (ok:qF P w H h) (e:Rd H a (.dT kvs)):kvs.length<=sizeLine/\(a==kE)=false /\
  ∃ xs,KT H kvs xs/\h.DictOfH (B_ (dU P w)) a xs:=by
 obtain ⟨z,y,xs,r,o,es,ep,h1,h2,h3,h4,h5⟩:=(show de P w H h a (.dT kvs) from RV ok e);refine ⟨z,y,xs,r,o,es,ep,h1,h2,h3,h4,fun x hx=>?_,h5⟩;have all:∀ {l:List (List gj×V)}{m:List (List gj×ag×ae)},KT H l m->∀ x∈m,(B_ (dU P w)).is h x.1 x.2.1:=by
  intro l m q;induction q with
  |nil=>intro x hx;exact nomatch hx
  | @cons p q ps qs hq t ih =>
   intro x hx;rcases List.mem_cons.mp hx with e|hx
   ·subst e;exact Co ok (by rw [<- hq.1];exact hq.2.1)
   ·exact ih x hx
 exact all r x hx
theorem V1 (ok:qF P w H h) (e:H a=some (.dT kvs)):kvs.length<=sizeLine/\(a==kE)=false /\
  ∃ xs,KT H kvs xs/\h.DictOfH (B_ (dU P w)) a xs:=IL ok (.inl e)
end
def GS (H:Hp) (a:ag) (y:V) (r:Option V):Prop :=
 (∃ kvs k,Rd H a (.dK kvs)/\y=kV k/\r=u_ kvs k)\/∃ kvs k b,Rd H a (.dT kvs)/\y=.ref b/\H b=some (.tup (k.map kV))/\r=u_ kvs k
def MD (H:Hp) (a:ag) (y v:V) (H':Hp):Prop :=
 (∃ kvs k,H a=some (.dK kvs)/\y=kV k/\kvs.length<sizeLine/\H'=upd H a (.dK (q_ kvs k v))) \/
 ∃ kvs k b,H a=some (.dT kvs)/\y=.ref b/\H b=some (.tup (k.map kV))/\kvs.length<sizeLine/\H'=upd H a (.dT (q_ kvs k v))
theorem GS.k {H:Hp}{a:ag}{kvs:List (gj×V)}{k:gj} (e:H a=some (.dK kvs)):GS H a (kV k) (u_ kvs k):=.inl ⟨kvs,k,.inl e,rfl,rfl⟩
theorem MD.k {H:Hp}{a:ag}{kvs:List (gj×V)}{k:gj}{v:V} (e:H a=some (.dK kvs)) (hl:kvs.length<sizeLine):MD H a (kV k) v (upd H a (.dK (q_ kvs k v))):=.inl ⟨kvs,k,e,rfl,hl,rfl⟩
section
theorem bG.big (I:bG X pins σ H s):kE<s.heap.objs.size:=by
 have h:bt<s.heap.objs.size:=(I.mod.glob.keeps I.bk).lt;exact xp (by decide) h
theorem Ku (hu:A.units+1<sU) (I:bG X pins σ H s) (g:GS H a y (some v)) (ry:dn y u) (h:∀ w' s',bG X pins σ H s'->dn v w'->Q w' s') :
  ak (aB X.prog X.w) A (mT (.ref a) u) Q E s:=by
 rcases g with ⟨kvs,k,e,ey,l⟩|⟨kvs,k,b,e,ey,eb,l⟩
 ·subst ey;obtain ⟨z,hd,vs,rel,dd⟩:=IK I.hok e;obtain ⟨w',hw,rw'⟩:=w6.some_of (v:=v) (o:=Af vs k) (by rw [l];exact rel.val k);exact wpAny_getItem_of (E5 ry) dd.mapOf hw (h w' _ (I.tok _) rw')
 ·subst ey;cases (show u=bg b from ry);obtain ⟨z,hd,xs,rel,dd⟩:=IL I.hok e;obtain ⟨w',hw,rw'⟩:=w6.some_of (v:=v) (o:=(Gq xs k).map (·.2)) (by rw [l];exact rel.val k);obtain ⟨p,hp,hp2⟩:=Option.map_eq_some_iff.mp hw;refine wpAny_getItem_heap (yg hu) (Co I.hok eb) dd hp ?_;rw [hp2];exact h w' _ (I.tok _) rw'
theorem d_in (hu:A.units+1<sU) (I:bG X pins σ H s) (g:GS H a y o) (ry:dn y u) (h:∀ s',bG X pins σ H s'->Q (.bool o.isSome) s') :
  ak (aB X.prog X.w) A (bO .In u (.ref a)) Q E s:=by
 rcases g with ⟨kvs,k,e,ey,l⟩|⟨kvs,k,b,e,ey,eb,l⟩
 ·subst ey;obtain ⟨z,hd,vs,rel,dd⟩:=IK I.hok e;refine wpAny_in_of (E5 ry) hd dd.mapOf ?_;rw [<- (rel.val k).isSome_eq,<- l];exact h _ (I.tok _)
 ·subst ey;cases (show u=bg b from ry);obtain ⟨z,hd,xs,rel,dd⟩:=IL I.hok e;refine wpAny_in_heap (yg hu) (Co I.hok eb) hd dd ?_;have q:=(rel.val k).isSome_eq;rw [Ka] at q;rw [<- q,<- l];exact h _ (I.tok _)
theorem IM   (I:bG X pins σ H s) (mu:UE (H a)) (hs:bI a s.heap h') (he:∃ q,h'.get? a=some q) (new:de X.prog X.w (upd H a ob) h' a ob) :
  bG X pins σ (upd H a ob) { s with heap:=h',toks:=t' } :=
 I.write (x:=a) (e:=a) mu (.inl rfl) (fun b q hb z=>(hs.2 b hb).trans z) he new
theorem ME      (z:kvs.length<=sizeLine) (hd:(a==kE)=false) (rel:KV kvs vs) (dd:h'.DictOf (dU P w) a vs) :
  de P w H' h' a (.dK kvs):=⟨z,hd,vs,rel,dd⟩
theorem Kv  (hu:A.units+1<sU) (I:bG X pins σ H s) (g:MD H a y v H') (ry:dn y u) (rv:dn v r) (h:∀ s',bG X pins σ H' s'->Q () s') :
  ak (aB X.prog X.w) A (setItem (.ref a) u r) Q E s:=by
 rcases g with ⟨kvs,k,e,ey,l,eH⟩|⟨kvs,k,b,e,ey,eb,l,eH⟩
 ·subst ey eH;obtain ⟨z,hd,vs,rel,dd⟩:=V0 I.hok e;have hz:vs.length<=sizeLine:=by rw [<- rel.length];exact z
  have hl:(q_ kvs k v).length<=sizeLine:=by have:=r6 kvs k v;omega
  refine wpAny_setItem_pairs (hsz:=hz) (E5 ry) dd fun h' dd' hs=>h _ ?_;have he:∃ q,h'.get? a=some q:=let ⟨q,_,_,hq,_⟩:=dd';⟨q,hq⟩
  exact IM I (by rw [e];exact iX) hs he (ME hl hd (rel.put k rv) dd')
 ·subst ey eH;cases (show u=bg b from ry);obtain ⟨z,hd,xs,rel,dd⟩:=V1 I.hok e;have hz:xs.length<=sizeLine:=by rw [<- tS rel];exact z
  have hl:(q_ kvs k v).length<=sizeLine:=by have:=r6 kvs k v;omega
  refine wpAny_setItem_heap (hsz:=hz) (yg hu) (Co I.hok eb) dd fun h' dd' hs=>h _ ?_;obtain ⟨q,es,ep,hq,h2,h3,h4,_,h5⟩:=dd';refine IM I (by rw [e];exact iX) hs ⟨q,hq⟩ ⟨hl,hd,_,(rel.put k eb rv).keeps fun c ys ec=>?_,q,es,ep,hq,h2,h3,h4,h5⟩;rw [aU (UD ec e (fun z=>nomatch z))];exact ec
end
section
end
def V2 (i:bR):Prop:=∀ ov iv,DL i false ov iv=operate [ov,iv] (mT ov iv)
theorem Ql {prog:bf}{w:bE}{A:bV}{E:ae->ah->Prop}{s:ah}{env:Env}{value slice:bR}{pos:Pos}{T id:String}{Q:ae->ah->Prop}
  (hl:fM (.type T) "__getitem__"=pure (some (.builtin id))) (hs:V2 slice)
  (h:ak (aB prog w) A (cL value env) (fun o s₁=>ak (aB prog w) A (cL slice env) (fun i s₂=>s₂.TypeIs o T/\ak (aB prog w) A (mT o i) Q E s₂) E s₁) E s) :
  ak (aB prog w) A (cL (.Subscript value slice pos) env) Q E s:=by
 refine Go (aZ h (fun o s₁ h₁=>aZ h₁ (fun i s₂ h₂=>?_) fun _ _ x=>x) fun _ _ x=>x);obtain ⟨hT,h₂⟩:=h₂;unfold xN;refine a6 ?_;rw [getitemInPython_of_ne hT.not_modules];refine a6 (wpAny_specialOf hT hl ?_);have fin:ak (aB prog w) A (DL slice false o i) (fun r s₃=>ak (aB prog w) A (letTemporaryGo value o r >>= fun _=>pure r) Q E s₃) E s₂:=by
  rw [hs o i];exact wpAny_operating (aZ h₂ (fun r s₃ h₃=>a6 (wpAny_letTemporaryGo (aa h₃))) fun _ _ x=>x)
 first
  |exact aa (a6 fin)
  |exact a6 (aa (a6 fin))
  |exact a6 fin
theorem E6        (I:bG X pins σ H s) (g:GS H a y o):s.TypeIs (.ref a) "dict":=by
 rcases g with ⟨kvs,k,e,_,_⟩|⟨kvs,k,b,e,_,_,_⟩
 ·obtain ⟨_,_,vs,_,dd⟩:=IK I.hok e;exact dd.typeIs
 ·obtain ⟨_,_,xs,_,dd⟩:=IL I.hok e;exact dd.typeIs
def V3 (td ty:TE):TE:=fun σ H Q=>td σ H fun x H1=>ty σ H1 fun y H2=>∃ a v,x=.ref a/\GS H2 a y (some v)/\Q v H2
def RW (td ty tv:TE):TS:=fun D σ H=>tv σ H fun v H1=>td σ H1 fun x H2=>ty σ H2 fun y H3=>∃ a H4,x=.ref a/\MD H3 a y v H4/\D.nx σ H4
section
theorem Qm (hu:X.A.units+1<sU) (ho:PE X o td) (hi:PE X i ty) (hs:V2 i):PE X (.Subscript o i pos) (V3 td ty):=by
 intro pins s σ H Q I h;refine Ql PySem.F.slot_dict_getitem.lookup hs (fY (ho pins s σ H _ I h) fun u s1 ⟨x,H1,I1,rx,q1⟩=>fY (hi pins s1 σ H1 _ I1 q1) fun iv s2 ⟨y,H2,I2,ry,a,v,ex,g,q2⟩=>?_);subst ex;obtain rfl:u=bg a:=rx;exact ⟨E6 I2 g,Ku hu I2 g ry fun w' s3 I3 rw'=>⟨v,H2,I3,rw',q2⟩⟩
theorem Qn (hu:X.A.units+1<sU) (ho:PE X o td) (hi:PE X i ty) (hv:PE X value tv) (hs:iq value (some (.Subscript o i pos')) pos.line X.env=pure false) :
  PS X (.Assign [.Subscript o i pos'] value pos) (RW td ty tv):=by
 intro pins s σ H D I h;refine wpAny_Assign_Subscript (fY (hv pins s σ H _ I h) fun r s1 ⟨v,H1,I1,rv,q1⟩=>fY (ho pins s1 σ H1 _ I1 q1) fun u s2 ⟨x,H2,I2,rx,q2⟩=>fY (hi pins s2 σ H2 _ I2 q2) fun iv s3 ⟨y,H3,I3,ry,a,H4,ex,g,q3⟩=>?_) hs;subst ex;obtain rfl:u=bg a:=rx;exact Kv hu I3 g ry rv fun s4 I4=>⟨σ,H4,I4,q3⟩
end
theorem MF   (h:bw) (hb:kE<h.objs.size):de P w H (h.push { cls:=.type "dict",data:=.dict #[] }) h.objs.size (.dK []) :=
 ⟨eB _,beq_eq_false_iff_ne.mpr (dq (aD hb)),[],.nil,G4 h⟩
def Tx:TE:=fun _ H Q=>∀ p,H p=none->Q (.ref p) (upd H p (.dK []))
section
theorem MG:PE X (.Dict [] [] pos) Tx:=fun pins s σ H Q I h =>
 wpAny_Dict_empty ⟨.ref s.heap.objs.size,_,I.laid (a:=s.heap.objs.size) (o:=.dK []) (t':=s.toks) (fun _ _ q=>ac _ q) (ar _) (MF s.heap I.big),rfl,h _ (I.hok.fresh (ar _))⟩
end
def yB (kvs more:List (gj×V)):List (gj×V):=more.foldl (fun acc kv=>q_ acc kv.1 kv.2) kvs
theorem KV.merge:∀ {more:List (gj×V)}{rs:List (gj×ae)}{kvs:List (gj×V)}{vs:List (gj×ae)},KV more rs->KV kvs vs->KV (yB kvs more) (merged vs rs):=by
 intro more rs kvs vs r;unfold KV at r;induction r generalizing kvs vs with
 |nil=>intro q;exact q
 | @cons p q ps qs h t ih =>
  intro r0;have e:KV (q_ kvs p.1 p.2) (Gp vs q.1 q.2):=by
   have:=r0.put p.1 h.2;rw [<- h.1];exact this
  exact ih e
theorem tG:∀ (more kvs:List (gj×V)),(yB kvs more).length<=kvs.length+more.length
 |[],kvs=>by show kvs.length<=kvs.length+0;omega
 |p::r,kvs=>by
  have h1:=tG r (q_ kvs p.1 p.2);have h2:=r6 kvs p.1 p.2;show (yB (q_ kvs p.1 p.2) r).length<=_;rw [aM];omega
section
end
section
end
section
end
section
end
end L2
namespace L2
open PySem PySem.Spec PyProof.Rows
section
end
section
variable {κ:Type} [DecidableEq κ]
theorem IN:∀ {l:List κ}{k:κ},l.Nodup->¬ k∈l->(l++[k]).Nodup
 |[],k,_,_=>by simp
 |a::r,k,h,hk=>by
  obtain ⟨h1,h2⟩:=List.nodup_cons.mp h;show (a::(r++[k])).Nodup;refine List.nodup_cons.mpr ⟨fun m=>?_,IN h2 fun m=>hk (List.mem_cons.mpr (eU m))⟩;rcases List.mem_append.mp m with q|q
  ·exact h1 q
  ·exact hk (List.mem_cons.mpr (i4 (List.mem_singleton.mp q).symm))
end
end L2
end
namespace L2
open PySem PySem.Spec PyProof.Rows
section
section
theorem Cq      (I:Nat->ah->Prop)
  (turn:∀ n s,I n s->ak (aB prog w) A (nL it) (fun r s₁=>match r with
   |none=>R (.ok .next) s₁
   |some v=>ak (aB prog w) A (gV target it v) (fun _ s₁'=>ak (aB prog w) A (qP target env v) (fun _ s₂ =>
     ak (aB prog w) A (forIn ifs true fun c r=>if r=true then do let ok <- C0 c env (cL c env);pure (g9 ok) else pure (g9 r)) (fun ok s₃ =>
      if ok=true then ak (aB prog w) A (cL elt env) (fun x s₄ =>
       ak (aB prog w) A (call (.builtin "list.append") [acc,x]) (fun _ s₅=>∃ m,m<n/\I m s₅) (fun _ _=>False) s₄) (fun _ _=>False) s₃
      else ∃ m,m<n/\I m s₃) (fun _ _=>False) s₂) (fun _ _=>False) s₁') (fun _ _=>False) s₁) (fun _ _=>False) s)
  (n:Nat) (h:I n s) :
  ij (aB prog w) A (.compLoop (.ListComp elt [⟨target,iter,ifs,0⟩] scope pos) 0 it acc env) R s:=by
 refine codeAny_loop rfl I (fun n s hI=>?_) n h;show ak _ A ((compTurn (.ListComp elt [⟨target,iter,ifs,0⟩] scope pos) 0 it acc env).onRaise (fun x=>do sV x env;theTreesLotGoes x)) _ _ s;refine wpAny_noted ?_;rw [compTurn_list];have nf:∀ {α:Type}{t:Sem α}{Q:α->ah->Prop}{E':ae->ah->Prop}{s:ah},ak (aB prog w) A t Q (fun _ _=>False) s->ak (aB prog w) A t Q E' s :=
  fun h=>aZ h (fun _ _ q=>q) fun _ _ f=>f.elim
 refine a6 (du (a6 (nf (aZ (turn n s hI) (fun r s₁ h₁=>?_) fun _ _ h'=>h'))));cases r with
 |none=>exact aa h₁
 |some v =>
  refine a6 (nf (aZ h₁ (fun _ s₁' h₁'=>?_) fun _ _ h'=>h'));refine a6 (nf (aZ h₁' (fun _ s₂ h₂=>a6 (nf (aZ h₂ (fun ok s₃ h₃=>?_) fun _ _ h'=>h'))) fun _ _ h'=>h'));cases ok with
  |false=>exact aa ⟨rfl,h₃⟩
  |true =>
   exact a6 (a6 (nf (aZ h₃ (fun x s₄ h₄=>a6 (nf (aZ h₄ (fun _ s₅ h₅=>aa (aa ⟨rfl,h₅⟩)) fun _ _ h'=>h'))) fun _ _ h'=>h')))
end
theorem GT (names : List (Str × lC)) : ∀ (cs : List (Str × ag)), (∀ y ∈ names, y.2 = .free -> ∃ c, env.cells.lookup y.1 = some c) ->
    (∀ x c, cs.lookup x = some c -> env.cells.lookup x = some c) ->
    ∃ cl, (forIn names cs fun (x : Str × lC) (cs : List (Str × ag)) => match x with
        | (name, kind) => if (kind == cn) = true then do let a <- cellOf env name; pure (g9 ((name, a) :: cs)) else pure (g9 cs) : Sem (List (Str × ag))) = pure cl /\
      (∀ x c, cl.lookup x = some c -> env.cells.lookup x = some c) /\ (∀ y ∈ names, y.2 = .free -> ∃ c, cl.lookup y.1 = some c) /\ (∀ x c, cs.lookup x = some c -> ∃ c', cl.lookup x = some c') := by
  induction names with
  | nil => intro cs _ h2; exact ⟨cs, rfl, h2, fun _ h => absurd h (by simp), fun x c h => ⟨c, h⟩⟩
  | cons nk r ih =>
    obtain ⟨n, k⟩ := nk;intro cs h1 h2;by_cases hk : k = .free
    · subst hk;obtain ⟨a, ha⟩ := h1 (n, .free) al rfl;have h2' : ∀ x c, ((n, a) :: cs).lookup x = some c -> env.cells.lookup x = some c := fun x c h => by
        rw [cD] at h;cases e : x == n with
        | true => rw [e] at h; have : x = n := by simpa using e
                  subst this; cases h; exact ha
        | false => rw [e] at h; exact h2 x c h
      obtain ⟨cl, e1, e2, e3, e4⟩ := ih ((n, a) :: cs) (fun y hy => h1 y (ao _ hy)) h2';refine ⟨cl, ?_, e2, fun y hy hf => ?_, fun x c h => ?_⟩
      · rw [m6];have hc : cellOf env n = pure a := by unfold cellOf; rw [ha]
        simp only [beq_self_eq_true, if_true, hc];exact e1
      · rcases List.mem_cons.mp hy with rfl | hy
        · exact e4 n a (by simp)
        · exact e3 y hy hf
      · cases e : x == n with
        | true => exact e4 x a (by rw [cD, e])
        | false => exact e4 x c (by rw [cD, e]; exact h)
    · obtain ⟨cl, e1, e2, e3, e4⟩ := ih cs (fun y hy => h1 y (ao _ hy)) h2;refine ⟨cl, ?_, e2, fun y hy hf => ?_, e4⟩
      · rw [m6];have hk' : (k == cn) = false := by simpa using hk
        simp only [hk', cb, if_false];exact e1
      · rcases List.mem_cons.mp hy with rfl | hy
        · exact absurd hf hk
        · exact e3 y hy hf
theorem tZ  (h:∀ y∈scope.names,y.2=.free->∃ c,env.cells.lookup y.1=some c):∃ cl,closureFor scope env=pure cl /\
  (∀ x c,cl.lookup x=some c->env.cells.lookup x=some c)/\(∀ y∈scope.names,y.2=.free->∃ c,cl.lookup y.1=some c):=by
 obtain ⟨cl,e1,e2,e3,_⟩:=GT (env:=env) scope.names [] h (fun x c h=>by simp at h);refine ⟨cl,?_,e2,e3⟩;simp only [closureFor];rw [show (forIn scope.names ([] : List (Str×ag)) fun x r=>_)=(pure cl:Sem (List (Str×ag))) from e1];rfl
end
section
def cQ (X:Cx) (N':List Str) (scope:gH) (cl:List (Str×ag)) (C:ag) (s₀:ah) (H₀:Hp) (ex:List ag) (pn:List (ag×Obj)):Cx :=
 { X with N:=N',s₀:=s₀,H₀:=H₀,env:=compEnvC scope cl C X.env,outer:=X.stack,stack:=X.stack,ex:=ex,fn:=fun y=>scope.names.lookup y==some .cell,pn:=pn,xe:=fun _ _=>False }
def Pn (X:Cx) (ifs:List bR) (t:TT):Prop :=
 ∀ (pins:List (ag×Obj)) (s:ah) (σ:St) (H:Hp) (Q:Bool->Hp->Prop),bG X pins σ H s->t σ H Q ->
  ak (aB X.prog X.w) X.A (forIn ifs true fun c r=>if r=true then do let ok <- C0 c X.env (cL c X.env);pure (g9 ok) else pure (g9 r)) (TP X pins σ Q) X.xe s
def Xh:TT:=fun _ H Q=>Q true H
theorem Qo:Pn X [] Xh:=fun pins s σ H Q I h=>wpAny_tests_nil ⟨H,I,h⟩
theorem Qp   (h:PT X c t):Pn X [c] t:=fun pins s σ H Q I hw=>wpAny_tests_one (h pins s σ H Q I hw)
structure nW (X:Cx) (scope:gH) (N':List Str) (nt:Nat) (ix:List Nat):Prop where
 kind:scope.kind=.function
 cel:∀ y∈scope.names,y.2=.cell->scope.names.lookup y.1=some .cell
 loc:∀ y∈scope.names,y.2=.local->scope.names.lookup y.1=some .local
 free:∀ y∈scope.names,y.2=.free->X.env.scope.names.lookup y.1=some .cell\/X.env.scope.names.lookup y.1=some .free
 cap:∀ k i,ix[k]?=some i->∃ x,X.N[i]?=some x/\N'[nt+k]?=some x/\scope.names.lookup x=some .free
 len:N'.length=nt+ix.length
def jM (nt:Nat) (ix:List Nat) (σ:St):St:=bc nt none++ix.map fun i=>(σ[i]?).join
theorem sZ {env:Env}{x:Str}{names:List (Str×lC)}:names.lookup x=some .free ->
  (names.map fun (n,k)=>if (k==cn&&env.scope.kind == .function&&env.kindOf n==some .cell) then (n,dY) else (n,k)).lookup x=some .free \/
  (names.map fun (n,k)=>if (k==cn&&env.scope.kind == .function&&env.kindOf n==some .cell) then (n,dY) else (n,k)).lookup x=some .cell:=by
 induction names with
 |nil=>intro h;simp at h
 |cons nk r ih =>
  obtain ⟨n,k⟩:=nk;intro h;show yh x ((if (k==cn&&env.scope.kind == .function&&env.kindOf n==some .cell)=true then (n,dY) else (n,k))::_)=_ \/
   yh x ((if (k==cn&&env.scope.kind == .function&&env.kindOf n==some .cell)=true then (n,dY) else (n,k))::_)=_
  cases hx:x==n with
  |true =>
   simp only [cD,hx] at h;cases h;by_cases hc:(cn==cn&&env.scope.kind == .function&&env.kindOf n==some .cell)=true
   ·rw [if_pos hc];right;simp [cD,hx]
   ·rw [if_neg hc];left;simp [cD,hx]
  |false =>
   simp only [cD,hx] at h;by_cases hc:(k==cn&&env.scope.kind == .function&&env.kindOf n==some .cell)=true
   ·rw [if_pos hc];simp only [cD,hx];exact ih h
   ·rw [if_neg hc];simp only [cD,hx];exact ih h
theorem v3 {env:Env}{x:Str}{names:List (Str×lC)} :
  ((names.map fun (n,k)=>if (k==cn&&env.scope.kind == .function&&env.kindOf n==some .cell) then (n,dY) else (n,k)).lookup x=some .free \/
  (names.map fun (n,k)=>if (k==cn&&env.scope.kind == .function&&env.kindOf n==some .cell) then (n,dY) else (n,k)).lookup x=some .cell) ->
  (x,cn)∈names\/(x,dY)∈names:=by
 induction names with
 |nil=>intro h;simp at h
 |cons nk r ih =>
  obtain ⟨n,k⟩:=nk;intro h;have h:yh x ((if (k==cn&&env.scope.kind == .function&&env.kindOf n==some .cell)=true then (n,dY) else (n,k))::_)=_ \/
   yh x ((if (k==cn&&env.scope.kind == .function&&env.kindOf n==some .cell)=true then (n,dY) else (n,k))::_)=_:=h
  cases hx:x==n with
  |true =>
   have e:x=n:=by simpa using hx
   subst e;by_cases hc:(k==cn&&env.scope.kind == .function&&env.kindOf x==some .cell)=true
   ·have:k=.free:=by simp at hc;exact hc.1.1
    subst this;left;exact al
   ·rw [if_neg hc] at h;simp only [cD,hx] at h;rcases h with h|h
    ·cases h;left;exact al
    ·cases h;right;exact al
  |false =>
   have h':=ih (by
    by_cases hc:(k==cn&&env.scope.kind == .function&&env.kindOf n==some .cell)=true
    ·rw [if_pos hc] at h;simp only [cD,hx] at h;exact h
    ·rw [if_neg hc] at h;simp only [cD,hx] at h;exact h)
   rcases h' with h' | h'
   ·left;exact ao _ h'
   ·right;exact ao _ h'
inductive RX (nt:Nat) (ix:List Nat) (g:TG) (tt:TT) (te:TE) (σ:St) (Q:VK) (J:It) (H1:Hp):Prop
 |mk (W:Nat->Nat->List V->Hp->Prop) (w0:∃ m,W 0 m [] H1) (turn:∀ i m acc H,W i m acc H ->
 (J.stop i H/\∀ p,H p=none->Q (.ref p) (upd H p (.lst acc))) \/
 (J.go i H/\acc.length<sizeLine/\∀ x H',J.yld i H x H'->g x (jM nt ix σ) H' fun σ2 H2=>tt σ2 H2 fun b H3 =>
  if b=true then te σ2 H3 fun y H4=>∃ m',m'<m/\W (i+1) m' (acc++[y]) H4 else ∃ m',m'<m/\W (i+1) m' acc H3)):RX nt ix g tt te σ Q J H1
def MH (nt:Nat) (ix:List Nat) (wi:TI) (g:TG) (tt:TT) (te:TE):TE:=fun σ H Q=>wi σ H (RX nt ix g tt te σ Q)
theorem jd:∀ (names:List (Str×lC)) (n:Nat) (acc:List (Str×ag)),ba n names acc=ba n names []++acc
 |[],_,_=>rfl
 |(y,k)::r,n,acc=>by
  unfold ba;split
  ·rw [jd r (n+1) ((y,n)::acc),jd r (n+1) [(y,n)],kr];rfl
  ·exact jd r n acc
theorem nX  : ∀ (names:List (Str×lC)) (n:Nat) (acc:List (Str×ag)),(x,c)∈ba n names acc->(x,dY)∈names\/(x,c)∈acc
 |[],_,_,h=>.inr h
 |(y,k)::r,n,acc,h=>by
  unfold ba at h;split at h
  ·rename_i hk
   have hk:k=.cell:=by simpa using hk
   rcases nX r _ _ h with z|z
   ·exact .inl (ao _ z)
   ·rcases List.mem_cons.mp z with z|z
    ·cases z;subst hk;exact .inl al
    ·exact .inr z
  ·exact (nX r _ _ h).imp (ao _) id
theorem lc     (h:(ba n names cl).lookup x=some c) :
  (x,c)∈ba n names []\/((ba n names []).lookup x=none/\cl.lookup x=some c):=by
 rw [jd,LN] at h;cases e:(ba n names []).lookup x with
 |some d=>rw [e] at h;cases h;exact .inl (dA e)
 |none=>rw [e] at h;exact .inr ⟨rfl,h⟩
theorem IP {M:Gg}{A:bV}{E:ae->ah->Prop}{s:ah}{scope:gH}{globals:ag}{cl:List (Str×ag)}{qual:Str}{func:Option ag}{code:ae}{outer:Env}{builtins:ag}{Q:Env->ah->Prop}
  (hQ:∀ h₁,h₁=pushCells (s.heap.push { cls:=.type "dict",data:=.dict #[] }) scope.names->Q (newEnv scope s.heap.objs.size globals (ba (s.heap.objs.size+1) scope.names cl) qual func code (some outer) builtins) { s with heap:=h₁ }) :
  ak M A (vU scope globals cl [] qual func code (some outer) builtins) Q E s:=by
 simp only [vU,uE,if_true];refine a6 (Pw ?_);refine a6 (wpAny_layCells _ (fun name kind cells=>by cases hkc:kind==dY<;>simp [hkc]) _ _ _ _ ?_);rw [show ({ s with heap:=s.heap.push { cls:=.type "dict",data:=.dict #[] } }:ah).heap.objs.size=s.heap.objs.size+1 from cp ..];refine a6 ?_;rw [tu];exact aa (aa (hQ _ rfl))
theorem Be (h:bw) (names:List (Str×lC)):CellsOk (pushCells (h.push { cls:=.type "dict",data:=.dict #[] }) names) (h.objs.size+1) (ba (h.objs.size+1) names []):=by
 have ok:=cellsFrom_ok names (h.push { cls:=.type "dict",data:=.dict #[] }) (h.objs.size+1) [] ⟨fun _ _ hm=>(nomatch hm),AW⟩ (by rw [cp];exact ar _);rw [cp] at ok;exact ok
section
theorem E7 {scope:gH}{N':List Str}{nt:Nat}{ix:List Nat}{cl:List (Str×ag)}{C:ag}{fp:List ag}{h₁:bw}{t':Nat}{m:Str->Option ae}
  (S:nW X scope N' nt ix) (I:bG X pins σ H s) (c1:∀ x c,cl.lookup x=some c->X.env.cells.lookup x=some c) (c2:∀ y∈scope.names,y.2=.free->∃ c,cl.lookup y.1=some c)
  (hf:∀ b∈fp,qX X pins H b) (ff:∀ b∈fp,b<s.heap.objs.size) (hC:s.heap.objs.size<=C) (hns:h₁.Ns C m) (old:∀ b o,s.heap.get? b=some o->h₁.get? b=some o) (ok:CellsOk h₁ (C+1) (ba (C+1) scope.names [])) :
  bG (cQ X N' scope (ba (C+1) scope.names cl) C s H fp (X.pn++pins)) [] (jM nt ix σ) H { s with heap:=h₁,toks:=t' }:=by
 have cellOld:∀ {c v},s.heap.IsCell c v->h₁.IsCell c v:=fun {c v} ⟨o,ho,hd⟩=>⟨o,old _ _ ho,hd⟩;have up:∀ {x c},(x,c)∈ba (C+1) scope.names []->s.heap.objs.size<c:=fun {x c} h=>aE (kH hC) (ok.empty x c h).2;have low:∀ {x c},cl.lookup x=some c->c<s.heap.objs.size:=fun {x c} h=>by
  obtain ⟨v,q⟩:=I.cell x c (c1 x c h);exact q.lt
 refine ⟨⟨I.ok.mod,S.kind,I.ok.glob,I.ok.blt,hC,fun x y c h1 h2=>?_,fun x hx=>?_,fun x c h h2=>?_,I.ok.hd,I.ok.frames,.inl rfl,fun b hb=>⟨?_,fun x c h=>?_⟩,I.bs,bD I.ok.bsz I.sz,fun b o h hb=>?_,fun b hb z=>?_,I.stack,I.stkFree⟩,
  rfl,I.bare,Un.kept old,⟨m,hns,fun i x v h1 h2 h3=>?_⟩,fun x c h=>?_,I.hok.fresh hC,fun x c h=>?_,fun p hp=>?_,I.hok.kept old,?_⟩
 ·rcases lc h1 with a|⟨_,a⟩<;>rcases lc h2 with b|⟨_,b⟩
  ·exact name_of_addr ok.apart a b
  ·exact absurd (up a) (xq (low b))
  ·exact absurd (up b) (xq (low a))
  ·exact I.ok.inj x y c (c1 x c a) (c1 y c b)
 ·have hx':(x,cn)∈scope.names\/(x,dY)∈scope.names:=v3 (env:=X.env) (hx.elim .inr .inl);have hs:((ba (C+1) scope.names cl).lookup x).isSome=true:=by
   rcases hx' with z|z
   ·obtain ⟨c,e⟩:=c2 _ z rfl;exact fk _ _ _ (.inr (by rw [e];rfl))
   ·exact fk _ _ _ (.inl (S.cel _ z rfl))
  exact Option.isSome_iff_exists.mp hs
 ·rcases lc h2 with a|⟨a,_⟩
  ·exact b9 (up a)
  ·have:=fk (x:=x) scope.names (C+1) [] (.inl (by simpa [cQ] using h));rw [a] at this;cases this
 ·exact aD (aE (ff b hb) hC)
 ·rcases lc h with a|⟨_,a⟩
  ·exact eh (xp (ff b hb) (up a))
  ·exact (hf b hb).f4 x c (c1 x c a)
 ·rcases (hf b hb).f3 with z|z
  ·exact I.ok.noex b o h z
  ·exact absurd (aE (am h) (bD I.ok.bsz z)) (c6 _)
 ·rcases List.mem_cons.mp (I.stkSub b z) with e|e
  ·exact (hf b hb).f1 e
  ·exact (hf b hb).f2 e
 ·have hnt:nt<=i:=by
   refine Pu fun hlt=>?_;have h2':(jM nt ix σ)[i]?=some (some v):=h2;unfold jM at h2';rw [bQ (by simpa using hlt),bP,if_pos hlt] at h2';cases h2'
  have h2':(jM nt ix σ)[i]?=some (some v):=h2;unfold jM at h2';rw [bd (by simpa using hnt),cX,aO] at h2';cases e:ix[i-nt]? with
  |none=>rw [e] at h2';cases h2'
  |some j =>
   rw [e] at h2';have hj:σ[j]?=some (some v):=by
    have q:(σ[j]?).join=some v:=bx h2';cases e3:σ[j]? with
    |none=>rw [e3] at q;cases q
    |some o=>rw [e3] at q;cases o with
     |none=>cases q
     |some v'=>cases q;rfl
   obtain ⟨x',n1,n2,fr⟩:=S.cap _ _ e;rw [Nat.add_sub_cancel' hnt] at n2;have h1':N'[i]?=some x:=h1;rw [h1'] at n2;cases n2;obtain ⟨mm,hn,hl⟩:=I.loc;have hfree:=S.free (x,.free) (dA fr) rfl;obtain ⟨u,r,l⟩:=hl j x v n1 hj (hfree.elim (fun z=>.inr (.inl z)) fun z=>.inr (.inr z));refine ⟨u,r,?_⟩;rcases l with ⟨k,_⟩|⟨k,c,hc,hcell⟩
   ·have k:X.env.scope.names.lookup x=some .local:=k;rcases hfree with z|z<;>(rw [z] at k;cases k)
   ·obtain ⟨c',hc'⟩:=c2 _ (dA fr) rfl;have:=c1 x c' hc';rw [hc] at this;cases this;have hno:(ba (C+1) scope.names []).lookup x=none:=by
     cases e:(ba (C+1) scope.names []).lookup x with
     |none=>rfl
     |some d =>
      rcases nX _ _ _ (dA e) with z|z
      ·have q:=S.cel _ z rfl;rw [fr] at q;cases q
      ·cases z
    refine .inr ⟨?_,c,by show (ba (C+1) scope.names cl).lookup x=some c;rw [jd,LN,hno];exact hc',cellOld hcell⟩;rcases sZ (env:=X.env) fr with z|z
    ·exact .inr z
    ·exact .inl z
 ·rcases lc h with a|⟨_,a⟩
  ·exact ⟨none,(ok.empty x c a).1⟩
  ·obtain ⟨v,q⟩:=I.cell x c (c1 x c a);exact ⟨v,cellOld q⟩
 ·rcases lc h with a|⟨_,a⟩
  ·exact I.hok.fresh (b9 (up a))
  ·exact I.freeC x c (c1 x c a)
 ·have hp:p∈X.pn++pins:=(List.mem_append.mp hp).elim id fun z=>absurd z (by simp);obtain ⟨e,n,ne,nf,d⟩:=I.pin p hp;refine ⟨old _ _ e,n,aD (aE (am e) hC),fun z=>?_,d⟩;rcases List.mem_cons.mp (I.stkSub p.1 z) with e|e
  ·exact ne e
  ·exact nf e
 ·show (jM nt ix σ).length=N'.length;rw [S.len];simp [jM]
end
end
section
theorem Un.grow   (u:Un fs ex H H1 h h1)  (sb:bI C h1 h2) (hC:h.objs.size<=C) (hD:h.objs.size<=D) (hn:H1 D=none):Un fs ex H (upd H1 D o) h h2 where
 keep:=fun b ob q n hb hx=>(sb.2 b (aD (aE (am q) hC))).trans (u.keep b ob q n hb hx)
 slot:=fun b ob q n hb hx=>by
  obtain ⟨sl,e⟩:=u.slot b ob q n hb hx;exact ⟨sl,(sb.2 b (aD (aE (am q) hC))).trans e⟩
 free:=fun b ob q n hx=>by rw [aU (aD (aE (am q) hD))];exact u.free b ob q n hx
 there:=fun b ob q hx=>by
  obtain ⟨o',e⟩:=u.there b ob q hx;exact ⟨o',(sb.2 b (aD (aE (am q) hC))).trans e⟩
 tups:=fun b xs q=>by have z:=u.tups b xs q;rw [aU (b6 z hn)];exact z
 frzs:=fun b ob xs q=>by have z:=u.frzs b ob xs q;rw [aU (b6 z hn)];exact z
 tbls:=fun b ps q=>by
  obtain ⟨m,z⟩:=u.tbls b ps q;exact ⟨m,by rw [aU (b6 z hn)];exact z⟩
theorem yC     (k:qF P w H h) (hC:H C=none) (sb:bI C h h'):qF P w H h':=fun b ob e=>by
 refine (k b ob e).stay (fun c w' hc q=>(sb.2 c ?_).trans q) (fun _ q=>q) fun _ _ q=>q;rintro rfl;rcases hc with rfl|hc
 ·rw [hC] at e;cases e
 ·rw [hC] at hc;cases hc
theorem sk      (k:qF P w H h) (hD:H D=none) (new:de P w (upd H D o) h D o):qF P w (upd H D o) h:=fun b ob e=>by
 by_cases hb:b=D
 ·subst hb;rw [aR] at e;cases e;exact new
 ·rw [aU hb] at e;exact (k b ob e).stay (fun c w' hc q=>q) (fun c q=>by rw [aU (b6 q hD)];exact q) fun c x q=>by rw [aU (b6 q hD)];exact q
theorem nf {M:Gg}{A:bV}{α:Type}{t:Sem α}{Q:α->ah->Prop}{E':ae->ah->Prop}{s:ah} (h:ak M A t Q (fun _ _=>False) s):ak M A t Q E' s :=
 aZ h (fun _ _ q=>q) fun _ _ f=>f.elim
theorem bG.pin1      (I:bG X [] σ H s) (e:s.heap.get? D=some o) (n:H D=none) (ne:D≠X.env.locals) (nf:D∉X.fs) (d:∀ v,o.data≠.cell v):bG X [(D,o)] σ H s :=
 I.pins_of fun p hp=>by
  have:p=(D,o):=by simpa using hp
  subst this;exact ⟨e,n,ne,nf,d⟩
def RY (nt:Nat) (g:TG):Prop:=∀ x σ0 H (Q:St->Hp->Prop),g x σ0 H Q->g x σ0 H (fun σ2 H2=>Q σ2 H2/\σ2.length=σ0.length/\∀ j,nt<=j->σ2[j]?=σ0[j]?)
theorem MI (h:i<nt):RY nt (wT i):=fun x σ0 H Q q=>⟨q,by simp,fun j hj=>aj (by omega)⟩
theorem Qq {nt i k n:Nat}{K:a7} (h:i<nt) (h':k<nt):RY nt (Tb K n (a9 (wT i) (a9 (wT k) aC))):=by
 rintro x σ0 H Q ⟨a,xs,rfl,sq,hl,v,r,rfl,v',r',rfl,rfl,q⟩;exact ⟨a,_,rfl,sq,hl,v,_,rfl,v',_,rfl,rfl,q,by simp,fun j hj=>by rw [aj (by omega),aj (by omega)]⟩
inductive Y5 (X:Cx) (pins:List (ag×Obj)) (N':List Str) (scope:gH) (cl:List (Str×ag)) (C:ag) (s2:ah) (H2:Hp) (fp:List ag) (nt:Nat) (ix:List Nat) (σ:St) (tn:Nat->bw->Prop) (W:Nat->Nat->List V->Hp->Prop) (n:Nat) (s':ah):Prop
 |mk (i:Nat) (acc:List V) (its:List ae) (nn:Nat) (H':Hp) (I:bG (cQ X N' scope cl C s2 H2 fp (X.pn++pins)) [(s2.heap.objs.size,{ cls:=.type "list",data:=.seq its.toArray nn })] (jM nt ix σ) H' s') (v:cV acc its) (l:acc.length<=sizeLine) (t:tn i s'.heap) (f:∀ b∈fp,H' b=none) (w:W i n acc H'):Y5 X pins N' scope cl C s2 H2 fp nt ix σ tn W n s'
theorem yD {X:Cx}{elt tg iter:bR}{ifs:List bR}{scope:gH}{pos:Pos}{g:TG}{tt:TT}{te:TE}{N':List Str}{nt:Nat}{ix:List Nat}
  (hc:X.calm=true) (S:nW X scope N' nt ix) (lo:RY nt g)
  (hb:∀ cl C s₀ H₀ ex pn,PG (cQ X N' scope cl C s₀ H₀ ex pn) tg g/\Pn (cQ X N' scope cl C s₀ H₀ ex pn) ifs tt/\PE (cQ X N' scope cl C s₀ H₀ ex pn) elt te)
  {cl:List (Str×ag)} (c1:∀ x c,cl.lookup x=some c->X.env.cells.lookup x=some c) (c2:∀ y∈scope.names,y.2=.free->∃ c,cl.lookup y.1=some c)
  {pins:List (ag×Obj)}{σ:St}{H2:Hp}{s2:ah}{it:ag}{fp:List ag}{tn:Nat->bw->Prop}{J:It}{Q:VK}{E:ae->ah->Prop}
  (I2:bG X pins σ H2 s2) (T:Aq X.prog X.w X.K tg J fp it tn) (st2:tn 0 s2.heap) (f2:∀ b∈fp,qX X pins H2 b)
  {W:Nat->Nat->List V->Hp->Prop} (w0:∃ m,W 0 m [] H2)
  (turn:∀ i m acc H,W i m acc H->(J.stop i H/\∀ p,H p=none->Q (.ref p) (upd H p (.lst acc))) \/
   (J.go i H/\acc.length<sizeLine/\∀ x H',J.yld i H x H'->g x (jM nt ix σ) H' fun σ2 H2=>tt σ2 H2 fun b H3 =>
    if b=true then te σ2 H3 fun y H4=>∃ m',m'<m/\W (i+1) m' (acc++[y]) H4 else ∃ m',m'<m/\W (i+1) m' acc H3))
  {RR:ae->ag->Result->ah->Prop}
  (hRR:∀ D C m s' (acc:List V) H',H' D=none->qX X pins (upd H' D (.lst acc)) C->Q (.ref D) (upd H' D (.lst acc))->s'.heap.Ns C m->(∀ h',bI C s'.heap h'->bG X pins σ (upd H' D (.lst acc)) { s' with heap:=h' })->RR (.ref D) C (.ok .next) s') :
  ak (aB X.prog X.w) X.A (newList []) (fun acc s₃=>ak (aB X.prog X.w) X.A (vU scope X.env.globals cl [] X.env.qual none .none (some X.env)) (fun cenv s₄ =>
   ij (aB X.prog X.w) X.A (.compStart (.ListComp elt [⟨tg,iter,ifs,0⟩] scope pos) 0 (.ref it) acc { cenv with scope:=relabel scope X.env }) (RR acc cenv.locals) s₄) E s₃) E s2:=by
 refine bL (IP fun h₁ hh₁=>?_);dsimp only at hh₁ ⊢;generalize hG2:s2.heap.push { cls:=.type "list",dict:=none,data:=.seq ([] : List ae).toArray }=G2 at hh₁ ⊢;have hC:G2.objs.size=s2.heap.objs.size+1:=by rw [<- hG2,cp]
 have hDC:s2.heap.objs.size≠G2.objs.size:=by rw [hC];exact aD (fW _)
 have hCle:s2.heap.objs.size<=G2.objs.size:=by rw [hC];exact ik _
 have below:∀ b,b<s2.heap.objs.size->b≠G2.objs.size:=fun b hb=>by rw [hC];exact aD (gR hb)
 have kp:∀ b o,G2.get? b=some o->h₁.get? b=some o:=fun b o e=>by rw [hh₁];exact uF _ _ b o (ac _ e)
 have hns₁:h₁.Ns G2.objs.size (fun _=>none):=by rw [hh₁];exact (Heap.Ns.new G2 (.type "dict")).keeps (uF _ _)
 have ok₁:CellsOk h₁ (G2.objs.size+1) (ba (G2.objs.size+1) scope.names []):=by rw [hh₁];exact Be G2 scope.names
 have cne:∀ x c,(ba (G2.objs.size+1) scope.names cl).lookup x=some c->X.env.cells.lookup x=some c\/s2.heap.objs.size<c:=fun x c e=>by
  rcases lc e with a|⟨_,a⟩
  ·exact .inr (aE (kH hCle) (ok₁.empty x c a).2)
  ·exact .inl (c1 x c a)
 have old:∀ b o,s2.heap.get? b=some o->h₁.get? b=some o:=fun b o e=>kp b o (hG2 ▸ ac _ e);have hacc:h₁.get? s2.heap.objs.size=some { cls:=.type "list",dict:=none,data:=.seq ([] : List ae).toArray }:=kp _ _ (hG2 ▸ aF _ rfl);have ff:∀ b∈fp,b<s2.heap.objs.size:=fun b hb=>by
  obtain ⟨o,e,_⟩:=T.obj _ _ st2 b hb;exact am e
 have I3:bG (cQ X N' scope (ba (G2.objs.size+1) scope.names cl) G2.objs.size s2 H2 fp (X.pn++pins)) [] (jM nt ix σ) H2 { s2 with heap:=h₁,toks:=s2.toks }:=E7 S I2 c1 c2 f2 ff hCle hns₁ old ok₁;obtain ⟨pg,pt,pe⟩:=hb (ba (G2.objs.size+1) scope.names cl) G2.objs.size s2 H2 fp (X.pn++pins);have hDfs:s2.heap.objs.size∉lJ X.stack:=fun z=>by
  rcases List.mem_cons.mp (I2.stkSub _ z) with e|e
  ·exact absurd I2.lt (by rw [<- e];exact c6 _)
  ·exact I2.nofs (ar _) e
 have nod:∀ (its:List ae) (n:Nat) v,({ cls:=.type "list",data:=.seq its.toArray n }:Obj).data≠.cell v:=fun _ _ _ z=>nomatch z;have st1:tn 0 h₁:=T.keep _ _ _ st2 fun b _ o e=>old b o e;have hDf:s2.heap.objs.size∉fp:=fun z=>absurd (ff _ z) (c6 _);have stat:∀ {H':Hp}{pl:List (ag×Obj)},(∀ p∈pl,p.1∉fp)->(∀ b∈fp,H' b=none)->∀ b∈fp,qX (cQ X N' scope (ba (G2.objs.size+1) scope.names cl) G2.objs.size s2 H2 fp (X.pn++pins)) pl H' b:=fun hpl hn b hb=>by
  obtain ⟨f0,f1,f2',f3,f4,f5⟩:=f2 b hb;refine ⟨hn b hb,below b (ff b hb),fun z=>?_,.inl hb,fun x c e=>(cne x c e).elim (f4 x c) fun q z=>xq q (by rw [z];exact ff b hb),fun p hp z=>?_⟩
  ·rcases List.mem_cons.mp (I2.stkSub _ z) with e|e
   ·exact f1 e
   ·exact f2' e
  ·rcases List.mem_append.mp hp with q|q
   ·exact f5 p q z
   ·exact hpl p q (z ▸ hb)
 obtain ⟨m0,w0⟩:=w0;have loop:ij (aB X.prog X.w) X.A (.compLoop (.ListComp elt [⟨tg,iter,ifs,0⟩] scope pos) 0 (.ref it) (.ref s2.heap.objs.size) (compEnvC scope (ba (G2.objs.size+1) scope.names cl) G2.objs.size X.env))
    (RR (.ref s2.heap.objs.size) G2.objs.size) { s2 with heap:=h₁,toks:=s2.toks }:=by
  refine Cq (Y5 X pins N' scope (ba (G2.objs.size+1) scope.names cl) G2.objs.size s2 H2 fp nt ix σ tn W) ?_ m0
   ⟨0,[],[],0,H2,I3.pin1 hacc (I2.hok.fresh (ar _)) hDC hDfs (nod _ _),.nil,eB _,st1,fun b hb=>(f2 b hb).1,w0⟩
  rintro n s3 ⟨i,acc,its,nn,H3,J3,rv,hz,st3,fr3,w3⟩;have plD:∀ p∈[(s2.heap.objs.size,({ cls:=.type "list",data:=.seq its.toArray nn }:Obj))],p.1∉fp:=fun p hp=>by
   have:p=(s2.heap.objs.size,({ cls:=.type "list",data:=.seq its.toArray nn }:Obj)):=by simpa using hp
   rw [this];exact hDf
  rcases turn i n acc H3 w3 with ⟨stop,qn⟩|⟨go,hlt,step⟩
  ·refine fY (T.done (cQ X N' scope (ba (G2.objs.size+1) scope.names cl) G2.objs.size s2 H2 fp (X.pn++pins)) rfl rfl rfl hc i _ s3 _ H3 _ J3 (stat plD fr3) st3 stop) fun r s4 h_0=>?_;obtain ⟨hr,I4⟩:=h_0;subst hr;obtain ⟨pD,pN,_⟩:=I4.pin (s2.heap.objs.size,_) (aY _ (List.mem_singleton.mpr rfl));obtain ⟨mm,hn,_⟩:=I4.loc;have hCn:H3 G2.objs.size=none:=I4.free;refine hRR _ _ mm s4 acc H3 pN (I2.fpOk hCle (by rw [aU (dq hDC)];exact hCn)) (qn _ pN) hn fun h' sb=>?_;have hu:Un (lJ X.stack) fp H2 (upd H3 s2.heap.objs.size (.lst acc)) s2.heap h':=Un.grow I4.base sb hCle (ar _) pN;refine I2.call' (s':={ s4 with heap:=h' }) (ch:=fp) I4.os hu ?_ I4.bare fun b hb=>?_
   ·refine sk (yC I4.hok hCn sb) pN ⟨hz,its,nn,rv,(sb.2 _ hDC).trans pD⟩
   ·obtain ⟨_,f1,_,f3,f4,f5⟩:=f2 b hb;exact ⟨f3,f1,f4,f5⟩
  ·refine fY (T.item (cQ X N' scope (ba (G2.objs.size+1) scope.names cl) G2.objs.size s2 H2 fp (X.pn++pins)) rfl rfl rfl hc i _ s3 _ H3 _ J3 (stat plD fr3) st3 go) fun r s4 h_1=>?_;obtain ⟨u,hr,h4⟩:=h_1;subst hr;refine fY h4 fun _ s5 h_2=>?_;obtain ⟨x,H5,I5,r5,y5,st5,fr5⟩:=h_2;have I5':=I5.pinned (stat plD fr5) (T.obj _ _ st5);refine fY (pg _ s5 _ H5 x u _ I5' r5 (lo _ _ _ _ (step x H5 y5))) fun _ s6 h_3=>?_;obtain ⟨σ6,H6,I6,q6,l6,k6⟩:=h_3;have hw:∀ (j:Nat) v,(jM nt ix σ)[j]?=some (some v)->σ6[j]?=some (some v):=fun j v e=>by
    by_cases hj:nt<=j
    ·rw [k6 j hj];exact e
    ·unfold jM at e;rw [bQ (by simpa using hj),bP,if_pos (by omega)] at e;cases e
   refine fY (pt _ s6 σ6 H6 _ I6 q6) fun b s7 h_4=>?_;obtain ⟨H7,I7,q7⟩:=h_4;have fpk:∀ {s8:ah}{σ8:St}{H8:Hp},bG (cQ X N' scope (ba (G2.objs.size+1) scope.names cl) G2.objs.size s2 H2 fp (X.pn++pins)) ([(s2.heap.objs.size,{ cls:=.type "list",data:=.seq its.toArray nn })]++w9 fp s5.heap) σ8 H8 s8 ->
     tn (i+1) s8.heap/\∀ b∈fp,H8 b=none:=fun {s8 σ8 H8} I8=>by
    refine ⟨T.keep _ _ _ st5 fun b hb o e=>(I8.pin (b,o) (aY _ (aY _ (kK hb e)))).1,fun b hb=>?_⟩;obtain ⟨o,e,d⟩:=T.obj _ _ st5 b hb;exact (I8.pin (b,o) (aY _ (aY _ (kK hb e)))).2.1
   cases b with
   |false =>
    simp only [cb,if_false] at q7 ⊢;obtain ⟨m',hm,w7⟩:=q7;obtain ⟨t7,f7⟩:=fpk I7;exact ⟨m',hm,i+1,acc,its,nn,H7,(I7.weak l6.symm hw).unpinned,rv,hz,t7,f7,w7⟩
   |true =>
    simp only [if_true] at q7 ⊢;refine fY (pe _ s7 σ6 H7 _ I7 q7) fun u8 s8 h_5=>?_;obtain ⟨y,H8,I8,r8,m',hm,w8⟩:=h_5;obtain ⟨t8,f8⟩:=fpk I8;obtain ⟨pD,pN,_⟩:=I8.pin (s2.heap.objs.size,_) (aY _ (gO _ (List.mem_singleton.mpr rfl)));have hl:=rv.length;refine wpAny_list_append_plain ⟨nn,pD⟩ (hsz:=by rw [aG];omega) ?_;intro h9 pl9 sb9;obtain ⟨n9,e9⟩:=pl9;have e9':h9.get? s2.heap.objs.size=some { cls:=.type "list",data:=.seq (its++[u8]).toArray n9 }:=by rw [e9];simp
    refine ⟨m',hm,i+1,acc++[y],its++[u8],n9,H8,?_,rv.append (.cons r8 .nil),by rw [aJ,iB];omega,T.keep _ _ _ t8 fun b hb o e=>sb9.extBut b o (fun z=>hDf (z ▸ hb)) e,f8,w8⟩;have I8':bG (cQ X N' scope (ba (G2.objs.size+1) scope.names cl) G2.objs.size s2 H2 fp (X.pn++pins)) [] (jM nt ix σ) H8 s8:=(I8.weak l6.symm hw).pins_of fun p hp=>absurd hp (by simp);have I9:bG (cQ X N' scope (ba (G2.objs.size+1) scope.names cl) G2.objs.size s2 H2 fp (X.pn++pins)) [] (jM nt ix σ) H8 { s8 with heap:=h9,toks:=s8.toks } :=
     I8'.turned (it:=s2.heap.objs.size) (fun b o hb e=>sb9.extBut b o hb e) pN hDC (.inr (ar _)) (fun x c e z=>by
      rcases cne x c e with e|e
      ·obtain ⟨v,q⟩:=I2.cell x c e;exact absurd q.lt (by rw [z];exact c6 _)
      ·exact absurd e (by rw [z];exact c6 _)) fun p hp z=>by
      have hp:p∈X.pn++pins:=(List.mem_append.mp hp).elim id fun z=>absurd z (by simp);exact absurd (am (I2.pin p hp).1) (by rw [z];exact c6 _)
    exact I9.pin1 e9' pN hDC hDfs (nod _ _)
 exact codeAny_compStart_list loop (T.self _ 0 _ _ _ st1 loop)
end
section
theorem E8
  (hc:X.calm=true) (S:nW X scope N' nt ix) (lo:RY nt g) (hi:PI X tg iter wi)
  (hb:∀ cl C s₀ H₀ ex pn,PG (cQ X N' scope cl C s₀ H₀ ex pn) tg g/\Pn (cQ X N' scope cl C s₀ H₀ ex pn) ifs tt/\PE (cQ X N' scope cl C s₀ H₀ ex pn) elt te)
  (hs:∀ x,eF iter X.env x=pure x:=by intro _;rfl):PE X (.ListComp elt [⟨tg,iter,ifs,0⟩] scope pos) (MH nt ix wi g tt te):=by
 intro pins s σ H Q I h;obtain ⟨cl,hcl,c1,c2⟩:=tZ (scope:=scope) (env:=X.env) fun y hy hf=>I.ok.has y.1 (S.free y hy hf);rw [eval_ListComp];refine qR (use:=none) rfl hs hcl S.kind S.loc (fY (hi pins s σ H _ I h) fun v s1 h1=>fY h1 fun itv s2 h2=>?_);obtain ⟨it,fp,tn,J,H2,e,I2,T,st2,f2,W,w0,turn⟩:=h2;subst e;refine yD (RR:=fun acc C=>compPost (aB X.prog X.w) X.A X.xe none (EP X pins σ Q) acc C) hc S lo hb c1 c2 I2 T st2 f2 w0 turn ?_;intro D C m s' acc H' hD _ q hn hI;exact ⟨m,hn,fun h' sb=>⟨.ref D,_,hI h' sb,rfl,q⟩⟩
def V4 (i:Nat) (te:TE):TS:=fun D σ H=>te σ H fun x H1=>D.nx (σ.set i (some x)) H1
theorem GU
  (hN:X.N.Nodup) (hiN:X.N[i]?=some y) (hy:X.env.scope.names.lookup y=some .local)
  (hc:X.calm=true) (S:nW X scope N' nt ix) (lo:RY nt g) (hi:PI X tg iter wi)
  (hb:∀ cl C s₀ H₀ ex pn,PG (cQ X N' scope cl C s₀ H₀ ex pn) tg g/\Pn (cQ X N' scope cl C s₀ H₀ ex pn) ifs tt/\PE (cQ X N' scope cl C s₀ H₀ ex pn) elt te)
  (hsw:iq (.ListComp elt [⟨tg,iter,ifs,0⟩] scope pos) (some (.Name y py)) spos.line X.env=pure true:=by rfl)
  (hs:∀ x,eF iter X.env x=pure x:=by intro _;rfl):PS X (.Assign [.Name y py] (.ListComp elt [⟨tg,iter,ifs,0⟩] scope pos) spos) (V4 i (MH nt ix wi g tt te)):=by
 intro pins s σ H D I h;obtain ⟨cl,hcl,c1,c2⟩:=tZ (scope:=scope) (env:=X.env) fun y hy hf=>I.ok.has y.1 (S.free y hy hf);rw [exec_Assign_Name_used _ _ _ _ hsw];refine a6 (du (a6 ?_));show ak _ X.A (do let _ <- comprehension (.ListComp elt [⟨tg,iter,ifs,0⟩] scope pos) scope X.env _ (newList []) false (cL iter X.env) (some (qP (.Name y py) X.env))) _ _ s;refine a6 (aZ (qR (use:=some (qP (.Name y py) X.env)) (Q:=fun _ s'=>SP X pins D .next s') rfl hs hcl S.kind S.loc
  (fY (hi pins s σ H _ I h) fun v s1 h1=>fY h1 fun itv s2 h2=>?_)) (fun _ s' hq=>aa (aa hq)) fun _ _ e=>e)
 obtain ⟨it,fp,tn,J,H2,e,I2,T,st2,f2,W,w0,turn⟩:=h2;subst e;refine yD (Q:=fun x H1=>D.nx (σ.set i (some x)) H1) (RR:=fun acc C=>compPost (aB X.prog X.w) X.A X.xe (some (qP (.Name y py) X.env)) (fun _ s'=>SP X pins D .next s') acc C) hc S lo hb c1 c2 I2 T st2 f2 w0 turn ?_;intro L C m s' acc H' hD fC q hn hI;show ak _ X.A (qP (.Name y py) X.env (.ref L)) _ _ _;have I3:bG X pins σ (upd H' L (.lst acc)) s':=hI s'.heap (.refl ..);refine wpAny_assign_Name (B2 I3 hN hiN (.inl hy) (v:=.ref L) rfl (fun s4 I4 ⟨a,sb,ha⟩=>?_) (.inr hy));obtain ⟨g0,g1,g2,g3,g4,g5⟩:=fC;have hCa:C≠a:=by
  rcases ha with z|z
  ·rw [z];exact g1
  ·exact fun e=>g4 y a z e.symm
 refine ⟨m,hn.sameBut sb hCa,fun h5 sb5=>?_⟩;exact ⟨_,_,I4.turned (t':=s4.toks) (fun b o hb e=>(sb5.2 b hb).trans e) g0 g1 g3 g4 g5,q⟩
end
section
def kn (e:Int×ae):Str:=match e.2 with
 |.str x _=>x
 |_=>⟨#[]⟩
def t_ (w:bE) (e:Int×ae):Prop:=∃ x tk,e=(hashStr w x,j5 x tk)
structure cW (w:bE) (h:bw) (a:ag) (es:Array (Int×ae)) (ep:Nat) (t:lG):Prop where
 at_:h.get? a=some { cls:=.type "set",dict:=none,data:=.set es ep t }
 txt:∀ e∈es.toList,t_ w e
 nd:(es.toList.map kn).Nodup
 few:es.size<iZ
 fits:t.fits es.size=true
 led:t.led=!w.params.followText "set-order"
 pl:es.size=0\/t.plain=false
inductive lK (w:bE) (h:bw) (a:ag) (ss:List Str):Prop
 |mk (es ep t:_) (h0:cW w h a es ep t) (h1:(es.toList.map kn).Perm ss):lK w h a ss
theorem GV (t:lG) (es:Array (Int×ae)) (h:Int) (x:ae):(layNew t es h x).2.1.led=t.led:=by
 unfold layNew;cases t.freeSlot h with
 |none=>rfl
 |some p =>
  obtain ⟨slot,d⟩:=p;show ((t.put slot).1.orStandIn _).led=_;unfold G5;split<;>rfl
theorem Cr (t:lG) (es:Array (Int×ae)) (h:Int) (x:ae):t.plain=false->(layNew t es h x).2.1.plain=false:=by
 intro hp;unfold layNew;cases t.freeSlot h with
 |none=>rfl
 |some p =>
  obtain ⟨slot,d⟩:=p;show ((t.put slot).1.orStandIn _).plain=_;unfold G5;split
  ·exact hp
  ·rfl
theorem E9 {t t':lG}{hs:Array Int}{n:Nat}{o:Array Nat} (h:t.relaid hs n=some (t',o)):t'.led=t.led/\t'.plain=t.plain:=by
 unfold Kb Ab at h;cases e:uG (cq n-1) hs with
 |none=>rw [e] at h;cases h
 |some ow =>
  rw [e] at h;have h:=bx h;have h1:=congrArg Prod.fst h;subst h1;exact ⟨rfl,rfl⟩
theorem Kw (t:lG) (es:Array (Int×ae)) (n:Nat):(vV t es n).2.1.led=t.led/\(t.plain=false->(vV t es n).2.1.plain=false):=by
 unfold vV;cases e:t.relaid (es.map (·.1)) n with
 |none=>exact ⟨rfl,fun _=>rfl⟩
 |some p =>
  obtain ⟨t',o⟩:=p;obtain ⟨h1,h2⟩:=E9 e;dsimp only;split
  ·exact ⟨h1,fun h=>h2.trans h⟩
  ·exact ⟨rfl,fun _=>rfl⟩
theorem MJ   (h:∀ e∈l,t_ w e):ElemsOf (strKind P w) l:=fun e he=>by
 obtain ⟨x,tk,rfl⟩:=h e he;exact ⟨⟨x,by simp [PySem.strKind,uD],rfl⟩,rfl⟩
theorem Wv (P:bf) (w:bE) (x:Str) (tk:Tok):(strKind P w).is x (.str x tk)=true:=by simp [PySem.strKind,uD]
theorem IQ   (h:t_ w e) (x:Str):(strKind P w).is x e.2=true↔kn e=x:=by
 obtain ⟨y,tk,rfl⟩:=h;constructor
 ·intro q;have:=(strKind P w).inj _ _ _ q (Wv P w y tk);rw [this];rfl
 ·rintro rfl;exact Wv P w _ tk
section
theorem sr     (I:cW w h a es ep t):(h.update a (qS es' t')).get? a=some { cls:=.type "set",dict:=none,data:=.set es' (ep+1) t' }:=by
 have q:=gq (qS es' t') I.at_ rfl;exact q
theorem Bf     (hS:lK w s.heap a ss) (hr:ss.length+1<iZ)
  (h:∀ h' tk',bI a s.heap h'->lK w h' a (if x∈ss then ss else ss++[x])->Q (!decide (x∈ss)) { s with heap:=h',toks:=tk' }) :
  ak (aB P w) A (setAddHashed a (.str x tk) ((strKind P w).hash x)) Q E s:=by
 obtain ⟨es,ep,t,I,pm⟩:=hS
 have hlen:es.size=ss.length:=by rw [<- pm.length_eq,au,aq]
 have hel:ElemsOf (strKind P w) es.toList:=MJ I.txt
 unfold setAddHashed setAddHashedIn
 refine bW (a6 (bu (s:=s) I.at_ rfl I.fits ?_))
 dsimp only
 rw [byScan_of rfl I.few hel]
 rw [if_pos rfl]
 unfold setAddByScan
 refine a6 (a6 (gI (a6 (wpAny_setScan_of (s:=s) (Wv P w x tk) I.at_ rfl I.fits hel ?_))))
 have inmem:x∈ss↔∃ e∈es.toList,(strKind P w).is x e.2=true:=by
  rw [<- pm.mem_iff,List.mem_map]
  constructor
  ·rintro ⟨e,he,q⟩;exact ⟨e,he,(IQ (I.txt e he) x).mpr q⟩
  ·rintro ⟨e,he,q⟩;exact ⟨e,he,(IQ (I.txt e he) x).mp q⟩
 cases hf:List.findIdx? (fun e=>(strKind P w).is x e.2) es.toList with
 |some j =>
  obtain ⟨hj,hp,_⟩:=List.findIdx?_eq_some_iff_getElem.mp hf
  have hin:x∈ss:=inmem.mpr ⟨_,fV hj,hp⟩
  have q:=h s.heap s.toks (.refl ..) (by rw [if_pos hin];exact ⟨es,ep,t,I,pm⟩)
  rw [decide_eq_true hin] at q
  exact aa (aa q)
 |none =>
  have hout:x∉ss:=fun z=>by
   obtain ⟨e,he,q⟩:=inmem.mp z
   rw [List.findIdx?_eq_none_iff.mp hf e he] at q
   cases q
  have h:=fun h' tk' sb=>h h' tk' sb
  rw [decide_eq_false hout,if_neg hout] at h
  have p1:=layNew_perm t es ((strKind P w).hash x) (.str x tk)
  have f1:=layNew_fits t es ((strKind P w).hash x) (.str x tk)
  have l1:=GV t es ((strKind P w).hash x) (.str x tk)
  have q1:=Cr t es ((strKind P w).hash x) (.str x tk)
  generalize layNew t es ((strKind P w).hash x) (.str x tk)=L at p1 f1 l1 q1 ⊢
  obtain ⟨es1,t1,wd,gv⟩:=L
  dsimp only at p1 f1 l1 q1 ⊢
  rw [LO] at p1
  have tx1:∀ e∈es1.toList,t_ w e:=fun e he=>by
   rcases List.mem_append.mp (p1.mem_iff.mp he) with z|z
   ·exact I.txt e z
   ·rw [bT] at z;exact ⟨x,tk,z⟩
  have km:(es1.toList.map kn).Perm (ss++[x]):=(p1.map kn).trans (by rw [cm];exact pm.append_right _)
  have nd1:(ss++[x]).Nodup:=by
   rw [M3]
   exact ⟨pm.nodup_iff.mp I.nd,by simp,fun y hy z hz e=>hout (by rw [bT] at hz;rw [<- hz,<- e];exact hy)⟩
  have sz1:es1.size=es.size+1:=by rw [<- aq,p1.length_eq,aJ,aq];rfl
  have few1:es1.size<iZ:=by omega
  have gw:∀ (b:Bool) {s₁:ah}{Q':Unit->ah->Prop},Q' () s₁->ak (aB P w) A (match b with|true=>rule "set.scan.the-table-gave-way" | false=>pure ()) Q' E s₁ :=
   fun b _ _ z=>by cases b<;>first|exact aa z|exact gI z
  have tail:∀ t2:lG,t2.fits es1.size=true->t2.led=t.led->t2.plain=false->ak (aB P w) A (do
    storeSet a es1 t2
    if (!wd&&t2.tooFull)=true then do
      (match (vV t2 es1 (iC es1.size)).2.2 with|true=>rule "set.scan.the-table-gave-way" | false=>pure ())
      storeSet a (vV t2 es1 (iC es1.size)).1 (vV t2 es1 (iC es1.size)).2.1
      pure (some true)
     else pure (some true)) (fun r s'=>r=some true/\Q true s') E s:=fun t2 f2 l2 n2=>by
   refine a6 (j8 (s:=s) I.at_ rfl ?_ (fJ few1))
   have at1:=sr (es':=es1) (t':=t2) I
   have sb1:=bZ s.heap a (qS es1 t2)
   have I1:cW w (s.heap.update a (qS es1 t2)) a es1 (ep+1) t2:=⟨at1,tx1,km.nodup_iff.mpr nd1,few1,f2,l2.trans I.led,.inr n2⟩
   split
   ·have p2:=relayAll_perm t2 es1 (iC es1.size)
    have f3:=relayAll_fits t2 es1 (iC es1.size)
    have l3:=Kw t2 es1 (iC es1.size)
    generalize vV t2 es1 (iC es1.size)=R3 at p2 f3 l3 ⊢
    obtain ⟨es2,t3,gv2⟩:=R3
    dsimp only at p2 f3 l3 ⊢
    have few2:es2.size<iZ:=by rw [<- aq,p2.length_eq,aq];exact few1
    have km2:=(p2.map kn).trans km
    refine a6 (gw _ (a6 (j8 (s:={ s with heap:=s.heap.update a (qS es1 t2) }) I1.at_ rfl ?_ (fJ few2))))
    refine aa ⟨rfl,h _ _ (sb1.trans (bZ _ a _)) ⟨es2,ep+1+1,t3,⟨sr I1,fun e he=>tx1 e (p2.mem_iff.mp he),km2.nodup_iff.mpr nd1,few2,f3,l3.1.trans (l2.trans I.led),.inr (l3.2 n2)⟩,km2⟩⟩
   ·exact aa ⟨rfl,h _ _ sb1 ⟨es1,ep+1,t2,I1,km⟩⟩
  refine a6 (gw gv ?_)
  cases hp:t1.plain with
  |true =>
   simp only [if_true]
   rw [hashByValue_scannable 8 (x:=.str x tk) rfl]
   refine a6 (aa ?_)
   refine aZ (tail { t1 with plain:=false } (by cases t1;exact f1) l1 rfl) (fun r s' z=>?_) fun _ _ z=>z
   obtain ⟨rfl,z⟩:=z
   exact aa z
  |false =>
   simp only [cb,if_false]
   refine a6 (aa ?_)
   refine aZ (tail t1 f1 l1 hp) (fun r s' z=>?_) fun _ _ z=>z
   obtain ⟨rfl,z⟩:=z
   exact aa z
theorem Ea     (hS:lK w s.heap a ss) (hr:ss.length+1<iZ)
  (h:∀ h' tk',bI a s.heap h'->lK w h' a (if x∈ss then ss else ss++[x])->Q (!decide (x∈ss)) { s with heap:=h',toks:=tk' }) :
  ak (aB P w) A (setAdd a (.str x tk)) Q E s:=by
 unfold setAdd;refine bW (a6 ((strKind P w).pyHash (k:=x) (Wv P w x tk) ?_));exact Bf (s:={ s with toks:=s.toks+1 }) hS hr h
end
end
section
abbrev fo (w:bE):Obj:={ cls:=.type "set",dict:=none,data:=.set #[] 0 (.fresh 0 0 (!w.params.followText "set-order")) }
theorem Bg (w:bE)  (e:h.get? a=some (fo w)):lK w h a [] :=
 ⟨#[],0,_,⟨e,fun e he=>by simp at he,by simp,by decide,rfl,rfl,.inl rfl⟩,by simp⟩
def dh:List Str->List Str->List Str
 |acc,[]=>acc
 |acc,x::r=>dh (if x∈acc then acc else acc++[x]) r
theorem iQ:∀ (l acc:List Str) (x:Str),x∈dh acc l↔x∈acc\/x∈l
 |[],acc,x=>by simp [dh]
 |y::r,acc,x=>by
  rw [dh,iQ r];by_cases h:y∈acc
  ·rw [if_pos h];simp only [aQ];constructor
   ·exact fun z=>z.elim .inl fun z=>.inr (.inr z)
   ·rintro (z|z|z)
    ·exact .inl z
    ·exact .inl (z ▸ h)
    ·exact .inr z
  ·rw [if_neg h];simp [m7,or_assoc]
theorem iL:∀ (l acc:List Str),acc.Nodup->(dh acc l).Nodup
 |[],acc,h=>h
 |y::r,acc,h=>by
  rw [dh];refine iL r _ ?_;by_cases hy:y∈acc
  ·rw [if_pos hy];exact h
  ·rw [if_neg hy,M3];exact ⟨h,by simp,fun a ha b hb e=>hy (by rw [bT] at hb;rw [<- hb,<- e];exact ha)⟩
theorem gF:∀ (l acc:List Str),(dh acc l).length<=acc.length+l.length
 |[],acc=>by simp [dh]
 |y::r,acc=>by
  rw [dh];have:=gF r (if y∈acc then acc else acc++[y]);by_cases hy:y∈acc
  ·rw [if_pos hy] at this ⊢;simp only [aM];omega
  ·rw [if_neg hy] at this ⊢;simp only [aM,aJ,iB,bi] at this ⊢;omega
section
theorem lK.keep   (x:lK w h a ss) (k:∀ o,h.get? a=some o->h'.get? a=some o):lK w h' a ss :=
 let ⟨es,ep,t,I,p⟩:=x;⟨es,ep,t,⟨k _ I.at_,I.txt,I.nd,I.few,I.fits,I.led,I.pl⟩,p⟩
theorem As {I:ag}{fp wr:List ag}{n:Nat}{Pv:Nat->ae->Prop}{St:Nat->bw->Prop} (W:LP prog w A.in1 I fp wr n Pv St) (D:ag) (hD:D∉fp) (xs:List Str) (hx:xs.length=n)
  (hv:∀ i v,Pv i v->∃ x t,xs[i]?=some x/\v=.str x t) (hb:n+1<iZ) :
  ∀ (k i:Nat) (s:ah) (acc:List Str),n-i=k->i<=n->acc.length<=i->St i s.heap->lK w s.heap D acc ->
   (∀ h' tk,(∀ b o,b∉D::wr->s.heap.get? b=some o->h'.get? b=some o)->lK w h' D (dh acc (xs.drop i))->R (.ok (.ret .none)) { s with heap:=h',toks:=tk }) ->
   ij (aB prog w) A (.builtin "set.update.loop" ⟨[.ref D,.ref I],[]⟩) R s:=by
 have hDw:D∉wr:=fun z=>hD (W.sub _ z);intro k;induction k with
 |zero =>
  intro i s acc hk hi hl st hS hR;obtain rfl:i=n:=by omega
  refine fO pf ?_;rw [eV iy _];show ak _ A.in1 (nL (.ref I) >>= _) _ _ s;refine a6 (W.done s _ _ st fun h' tk kp=>?_);refine aa (hR h' tk (fun b o hb e=>kp b o (fun z=>hb (ao _ z)) e) ?_);rw [qK (by omega)];exact hS.keep fun o e=>kp D o hDw e
 |succ k ih =>
  intro i s acc hk hi hl st hS hR;have hlt:i<n:=by omega
  refine fO pf ?_;rw [eV iy _];show ak _ A.in1 (nL (.ref I) >>= _) _ _ s;refine a6 (W.item i s _ _ hlt st fun v h' tk hP st' kp=>?_);obtain ⟨x,t,hxi,rfl⟩:=hv i v hP;have hS':lK w h' D acc:=hS.keep fun o e=>kp D o hDw e;refine a6 (bW (Ea (s:={ s with heap:=h',toks:=tk }) hS' (by omega) fun h2 tk2 sb hS2=>?_));refine aa ⟨mU iy _,ih (i+1) _ (if x∈acc then acc else acc++[x]) (by omega) hlt ?_ (W.frame _ _ _ st' fun b hb o e=>?_) hS2 fun h3 tk3 k3 hS3=>?_⟩
  ·by_cases z:x∈acc
   ·rw [if_pos z];omega
   ·rw [if_neg z,aJ,iB];omega
  ·rw [sb.2 b fun z=>hD (z ▸ hb)];exact e
  ·refine hR h3 tk3 (fun b o hb e=>k3 b o hb ?_) ?_
   ·rw [sb.2 b fun z=>hb (by rw [z];exact al)];exact kp b o (fun z=>hb (ao _ z)) e
   ·have hd:xs.drop i=x::xs.drop (i+1):=by
     obtain ⟨h1,h2⟩:=List.getElem?_eq_some_iff.mp hxi;rw [C3 h1,h2]
    rw [hd,dh];exact hS3
theorem MK (a:ae) (h:Q₁ (.ref s.heap.objs.size) { s with heap:=s.heap.push (fo w) }) :
  ij (aB prog w) A (.call (.builtin "set.__new__") ⟨[.type "set",a],[]⟩) (wants Q₁ E) s:=by
 refine uH ?_;show ak _ A.in1 (do ml "set.__new__" ⟨[.type "set",a],[]⟩;again (.builtin "set.__new__" ⟨[.type "set",a],[]⟩)) _ _ s;refine a6 (mY (F.newCall_set_1 a) (aa ⟨mU F.plain_set_new _,fO F.entry_set_new ?_⟩));rw [eV F.plain_set_new _];unfold fK.«set.__new__» Px;have hsub:=M4;obtain ⟨hp,g,d,tk,os⟩:=s;dsimp only;wp_walk;refine iu (aa ?_);dsimp only;simp only [newObj];refine a6 (Pw (aa ?_));exact aa h
structure Tz (prog:bf) (w:bE) (A:bV) (T:String) (l:ag) (o:Obj) (items:Array ae):Prop where
 ty:o.cls=.type T
 s1:isSubtype (.type T) (.type "set")=pure false
 s2:isSubtype (.type T) (.type "frozenset")=pure false
 nd:(i7 T==i7 "dict")=false
 iter:∀ (s:ah) (Q:ae->ah->Prop) (E:ae->ah->Prop),s.heap.get? l=some o ->
  (∀ ob St,LP prog w A.in1 s.heap.objs.size [s.heap.objs.size,l] [s.heap.objs.size] items.size (fun i v=>items[i]?=some v) St->St 0 (s.heap.push ob)->Q (.ref s.heap.objs.size) { s with heap:=s.heap.push ob })->ak (aB prog w) A (C1 (.ref l)) Q E s
theorem v4 {T:String}{l:ag}{ol:Obj}{items:Array ae}{xs:List Str}{Q:ae->ah->Prop}
  (src:Tz prog w A.in1.in1 T l ol items) (hol:s.heap.get? l=some ol) (hi:∀ (i:Nat) (v:ae),items[i]?=some v->∃ x t,xs[i]?=some x/\v=j5 x t) (hx:xs.length=items.size) (hb:items.size+1<iZ)
  (h:∀ (h':bw) (tk:Nat),lK w h' s.heap.objs.size (dh [] xs)->(∀ b o,s.heap.get? b=some o->h'.get? b=some o)->Q (.ref s.heap.objs.size) { s with heap:=h',toks:=tk }) :
  ak (aB prog w) A (call (.type "set") [.ref l]) Q E s:=by
 obtain ⟨c,tl,hmro⟩:=F.called_set.mro;have hmade:=F.called_set.made;have hsub:=F.called_set.sub;refine kF (uH ?_);show ak _ _ (callAny (.type "set") _) _ _ _;refine aa ⟨n5 _ (by decide +kernel),fO F.entry_type_call ?_⟩;rw [Around.under_plain (weight_type_call_type "set" [.ref l] []) rfl];have h1:=F.called_set.notType;have h2:=F.called_set.canCreate;have hct:=F.typeCall_set_1 (.ref l);repeat (any_goals (first|assumption|wp_step))
 refine oA (MK (.ref l) (E:=E) (Q₁:=fun obj s₁=>obj=.ref s.heap.objs.size/\s₁={ s with heap:=s.heap.push (fo w) }) ⟨rfl,rfl⟩) fun r s₁ hr=>?_;cases r with
 |error e=>exact hr
 |ok fl =>
  cases fl with
  |ret obj =>
   obtain ⟨rfl,rfl⟩:=hr;have hS:(s.heap.push (fo w)).get? s.heap.objs.size=some (fo w):=aF _ rfl;have hT:Py { s with heap:=s.heap.push (fo w) } (.ref s.heap.objs.size) "set":=⟨_,hS,rfl⟩;have hli:=F.called_set.init.lookup;have hbi:=F.called_set.init.bind (.ref s.heap.objs.size);repeat (any_goals (first|assumption|wp_step))
   refine oA (js (R:=wants (fun r s₂=>r=.none/\∃ h' tk,s₂={ s with heap:=h',toks:=tk }/\lK w h' s.heap.objs.size (dh [] xs) /\
     (∀ b o,s.heap.get? b=some o->h'.get? b=some o)) E) F.called_set.init.plain F.entry_set_init (check_set_init_1 hT ?_)) fun r₂ s₂ hr₂=>?_
   ·obtain ⟨oc,od,odt,os'⟩:=ol;obtain ⟨ty,s1,s2,nd,iter⟩:=src;have ty:oc=.type T:=ty;subst ty;have hol':(s.heap.push (fo w)).get? l=some { cls:=.type T,dict:=od,data:=odt,slots:=os' }:=ac _ hol;unfold fK.«set.__init__» noKeywords jJ;generalize hPI:C1=PI;wp_walk;subst hPI;refine iter { s with heap:=s.heap.push (fo w) } _ _ hol' fun ob St W st=>?_;have hlS:l<s.heap.objs.size:=am hol;refine a6 (wpAny_runValue ?_);have szp:(s.heap.push (fo w)).objs.size=s.heap.objs.size+1:=cp ..;refine As (A:=A.in1.in1) W s.heap.objs.size (by rw [szp];simp only [aQ,aH,or_false,not_or];exact ⟨aD (fW _),eh hlS⟩) xs hx hi hb items.size 0 _ [] (by omega) (eB _) (ar _) st (Bg w (ac _ hS)) fun h' tk kp hS'=>?_;show ak _ _ _ _ _ _;refine aa ?_;show ak _ _ (ret dz) _ _ _;refine aa ⟨rfl,h',tk,rfl,hS',fun b o e=>kp b o ?_ (ac _ (ac _ e))⟩;have:=am e;rw [szp];simp only [aQ,aH,or_false,not_or];exact ⟨aD this,aD (gR this)⟩
   ·cases r₂ with
    |error e=>exact hr₂
    |ok fl₂ =>
     cases fl₂ with
     |ret r =>
      obtain ⟨rfl,h',tk,rfl,hS',hk'⟩:=hr₂;repeat (any_goals (first|assumption|wp_step))
      exact h _ _ hS' hk'
     |next=>exact hr₂.elim
     |brk=>exact hr₂.elim
     |cont=>exact hr₂.elim
  |next=>exact hr.elim
  |brk=>exact hr.elim
  |cont=>exact hr.elim
theorem ML {l:ag}{o:Obj}{its:List ae} (hh:A.handled=none) (e0:o.cls=.type "list") (e1:∃ n,o.data=.seq its.toArray n):Tz prog w A "list" l o its.toArray :=
 ⟨e0,F.sub_list_set,F.sub_list_frozenset,by decide,fun s Q E e h=>lB ⟨_,e,e0,e1⟩
  (h _ _ (Ag (by simpa using hh) _ l (aD (am e)) its.toArray) ⟨⟨_,aF _ rfl,rfl,rfl⟩,⟨_,ac _ e,e0,e1⟩⟩)⟩
theorem Qr {l:ag}{o:Obj}{its:List ae} (hh:A.handled=none) (e0:o.cls=.type "tuple") (e1:∃ n,o.data=.seq its.toArray n):Tz prog w A "tuple" l o its.toArray :=
 ⟨e0,F.sub_tuple_set,F.sub_tuple_frozenset,by decide,fun s Q E e h=>gJ ⟨_,e,e0,e1⟩
  (h _ _ (Walks.tuple (by simpa using hh) _ l (aD (am e)) its.toArray) ⟨⟨_,aF _ rfl,rfl,rfl⟩,⟨_,ac _ e,e0,e1⟩⟩)⟩
end
end
end L2
section
namespace L2
open PySem PySem.Spec PyProof.Rows
namespace SI
theorem entry_iter:Gr table "set.__iter__"=some fK.«frozenset.__iter__» :=
 Gs (id':="frozenset.__iter__") (by kernel_rfl) rfl (by decide +kernel) (by kernel_rfl)
theorem slot_next:Slot "set_iterator" "__next__" "set_iterator.__next__":=by
 refine .of (owner:="set_iterator") (n:="__next__") ?_ ?_ ?_ ?_ ?_ ?_
 ·rw [uI,m9];kernel_rfl
 ·decide +kernel
 ·decide +kernel
 ·decide +kernel
 ·first
   |exact .inl (by decide +kernel)
   |exact .inr (by decide +kernel)
 ·rw [Gu];kernel_rfl
theorem entry_next:Gr table "set_iterator.__next__"=some fK.«set_iterator.__next__» :=
 entryFor_of_tree (by kernel_rfl)
theorem Eb:Manifest.owners.lookup (String.ofList ['r','o','t','a','r','e','t','i','_','t','e','s'].reverse)=some Manifest.sig_set_iterator:=by kernel_rfl
theorem args_next (a:ae):Gv "set_iterator.__next__" ⟨[a],[]⟩:=by
 unfold Gv;rw [signature?_of (id:="set_iterator.__next__") (n:=['_','_','t','x','e','n','_','_']) (o:=['r','o','t','a','r','e','t','i','_','t','e','s']) (by kernel_rfl) Eb]
 kernel_rfl
theorem args_iter (a:ae):Gv "set_iterator.__iter__" ⟨[a],[]⟩:=by
 unfold Gv;rw [signature?_of (id:="set_iterator.__iter__") (n:=['_','_','r','e','t','i','_','_']) (o:=['r','o','t','a','r','e','t','i','_','t','e','s']) (by kernel_rfl) Eb]
 kernel_rfl
theorem entry_self:Gr table "set_iterator.__iter__"=some fK.«dict_keyiterator.__iter__» :=
 Gs (id':="dict_keyiterator.__iter__") (by kernel_rfl) rfl (by decide +kernel) (by kernel_rfl)
theorem slot_iter:Slot "set_iterator" "__iter__" "set_iterator.__iter__":=by
 refine .of (owner:="set_iterator") (n:="__iter__") ?_ ?_ ?_ ?_ ?_ ?_
 ·rw [uI,m9];kernel_rfl
 ·decide +kernel
 ·decide +kernel
 ·decide +kernel
 ·first
   |exact .inl (by decide +kernel)
   |exact .inr (by decide +kernel)
 ·rw [Gu];kernel_rfl
end SI
end L2
end
namespace L2
open PySem PySem.Spec PyProof.Rows
section
theorem u0 {α:Type}:∀ {l:List α}{i:Nat} (h:i<l.length),(l[i]::l.eraseIdx i).Perm l
 |x::r,0,_=>.refl _
 |x::r,i+1,h=>by
  have q:=u0 (l:=r) (i:=i) (by simpa using h);rw [List.getElem_cons_succ,List.eraseIdx_cons_succ];exact (List.Perm.swap _ _ _).trans (q.cons x)
section
theorem Kx   (hn:n≠0) (h:∀ i d,i<n->Q i { s with drawn:=d }):ak M A (choose src n) Q E s :=
 fun _ _ _=>⟨hn,h _ _ (C4 _ (Nat.pos_of_ne_zero hn))⟩
theorem v5 {α:Type}:∀ (n:Nat) (xs:List α) (s:ah) (Q:List α->ah->Prop),n=xs.length->(∀ ys d,ys.Perm xs->Q ys { s with drawn:=d })->ak M A (drawOrder n xs) Q E s
 | 0,xs,s,Q,hn,h=>by
  obtain rfl:xs=[]:=List.length_eq_zero_iff.mp hn.symm;exact aa (h [] s.drawn .nil)
 |n+1,[],s,Q,hn,h=>by cases hn
 |n+1,x::r,s,Q,hn,h=>by
  show ak M A (choose .order (x::r).length >>= _) Q E s;refine a6 (Kx (by simp) fun i d hi=>?_);rw [aW hi];refine a6 (v5 n _ _ _ (by rw [AX hi];omega) fun ys d' p=>aa ?_);exact h _ _ ((p.cons _).trans (u0 hi))
end
theorem Ct {α:Type} (next:Nat->Nat):∀ (n k:Nat) (left:List α) (out:Array α),n=left.length->(Ah next n k left out).toList.Perm (out.toList++left)
 | 0,k,left,out,hn=>by
  obtain rfl:left=[]:=List.length_eq_zero_iff.mp hn.symm;rw [Ah,cB]
 |n+1,k,left,out,hn=>by
  have hl:next k % left.length<left.length:=C4 _ (by omega)
  rw [Ah,aW hl];refine (Ct next n (k+1) _ _ (by rw [AX hl];omega)).trans ?_;rw [LO,kr];exact (u0 hl).append_left _
theorem we {α:Type} (next:Nat->Nat) (xs:Array α):(ph next xs).toList.Perm xs.toList:=by
 have:=Ct next xs.size 0 xs.toList #[] (by simp)
 simpa [ph] using this
def Cu (h:bw) (I S:ag) (first:ae) (i n ep:Nat):Prop:=h.get? I=some { cls:=.type "set_iterator",data:=.fields #[first,.int i 0,.ref S,.int n 0,.int ep 0] }
section
theorem Cu.put {f f':ae}{j j':Nat}{k:Nat}{x:ae}{h:bw} (hit:Cu h I S f j n ep) (e:(#[f,.int j 0,.ref S,.int n 0,.int ep 0] : Array ae).setIfInBounds k x=#[f',.int j' 0,.ref S,.int n 0,.int ep 0]) :
  Cu (h.update I (eY (·.setIfInBounds k x))) I S f' j' n ep:=by
 have q:=gq (eY (·.setIfInBounds k x)) hit rfl;unfold Cu;rw [q];show some ({ cls:=.type "set_iterator",data:=.fields ((#[f,.int j 0,.ref S,.int n 0,.int ep 0] : Array ae).setIfInBounds k x) }:Obj)=_;rw [e]
theorem su (hit:Cu s.heap I S first i n ep) (hS:cW w s.heap S es ep t) (hn:n=es.size)
  (h:ak (aB prog w) A.in1 (do
   if let .int slot _:=first then
    match <- M5 S slot.toNat i ep with
    |some (x,next) =>
     fX (.ref I) 0 (cr next)
     fX (.ref I) 1 (cr (i+1))
     ret x
    |none=>fX (.ref I) 2 .none;vW (<- yi (.type "StopIteration") [])
   else
    let some places <- LQ first|unsupported "internal:set_iterator"
    match places[i]? with
    |some (.int place _) =>
     let x <- setNextDrawn S place.toNat ep
     fX (.ref I) 1 (cr (i+1))
     ret x
    |some _=>unsupported "internal:set_iterator"
    |none=>fX (.ref I) 0 (cr 0);fX (.ref I) 2 .none;vW (<- yi (.type "StopIteration") []))
   (fun fin s'=>∃ v,fin=.done (.ret v)/\Q (some v) s') (fun e s'=>ak (aB prog w) A (pA e (.type "StopIteration")) (fun b s''=>b=true/\Q none s'') E s') s) :
  ak (aB prog w) A (nL (.ref I)) Q E s:=by
 unfold nL;refine a6 (kg ?_);refine cF (name:=ir "__next__") ⟨_,hit,rfl⟩ SI.slot_next ?_;refine cx SI.slot_next ⟨_,hit,rfl⟩ SI.entry_next ?_ (SI.args_next _);show ak _ _ (fieldsOf (.ref I) >>= _) _ _ s;refine a6 (wpAny_fieldsOf hit rfl ?_);show ak _ _ (setEntries S >>= _) _ _ s;refine a6 (wpAny_setEntries_of hS.at_ rfl hS.fits ?_);rw [if_neg (by rw [hn];simp)];refine aZ h (fun fin s' z=>?_) fun e s' z=>?_
 ·obtain ⟨v,rfl,q⟩:=z;exact ⟨v,rfl,aa q⟩
 ·refine a6 (aZ z (fun b s'' ⟨hb,q⟩=>?_) fun _ _ z=>z);subst hb;exact aa q
theorem Cv {B:bV}{Q:Option ae->ah->Prop}{Q':Fin->ah->Prop}{o:Obj}{vs:Array ae} (hh:B.handled=none) (ho:s.heap.get? I=some o) (hd:o.data=.fields vs) (hz:2<vs.size)
  (h:∀ h',Heap.ExtBut I s.heap h'->Q none { s with heap:=h' }) :
  ak (aB prog w) B (do fX (.ref I) 2 .none;vW (<- yi (.type "StopIteration") []))
   Q' (fun e s'=>ak (aB prog w) A (pA e (.type "StopIteration")) (fun b s''=>b=true/\Q none s'') E s') s:=by
 refine a6 (jt ho hd hz ?_);show ak _ _ (yi (.type "StopIteration") [] >>= _) _ _ _;refine a6 ?_;simp only [yi,newTuple];refine a6 (bL ?_ (by size_fits));refine a6 (m:=vX _ _) (mY (a:=dz) ?_ ?_)
 ·first
   |rfl
   |(simp only [vX];rfl)
 refine bL ?_ (by size_fits);simp only [vW];refine a6 (wpAny_handled ?_);rw [hh];refine a6 (aa (wpAny_throw ?_));refine jK (T:="StopIteration") (b:=true) ⟨_,aF _ rfl,rfl⟩ Gw ⟨rfl,?_⟩;exact h _ (((bZ ..).extBut.push _).push _)
end
end
section
section
variable {prog:bf}{w:bE}{A:bV}{E:ae->ah->Prop}{s:ah}{I S:ag}{es:Array (Int×ae)}{ep:Nat}{t:lG}{i n:Nat}{first:ae}
theorem cW.keep (x:cW w h S es ep t) (k:∀ o,h.get? S=some o->h'.get? S=some o):cW w h' S es ep t:=⟨k _ x.at_,x.txt,x.nd,x.few,x.fits,x.led,x.pl⟩
theorem Cy {Q:ae->ah->Prop} (hit:Cu s.heap I S first i n ep) (h:Q (.ref I) s):ak (aB prog w) A (C1 (.ref I)) Q E s:=by
 refine wpAny_pyIter_slot ⟨_,hit,rfl⟩ SI.slot_iter (cx SI.slot_iter ⟨_,hit,rfl⟩ SI.entry_self ?_ (SI.args_iter _));show ak _ _ (ret (.ref I)) _ _ s;exact aa ⟨_,rfl,"set_iterator",_,⟨_,hit,rfl⟩,SI.slot_next.lookup,h⟩
theorem fF {Q:Bool->ah->Prop}{B:bV} (h:Q (w.params.followText "set-order") s):ak (aB prog w) B setsByText Q E s:=by
 unfold setsByText;exact a6 (iu (aa h))
theorem MM {B:bV}{Q':Fin->ah->Prop}{x:ae}{nx:Nat}{E':ae->ah->Prop} (hit:Cu s.heap I S first i n ep)
  (h:∀ h',Cu h' I S (.int nx 0) (i+1) n ep->bI I s.heap h'->Q' (.done (.ret x)) { s with heap:=h' }) :
  ak (aB prog w) B (do fX (.ref I) 0 (cr nx);fX (.ref I) 1 (cr (i+1));ret x) Q' E' s:=by
 refine a6 (jt hit rfl (by simp) ?_);have h1:Cu (s.heap.update I (eY (·.setIfInBounds 0 (cr nx)))) I S (.int nx 0) i n ep:=hit.put (by simp [cr]);refine a6 (jt h1 rfl (by simp) ?_);have h2:Cu ((s.heap.update I (eY (·.setIfInBounds 0 (cr nx)))).update I (eY (·.setIfInBounds 1 (cr (i+1))))) I S (.int nx 0) (i+1) n ep:=h1.put (by simp [cr]);exact aa (h _ h2 ((bZ ..).trans (bZ ..)))
theorem wf (f:Nat->Nat) (es:Array (Int×ae)):(ph f es).size=es.size:=by
 rw [<- aq,(we f es).length_eq,aq]
theorem GW (hh:A.handled=none) (hw:w.params.followText "set-order"=true) (hne:S≠I) :
  LP prog w A I [I,S] [I] es.size (fun i v=>((ph (w.params.setOrder S ep) es).toList.map (·.2))[i]?=some v) (fun i h=>Cu h I S (.int 0 0) i es.size ep/\cW w h S es ep t) where
 sub:=fun b hb=>by simp at hb;simp [hb]
 frame:=fun i h h' st k=>⟨k I (by simp) _ st.1,st.2.keep fun o e=>k S (by simp) o e⟩
 item:=fun i s Q E hi st hQ=>by
  obtain ⟨hit,hS⟩:=st;refine su hit hS rfl ?_;dsimp only;unfold M5 setWalk;refine a6 (a6 (bu hS.at_ rfl hS.fits (a6 (fF ?_))));rw [hw];simp only [if_true,bne_self_eq_false,cb,if_false];refine a6 (a6 (bu hS.at_ rfl hS.fits (a6 (fF ?_))));rw [hw];simp only [if_true];refine a6 (iu (aa (aa ?_)));have hi':i<(ph (w.params.setOrder S ep) es).size:=by rw [wf];exact hi
  show ak _ _ (match ((ph (w.params.setOrder S ep) es)[i]?).map fun e=>(e.2,(0:Int).toNat) with
   |some (x,next)=>do fX (.ref I) 0 (cr next);fX (.ref I) 1 (cr (i+1));ret x
   |none=>do fX (.ref I) 2 .none;vW (<- yi (.type "StopIteration") [])) _ _ s
  rw [getElem?_pos _ i hi'];refine MM (nx:=0) hit fun h' h1 sb=>⟨_,rfl,hQ _ h' s.toks ?_ ⟨h1,hS.keep fun o e=>(sb.2 S hne).trans e⟩ fun b o hb e=>(sb.2 b fun z=>hb (by simp [z])).trans e⟩;simp [hi']
 done:=fun s Q E st hQ=>by
  obtain ⟨hit,hS⟩:=st;refine su hit hS rfl ?_;dsimp only;unfold M5 setWalk;refine a6 (a6 (bu hS.at_ rfl hS.fits (a6 (fF ?_))));rw [hw];simp only [if_true,bne_self_eq_false,cb,if_false];refine a6 (a6 (bu hS.at_ rfl hS.fits (a6 (fF ?_))));rw [hw];simp only [if_true];refine a6 (iu (aa (aa ?_)));show ak _ _ (match ((ph (w.params.setOrder S ep) es)[es.size]?).map fun e=>(e.2,(0:Int).toNat) with
   |some (x,next)=>do fX (.ref I) 0 (cr next);fX (.ref I) 1 (cr (es.size+1));ret x
   |none=>do fX (.ref I) 2 .none;vW (<- yi (.type "StopIteration") [])) _ _ s
  rw [getElem?_neg _ es.size (by rw [wf];exact c6 _)];exact Cv (by simpa using hh) hit rfl (by simp) fun h' eb=>hQ h' s.toks fun b o hb e=>eb b o (fun z=>hb (by simp [z])) e
 self:=fun i s Q E st h=>Cy st.1 h
inductive Xi (h:bw) (T:ag) (ps:List Nat):Prop
 |mk (o k:_) (h0:h.get? T=some o) (h1:o.data=.seq (ps.map fun (p:Nat)=>mS (p:Int) 0).toArray k):Xi h T ps
theorem Ec (hh:A.handled=none)  (hne:S≠I) (hT:T≠I) (hp:∀ p∈ps,p<es.size) (hn:ps.length=es.size) :
  LP prog w A I [I,S,T] [I] es.size (fun i v=>(ps.map fun p=>(es.getD p (0,.none)).2)[i]?=some v) (fun i h=>Cu h I S (.ref T) i es.size ep/\cW w h S es ep t/\Xi h T ps) where
 sub:=fun b hb=>by simp at hb;simp [hb]
 frame:=fun i h h' st k=>⟨k I (by simp) _ st.1,st.2.1.keep fun o e=>k S (by simp) o e,let ⟨o,q,e,d⟩:=st.2.2;⟨o,q,k T (by simp) o e,d⟩⟩
 item:=fun i s Q E hi st hQ=>by
  obtain ⟨hit,hS,o,q,e,d⟩:=st;refine su hit hS rfl ?_;dsimp only;refine a6 (eG e d ?_);have hi':i<ps.length:=by omega
  dsimp only;rw [show ((ps.map fun (p:Nat)=>mS (p:Int) 0).toArray)[i]?=some (.int (ps[i] : Nat) 0) by simp [hi']];dsimp only;unfold setNextDrawn;refine a6 (a6 (bu hS.at_ rfl hS.fits ?_));have hlt:=hp ps[i] (fV hi');simp only [bne_self_eq_false,cb,if_false,kG];rw [getElem?_pos es ps[i] hlt];refine aa ?_;refine a6 (jt hit rfl (by simp) ?_);have h1:Cu (s.heap.update I (eY (·.setIfInBounds 1 (cr (i+1))))) I S (.ref T) (i+1) es.size ep:=hit.put (by simp [cr]);have sb:bI I s.heap (s.heap.update I (eY (·.setIfInBounds 1 (cr (i+1))))):=bZ ..;refine aa ⟨_,rfl,hQ _ _ s.toks ?_ ⟨h1,hS.keep fun o e=>(sb.2 S hne).trans e,o,q,(sb.2 T hT).trans e,d⟩ fun b o hb e=>(sb.2 b fun z=>hb (by simp [z])).trans e⟩;simp [hi',hlt]
 done:=fun s Q E st hQ=>by
  obtain ⟨hit,hS,o,q,e,d⟩:=st;refine su hit hS rfl ?_;dsimp only;refine a6 (eG e d ?_);dsimp only;rw [show ((ps.map fun (p:Nat)=>mS (p:Int) 0).toArray)[es.size]?=none by simp [<- hn]];dsimp only;refine a6 (jt hit rfl (by simp) ?_);have h1:Cu (s.heap.update I (eY (·.setIfInBounds 0 (cr 0)))) I S (.int 0 0) es.size es.size ep:=hit.put (by simp [cr]);have sb:bI I s.heap (s.heap.update I (eY (·.setIfInBounds 0 (cr 0)))):=bZ ..;exact Cv (s:={ s with heap:=s.heap.update I (eY (·.setIfInBounds 0 (cr 0))) }) (by simpa using hh) h1 rfl (by simp) fun h' eb=>hQ h' s.toks fun b o hb e=>eb b o (fun z=>hb (by simp [z])) ((sb.2 b fun z=>hb (by simp [z])).trans e)
 self:=fun i s Q E st h=>Cy st.1 h
theorem MN  (h:p=#[j]):iD p 0=0:=by subst h;simp [iD,Ai]
theorem MO {p:Array Nat}{j:Nat} (h:p=#[j]):iD p (j+1)=1:=by subst h;simp [iD,Ai]
theorem Ky (h : t.fits 1 = true) : ∃ j, t.place = #[j] := by
  have h1 : t.place.size = 1 := by
    simp only [n6, aP, beq_iff_eq] at h; exact h.1
  exact ⟨t.place[0], by apply Array.ext; · simp [h1]
                        · intro i h2 h3; have : i = 0 := by omega
                          subst this; simp⟩
theorem TC   (hl:t.led=true) (h:ak (aB prog w) B (k ()) Q E s) :
  ak (aB prog w) B ((if (!t.led && !es.isEmpty)=true then unsupported "set:maker-not-led" else pure ()) >>= k) Q E s:=by
 rw [if_neg (by rw [hl];simp)];exact a6 (aa h)
theorem v6 {B:bV}{slot g:Nat}{Q:Option (ae×Nat)->ah->Prop} (hw:w.params.followText "set-order"=false) (hS:cW w s.heap S es ep t) (h1:es.size<=1)
  (h:Q (match es[iD t.place slot]?,t.place[iD t.place slot]? with|some (_,x),some j=>some (x,j+1)|_,_=>none) s):ak (aB prog w) B (M5 S slot g ep) Q E s:=by
 unfold M5;refine a6 (bu hS.at_ rfl hS.fits (a6 (fF ?_)));rw [hw];simp only [cb,if_false];split
 ·rename_i z
  exact absurd (show (!t.plain&&decide (es.size > 1))=true from z) (by simp;omega)
 ·have hl:t.led=true:=by rw [hS.led,hw];rfl
  exact TC hl (aa h)
theorem Kz (hh:A.handled=none) (hw:w.params.followText "set-order"=false) (hne:S≠I) (h1:es.size<=1) :
  LP prog w A I [I,S] [I] es.size (fun i v=>(es.toList.map (·.2))[i]?=some v)
   (fun i h=>∃ k,Cu h I S (.int (k:Nat) 0) i es.size ep/\cW w h S es ep t/\(i=0->k=0)/\(i=1->es.size=1->∃ j,t.place=#[j]/\k=j+1)) where
 sub:=fun b hb=>by simp at hb;simp [hb]
 frame:=fun i h h' st k=>let ⟨c,a1,a2,a3⟩:=st;⟨c,k I (by simp) _ a1,a2.keep fun o e=>k S (by simp) o e,a3⟩
 item:=fun i s Q E hi st hQ=>by
  obtain ⟨c,hit,hS,c0,c1⟩:=st;have hi0:i=0:=by omega
  subst hi0;obtain rfl:c=0:=c0 rfl;have e1:es.size=1:=by omega
  obtain ⟨j,hj⟩:=Ky (t:=t) (by rw [<- e1];exact hS.fits);refine su hit hS rfl ?_;dsimp only;refine a6 (v6 hw hS h1 ?_);rw [show (((0:Nat):Int).toNat)=0 from rfl,MN hj,getElem?_pos es 0 (by omega),hj];refine MM (nx:=j+1) hit fun h' h1 sb=>⟨_,rfl,hQ _ h' s.toks ?_ ⟨j+1,h1,hS.keep fun o e=>(sb.2 S hne).trans e,by simp,fun _ _=>⟨j,hj,rfl⟩⟩ fun b o hb e=>(sb.2 b fun z=>hb (by simp [z])).trans e⟩;simp [e1]
 done:=fun s Q E st hQ=>by
  obtain ⟨c,hit,hS,c0,c1⟩:=st;refine su hit hS rfl ?_;dsimp only;refine a6 (v6 hw hS h1 ?_);have hz:es[iD t.place ((c:Nat):Int).toNat]?=none:=by
   rcases Nat.eq_zero_or_pos es.size with z|z
   ·rw [getElem?_neg];omega
   ·have e1:es.size=1:=by omega
    obtain ⟨j,hj,hc⟩:=c1 e1 e1;rw [hc,show (((j+1:Nat):Int).toNat)=j+1 from rfl,MO hj,getElem?_neg];omega
  rw [hz];exact Cv (by simpa using hh) hit rfl (by simp) fun h' eb=>hQ h' s.toks fun b o hb e=>eb b o (fun z=>hb (by simp [z])) e
 self:=fun i s Q E st h=>let ⟨_,a1,_⟩:=st;Cy a1 h
theorem GX {Q:ae->ah->Prop} (hh:A.handled=none) (hS:cW w s.heap S es ep t)
  (h:∀ (I:ag) (fp:List ag) (ord:List ae) (St:Nat->bw->Prop) (h':bw) (d:LK),s.heap.objs.size<=I->(∀ b∈fp,b=S\/s.heap.objs.size<=b)->(∀ b∈fp,b<h'.objs.size)->ord.Perm (es.toList.map (·.2))->(∀ B:bV,B.handled=none->LP prog w B I fp [I] ord.length (fun i v=>ord[i]?=some v) St)->St 0 h' ->
   (∀ b o,s.heap.get? b=some o->h'.get? b=some o)->Py { s with heap:=h',drawn:=d } (.ref I) "set_iterator"->Q (.ref I) { s with heap:=h',drawn:=d }):ak (aB prog w) A (C1 (.ref S)) Q E s:=by
 have hT:s.TypeIs (.ref S) "set":=⟨_,hS.at_,rfl⟩;have hlt:=am hS.at_;refine wpAny_pyIter_slot hT F.slot_set_iter (cx F.slot_set_iter hT SI.entry_iter ?_ (F.args_set_iter_1 _));show ak _ _ (tU S >>= _) _ _ s;unfold tU;refine a6 (a6 (wpAny_setEntries_of hS.at_ rfl hS.fits (aa ?_)));show ak _ _ (setDrawn S >>= _) _ _ s;unfold setDrawn;refine a6 (a6 (bu hS.at_ rfl hS.fits (a6 (fF (aa ?_)))));have fin:∀ (first:ae) (fp:List ag) (ord:List ae) (St:Nat->bw->Prop) (h':bw) (d:LK),(∀ b o,s.heap.get? b=some o->h'.get? b=some o)->s.heap.objs.size<=h'.objs.size ->
   (∀ b∈fp,b=S\/b=h'.objs.size\/(s.heap.objs.size<=b/\b<h'.objs.size))->ord.Perm (es.toList.map (·.2))->(∀ B:bV,B.handled=none->LP prog w B h'.objs.size fp [h'.objs.size] ord.length (fun i v=>ord[i]?=some v) St) ->
   (∀ h'':bw,(∀ b o,h'.get? b=some o->h''.get? b=some o)->Cu h'' h'.objs.size S first 0 es.size ep->St 0 h'') ->
   ak (aB prog w) A.in1 (setEpoch S >>= fun e=>newFields "set_iterator" [first,cr 0,.ref S,cr es.size,cr e] >>= fun x=>ret x) (fun fin s'=>∃ v,fin=.done (.ret v)/\∃ T' r,s'.TypeIs v T'/\fM (.type T') "__next__"=pure (some r)/\Q v s') E { s with heap:=h',drawn:=d }:=by
  intro first fp ord St h' d kp hsz hfp pm W st
  have hS':cW w h' S es ep t:=hS.keep fun o e=>kp S o e;refine a6 (wpAny_setEpoch_of (s:={ s with heap:=h',drawn:=d }) hS'.at_ rfl hS'.fits ?_);refine a6 (bL ?_ (by size_fits));have gp:∀ b o,h'.get? b=some o->(h'.push { cls:=.type "set_iterator",dict:=none,data:=.fields #[first,cr 0,.ref S,cr es.size,cr ep] }).get? b=some o:=fun b o e=>ac _ e;have it:(h'.push { cls:=.type "set_iterator",dict:=none,data:=.fields #[first,cr 0,.ref S,cr es.size,cr ep] }).get? h'.objs.size=some { cls:=.type "set_iterator",dict:=none,data:=.fields #[first,cr 0,.ref S,cr es.size,cr ep] }:=aF _ rfl;refine aa ⟨_,rfl,"set_iterator",_,⟨_,it,rfl⟩,SI.slot_next.lookup,h h'.objs.size fp ord St _ d hsz (fun b hb=>?_) (fun b hb=>?_) pm W (st _ gp it) (fun b o e=>gp b o (kp b o e)) ⟨_,it,rfl⟩⟩
  ·rcases hfp b hb with z|z|z
   ·exact .inl z
   ·exact .inr (by rw [z];exact hsz)
   ·exact .inr z.1
  ·rw [cp];rcases hfp b hb with z|z|z
   ·rw [z];exact gR (aE hlt hsz)
   ·rw [z];exact fW _
   ·exact gR z.2
 dsimp only;split
 ·rename_i z
  have z:(!w.params.followText "set-order" && (!t.plain&&decide (es.size > 1)))=true:=z;refine a6 (v5 _ _ _ _ (by simp) fun ys d pm=>?_);simp only [newTuple];have hyl:ys.length=es.size:=by have:=pm.length_eq;rwa [ef] at this
  have zl:=fJ hS.few;refine a6 (bL ?_ (by show (ys.map fun (i:Nat)=>cr i).toArray.size<=sizeLine;simp;omega));have tp:∀ ob:Obj,(s.heap.push ob).objs.size=s.heap.objs.size+1:=fun ob=>cp ..;refine fin (.ref s.heap.objs.size) [s.heap.objs.size+1,S,s.heap.objs.size] (ys.map fun p=>(es.getD p (0,.none)).2)
   (fun i h=>Cu h (s.heap.objs.size+1) S (.ref s.heap.objs.size) i es.size ep/\cW w h S es ep t/\Xi h s.heap.objs.size ys) (s.heap.push _) d
   (fun b o e=>ac _ e) (by rw [tp];exact ik _) (fun b hb=>?_) ?_ (fun B hB=>?_) (fun h'' k it=>⟨by rw [tp] at it;exact it,hS.keep fun o e=>k S o (ac _ e),_,_,k _ _ (aF _ rfl),rfl⟩)
  ·simp only [aQ,aH,or_false] at hb;rcases hb with y|y|y
   ·exact .inr (.inl (by rw [tp];exact y))
   ·exact .inl y
   ·exact .inr (.inr ⟨by rw [y];exact ar _,by rw [tp,y];exact fW _⟩)
  ·refine (pm.map _).trans (.of_eq ?_);apply qw
   ·simp
   ·intro k h1 h2;have:k<es.size:=by simpa using h1
    simp [this]
  ·rw [au,hyl,tp];exact Ec hB (aD (gR hlt)) (aD (fW _)) (fun p hp=>List.mem_range.mp (pm.mem_iff.mp hp)) hyl
 ·rename_i z
  have z:¬ (!w.params.followText "set-order" && (!t.plain&&decide (es.size > 1)))=true:=z;refine a6 (aa ?_);have hne:S≠s.heap.objs.size:=aD hlt;cases hw:w.params.followText "set-order" with
  |true =>
   refine fin (cr 0) [s.heap.objs.size,S] ((ph (w.params.setOrder S ep) es).toList.map (·.2)) (fun i h=>Cu h s.heap.objs.size S (.int 0 0) i es.size ep/\cW w h S es ep t) s.heap s.drawn (fun _ _ e=>e) (ar _) (fun b hb=>?_) ((we _ es).map _) (fun B hB=>?_) (fun h'' k it=>⟨it,hS.keep fun o e=>k S o e⟩)
   ·simp only [aQ,aH,or_false] at hb;exact hb.elim (fun z=>.inr (.inl z)) .inl
   ·rw [au,aq,wf];exact GW hB hw hne
  |false =>
   have h1:es.size<=1:=by
    rw [hw] at z;rcases hS.pl with y|y
    ·omega
    ·rw [y] at z;simpa using z
   refine fin (cr 0) [s.heap.objs.size,S] (es.toList.map (·.2)) (fun i h=>∃ k,Cu h s.heap.objs.size S (.int (k:Nat) 0) i es.size ep/\cW w h S es ep t/\(i=0->k=0)/\(i=1->es.size=1->∃ j,t.place=#[j]/\k=j+1)) s.heap s.drawn (fun _ _ e=>e) (ar _) (fun b hb=>?_) (.refl _) (fun B hB=>?_) (fun h'' k it=>⟨0,it,hS.keep fun o e=>k S o e,fun _=>rfl,fun y=>by cases y⟩)
   ·simp only [aQ,aH,or_false] at hb;exact hb.elim (fun z=>.inr (.inl z)) .inl
   ·rw [au,aq];exact Kz hB hw hne h1
end
end
section
section
theorem Ed (hh:A.handled=none) (hS:cW w s.heap S es ep t)
  (h:∀ (ord:List ae) (h':bw) (d:LK) (tk:Nat),ord.Perm (es.toList.map (·.2))->(∀ b o,s.heap.get? b=some o->h'.get? b=some o)->s.heap.objs.size<=h'.objs.size->Q ord { s with heap:=h',drawn:=d,toks:=tk }) :
  ak (aB prog w) A (collect (.ref S)) Q E s:=by
 have hlt:=am hS.at_;unfold collect;refine a6 (wpAny_runValue (fO F.entry_proto_collect ?_));rw [eV F.plain_proto_collect _];show ak _ A.in1 (newList [] >>= fun l=>again (.builtin "list.__iadd__" ⟨[l,.ref S],[]⟩)) _ _ s;refine a6 (bL ?_);refine aa ⟨mU F.plain_list_iadd _,fO F.entry_list_iadd ?_⟩;rw [eV F.plain_list_iadd _];let s1:ah:={ s with heap:=s.heap.push { cls:=.type "list",data:=.seq ([] : List ae).toArray } }
 have sz1:s1.heap.objs.size=s.heap.objs.size+1:=cp ..;have at1:s1.heap.get? s.heap.objs.size=some { cls:=.type "list",data:=.seq ([] : List ae).toArray }:=aF _ rfl;have hS1:cW w s1.heap S es ep t:=hS.keep fun o e=>ac _ e;show ak _ A.in1 (uT (.ref s.heap.objs.size) (.ref S) (.ref s.heap.objs.size)) _ _ s1;have hT1:s1.TypeIs (.ref S) "set":=⟨_,hS1.at_,rfl⟩;unfold uT;refine a6 (iI hT1 ?_);have e1:wQ (.ref s.heap.objs.size) (.ref S)=false:=by simp [wQ,eh hlt]
 have e2:(i7 "set" == i7 "list")=false:=by decide
 have e3:(i7 "set" == i7 "tuple")=false:=by decide
 simp only [e1,e2,e3,Bool.or_false,cb,if_false];refine a6 (GX (A:=A.in1) (by simpa using hh) hS1 fun I fp ord St h' d hI hfp hfl pm W st kp tI=>?_);let s2:ah:={ s1 with heap:=h',drawn:=d }
 have hS2:cW w s2.heap S es ep t:=hS1.keep fun o e=>kp S o e;have hT2:s2.TypeIs (.ref S) "set":=⟨_,hS2.at_,rfl⟩;refine a6 (bW ?_);unfold Builtin.List.listLengthHint;refine a6 (wpAny_specialOf (s:=s2) hT2 F.slot_set_len.lookup ?_);dsimp only;rw [show splitId "set.__len__"=some ("set","__len__") from by decide +kernel];dsimp only;refine a6 (jK (b:=true) (s:=s2) hT2 (by rw [Gu];kernel_rfl) ?_);rw [if_neg (by decide),if_pos (by decide)];refine a6 (iI (s:=s2) hT2 (aa ?_));rw [if_pos (by decide)];refine a6 (gI ?_);have nS:s.heap.objs.size∉fp:=fun z=>by
  rcases hfp _ z with q|q
  ·exact absurd hlt (by rw [<- q];exact c6 _)
  ·rw [sz1] at q;exact absurd q (Nat.not_succ_le_self _)
 have at2:s2.heap.get? s.heap.objs.size=some { cls:=.type "list",data:=.seq ([] : List ae).toArray }:=kp _ _ at1;refine a6 ?_;show ak _ A.in1 (updateSeq s.heap.objs.size (·.push .none) >>= fun _=>updateSeq s.heap.objs.size (·.pop)) _ _ s2;refine a6 (DT at2 rfl ?_);have at3:=gq (jP (·.push dz)) at2 rfl;refine DT at3 rfl ?_;have at4:=gq (jP (·.pop)) at3 rfl;have oth:∀ b o,b≠s.heap.objs.size->s2.heap.get? b=some o->((s2.heap.update s.heap.objs.size (jP (·.push dz))).update s.heap.objs.size (jP (·.pop))).get? b=some o :=
  fun b o hb e=>(qJ _ _ (dq hb)).trans ((qJ _ _ (dq hb)).trans e)
 have zl:ord.length<=sizeLine:=by rw [pm.length_eq,au,aq];exact fJ hS.few
 have W1:=W A.in1 (by simpa using hh);refine aa ⟨mU F.plain_extend_loop _,codeAny_extend_loopS (A:=A) W1.toS zl _ nS _ ord.length 0 { s2 with heap:=(s2.heap.update s.heap.objs.size (jP (·.push dz))).update s.heap.objs.size (jP (·.pop)) } _ _ rfl (eB _) (W1.frame 0 _ _ st fun b hb o e=>oth b o (fun z=>nS (z ▸ hb)) e) at4 (ItemsOf.nil _) fun s' acc' c' hm hS' hacc=>?_⟩;show ak _ A (load s.heap.objs.size >>= _) _ _ s';refine a6 (wpAny_load hS' (aa ?_));have hacc':acc'.toList=ord:=by
  apply List.ext_getElem?;intro j;rw [eI];by_cases hj:j<acc'.size
  ·have:=hacc.2 j acc'[j] (by simp [hj]);rw [this];simp [hj]
  ·rw [getElem?_neg acc' j hj,cA (by rw [<- hacc.1];omega)]
 rw [hacc'];obtain ⟨h3,g3,d3,t3,o3⟩:=s';obtain rfl:g3=s.gens:=hm.gens;obtain rfl:d3=d:=hm.drawn;obtain rfl:o3=s.os:=hm.os;have old:∀ b o,s.heap.get? b=some o->h3.get? b=some o:=fun b o e=>by
  have hb:=am e;refine hm.heap b o ?_ (oth b o (aD hb) (kp b o (ac _ e)));simp only [aQ,aH,or_false,not_or];exact ⟨aD hb,aD (aE hb (by have q:=hI;rw [sz1] at q;exact Nat.le_of_succ_le q))⟩
 refine h ord h3 _ t3 pm old ?_;have:=am (show h3.get? s.heap.objs.size=some _ from hS');exact b9 this
theorem Ee  (hc:ak (aB prog w) A.in1 (collect x) (fun vs s1=>∃ ss,tV vs ss/\vs.length<64 /\
   ∀ (h':bw) (vs':List ae) (ss':List Str) (e:Nat),(∀ b o,s1.heap.get? b=some o->h'.get? b=some o)->h'.get? s1.heap.objs.size=some (seqObj "list" vs'.toArray e)->tV vs' ss'->ss'.Perm ss->sortedS ss'=true ->
    Q (.ref s1.heap.objs.size) { s1 with heap:=h' }) E s):ak (aB prog w) A (call (.builtin "sorted") [x]) Q E s:=by
 refine AY kind_sorted plain_sorted entry_sorted (args_sorted1 _) ?_;unfold fK.«sorted»;refine a6 (m:=checkCount "sorted" 1 1 _) (aa ?_);refine a6 (aZ hc (fun vs s1 z=>?_) fun _ _ z=>z);obtain ⟨ss,hss,h64,hq⟩:=z;refine a6 (wpAny_newList ?_);have at1:(s1.heap.push (seqObj "list" vs.toArray 0)).get? s1.heap.objs.size=some (seqObj "list" vs.toArray 0):=aF _ rfl;show ak _ _ _ _ _ { s1 with heap:=s1.heap.push (seqObj "list" vs.toArray 0) };refine a6 (bW (cx slot_list_sort ⟨_,at1,rfl⟩ entry_list_sort (list_sort_treeK strKind_oneLt at1 hss.keysOf (fun v₁ v₂ bK e=>keyKind_strs (by rw [<- e];exact hss)) h64 fun st' a1 a2=>⟨_,rfl,?_⟩) (args_list_sort _)));obtain ⟨ss',p1,p2,p3⟩:=sorted_out_str hss a1 a2;obtain ⟨e,at2⟩:=sortedHeap_at (out:=(arrOf st').map (·.2)) at1;refine aa ⟨_,rfl,hq _ _ ss' e (fun b o q=>?_) at2 p1 p2 p3⟩;have hb:=am q;rw [sortedHeap_old (aD hb) (by rw [cp];exact gR hb)];exact ac _ q
end
end
section
def lS (x y:Str):Bool:=decide (x.cps.toList<y.cps.toList)
def GY (x:Str):List Str->List Str
 |[]=>[x]
 |y::r=>if lS y x then y::GY x r else x::y::r
def jV:List Str->List Str
 |[]=>[]
 |x::r=>GY x (jV r)
theorem wg (x:Str):∀ l,(GY x l).Perm (x::l)
 |[]=>.refl _
 |y::r=>by
  rw [GY];split
  ·exact ((wg x r).cons y).trans (.swap ..)
  ·exact .refl _
theorem hU:∀ l,(jV l).Perm l
 |[]=>.refl _
 |x::r=>(wg x _).trans ((hU r).cons x)
theorem mx (x:Str):lS x x=false:=decide_eq_false (List.lt_irrefl _)
theorem mf (h1:lS x y=true) (h2:lS y z=true):lS x z=true :=
 decide_eq_true (List.lt_trans (of_decide_eq_true h1) (of_decide_eq_true h2))
theorem xR (h1:lS x y=false) (h2:lS y x=false):x=y:=by
 have h1:¬ x.cps.toList<y.cps.toList:=of_decide_eq_false h1;have h2:¬ y.cps.toList<x.cps.toList:=of_decide_eq_false h2;have:x.cps.toList=y.cps.toList:=List.le_antisymm (List.not_lt.mp h2) (List.not_lt.mp h1)
 cases x;cases y;exact congrArg Str.mk (Array.toList_inj.mp this)
abbrev Po (l:List Str):Prop:=l.Pairwise fun a b=>lS b a=false
theorem MP (x:Str):∀ l,Po l->Po (GY x l)
 |[],_=>by simp [GY,Po]
 |y::r,h=>by
  obtain ⟨h1,h2⟩:=List.pairwise_cons.mp h;rw [GY];split
  ·rename_i hy
   refine List.pairwise_cons.mpr ⟨fun z hz=>?_,MP x r h2⟩;rcases List.mem_cons.mp ((wg x r).mem_iff.mp hz) with e|e
   ·subst e;cases q:lS z y with
    |false=>rfl
    |true=>exact absurd (mf q hy) (by rw [mx];decide)
   ·exact h1 z e
  ·rename_i hy
   have hy:lS y x=false:=by simpa using hy
   refine List.pairwise_cons.mpr ⟨fun z hz=>?_,h⟩;rcases List.mem_cons.mp hz with e|e
   ·subst e;exact hy
   ·cases q:lS z x with
    |false=>rfl
    |true =>
     have hzy:=h1 z e;cases q2:lS x y with
     |true=>rw [mf q q2] at hzy;cases hzy
     |false=>rw [<- xR hy q2,hzy] at q;cases q
theorem r9:∀ l,Po (jV l)
 |[]=>.nil
 |x::r=>MP x _ (r9 r)
theorem v7:∀ (p:Str) (l:List Str),risingS p l=true->Po (p::l)
 |p,[],_=>by simp [Po]
 |p,x::r,h=>by
  rw [risingS,aP] at h;obtain ⟨h1,h2⟩:=h;have h1:lS x p=false:=by
   rw [ltCps_eq] at h1;simpa [lS] using h1
  have ih:=v7 x r h2;refine List.pairwise_cons.mpr ⟨fun z hz=>?_,ih⟩;rcases List.mem_cons.mp hz with e|e
  ·rw [e];exact h1
  ·have hzx:=(List.pairwise_cons.mp ih).1 z e;cases q:lS z p with
   |false=>rfl
   |true =>
    cases q2:lS p x with
    |true=>rw [mf q q2] at hzx;cases hzx
    |false=>rw [xR q2 h1,hzx] at q;cases q
theorem Cz:∀ (l:List Str),sortedS l=true->Po l
 |[],_=>.nil
 |x::r,h=>v7 x r h
theorem Bh:∀ {l l':List Str},l.Perm l'->Po l->Po l'->l=l'
 |[],l',p,_,_=>by rw [List.nil_perm.mp p]
 |x::r,[],p,_,_=>by have:=p.length_eq;simp at this
 |x::r,y::r',p,h,h'=>by
  obtain ⟨a1,a2⟩:=List.pairwise_cons.mp h;obtain ⟨b1,b2⟩:=List.pairwise_cons.mp h';have e:x=y:=by
   have hx:x∈y::r':=p.mem_iff.mp al;have hy:y∈x::r:=p.mem_iff.mpr al;rcases List.mem_cons.mp hx with e|e
   ·exact e
   ·rcases List.mem_cons.mp hy with e' | e'
    ·exact e'.symm
    ·exact xR (b1 x e) (a1 y e')
  subst e;rw [Bh (List.Perm.cons_inv p) a2 b2]
theorem Ef (p:l'.Perm l) (h:sortedS l'=true):l'=jV l:=Bh (p.trans (hU l).symm) (Cz _ h) (r9 l)
theorem wj (h:Po l) (nd:l.Nodup):l.Pairwise fun a b=>lS a b=true:=by
 induction l with
 |nil=>exact .nil
 |cons x r ih =>
  obtain ⟨a1,a2⟩:=List.pairwise_cons.mp h;obtain ⟨n1,n2⟩:=List.nodup_cons.mp nd;refine List.pairwise_cons.mpr ⟨fun y hy=>?_,ih a2 n2⟩;cases q:lS x y with
  |true=>rfl
  |false=>exact absurd (xR q (a1 y hy) ▸ hy) n1
theorem lT:∀ {ss:List Str}{us:List ae},cV (ss.map V.str) us->tV us ss
 |[],_,.nil=>.nil
 |x::r,_,.cons h t=>by obtain ⟨tk,rfl⟩:=h;exact .cons x tk (lT t)
theorem pF:∀ {ss:List Str}{us:List ae},tV us ss->cV (ss.map V.str) us
 |_,_,.nil=>.nil
 |_,_,.cons x t h=>.cons ⟨t,rfl⟩ (pF h)
theorem fP:∀ {ss:List Str}{us:List ae},tV us ss->us.length=ss.length
 |_,_,.nil=>rfl
 |_,_,.cons x t h=>by simp [fP h]
theorem yE  (h:tV us ss) (i:Nat) (v:ae) (e:us[i]?=some v):∃ x t,ss[i]?=some x/\v=j5 x t:=by
 induction h generalizing i with
 |nil=>simp at e
 |cons y t _ ih =>
  cases i with
  |zero=>simp at e;exact ⟨y,t,by simp,e.symm⟩
  |succ i=>simp at e;simpa using ih i e
theorem v8:∀ {l:List (Int×ae)},(∀ e∈l,t_ w e)->tV (l.map (·.2)) (l.map kn)
 |[],_=>.nil
 |e::r,h=>by
  obtain ⟨x,tk,rfl⟩:=h e al;exact .cons x tk (v8 fun e he=>h e (ao _ he))
theorem CA  (h:tV us ss) (p:us'.Perm us):∃ ss',tV us' ss'/\ss'.Perm ss:=by
 refine ⟨us'.map strOf,strsAre_map _ fun v hv=>h.all v (p.mem_iff.mp hv),?_⟩;rw [<- h.strs];exact p.map _
def lU (w:bE) (a:ag) (ss:List Str):HO:=.ext fun h=>lK w h a ss
theorem CB      (x:lK w h a ss):de P w H h a (lU w a ss) :=
 ⟨x,let ⟨_,_,_,I,_⟩:=x;⟨_,I.at_⟩,fun _ _ y k=>y.keep k⟩
section
theorem Eg (hc:X.calm=true):ja X (.type "set") (fun xs H Q=>∃ p ss,xs=[.ref p]/\(mV X.K H p (ss.map V.str)\/lz X.K H p (ss.map V.str))/\ss.length+1<iZ/\∀ a,H a=none->Q (.ref a) (upd H a (lU X.w a (dh [] ss)))):=by
 intro pins s σ H xs us Q I r h;obtain ⟨p,ss,rfl,hq,hz,q⟩:=h;obtain ⟨u,rfl,rx⟩:=jU r;cases rx;have hh:=I.ok.hd hc;have fin:∀ (h':bw) (tk:Nat),lK X.w h' s.heap.objs.size (dh [] ss)->(∀ b o,s.heap.get? b=some o->h'.get? b=some o)->EP X pins σ Q (.ref s.heap.objs.size) { s with heap:=h',toks:=tk }:=fun h' tk hS kp =>
  ⟨.ref s.heap.objs.size,_,I.laid (t':=tk) kp (ar _) (CB hS),rfl,q _ (I.hok.fresh (ar _))⟩
 rcases hq with hq|hq
 ·obtain ⟨its,r',⟨o,n,ho,h1,h2,h3⟩,_⟩:=I.list hq;have sa:=lT r';exact v4 (ML (by simpa using hh) h1 ⟨n,h3⟩) ho (fun i v e=>yE sa i v (by simpa using e)) (by simp [fP sa]) (by simp [fP sa];exact hz) fin
 ·obtain ⟨its,r',⟨o,ho,h1,n,h3⟩,_⟩:=I.tuple hq;have sa:=lT r';exact v4 (Qr (by simpa using hh) h1 ⟨n,h3⟩) ho (fun i v e=>yE sa i v (by simpa using e)) (by simp [fP sa]) (by simp [fP sa];exact hz) fin
theorem wk:ja X (.builtin "sorted") (fun xs H Q=>∃ p ss,xs=[.ref p]/\mV X.K H p (ss.map V.str)/\ss.length<64/\∀ l,H l=none->Q (.ref l) (upd H l (.lst ((jV ss).map V.str)))):=by
 intro pins s σ H xs us Q I r h;obtain ⟨p,ss,rfl,hq,hz,q⟩:=h;obtain ⟨u,rfl,rx⟩:=jU r;cases rx;obtain ⟨its,r',pl,hl⟩:=I.list hq;have sa:=lT r';refine sorted_strs pl.isList sa (by rw [fP sa];exact hz) fun out ss' a1 a2 a3=>?_;obtain ⟨e,he⟩:=sortedAll_at s.heap its out;have kp:∀ b o,s.heap.get? b=some o->(sortedAll s.heap its out).get? b=some o:=fun b o=>sortedAll_old;obtain rfl:=Ef a2 a3;refine ⟨.ref (s.heap.objs.size+1),upd H (s.heap.objs.size+1) (.lst ((jV ss).map V.str)),I.laid (t':=s.toks) kp (ik _) (show de X.prog X.w _ _ _ (.lst _) from ⟨?_,out.toList,e,pF a1,by simpa [seqObj] using he⟩),rfl,q _ (I.hok.fresh (ik _))⟩;rw [au,(hU ss).length_eq];have:=hl;rw [au] at this;exact this
theorem xy (hc:X.calm=true):ja X (.builtin "sorted") (fun xs H Q=>∃ p ss,xs=[.ref p]/\H p=some (lU X.w p ss)/\ss.length<64/\∀ l,H l=none->Q (.ref l) (upd H l (.lst ((jV ss).map V.str)))):=by
 intro pins s σ H xs us Q I r h;obtain ⟨p,ss,rfl,hq,hz,q⟩:=h;obtain ⟨u,rfl,rx⟩:=jU r;cases rx;have hh:=I.ok.hd hc;obtain ⟨⟨es,ep,t,S,pm⟩,_⟩:=(show de X.prog X.w H s.heap p (lU X.w p ss) from I.hok p _ hq);refine Ee (Ed (by simpa using hh) S fun ord h' d tk po kp sz=>?_);obtain ⟨ss1,sa,p1⟩:=CA (v8 S.txt) po;have ln:ss1.length=ss.length:=(p1.trans pm).length_eq;refine ⟨ss1,sa,by rw [fP sa,ln];exact hz,fun h2 vs' ss' e kp2 at2 sa2 p2 s2=>?_⟩;have kk:∀ b o,s.heap.get? b=some o->h2.get? b=some o:=fun b o e=>kp2 b o (kp b o e);have es':ss'=jV ss:=Ef (p2.trans (p1.trans pm)) s2;subst es';have fr:=I.hok.fresh sz;have ok2:de X.prog X.w (upd H h'.objs.size (.lst ((jV ss).map V.str))) h2 h'.objs.size (.lst ((jV ss).map V.str)) :=
  ⟨by rw [au,(hU ss).length_eq];exact bD (b9 hz) (by rw [vR];decide),vs',e,pF sa2,at2⟩
 exact ⟨.ref h'.objs.size,_,I.call' (s':={ s with heap:=h2,drawn:=d,toks:=tk }) (ch:=[]) rfl (Un.laid kk sz fr) (I.hok.laid kk sz ok2) I.bare (fun b z=>absurd z (by simp)),rfl,q _ fr⟩
end
end
section
section
theorem wV {prog:bf}{w:bE}{B:bV}{bs:List Bool}{its:List ae} (r:cV (bs.map V.bl) its):TruthOf prog w B (fun i v=>its.toArray[i]?=some v) (fun i=>bs.getD i false):=by
 intro i v s Q E hv hq;have hv:its[i]?=some v:=by simpa using hv
 have hl:=r.length;rw [au] at hl;obtain ⟨hi,_⟩:=List.getElem?_eq_some_iff.mp hv;have hb:bs[i]?=some bs[i]:=aW (by omega);obtain ⟨u,hu,ru⟩:=r.get (i:=i) (x:=.bl bs[i]) (by rw [aO,hb];rfl);rw [hv] at hu;cases hu;cases ru;have hq:Q (bs.getD i false) s:=hq;rw [gd,hb] at hq;exact eE hq
theorem MQ (bs:List Bool):(bq bs.length).all (fun i=>bs.getD i false)=bs.all id:=by
 rw [iw,cR,cR];constructor
 ·intro h b hb;obtain ⟨i,hi,rfl⟩:=jm hb;have:=h i (List.mem_range.mpr hi);simpa [gd,hi] using this
 ·intro h i hi;have hi:=List.mem_range.mp hi;have:=h bs[i] (fV hi);simpa [gd,hi] using this
theorem MR (bs:List Bool):(bq bs.length).any (fun i=>bs.getD i false)=bs.any id:=by
 rw [iw,lv,lv];constructor
 ·rintro ⟨i,hi,h⟩;have hi:=List.mem_range.mp hi;exact ⟨bs[i],fV hi,by simpa [gd,hi] using h⟩
 ·rintro ⟨b,hb,h⟩;obtain ⟨i,hi,rfl⟩:=jm hb;exact ⟨i,List.mem_range.mpr hi,by simpa [gd,hi] using h⟩
theorem yF (hc:X.calm=true):ja X (.builtin "all") (fun xs H Q=>∃ p,∃ bs:List Bool,xs=[.ref p]/\mV X.K H p (bs.map V.bl)/\Q (.bl (bs.all id)) H):=by
 intro pins s σ H xs us Q I r h;obtain ⟨p,bs,rfl,hq,q⟩:=h;obtain ⟨u,rfl,rx⟩:=jU r;cases rx;obtain ⟨its,r',pl,hl⟩:=I.list hq;have ln:its.toArray.size=bs.length:=by have:=r'.length;simp at this ⊢;omega
 obtain ⟨o,ho,hk⟩:=pl.isList;refine call_all_walk (lB pl.isList ⟨_,_,_,_,_,_,_,rfl,Ag (by simpa using I.ok.hd hc) _ p (aD (am ho)) its.toArray,⟨⟨_,aF _ rfl,rfl,rfl⟩,pl.isList.push _⟩,wV r',fun h' tk kp=>?_⟩);rw [ln,MQ];refine ⟨.bl _,H,I.kept (t':=tk) fun b o e=>kp b o ?_ (ac _ e),rfl,q⟩;simp only [bT];exact aD (am e)
theorem yG (hc:X.calm=true):ja X (.builtin "any") (fun xs H Q=>∃ p,∃ bs:List Bool,xs=[.ref p]/\mV X.K H p (bs.map V.bl)/\Q (.bl (bs.any id)) H):=by
 intro pins s σ H xs us Q I r h;obtain ⟨p,bs,rfl,hq,q⟩:=h;obtain ⟨u,rfl,rx⟩:=jU r;cases rx;obtain ⟨its,r',pl,hl⟩:=I.list hq;have ln:its.toArray.size=bs.length:=by have:=r'.length;simp at this ⊢;omega
 obtain ⟨o,ho,hk⟩:=pl.isList;refine call_any_walk (lB pl.isList ⟨_,_,_,_,_,_,_,rfl,Ag (by simpa using I.ok.hd hc) _ p (aD (am ho)) its.toArray,⟨⟨_,aF _ rfl,rfl,rfl⟩,pl.isList.push _⟩,wV r',fun h' tk kp=>?_⟩);rw [ln,MR];refine ⟨.bl _,H,I.kept (t':=tk) fun b o e=>kp b o ?_ (ac _ e),rfl,q⟩;simp only [bT];exact aD (am e)
theorem KA:oG X (bO .LtE) (fun x y H Q=>∃ i j,x=.str i/\y=.str j/\Q (.bl (!decide (j.cps.toList<i.cps.toList))) H):=by
 intro pins s σ H x y v u Q I rx ry h;obtain ⟨i,j,rfl,rfl,q⟩:=h;obtain ⟨t,rfl⟩:=rx;obtain ⟨t',rfl⟩:=ry;exact PySem.P.le_str (g_ I q rfl)
end
end
section
def V5 (x:Str):It:=⟨fun i _=>i<x.cps.size,fun i H v H'=>H'=H/\∃ c,x.cps[i]?=some c/\v=.str ⟨#[c]⟩,fun i _=>x.cps.size<=i⟩
theorem MS {P:bf}{w:bE}{K:a7}{tg:bR} (x:Str) (t:Tok) (it:ag):Aq P w K tg (V5 x) [it] it (fun i h=>h.IsStrIter it (iE x) x t i) where
 mem:=by simp
 obj:=fun i h st b hb=>by
  obtain rfl:b=it:=by simpa using hb
  obtain ⟨o,e,c,d⟩:=st;exact ⟨o,e,fun v z=>by rw [d] at z;cases z⟩
 keep:=fun i h h' st k=>let ⟨o,e,r⟩:=st;⟨o,k it (by simp) o e,r⟩
 item:=by
  intro X hP hw hK hc i pins s σ H E I hf st hg;subst hP hw hK;have hg:i<x.cps.size:=hg;obtain ⟨f0,f1,f2,f3,f4,f5⟩:=hf it (by simp);have hx:x.cps[i]?=some x.cps[i]:=getElem?_pos _ i hg;have go:∀ (h':bw) (tk tk':Nat),h'.IsStrIter it (iE x) x t (i+1)->bI it s.heap h'->∃ u,some (j5 ⟨#[x.cps[i]]⟩ tk)=some u /\
    ak (aB X.prog X.w) X.A (gV tg (.ref it) u) (fun _ s2=>∃ v H',bG X pins σ H' s2/\dn v u/\(V5 x).yld i H v H'/\s2.heap.IsStrIter it (iE x) x t (i+1)/\∀ b∈[it],H' b=none) E { s with heap:=h',toks:=tk' }:=fun h' tk tk' st' sb=>by
   have I1:bG X pins σ H { s with heap:=h',toks:=tk' }:=I.turned (fun b o hb e=>(sb.2 b hb).trans e) f0 f1 f3 f4 f5;refine ⟨_,rfl,?_⟩;have q:∃ v H',bG X pins σ H' { s with heap:=h',toks:=tk' }/\dn v (j5 ⟨#[x.cps[i]]⟩ tk)/\(V5 x).yld i H v H'/\h'.IsStrIter it (iE x) x t (i+1)/\∀ b∈[it],H' b=none :=
    ⟨.str ⟨#[x.cps[i]]⟩,H,I1,⟨tk,rfl⟩,⟨rfl,_,hx,rfl⟩,st',fun b hb=>(hf b hb).1⟩
   unfold gV;cases tg<;>exact aa q
  cases ha:x.cps.all (·<128)
  ·have ty:iE x="str_iterator":=by unfold iE;rw [ha];rfl
   rw [ty] at st;exact wpAny_pyNext_wide_item st hx fun h' st' sb=>go h' _ _ (by rw [ty];exact st') sb
  ·have ty:iE x="str_ascii_iterator":=by unfold iE;rw [ha];rfl
   rw [ty] at st;exact wpAny_pyNext_ascii_item st hx fun h' st' sb=>go h' _ _ (by rw [ty];exact st') sb
 done:=by
  intro X hP hw hK hc i pins s σ H E I hf st hg;subst hP hw hK;have hg:x.cps.size<=i:=hg;obtain ⟨f0,f1,f2,f3,f4,f5⟩:=hf it (by simp);have hx:x.cps[i]?=none:=getElem?_neg _ i (Nat.not_lt.mpr hg);unfold iE at st;cases ha:x.cps.all (·<128)
  ·rw [ha] at st;exact wpAny_pyNext_wide_end (I.ok.hd hc) st hx fun h' eb=>⟨rfl,I.turned (t':=s.toks) (fun b o hb e=>eb b o hb e) f0 f1 f3 f4 f5⟩
  ·rw [ha] at st;exact wpAny_pyNext_ascii_end (I.ok.hd hc) st hx fun h' eb=>⟨rfl,I.turned (t':=s.toks) (fun b o hb e=>eb b o hb e) f0 f1 f3 f4 f5⟩
 self:=fun _ _ _ _ _ st h=>by
  unfold iE at st;cases ha:x.cps.all (·<128)
  ·rw [ha] at st;exact wpAny_pyIter_striter_wide st h
  ·rw [ha] at st;exact wpAny_pyIter_striter_ascii st h
def Xj (tl:TE):TI:=fun σ H R=>tl σ H fun v H1=>∃ x,v=.str x/\R (V5 x) H1
theorem MT {X:Cx}{tg l:bR}{tl:TE} (hl:PE X l tl):PI X tg l (Xj tl):=by
 intro pins s σ H R I h;refine fY (hl pins s σ H _ I h) fun v s1 h_0=>?_;obtain ⟨y,H1,I1,r1,q1⟩:=h_0;obtain ⟨x,rfl,q⟩:=q1;obtain ⟨t,rfl⟩:=r1;refine wpAny_pyIter_strU ?_;refine ⟨s1.heap.objs.size,[s1.heap.objs.size],_,_,H1,rfl,I1.kept (t':=s1.toks) fun b o e=>ac _ e,MS x t _,⟨_,aF _ rfl,rfl,rfl⟩,fun b hb=>?_,q⟩;obtain rfl:b=s1.heap.objs.size:=by simpa using hb
 exact I1.fpOk (ar _) (I1.hok.fresh (ar _))
end
section
section
theorem bG.turnedL {t':Nat}{ch:List ag} (I:bG X pins σ H s) (k:∀ b o,b∉ch->s.heap.get? b=some o->h'.get? b=some o) (hf:∀ b∈ch,qX X pins H b):bG X pins σ H { s with heap:=h',toks:=t' }:=by
 have nt:∀ b u,H b=some u->b∉ch:=fun b u e z=>by rw [(hf b z).1] at e;cases e
 refine I.step (g':=s.gens) (d':=s.drawn) (ch:=ch) (fun b hb=>?_) (fun b o _ _ hc e _=>k b o hc e) (fun b o _ _ hc e _=>⟨o.slots,k b o hc e⟩) (fun _ _ _ _ n=>n)
  (fun b o hc e=>⟨o,k b o hc e⟩) (fun _ _ e=>e) (fun _ _ _ e=>e) (fun b ps e=>⟨#[],by rw [e];simp⟩) (fun m hm=>?_) (fun b u e=>?_) I.bare
 ·obtain ⟨f0,f1,f2,f3,f4,f5⟩:=hf b hb;exact ⟨f3,f1,f4,f5⟩
 ·obtain ⟨o,es,ep,ho,r⟩:=hm;exact ⟨o,es,ep,k _ o (fun z=>(hf _ z).f1 rfl) ho,r⟩
 ·refine (I.hok b u e).stay (fun c v hc q=>k c v ?_ q) (fun _ q=>q) fun _ _ q=>q;rcases hc with z|z
  ·rw [z];exact nt b u e
  ·exact nt c _ z
theorem bG.track  (I:bG X pins σ H s) (hf:qX X pins H D) (new:de X.prog X.w (upd H D ho) s.heap D ho):bG X pins σ (upd H D ho) s:=by
 obtain ⟨f0,f1,f2,f3,f4,f5⟩:=hf;have I':bG X pins σ (upd H D ho) { s with heap:=s.heap,gens:=s.gens,drawn:=s.drawn,toks:=s.toks }:=I.step (ch:=[D]) (fun b hb=>by
   obtain rfl:b=D:=by simpa using hb
   exact ⟨f3,f1,f4,f5⟩) (fun b o _ _ _ e _=>e) (fun b o _ _ _ e _=>⟨o.slots,e⟩) (fun b o hc e n=>by rw [aU (fun z=>hc (by simp [z]))];exact n) (fun b o _ e=>⟨o,e⟩)
  (fun b xs e=>by rw [aU (b6 e f0)];exact e) (fun b o xs e=>by rw [aU (b6 e f0)];exact e) (fun b ps e=>⟨#[],by rw [aU (b6 e f0),e];simp⟩) (fun m hm=>hm) (sk I.hok f0 new) I.bare
 exact I'
end
section
theorem v9  (ti:s.heap.IsTupleIter it l i) (tl:s.heap.IsTuple l items) (hx:items[i]?=some x)
  (q:∀ h',h'.IsTupleIter it l (i+1)->bI it s.heap h'->Q x { s with heap:=h' }):ak (aB prog w) A (cy (.ref it)) Q E s:=by
 obtain ⟨oi,ei,ci,di⟩:=id ti;obtain ⟨ot,et,_,nt,dt⟩:=tl;unfold cy;refine a6 (cF (name:=ir "__next__") ti.typeIs j9 ?_);refine cx j9 ti.typeIs DN ?_ (C5 _);show ak _ _ (Aj (.ref it) 0 >>= _) _ _ s;refine a6 (cO ei di (x:=.ref l) rfl ?_);show ak _ _ (if (bg l==dz)=true then _ else _) _ _ s;rw [if_neg (fun z:(bg l==dz)=true=>aL z)];show ak _ _ (Aj (.ref it) 1 >>= _) _ _ s;refine a6 (cO ei di (x:=.int i 0) rfl ?_);show ak _ _ (LQ (.ref l) >>= _) _ _ s;refine a6 (eG et dt ?_);simp only [kG,hx];refine a6 (jt ei di (by simp) (aa ⟨x,rfl,aa (q _ ?_ (bZ ..))⟩));refine ⟨_,gq _ ei (Obj.isFreed_of_fields (M6 di _)),(Obj.cls_mapFields ..).trans ci,?_⟩;rw [M6 di];simp [cr]
theorem vb (hh:A.handled=none) (ti:s.heap.IsTupleIter it l i) (tl:s.heap.IsTuple l items) (hx:items[i]?=none)
  (q:∀ h' e,Heap.ExtBut it s.heap h'->(∃ o,h'.get? e=some o/\o.cls=.type "StopIteration")->E (.ref e) { s with heap:=h' }):ak (aB prog w) A (cy (.ref it)) Q E s:=by
 obtain ⟨oi,ei,ci,di⟩:=id ti;obtain ⟨ot,et,_,nt,dt⟩:=tl;unfold cy;refine a6 (cF (name:=ir "__next__") ti.typeIs j9 ?_);refine cx j9 ti.typeIs DN ?_ (C5 _);show ak _ _ (Aj (.ref it) 0 >>= _) _ _ s;refine a6 (cO ei di (x:=.ref l) rfl ?_);show ak _ _ (if (bg l==dz)=true then _ else _) _ _ s;rw [if_neg (fun z:(bg l==dz)=true=>aL z)];show ak _ _ (Aj (.ref it) 1 >>= _) _ _ s;refine a6 (cO ei di (x:=.int i 0) rfl ?_);show ak _ _ (LQ (.ref l) >>= _) _ _ s;refine a6 (eG et dt ?_);simp only [kG,hx];refine a6 (gI (a6 (jt ei di (by simp) ?_)));show ak _ _ (yi (.type "StopIteration") [] >>= _) _ _ _;refine a6 ?_;simp only [yi,newTuple];refine a6 (bL ?_ (by size_fits));refine a6 (m:=vX _ _) (mY (a:=dz) ?_ ?_)
 ·first
   |rfl
   |(simp only [vX];rfl)
 refine bL ?_ (by size_fits);simp only [vW];refine a6 (wpAny_handled ?_);rw [show A.in1.handled=none from hh];refine a6 (aa (wpAny_throw ?_));exact q _ _ (((bZ ..).extBut.push _).push _) ⟨_,aF _ rfl,rfl⟩
theorem KB (hh:A.handled=none) (it l:ag) (hne:l≠it) (items:Array ae) :
  Draws prog w A it [it,l] items.size (fun i v=>items[i]?=some v) (fun i h=>h.IsTupleIter it l i/\h.IsTuple l items) where
 live:=fun i h st=>let ⟨o,e,_⟩:=st.1;⟨o,e⟩
 frame:=fun i h h' st k=>⟨let ⟨o,e,r⟩:=st.1;⟨o,k it (by simp) o e,r⟩,let ⟨o,e,r⟩:=st.2;⟨o,k l (by simp) o e,r⟩⟩
 item:=fun i s Q E hi st q=>v9 st.1 st.2 (x:=items[i]) (by simp [hi]) fun h' t' sb=>q _ h' s.toks (by simp [hi]) ⟨t',st.2.extBut sb.extBut hne⟩ sb
 done:=fun s Q E st q=>vb hh st.1 st.2 (by simp) q
end
theorem yH (l:ag) (items:Array ae) (n:Nat) (dct:Option ag) (sl:Array (Option ae)) :
  Meets (fK.«enumerate.__new__» ⟨[.type "enumerate",.ref l],[]⟩) (fun _ R s=>s.heap.get? l=some { cls:=.type "tuple",dict:=dct,data:=.seq items n,slots:=sl } /\
   R (.ok (.ret (.ref (s.heap.push { cls:=.type "tuple_iterator",data:=.fields #[.ref l,.int 0 0] }).objs.size)))
    { s with heap:=(s.heap.push { cls:=.type "tuple_iterator",data:=.fields #[.ref l,.int 0 0] }).push { cls:=.type "enumerate",data:=.fields #[.none,.bool false,.ref s.heap.objs.size,cr 0,.none,.none] } }) :=
 .of_wp fun prog w A R s h=>by
  obtain ⟨hp,g,d,tk,os⟩:=s;obtain ⟨hl,h⟩:=h;have hsub:=PySem.sub_enumerate;have hL:G6 (G7 ⟨hp,g,d,tk,os⟩) l items:=⟨_,hl,rfl,n,rfl⟩;wp_walk using gz hl;refine wpAny_stack_any fun st=>aa ?_;split
  ·rename_i c _ _ _ _ _
   cases (c==i7 "enumerate")
   ·wp_walk using gz hl,gJ hL;exact ⟨_,rfl,h⟩
   ·wp_walk using gz hl,gJ hL;exact ⟨_,rfl,h⟩
  ·wp_walk using gz hl,gJ hL;exact ⟨_,rfl,h⟩
end
section
section
theorem At   (hL:s.heap.IsTuple l items)
  (h:∀ h',IsEnum h' (s.heap.objs.size+1) s.heap.objs.size 0 .none->h'.IsTupleIter s.heap.objs.size l 0->(∀ b o,s.heap.get? b=some o->h'.get? b=some o)->h'.objs.size=s.heap.objs.size+2 ->
   Q (.ref (s.heap.objs.size+1)) { s with heap:=h' }):ak (aB prog w) A (call (.type "enumerate") [.ref l]) Q E s:=by
 obtain ⟨⟨c,dc,dt,sl⟩,hl,hc,n,hd⟩:=hL;obtain rfl:c=.type "tuple":=hc;obtain rfl:dt=.seq items n:=hd;refine callType_new F.called_enumerate (by decide) (F.typeCall_enumerate_1 _) (F.newCall_enumerate_1 _) (fun obj=>F.args_object_init_2 obj _) F.entry_enumerate_new (yH l items n dc sl) ⟨hl,?_⟩;have z1:(s.heap.push { cls:=.type "tuple_iterator",data:=.fields #[.ref l,.int 0 0] }).objs.size=s.heap.objs.size+1:=cp ..;show _/\_;rw [z1];have he:IsEnum ((s.heap.push { cls:=.type "tuple_iterator",data:=.fields #[.ref l,.int 0 0] }).push { cls:=.type "enumerate",data:=.fields #[.none,.bool false,.ref s.heap.objs.size,cr 0,.none,.none] }) (s.heap.objs.size+1) s.heap.objs.size 0 .none:=by
  have q:=aF (s.heap.push { cls:=.type "tuple_iterator",data:=.fields #[.ref l,.int 0 0] }) (o:={ cls:=.type "enumerate",data:=.fields #[.none,.bool false,.ref s.heap.objs.size,cr 0,.none,.none] }) rfl;rw [z1] at q;exact q
 exact ⟨⟨_,he,rfl⟩,h _ he ⟨_,ac _ (aF _ rfl),rfl,rfl⟩ (fun b o e=>ac _ (ac _ e)) (by rw [cp,z1])⟩
end
def Xk (K:a7) (a:ag):It :=
 ⟨fun i H=>∃ xs x,lz K H a xs/\xs[i]?=some x,fun i H v H'=>∃ p,H p=none/\v=.ref p/\∀ xs,lz K H a xs->∃ x,xs[i]?=some x/\H'=upd H p (.tup [.int i,x]),fun i H=>∃ xs,lz K H a xs/\xs.length<=i⟩
theorem KC {P:bf}{w:bE}{K:a7}{elts:List bR}{x1}{pos:Pos} (a e it:ag) (hei:e≠it):Aq P w K (.Tuple elts x1 pos) (Xk K a) [e,it] e (fun i h=>(∃ old,IsEnum h e it i old)/\h.IsTupleIter it a i) where
 mem:=by simp
 obj:=fun i h st b hb=>by
  simp only [aQ,aH,or_false] at hb;rcases hb with rfl|rfl
  ·obtain ⟨⟨old,q⟩,_⟩:=st;exact ⟨_,q,fun v z=>by cases z⟩
  ·obtain ⟨_,o,q,_,d⟩:=st;exact ⟨o,q,fun v z=>by rw [d] at z;cases z⟩
 keep:=fun i h h' st k=>⟨let ⟨old,q⟩:=st.1;⟨old,k e (by simp) _ q⟩,let ⟨o,q,r⟩:=st.2;⟨o,k it (by simp) o q,r⟩⟩
 item:=by
  intro X hP hw hK hc i pins s σ H E I hf st hg;subst hP hw hK;obtain ⟨xs,x,hq,hx⟩:=hg;obtain ⟨its,rv,p,hz⟩:=I.tuple hq;obtain ⟨u,hu,ru⟩:=rv.get hx;obtain ⟨⟨old,he⟩,hit⟩:=st;have hit0:=hit;obtain ⟨oi,ei,_⟩:=hit0;have hai:a≠it:=fun z=>by
   obtain ⟨o1,e1,c1,_⟩:=p;obtain ⟨o2,e2,c2,_⟩:=hit;rw [z,e2] at e1;cases e1;rw [c2] at c1;exact absurd (Iz c1) (by decide)
  have hae:a≠e:=fun z=>by
   obtain ⟨o1,e1,c1,_⟩:=p;rw [z,he] at e1;cases e1;exact absurd (Iz (show i7 "enumerate"=i7 "tuple" from c1)) (by decide)
  have hlt:i<its.toArray.size:=by simp;exact (List.getElem?_eq_some_iff.mp hu).1
  have he0:=am he;refine wpAny_pyNext_enum_itemD (KB (by simpa using I.ok.hd hc) it a hai its.toArray) he ⟨hit,p⟩ hlt hei (by simp [hei,dq hae]) ?_;intro x' h1 tk hx' eo st1 tup sz k1;have hx'':its[i]?=some x':=by simpa using hx'
  rw [hu] at hx'';cases hx'';refine ⟨_,rfl,Gx eo fun h2 e2 sb2=>?_⟩;have szn:s.heap.objs.size≠e:=eh he0;have I2:bG X pins σ H { s with heap:=h2,toks:=tk+1 }:=I.turnedL (ch:=[e,it]) (fun b o hb q=>by
   simp only [aQ,aH,or_false,not_or] at hb;exact (sb2.2 b hb.1).trans (k1 b o hb.1 hb.2 q)) hf
  have fT:=I.fpOk (H':=H) (ar _) (I.hok.fresh (ar _));have tup2:h2.get? s.heap.objs.size=some { cls:=.type "tuple",data:=.seq #[.int i tk,u] }:=(sb2.2 _ szn).trans tup;have I3:=I2.track (ho:=.tup [.int i,x]) fT ⟨by show 2<=sizeLine;decide,[.int i tk,u],.cons ⟨tk,rfl⟩ (.cons ru .nil),⟨_,tup2,rfl,0,rfl⟩⟩;refine ⟨.ref s.heap.objs.size,_,I3,rfl,⟨_,fT.1,rfl,fun ys hy=>?_⟩,⟨⟨u,?_⟩,?_⟩,fun b hb=>?_⟩
  ·rw [I.tuple_inj hy hq];exact ⟨x,hx,rfl⟩
  ·have:(((i+1:Nat):Int))=(i:Int)+1:=by omega
   rw [this];exact e2
  ·obtain ⟨o,q,r⟩:=st1.1;exact ⟨o,(sb2.2 it (dq hei)).trans q,r⟩
  ·rw [aU]
   ·exact (hf b hb).1
   ·simp only [aQ,aH,or_false] at hb;rcases hb with z|z
    ·rw [z];exact aD he0
    ·rw [z];exact aD (am ei)
 done:=by
  intro X hP hw hK hc i pins s σ H E I hf st hg;subst hP hw hK;obtain ⟨xs,hq,hx⟩:=hg;obtain ⟨its,rv,p,hz⟩:=I.tuple hq;obtain ⟨⟨old,he⟩,hit⟩:=st;have hl:=rv.length;have hT:s.TypeIs (.ref e) "enumerate":=⟨_,he,rfl⟩;unfold nL;refine a6 (kg (cF (name:=ir "__next__") hT LR ?_));refine cx LR hT F.entry_enumerate_next ?_ (F.args_enumerate_next_1 _);show ak _ _ (Aj (.ref e) 2 >>= _) _ _ _;refine a6 (cO he rfl (x:=.ref it) rfl ?_);refine a6 (vb (by simpa using I.ok.hd hc) hit (show s.heap.IsTuple a its.toArray from p) (by simp;omega) fun h' z eb hz'=>?_);obtain ⟨o,ho,hcl⟩:=hz';refine a6 (jK (T:="StopIteration") (b:=true) ⟨o,ho,hcl⟩ Gw ?_);exact aa ⟨rfl,I.turnedL (t':=s.toks) (ch:=[e,it]) (fun b o hb q=>eb b o (by
   simp only [aQ,aH,or_false,not_or] at hb;exact hb.2) q) hf⟩
 self:=fun _ _ _ _ _ st h=>let ⟨⟨_,q⟩,_⟩:=st;qL q h
def V6 (K:a7) (ta:TA):TI:=fun σ H R=>ta σ H fun vs H1=>∃ a xs,vs=[.ref a]/\lz K H1 a xs/\R (Xk K a) H1
theorem Qs {X:Cx}{elts:List bR}{x1}{tpos p pos:Pos}{a:bR}{ta:TA} (hg:Gl X "enumerate") (hm:X.mg "enumerate"=none) (ha:PA X [a] ta) (hs:aA [a] X.env=[(false,cL a X.env)]:=by rfl) :
  PI X (.Tuple elts x1 tpos) (.Call (.Name "enumerate" p) [a] [] pos) (V6 X.K ta):=by
 intro pins s σ H R I h;refine Call_ (tY I hg hm boot_enumerate (e_ (fY (ha pos pins s σ H _ I h) fun us s1 ⟨vs,H1,I1,r1,q1⟩=>?_) hs rfl));obtain ⟨ad,xs,rfl,hq,q⟩:=q1;obtain ⟨u,rfl,rx⟩:=jU r1;cases rx;obtain ⟨its,rv,tp,hz⟩:=I1.tuple hq;refine At (show s1.heap.IsTuple ad its.toArray from tp) fun h' e1 t1 kp sz=>?_;refine qL e1 ?_;have I2:bG X pins σ H1 { s1 with heap:=h' }:=I1.kept (t':=s1.toks) kp;refine ⟨s1.heap.objs.size+1,[s1.heap.objs.size+1,s1.heap.objs.size],_,_,H1,rfl,I2,KC ad _ _ (eh (fW _)),⟨⟨.none,e1⟩,t1⟩,fun b hb=>?_,q⟩;simp only [aQ,aH,or_false] at hb;rcases hb with z|z
 ·rw [z];exact I1.fpOk (ik _) (I1.hok.fresh (ik _))
 ·rw [z];exact I1.fpOk (ar _) (I1.hok.fresh (ar _))
end
section
section
variable {prog:bf}{w:bE}{A:bV}{E:ae->ah->Prop}{s:ah}{z TI TO i1 i2 l1 l2:ag}{k1 k2:Nat}{xs ys:Array ae}{x y a b:ae}
theorem ju    (t:h.IsTupleIter it l k) (sb:bI c h h') (ne:it≠c):h'.IsTupleIter it l k:=t.extBut sb.extBut ne
theorem pG    (t:h.IsTuple l xs) (sb:bI c h h') (ne:l≠c):h'.IsTuple l xs:=t.extBut sb.extBut ne
theorem MU {Q:ae->ah->Prop} (D:Pz z TI TO i1 i2 l1 l2) (za:vY s.heap z TI TO .none) (pa:kJ s.heap TI (.ref i1) (.ref i2)) (pb:kJ s.heap TO a b)
  (u1:s.heap.IsTupleIter i1 l1 k1) (u2:s.heap.IsTupleIter i2 l2 k2) (v1:s.heap.IsTuple l1 xs) (v2:s.heap.IsTuple l2 ys) (hx:xs[k1]?=some x) (hy:ys[k2]?=some y)
  (q:∀ h',vY h' z TI TO (cr s.heap.objs.size)->kJ h' TO x y->h'.IsTupleIter i1 l1 (k1+1)->h'.IsTupleIter i2 l2 (k2+1)->kJ h' s.heap.objs.size x y ->
   (∀ c o,c≠z->c≠TO->c≠i1->c≠i2->s.heap.get? c=some o->h'.get? c=some o)->Q (.ref s.heap.objs.size) { s with heap:=h' }) :
  ak (aB prog w) A (fK.«zip.__next__» ⟨[.ref z],[]⟩) (fun fin s'=>∃ v,fin=.done (.ret v)/\Q v s') E s:=by
 show ak _ _ (Aj (.ref z) 2 >>= _) _ _ _;refine a6 (cO za rfl (x:=.bool false) rfl ?_);show ak _ _ (Aj (.ref z) 3 >>= _) _ _ _;refine a6 (cO za rfl (x:=.ref TI) rfl ?_);refine a6 (eG pa rfl ?_);show ak _ _ (eP (.ref z) >>= _) _ _ _;refine a6 ?_;unfold eP;refine a6 (cO za rfl (x:=.none) rfl (aa ?_));simp only [if_true];refine a6 (gI ?_);refine a6 (cO za rfl (x:=.ref TO) rfl ?_);refine a6 (iJ za (by simp) fun g1 z1 b1=>?_);replace z1:vY g1 z TI TO .ellipsis:=z1;refine a6 ?_;simp only [Pj,PB,m6,tu];refine a6 (a6 (xO ?_));show ak _ _ (cy (.ref i1) >>= _) _ _ _;refine a6 (v9 (ju u1 b1 D.i1z) (pG v1 b1 D.l1z) hx fun g2 w1 b2=>aa ?_);have p2:kJ g2 TO a b:=b2.extBut _ _ D.TOi1 (b1.extBut _ _ D.TOz pb);refine a6 (eG p2 rfl (a6 (vZ p2 fun g3 p3 b3=>?_)));replace p3:kJ g3 TO x b:=p3;refine a6 (PD (aa (a6 (a6 (xO ?_)))));show ak _ _ (cy (.ref i2) >>= _) _ _ _;refine a6 (v9 (ju (ju (ju u2 b1 D.i2z) b2 D.i12.symm) b3 D.TOi2.symm) (pG (pG (pG v2 b1 D.l2z) b2 D.l2i1) b3 D.l2TO) hy fun g4 w2 b4=>aa ?_);have p4:kJ g4 TO x b:=b4.extBut _ _ D.TOi2 p3;refine a6 (eG p4 rfl (a6 (vZ p4 fun g5 p5 b5=>?_)));replace p5:kJ g5 TO x y:=p5;refine a6 (PD (aa (aa ?_)));refine a6 (eG p5 rfl (a6 (wpAny_newTuple ?_)));have sz:g5.objs.size=s.heap.objs.size:=by rw [b5.1,b4.1,b3.1,b2.1,b1.1]
 have z5:vY g5 z TI TO .ellipsis:=b5.extBut _ _ D.TOz.symm (b4.extBut _ _ D.i2z.symm (b3.extBut _ _ D.TOz.symm (b2.extBut _ _ D.i1z.symm z1)));have k5:∀ c o,c≠z->c≠TO->c≠i1->c≠i2->s.heap.get? c=some o->g5.get? c=some o:=fun c o n1 n2 n3 n4 e =>
  b5.extBut _ _ n2 (b4.extBut _ _ n4 (b3.extBut _ _ n2 (b2.extBut _ _ n3 (b1.extBut _ _ n1 e))))
 have y1:g5.IsTupleIter i1 l1 (k1+1):=ju (ju (ju w1 b3 D.TOi1.symm) b4 D.i12) b5 D.TOi1.symm;have y2:g5.IsTupleIter i2 l2 (k2+1):=ju w2 b5 D.TOi2.symm;have zl:z<g5.objs.size:=am z5;show ak _ _ (n8 (.ref z) (.ref g5.objs.size) >>= _) _ _ _;refine a6 ?_;unfold n8;have z6:vY (g5.push { cls:=.type "tuple",data:=.seq #[x,y] }) z TI TO .ellipsis:=ac _ z5;refine a6 (iJ z6 (by simp) fun g7 z7 b7=>?_);replace z7:vY g7 z TI TO (cr g5.objs.size):=z7;refine iJ z7 (by simp) fun g8 z8 b8=>?_;replace z8:vY g8 z TI TO (cr g5.objs.size):=z8;have up:∀ c o,c≠z->g5.get? c=some o->g8.get? c=some o:=fun c o n1 e=>b8.extBut _ _ n1 (b7.extBut _ _ n1 (ac _ e));have p8:kJ g8 g5.objs.size x y:=b8.extBut _ _ (eh zl) (b7.extBut _ _ (eh zl) (aF _ rfl));rw [sz] at z8 p8;refine aa ⟨_,rfl,?_⟩;show Q (.ref g5.objs.size) _;rw [sz];exact q g8 z8 (up _ _ D.TOz p5) (let ⟨o,e,r⟩:=y1;⟨o,up _ o D.i1z e,r⟩) (let ⟨o,e,r⟩:=y2;⟨o,up _ o D.i2z e,r⟩) p8 fun c o n1 n2 n3 n4 e=>up c o n1 (k5 c o n1 n2 n3 n4 e)
theorem MV (hh:A.handled=none) (D:Pz z TI TO i1 i2 l1 l2) (za:vY s.heap z TI TO .none) (pa:kJ s.heap TI (.ref i1) (.ref i2)) (pb:kJ s.heap TO a b)
  (u1:s.heap.IsTupleIter i1 l1 k1) (u2:s.heap.IsTupleIter i2 l2 k2) (v1:s.heap.IsTuple l1 xs) (v2:s.heap.IsTuple l2 ys) (hend:xs[k1]?=none\/ys[k2]?=none)
  (q:∀ h' e,(∀ c o,c≠z->c≠TO->c≠i1->c≠i2->s.heap.get? c=some o->h'.get? c=some o)->(∃ o,h'.get? e=some o/\o.cls=.type "StopIteration")->E (.ref e) { s with heap:=h' }) :
  ak (aB prog w) A (fK.«zip.__next__» ⟨[.ref z],[]⟩) Q E s:=by
 show ak _ _ (Aj (.ref z) 2 >>= _) _ _ _;refine a6 (cO za rfl (x:=.bool false) rfl ?_);show ak _ _ (Aj (.ref z) 3 >>= _) _ _ _;refine a6 (cO za rfl (x:=.ref TI) rfl ?_);refine a6 (eG pa rfl ?_);show ak _ _ (eP (.ref z) >>= _) _ _ _;refine a6 ?_;unfold eP;refine a6 (cO za rfl (x:=.none) rfl (aa ?_));simp only [if_true];refine a6 (gI ?_);refine a6 (cO za rfl (x:=.ref TO) rfl ?_);refine a6 (iJ za (by simp) fun g1 z1 b1=>?_);replace z1:vY g1 z TI TO .ellipsis:=z1;refine a6 ?_;simp only [Pj,PB,m6,tu];refine a6 (a6 (xO ?_));show ak _ _ (cy (.ref i1) >>= _) _ _ _;cases hx:xs[k1]? with
 |none =>
  refine a6 (vb hh (ju u1 b1 D.i1z) (pG v1 b1 D.l1z) hx fun g2 e b2 he=>?_);obtain ⟨oe,ee,ce⟩:=he;have z2:vY g2 z TI TO .ellipsis:=b2 _ _ D.i1z.symm z1;have ez:e≠z:=fun n=>by subst n;rw [z2] at ee;cases ee;simp at ce
  refine iJ z2 (by simp) fun g3 _ b3=>q g3 e (fun c o n1 _ n3 _ m=>b3.extBut _ _ n1 (b2 _ _ n3 (b1.extBut _ _ n1 m))) ⟨oe,b3.extBut _ _ ez ee,ce⟩
 |some x =>
  have hy:ys[k2]?=none:=hend.resolve_left fun n=>by rw [hx] at n;cases n
  refine a6 (v9 (ju u1 b1 D.i1z) (pG v1 b1 D.l1z) hx fun g2 w1 b2=>aa ?_);have p2:kJ g2 TO a b:=b2.extBut _ _ D.TOi1 (b1.extBut _ _ D.TOz pb);refine a6 (eG p2 rfl (a6 (vZ p2 fun g3 p3 b3=>?_)));refine a6 (PD (aa (a6 (a6 (xO ?_)))));show ak _ _ (cy (.ref i2) >>= _) _ _ _;refine a6 (vb hh (ju (ju (ju u2 b1 D.i2z) b2 D.i12.symm) b3 D.TOi2.symm) (pG (pG (pG v2 b1 D.l2z) b2 D.l2i1) b3 D.l2TO) hy fun g4 e b4 he=>?_);obtain ⟨oe,ee,ce⟩:=he;have z4:vY g4 z TI TO .ellipsis:=b4 _ _ D.i2z.symm (b3.extBut _ _ D.TOz.symm (b2.extBut _ _ D.i1z.symm z1));have ez:e≠z:=fun n=>by subst n;rw [z4] at ee;cases ee;simp at ce
  refine iJ z4 (by simp) fun g5 _ b5=>q g5 e (fun c o n1 n2 n3 n4 m=>b5.extBut _ _ n1 (b4 _ _ n4 (b3.extBut _ _ n2 (b2.extBut _ _ n3 (b1.extBut _ _ n1 m))))) ⟨oe,b5.extBut _ _ ez ee,ce⟩
end
abbrev Ww (h:bw) (l1:ag):bw:=h.push { cls:=.type "tuple_iterator",data:=.fields #[.ref l1,.int 0 0] }
abbrev Wx (h:bw) (l1 l2:ag):bw:=(Ww h l1).push { cls:=.type "tuple_iterator",data:=.fields #[.ref l2,.int 0 0] }
abbrev Wz (h:bw) (l1 l2:ag):bw:=(Wx h l1 l2).push { cls:=.type "tuple",data:=.seq #[.ref h.objs.size,.ref (Ww h l1).objs.size] }
abbrev WA (h:bw) (l1 l2:ag):bw:=(Wz h l1 l2).push { cls:=.type "tuple",data:=.seq #[.none,.none] }
abbrev UA (h:bw) (l1 l2:ag):bw:=(WA h l1 l2).push { cls:=.type "zip",data:=.fields #[.none,.bool false,.bool false,.ref (Wx h l1 l2).objs.size,.ref (Wz h l1 l2).objs.size] }
theorem Au (l1 l2:ag) (xs ys:Array ae) :
  Meets (fK.«zip.__new__» ⟨[.type "zip",.ref l1,.ref l2],[]⟩) (fun _ R s=>s.heap.IsTuple l1 xs/\s.heap.IsTuple l2 ys/\R (.ok (.ret (.ref (WA s.heap l1 l2).objs.size))) { s with heap:=UA s.heap l1 l2 }) :=
 .of_wp fun prog w A R s h=>by
  obtain ⟨hp,g,d,tk,os⟩:=s;obtain ⟨v1,v2,h⟩:=h;have hsub:=PySem.sub_zip;have L1:G6 (G7 ⟨hp,g,d,tk,os⟩) l1 xs:=v1;have L2:G6 (G7 ⟨hp.push { cls:=.type "tuple_iterator",data:=.fields #[.ref l1,.int 0 0] },g,d,tk,os⟩) l2 ys:=Heap.IsTuple.push v2 _;wp_walk using gJ L1,gJ L2;exact ⟨_,rfl,h⟩
section
theorem CC   (v1:s.heap.IsTuple l1 xs) (v2:s.heap.IsTuple l2 ys)
  (h:∀ h',vY h' (s.heap.objs.size+4) (s.heap.objs.size+2) (s.heap.objs.size+3) .none->kJ h' (s.heap.objs.size+2) (.ref s.heap.objs.size) (.ref (s.heap.objs.size+1)) ->
   kJ h' (s.heap.objs.size+3) .none .none->h'.IsTupleIter s.heap.objs.size l1 0->h'.IsTupleIter (s.heap.objs.size+1) l2 0 ->
   (∀ c o,s.heap.get? c=some o->h'.get? c=some o)->Q (.ref (s.heap.objs.size+4)) { s with heap:=h' }):ak (aB prog w) A (call (.type "zip") [.ref l1,.ref l2]) Q E s:=by
 refine callType_new F.called_zip (by decide) (F.typeCall_zip_2 _ _) (F.newCall_zip_2 _ _) (fun obj=>F.args_object_init_3 obj _ _) F.entry_zip_new (Au l1 l2 xs ys) ⟨v1,v2,?_⟩;have n1:(Ww s.heap l1).objs.size=s.heap.objs.size+1:=cp ..;have n2:(Wx s.heap l1 l2).objs.size=s.heap.objs.size+2:=by rw [cp,n1]
 have n3:(Wz s.heap l1 l2).objs.size=s.heap.objs.size+3:=by rw [cp,n2]
 have n4:(WA s.heap l1 l2).objs.size=s.heap.objs.size+4:=by rw [cp,n3]
 have c5:(UA s.heap l1 l2).get? (WA s.heap l1 l2).objs.size=some _:=aF _ rfl;have c4:(UA s.heap l1 l2).get? (Wz s.heap l1 l2).objs.size=some _:=ac _ (aF _ rfl);have c3:(UA s.heap l1 l2).get? (Wx s.heap l1 l2).objs.size=some _:=ac _ (ac _ (aF _ rfl));have c2:(UA s.heap l1 l2).get? (Ww s.heap l1).objs.size=some _:=ac _ (ac _ (ac _ (aF _ rfl)));have c1:(UA s.heap l1 l2).get? s.heap.objs.size=some _:=ac _ (ac _ (ac _ (ac _ (aF _ rfl))));show _/\_;rw [n2,n3,n4] at c5;rw [n1,n2] at c3;rw [n3] at c4;rw [n1] at c2;rw [n4];exact ⟨⟨_,c5,rfl⟩,h _ c5 c3 c4 ⟨_,c1,rfl,rfl⟩ ⟨_,c2,rfl,rfl⟩ fun c o e=>ac _ (ac _ (ac _ (ac _ (ac _ e))))⟩
end
theorem lz.ne_fp       (I:bG X pins σ H s) (hq:lz X.K H a xs) (hf:qX X pins H b):a≠b:=by
 rintro rfl;rcases hq with (h|⟨o,h⟩)|⟨o,its,n,hk,_⟩
 ·rw [hf.1] at h;cases h
 ·rw [hf.1] at h;cases h
 ·have e:X.base.get? a=some o:=I.mod.kin a o hk;rcases hf.f3 with z|z
  ·exact I.ok.noex a o e z
  ·exact absurd (aE (am e) (bD I.ok.bsz z)) (c6 _)
def Xl (K:a7) (a b:ag):It :=
 ⟨fun i H=>∃ xs ys x y,lz K H a xs/\lz K H b ys/\xs[i]?=some x/\ys[i]?=some y,
  fun i H v H'=>∃ p,H p=none/\v=.ref p/\∀ xs ys,lz K H a xs->lz K H b ys->∃ x y,xs[i]?=some x/\ys[i]?=some y/\H'=upd H p (.tup [x,y]),
  fun i H=>∃ xs ys,lz K H a xs/\lz K H b ys/\(xs.length<=i\/ys.length<=i)⟩
structure Xm (z TI TO i1 i2:ag):Prop where
 d1:TI≠z
 d2:TO≠z
 d3:i1≠z
 d4:i2≠z
 d5:TI≠TO
 d6:TI≠i1
 d7:TI≠i2
 d8:TO≠i1
 d9:TO≠i2
 d0:i1≠i2
theorem MW {P:bf}{w:bE}{K:a7}{elts:List bR}{x1}{pos:Pos} (l1 l2 z TI TO i1 i2:ag) (Z:Xm z TI TO i1 i2) :
  Aq P w K (.Tuple elts x1 pos) (Xl K l1 l2) [z,TI,TO,i1,i2] z (fun i h=>vY h z TI TO .none/\kJ h TI (.ref i1) (.ref i2)/\(∃ a b,kJ h TO a b)/\h.IsTupleIter i1 l1 i/\h.IsTupleIter i2 l2 i) where
 mem:=by simp
 obj:=fun i h st b hb=>by
  obtain ⟨s1,s2,⟨_,_,s3⟩,⟨o4,e4,_,f4⟩,⟨o5,e5,_,f5⟩⟩:=st;simp only [aQ,aH,or_false] at hb;rcases hb with rfl|rfl|rfl|rfl|rfl
  ·exact ⟨_,s1,fun v q=>by cases q⟩
  ·exact ⟨_,s2,fun v q=>by cases q⟩
  ·exact ⟨_,s3,fun v q=>by cases q⟩
  ·exact ⟨o4,e4,fun v q=>by rw [f4] at q;cases q⟩
  ·exact ⟨o5,e5,fun v q=>by rw [f5] at q;cases q⟩
 keep:=fun i h h' st k=>by
  obtain ⟨s1,s2,⟨u,v,s3⟩,⟨o4,e4,r4⟩,⟨o5,e5,r5⟩⟩:=st;exact ⟨k z (by simp) _ s1,k TI (by simp) _ s2,⟨u,v,k TO (by simp) _ s3⟩,⟨o4,k i1 (by simp) _ e4,r4⟩,⟨o5,k i2 (by simp) _ e5,r5⟩⟩
 item:=by
  intro X hP hw hK hc i pins s σ H E I hf st hg;subst hP hw hK;obtain ⟨xs,ys,x,y,hq1,hq2,hx,hy⟩:=hg;obtain ⟨its1,rv1,p1,_⟩:=I.tuple hq1;obtain ⟨its2,rv2,p2,_⟩:=I.tuple hq2;obtain ⟨u,hu,ru⟩:=rv1.get hx;obtain ⟨v,hv,rv⟩:=rv2.get hy;obtain ⟨s1,s2,⟨a,b,s3⟩,s4,s5⟩:=st;have ne1:∀ b∈[z,TI,TO,i1,i2],l1≠b:=fun b hb=>hq1.ne_fp I (hf b hb);have ne2:∀ b∈[z,TI,TO,i1,i2],l2≠b:=fun b hb=>hq2.ne_fp I (hf b hb);have D:Pz z TI TO i1 i2 l1 l2:=⟨Z.d1,Z.d2,Z.d3,Z.d4,Z.d5,Z.d6,Z.d7,Z.d8,Z.d9,Z.d0,ne1 z (by simp),ne1 TO (by simp),ne1 i1 (by simp),ne1 i2 (by simp),ne2 z (by simp),ne2 TO (by simp),ne2 i1 (by simp),ne2 i2 (by simp)⟩;have zl:=am s1;have hT:s.TypeIs (.ref z) "zip":=⟨_,s1,rfl⟩;unfold nL;refine a6 (kg (cF (name:=ir "__next__") hT tw ?_));refine cx tw hT F.entry_zip_next (MU D s1 s2 s3 s4 s5 p1 p2 (by simpa using hu) (by simpa using hv) fun h1 z1 t1 y1 y2 pr k1=>?_) (F.args_zip_next_1 _);refine aa ⟨_,rfl,wpAny_letOwnedTupleGo_zip z1 fun h2 z2 b2=>?_⟩;have szn:s.heap.objs.size≠z:=eh zl;have TIk:kJ h1 TI (.ref i1) (.ref i2):=k1 TI _ Z.d1 Z.d5 Z.d6 Z.d7 s2;have I2:bG X pins σ H { s with heap:=h2 }:=I.turnedL (t':=s.toks) (ch:=[z,TI,TO,i1,i2]) (fun b o hb q=>by
   simp only [aQ,aH,or_false,not_or] at hb;exact (b2.2 b hb.1).trans (k1 b o hb.1 hb.2.2.1 hb.2.2.2.1 hb.2.2.2.2 q)) hf
  have fT:=I.fpOk (H':=H) (ar _) (I.hok.fresh (ar _));have pr2:h2.get? s.heap.objs.size=some { cls:=.type "tuple",data:=.seq #[u,v] }:=(b2.2 _ szn).trans pr;have I3:=I2.track (ho:=.tup [x,y]) fT ⟨by show 2<=sizeLine;decide,[u,v],.cons ru (.cons rv .nil),⟨_,pr2,rfl,0,rfl⟩⟩;refine ⟨.ref s.heap.objs.size,_,I3,rfl,⟨_,fT.1,rfl,fun xs' ys' h1 h2=>?_⟩,⟨z2,(b2.2 TI Z.d1).trans TIk,⟨u,v,(b2.2 TO Z.d2).trans t1⟩,ju y1 b2 Z.d3,ju y2 b2 Z.d4⟩,fun b hb=>?_⟩
  ·rw [I.tuple_inj h1 hq1,I.tuple_inj h2 hq2];exact ⟨x,y,hx,hy,rfl⟩
  ·have bl:b<s.heap.objs.size:=by
    simp only [aQ,aH,or_false] at hb;rcases hb with q|q|q|q|q
    ·rw [q];exact zl
    ·rw [q];exact am s2
    ·rw [q];exact am s3
    ·obtain ⟨_,e,_⟩:=s4;rw [q];exact am e
    ·obtain ⟨_,e,_⟩:=s5;rw [q];exact am e
   rw [aU (aD bl)];exact (hf b hb).1
 done:=by
  intro X hP hw hK hc i pins s σ H E I hf st hg;subst hP hw hK;obtain ⟨xs,ys,hq1,hq2,hend⟩:=hg;obtain ⟨its1,rv1,p1,_⟩:=I.tuple hq1;obtain ⟨its2,rv2,p2,_⟩:=I.tuple hq2;obtain ⟨s1,s2,⟨a,b,s3⟩,s4,s5⟩:=st;have ne1:∀ b∈[z,TI,TO,i1,i2],l1≠b:=fun b hb=>hq1.ne_fp I (hf b hb);have ne2:∀ b∈[z,TI,TO,i1,i2],l2≠b:=fun b hb=>hq2.ne_fp I (hf b hb);have D:Pz z TI TO i1 i2 l1 l2:=⟨Z.d1,Z.d2,Z.d3,Z.d4,Z.d5,Z.d6,Z.d7,Z.d8,Z.d9,Z.d0,ne1 z (by simp),ne1 TO (by simp),ne1 i1 (by simp),ne1 i2 (by simp),ne2 z (by simp),ne2 TO (by simp),ne2 i1 (by simp),ne2 i2 (by simp)⟩;have hT:s.TypeIs (.ref z) "zip":=⟨_,s1,rfl⟩;have n1:=rv1.length;have n2:=rv2.length;unfold nL;refine a6 (kg (cF (name:=ir "__next__") hT tw ?_));refine cx tw hT F.entry_zip_next (MV (by simpa using I.ok.hd hc) D s1 s2 s3 s4 s5 p1 p2 (hend.elim (fun q=>.inl (by simp;omega)) fun q=>.inr (by simp;omega)) fun h' e kp he=>?_) (F.args_zip_next_1 _);obtain ⟨o,eo,co⟩:=he;refine a6 (jK (T:="StopIteration") (b:=true) ⟨o,eo,co⟩ Gw ?_);exact aa ⟨rfl,I.turnedL (t':=s.toks) (ch:=[z,TI,TO,i1,i2]) (fun b o hb q=>by
   simp only [aQ,aH,or_false,not_or] at hb;exact kp b o hb.1 hb.2.2.1 hb.2.2.2.1 hb.2.2.2.2 q) hf⟩
 self:=fun _ _ _ _ _ st h=>wpAny_pyIter_zip st.1 h
def Xn (K:a7) (ta:TA):TI:=fun σ H R=>ta σ H fun vs H1=>∃ a b xs ys,vs=[.ref a,.ref b]/\lz K H1 a xs/\lz K H1 b ys/\R (Xl K a b) H1
theorem TD {X:Cx}{elts:List bR}{x1}{tpos p pos:Pos}{a b:bR}{ta:TA} (hg:Gl X "zip") (hm:X.mg "zip"=none) (ha:PA X [a,b] ta) (hs:aA [a,b] X.env=[(false,cL a X.env),(false,cL b X.env)]:=by rfl)
  (hs2:aA [b] X.env=[(false,cL b X.env)]:=by rfl):PI X (.Tuple elts x1 tpos) (.Call (.Name "zip" p) [a,b] [] pos) (Xn X.K ta):=by
 intro pins s σ H R I h;refine Call_ (tY I hg hm boot_zip (e_ (fY (ha pos pins s σ H _ I h) fun us s1 ⟨vs,H1,I1,r1,q1⟩=>?_) (by rw [hs,hs2]) (by rw [hs2];rfl)));obtain ⟨a1,a2,xs,ys,rfl,hq1,hq2,q⟩:=q1;obtain ⟨u1,u2,rfl,rx1,rx2⟩:=Mv r1;cases rx1;cases rx2;obtain ⟨its1,rv1,p1,_⟩:=I1.tuple hq1;obtain ⟨its2,rv2,p2,_⟩:=I1.tuple hq2;refine CC (show s1.heap.IsTuple a1 its1.toArray from p1) (show s1.heap.IsTuple a2 its2.toArray from p2) fun h' c1 c2 c3 c4 c5 kp=>?_;refine wpAny_pyIter_zip c1 ?_;have I2:bG X pins σ H1 { s1 with heap:=h' }:=I1.kept (t':=s1.toks) kp;have ad:∀ k j:Nat,k≠j->s1.heap.objs.size+k≠s1.heap.objs.size+j:=fun k j n e=>n (Nat.add_left_cancel e);refine ⟨s1.heap.objs.size+4,[s1.heap.objs.size+4,s1.heap.objs.size+2,s1.heap.objs.size+3,s1.heap.objs.size+0,s1.heap.objs.size+1],_,_,H1,rfl,I2,
  MW a1 a2 _ _ _ _ _ ⟨ad _ _ (by decide),ad _ _ (by decide),ad _ _ (by decide),ad _ _ (by decide),ad _ _ (by decide),ad _ _ (by decide),ad _ _ (by decide),ad _ _ (by decide),ad _ _ (by decide),ad _ _ (by decide)⟩,
  ⟨c1,c2,⟨_,_,c3⟩,c4,c5⟩,fun b hb=>?_,q⟩
 have:∀ k:Nat,qX X pins H1 (s1.heap.objs.size+k):=fun k=>I1.fpOk (PF _ _) (I1.hok.fresh (PF _ _))
 simp only [aQ,aH,or_false] at hb;rcases hb with q|q|q|q|q<;>(rw [q];exact this _)
end
section
mutual
inductive GZ (K:a7) (H:Hp):V->C6->Prop
 |none:GZ K H .non .none
 |bool (b:Bool):GZ K H (.bl b) (.bool b)
 |int (i:Int):GZ K H (.int i) (.int i)
 |str (x:Str):GZ K H (.str x) (.str x)
 |list {a:ag}{xs:List V}{ds:List C6}:mV K H a xs->Reps K H xs ds->GZ K H (.ref a) (.list ds)
 |tuple {a:ag}{xs:List V}{ds:List C6}:lz K H a xs->Reps K H xs ds->GZ K H (.ref a) (.tuple ds)
inductive Reps (K:a7) (H:Hp):List V->List C6->Prop
 |nil:Reps K H [] []
 |cons {x:V}{xs:List V}{d:C6}{ds:List C6}:GZ K H x d->Reps K H xs ds->Reps K H (x::xs) (d::ds)
end
theorem dD.tup {K:a7}{H H':Hp}{a:ag}{xs:List V} (e:dD H H') (h:lz K H a xs):lz K H' a xs:=by
 rcases h with (h|⟨o,h⟩)|h
 ·exact .inl (.inl (e _ _ h))
 ·exact .inl (.inr ⟨o,e _ _ h⟩)
 ·exact .inr h
section
theorem Qt (I:bG X pins σ H s)    (h:mV X.K H a xs) (ih:∀ {us:List ae},cV xs us->∃ as,ReadsAll s.heap us ds as) (r:dn (.ref a) u):∃ as,Reads s.heap u (.list ds) as:=by
 cases r;obtain ⟨its,rv,⟨o,n,e,c,_,d⟩,_⟩:=I.list h;obtain ⟨as,ra⟩:=ih rv;exact ⟨_,.list e c d (by simpa using ra)⟩
theorem MX (I:bG X pins σ H s)    (h:lz X.K H a xs) (ih:∀ {us:List ae},cV xs us->∃ as,ReadsAll s.heap us ds as) (r:dn (.ref a) u):∃ as,Reads s.heap u (.tuple ds) as:=by
 cases r;obtain ⟨its,rv,⟨o,e,c,n,d⟩,_⟩:=I.tuple h;obtain ⟨as,ra⟩:=ih rv;exact ⟨_,.tuple e c d (by simpa using ra)⟩
theorem sv (I:bG X pins σ H s)  (h:GZ X.K H v d):∀ {u:ae},dn v u->∃ as,Reads s.heap u d as :=
 GZ.rec (motive_1:=fun v d _=>∀ {u:ae},dn v u->∃ as,Reads s.heap u d as) (motive_2:=fun vs ds _=>∀ {us:List ae},cV vs us->∃ as,ReadsAll s.heap us ds as)
  (fun r=>by cases r;exact ⟨_,.none⟩) (fun b _ r=>by cases r;exact ⟨_,.bool b⟩) (fun i _ r=>by obtain ⟨t,rfl⟩:=r;exact ⟨_,.int i t⟩) (fun x _ r=>by obtain ⟨t,rfl⟩:=r;exact ⟨_,.str x t⟩)
  (fun h _ ih _ r=>Qt I h ih r) (fun h _ ih _ r=>MX I h ih r) (fun r=>by cases r;exact ⟨_,.nil⟩) (fun _ _ a b _ r=>by
   cases r with
   |cons r rs =>
    obtain ⟨as,ra⟩:=a r;obtain ⟨bs,rb⟩:=b rs;exact ⟨_,.cons ra rb⟩) h
end
section
inductive RZ (K:a7) (neg:Bool) (x:V) (y:V) (H:Hp) (Q:VK):Prop
 |mk (dx dy:_) (h0:GZ K H x dx) (h1:GZ K H y dy) (h2:dx.canLay0=true) (h3:dy.canLay0=true) (h4:min dx.depth dy.depth<=60) (h5:Q (.bl (if neg then !bB dx dy else bB dx dy)) H):RZ K neg x y H Q
def TF (K:a7) (neg:Bool):R2:=RZ K neg
theorem TH (hu:X.A.units+64<sU):oG X (bO .Eq) (TF X.K false):=by
 intro pins s σ H x y v u Q I rx ry h;obtain ⟨dx,dy,hx,hy,lx,ly,dp,q⟩:=h;obtain ⟨as,ra⟩:=sv I hx rx;obtain ⟨bs,rb⟩:=sv I hy ry;exact PySem.SeqAt.compareEq_reads ra rb lx ly (by omega) ⟨.bl _,H,I,rfl,q⟩
theorem TJ (hu:X.A.units+64<sU):oG X (bO .NotEq) (TF X.K true):=by
 intro pins s σ H x y v u Q I rx ry h;obtain ⟨dx,dy,hx,hy,lx,ly,dp,q⟩:=h;obtain ⟨as,ra⟩:=sv I hx rx;obtain ⟨bs,rb⟩:=sv I hy ry;exact PySem.SeqAt.compareNe_reads ra rb lx ly (by omega) ⟨.bl _,H,I,rfl,q⟩
end
end
section
inductive DS {α:Type}:Sem α->Prop
 |pure (a:α):DS (.pure a)
 |raise (e:ae):DS (.raise e)
 |uns (w:String):DS (.unsupported w)
 |fin (w:Ending):DS (.finish w)
 |rule {t k} (h:∀ u,DS (k u)):DS (.rule t k)
 |at {p k} (h:∀ u,DS (k u)):DS (.at p k)
 |load {a p k} (h:∀ u,DS (k u)):DS (.load a p k)
 |update {a p f k} (d:∀ o:Obj,(f o).dict=o.dict) (h:∀ u,DS (k u)):DS (.update a p f k)
 |alloc {o k} (h:∀ u,DS (k u)):DS (.alloc o k)
 |point {l k} (h:∀ u,DS (k u)):DS (.point l k)
 |ask {k} (h:∀ u,DS (k u)):DS (.ask k)
 |reg {a k}:DS (.register a k)
 |stack {k} (h:∀ u,DS (k u)):DS (.stack k)
theorem DS.bind {α β:Type}{m:Sem α}{f:α->Sem β} (h:DS m) (hf:∀ a,DS (f a)):DS (m >>= f):=by
 show DS (m.bind f)
 induction h with
 |pure a=>exact hf a
 |raise e=>exact .raise e
 |uns w=>exact .uns w
 |fin w=>exact .fin w
 |rule _ ih=>exact .rule ih
 | «at» _ ih=>exact .at ih
 |load _ ih=>exact .load ih
 |update d _ ih=>exact .update d ih
 |alloc _ ih=>exact .alloc ih
 |point _ ih=>exact .point ih
 |ask _ ih=>exact .ask ih
 |reg=>exact .reg
 |stack _ ih=>exact .stack ih
def DK (h h':bw):Prop:=∀ (b:Nat) (o:Obj),h.objs[b]?=some o->∃ o':Obj,h'.objs[b]?=some o'/\o'.dict=o.dict
theorem DK.rfl (h:bw):DK h h:=fun _ o e=>⟨o,e,_root_.rfl⟩
theorem DK.trans {h1 h2 h3:bw} (a:DK h1 h2) (b:DK h2 h3):DK h1 h3:=fun c o e=>by
 obtain ⟨o1,e1,d1⟩:=a c o e
 obtain ⟨o2,e2,d2⟩:=b c o1 e1
 exact ⟨o2,e2,d2.trans d1⟩
theorem DK.push (h:bw) (o:Obj):DK h (h.push o):=fun b x e=>by
 obtain ⟨hb,_⟩:=Array.getElem?_eq_some_iff.1 e
 exact ⟨x,(Array.getElem?_push_lt hb).trans (by rw [<- eC hb];exact e),_root_.rfl⟩
theorem DK.update (h:bw) (a:ag) {f:Obj->Obj} (d:∀ o,(f o).dict=o.dict):DK h (h.update a f):=fun b x e=>by
 have q:(h.update a f).objs[b]?=(h.objs.modify a f)[b]?:=_root_.rfl
 rw [q,Array.getElem?_modify,e]
 by_cases z:a=b
 ·exact ⟨f x,by simp [z],d x⟩
 ·exact ⟨x,by simp [z],_root_.rfl⟩
theorem Eh {h:bw}{b:ag}{o:Obj} (e:h.get? b=some o):h.objs[b]?=some o:=by
 unfold Heap.get? at e
 split at e
 ·cases e
 ·exact e
theorem DK.at {h h':bw} (k:DK h h') {b:ag}{o o':Obj} (e:h.get? b=some o) (e':h'.get? b=some o'):o'.dict=o.dict:=by
 obtain ⟨x,ex,d⟩:=k b o (Eh e)
 rw [Eh e'] at ex;cases ex
 exact d
theorem V7 {α:Type}{M:Gg}{Γ : PySem.Ctx}{t:Sem α} (d:DS t):∀ {Q:α->Pos->ah->Prop}{E:ae->Pos->ah->Prop}{p:Pos}{s:ah}{h0:bw},DK h0 s.heap->lH M Γ t Q E p s->lH M Γ t (fun a p s'=>Q a p s'/\DK h0 s'.heap) (fun a p s'=>E a p s'/\DK h0 s'.heap) p s:=by
 induction d with
 |pure a=>intro Q E p s h0 k h;rw [lH] at h ⊢;exact ⟨h,k⟩
 |raise e=>intro Q E p s h0 k h;rw [lH] at h ⊢;exact ⟨h,k⟩
 |uns w=>intro Q E p s h0 k h;rw [lH] at h;exact h.elim
 |fin w=>intro Q E p s h0 k h;rw [lH] at h;exact h.elim
 |rule _ ih=>intro Q E p s h0 k h;rw [lH] at h ⊢;exact ih () k h
 | «at» _ ih=>intro Q E p s h0 k h;rw [lH] at h ⊢;exact ih () k h
 |load _ ih=>intro Q E p s h0 k h;rw [lH] at h ⊢;obtain ⟨o,e,h⟩:=h;exact ⟨o,e,ih o k h⟩
 |update d _ ih=>intro Q E p s h0 k h;rw [lH] at h ⊢;exact ⟨h.1,ih () (k.trans (DK.update _ _ d)) h.2⟩
 |alloc _ ih=>intro Q E p s h0 k h;rw [lH] at h ⊢;exact ih _ (k.trans (DK.push _ _)) h
 |point _ ih=>intro Q E p s h0 k h;rw [lH] at h ⊢;exact ih () k h
 |ask _ ih=>intro Q E p s h0 k h;rw [lH] at h ⊢;exact ih _ k h
 |reg=>intro Q E p s h0 k h;rw [lH] at h;exact h.elim
 |stack _ ih=>intro Q E p s h0 k h;rw [lH] at h ⊢;exact ih _ k h
theorem re {α:Type}{M:Gg}{A:bV}{t:Sem α}{Q:α->ah->Prop}{E:ae->ah->Prop}{s:ah} (d:DS t) (h:ak M A t Q E s):ak M A t (fun a s'=>Q a s'/\DK s.heap s'.heap) (fun a s'=>E a s'/\DK s.heap s'.heap) s :=
 fun Γ p hΓ=>V7 d (DK.rfl _) (h Γ p hΓ)
theorem CD (a:ag):DS (load a):=.load fun _=>.pure _
theorem nY {α:Type} (w:String):DS (unsupported w:Sem α):=.uns w
theorem fe {α:Type} (a:α):DS (pure a:Sem α):=.pure a
theorem Ei (v:ae):DS (fieldsOf v):=by
 unfold fieldsOf
 split
 ·refine .bind (CD _) fun o=>?_
  split
  ·exact fe _
  ·exact nY _
 ·exact nY _
theorem vc (v:ae) (i:Nat):DS (Aj v i):=by
 unfold Aj
 refine .bind (Ei v) fun vs=>?_
 split
 ·exact fe _
 ·exact nY _
theorem yI (g:Array ae->Array ae) (o:Obj):(eY g o).dict=o.dict:=by
 obtain ⟨c,d,dt,sl⟩:=o
 cases dt<;>rfl
theorem rf (v:ae) (i:Nat) (x:ae):DS (fX v i x):=by
 unfold fX
 split
 ·unfold updateField
  refine .bind (CD _) fun o=>?_
  split
  ·split
   ·exact .update (yI _) fun _=>.pure _
   ·exact nY _
  ·exact nY _
 ·exact nY _
theorem pH (e:ae) (f:Option ag):DS (setFlight e f):=by
 unfold setFlight
 refine .bind (vc _ _) fun tb=>?_
 split
 ·exact rf _ _ _
 ·exact fe _
theorem yJ:DS stack:=.stack fun _=>.pure _
theorem CF:DS frameEnvs:=.bind yJ fun _=>fe _
theorem Ej:∀ l,DS (readyFrames l)
 |[]=>fe _
 |env::outer=>by
  unfold readyFrames
  split
  ·refine .bind (CD _) fun o=>?_
   split
   ·exact fe _
   ·refine .bind ?_ fun i=>.bind ?_ fun b=>.bind (.update (fun _=>rfl) fun _=>.pure _) fun _=>Ej outer
    ·unfold behindIsImport
     split
     ·exact fe _
     ·split
      ·exact fe _
      ·exact .bind (vc _ _) fun _=>fe _
    ·unfold keptBack
     split
     ·split
      ·exact fe _
      ·exact .bind (.bind yJ fun _=>fe _) fun _=>fe _
     ·exact fe _
  ·exact nY _
theorem G_ (env:Env):DS (C7 env):=by
 unfold C7
 refine .bind CF fun l=>.bind ?_ fun r=>?_
 ·unfold frameObject
  split
  ·exact fe _
  ·exact .bind (Ej _) fun _=>fe _
 ·split
  ·exact fe _
  ·exact nY _
theorem MY (f:ag) (b:Bool):DS (M7 f b):=by
 unfold M7
 refine .bind yJ fun l=>?_
 split
 ·exact fe _
 ·exact fe _
theorem TK (T:String) (vs:Array ae):DS (newObj (.type T) (.fields vs)):=by
 have h:DS (newObjAsIs (.type T) (.fields vs)):=.bind (.alloc fun _=>.pure _) fun _=>fe _
 unfold newObj
 dsimp only
 by_cases z:vs.size > sizeLine+2
 ·rw [if_pos z];exact .bind (nY _) fun _=>h
 ·rw [if_neg z];exact h
theorem MZ (a b c d e:ae) (pl:List ae):DS (C8 a b c d e pl):=TK _ _
theorem IR (e:ae) (env:Env):DS (sV e env):=by
 unfold sV
 split
 ·rename_i f _
  refine .bind (vc _ _) fun head=>?_
  have tail:DS (do fX e 1 (<- C8 head (<- C7 env) .none (cr f) .none (<- M7 f (head != .none)))):=.bind (G_ _) fun _=>.bind (MY _ _) fun _=>.bind (MZ _ _ _ _ _ _) fun _=>rf _ _ _
  split
  ·refine .bind (vc _ _) fun x=>?_
   split
   ·exact fe _
   ·exact .bind (rf _ _ _) fun _=>tail
  ·exact tail
 ·exact nY _
theorem yK (env:Env) (e:ae):DS (Ac env e):=.bind (IR _ _) fun _=>pH _ _
structure R_ (P:bf) (w:bE) (l:List Env) (H H':Hp) (h h' B:bw) (ea C t:ag):Prop where
 fly:ku B l ea (.ref C) (.ref t) h'
 cov:∀ b u,H' b=some u->∃ o,B.get? b=some o
 old:∀ b o,h.get? b=some o->H b=none->b∉lJ l->B.get? b=some o
 all:∀ b o,h.get? b=some o->b∉lJ l->∃ o',B.get? b=some o'
 un:Un (lJ l) [] H H' h h'
 hok:qF P w H' h'
def Lk (h:bw) (ea:ag) (dx:Option ag):Prop:=∀ d,dx=some d->∃ oe:Obj,h.get? ea=some oe/\oe.dict=some d
theorem Lk.no (h:bw) (ea:ag):Lk h ea none:=fun d z=>nomatch z
theorem Lk.on {h h':bw}{ea:ag}{dx:Option ag} (l:Lk h ea dx) (k:DK h h') (t:∃ oe:Obj,h'.get? ea=some oe):Lk h' ea dx:=fun d z=>by
 obtain ⟨oe,e,q⟩:=l d z
 obtain ⟨oe',e'⟩:=t
 exact ⟨oe',e',(k.at e e').trans q⟩
inductive V8 (P:bf) (w:bE) (outer:List Env) (H:Hp) (s:ah) (E:XK) (e:ae) (s':ah):Prop
 |mk (ea C t H' B dx:_) (h0:e=.ref ea) (h1:s'.os=s.os) (h2:qI s'.gens) (h3:R_ P w outer H H' s.heap s'.heap B ea C t) (lk:Lk s'.heap ea dx) (h4:E (.ref C) dx H'):V8 P w outer H s E e s'
def jf (P:bf) (w:bE):LV:=V8 P w
theorem rg      (x:qF P w H h) (e:H b=some u):∃ o,h.get? b=some o:=by
 have y:=x b u e
 cases u with
 |lst xs=>obtain ⟨_,_,_,_,k⟩:=y;exact ⟨_,k⟩
 |tup xs=>obtain ⟨_,_,_,o,k,_⟩:=y;exact ⟨o,k⟩
 |dK kvs=>obtain ⟨_,_,_,_,o,_,_,k,_⟩:=y;exact ⟨o,k⟩
 |dT kvs=>obtain ⟨_,_,_,_,o,_,_,k,_⟩:=y;exact ⟨o,k⟩
 |set S n=>obtain ⟨o,_,_,_,k,_⟩:=y;exact ⟨o,k⟩
 |ins C dx fs=>obtain ⟨_,_,_,k,_⟩:=y;exact ⟨_,k⟩
 |own y'=>exact y
 |xd fs=>obtain ⟨_,⟨o,_,_,k,_⟩,_⟩:=y;exact ⟨o,k⟩
 |rng lo hi=>obtain ⟨_,_,_,k⟩:=y;exact ⟨_,k⟩
 |frz o u=>exact ⟨o,y.1⟩
 |tbl ps=>exact ⟨_,y⟩
 |met f y'=>exact ⟨_,y⟩
 |ext φ=>exact y.2.1
theorem xS   (he:env∈l) (hf:env.frame=some b):b∈lJ l:=List.mem_filterMap.mpr ⟨env,he,hf⟩
section
variable {P:bf}{w:bE}{l:List Env}{H H':Hp}{h h' h'' B:bw}{ea C t:ag}
theorem R_.kp (x:R_ P w l H H' h h' B ea C t) (st:B.StaysIn h'') (b:ag) (u:HO) (o:Obj) (e:H' b=some u) (q:h'.get? b=some o):h''.get? b=some o:=by
 obtain ⟨o',e1⟩:=x.cov b u e
 have:=x.fly.1 b o' e1
 rw [q] at this;cases this
 exact st b o e1
theorem R_.on (x:R_ P w l H H' h h' B ea C t) (fl:ku B l ea (.ref C) (.ref t) h'') (up:h'.UpToSlots h''):R_ P w l H H' h h'' B ea C t:=by
 have st:=fl.1
 refine ⟨fl,x.cov,x.old,x.all,⟨fun b o q n hb hx=>st b o (x.old b o q n hb),fun b o q n hb hx=>?_,x.un.free,fun b o q hx=>?_,x.un.tups,x.un.frzs,x.un.tbls⟩,fun b u e=>?_⟩
 ·obtain ⟨sl,e1⟩:=x.un.slot b o q n hb hx
  obtain ⟨_,o',k1,k2⟩:=cc x.fly.2.2.1 hb
  rw [e1] at k1;cases k1
  obtain ⟨sl',e2⟩:=up b _ e1 k2
  exact ⟨sl',e2⟩
 ·by_cases hb:b∈lJ l
  ·obtain ⟨_,o',k1,_⟩:=cc fl.2.2.1 hb
   exact ⟨o',k1⟩
  ·obtain ⟨o',k⟩:=x.all b o q hb
   exact ⟨o',st b o' k⟩
 ·exact (x.hok b u e).stay (fun c o hc q=>by
   rcases hc with z|z
   ·rw [z] at q ⊢;exact x.kp st b u o e q
   ·exact x.kp st c _ o z q) (fun _ q=>q) fun _ _ q=>q
end
section
variable {P:bf}{w:bE}{K:a7}{mg:Str->Option ae}{base:bw}{N:List Str}{qual:Str}{scope:gH}{f:ag}{cd:ae}{A:bV}{outer:List Env}{s:ah}{H:Hp}{E:XK}
theorem CG       (I:bG (eZ (jf P w) P w K mg base N qual scope f cd A outer s H E) pins σ H1 s1)
  (hx:tx s1.heap h' ea (.ref C) vs) (q:E (.ref C) none H1):(eZ (jf P w) P w K mg base N qual scope f cd A outer s H E).xe (.ref ea) { s1 with heap:=h' }:=by
 let X:=eZ (jf P w) P w K mg base N qual scope f cd A outer s H E
 let B:=lA s1.heap (lJ X.stack)
 have hin:∀ env∈X.stack,∀ a,env.frame=some a->a∈lJ X.stack:=fun env he a hf=>xS he hf
 have stB:B.StaysIn s1.heap:=fun b o e=>jq _ e
 have nS:∀ b,b∉lJ X.stack->∀ o,s1.heap.get? b=some o->B.get? b=some o:=fun b n o e=>fi _ e n
 show ak _ X.A (Ac X.env (.ref ea)) _ _ _
 refine wpAny_leaves_madeW (s:={ s1 with heap:=h' }) (base:=B) (outer:=outer) (L:=X.env.locals) I.ok.frames rfl stB (pB I.stack hin) hx fun h2 t fl tup tn up=>?_
 have st2:=fl.1
 have bl:∀ b o,s.heap.get? b=some o->b∉lJ outer->b∉lJ X.stack:=fun b o e n z=>by
  rcases List.mem_cons.mp (I.stkSub b z) with y|y
  ·exact absurd (am e) (by rw [y];exact Nat.not_lt.mpr I.ok.above)
  ·exact n y
 have noex:∀ b:ag,b∉X.ex:=fun b z=>absurd (show b∈([] : List ag) from z) (by simp)
 have cov:∀ b u,H1 b=some u->∃ o,B.get? b=some o:=fun b u e=>by
  have hb:b∉lJ X.stack:=fun z=>by have:=I.stkFree b z;rw [e] at this;cases this
  obtain ⟨o,k⟩:=rg I.hok e
  exact ⟨o,nS b hb o k⟩
 refine ⟨ea,C,t,H1,B,none,rfl,I.os,I.bare,⟨fl,cov,fun b o e n hb=>?_,fun b o e hb=>?_,⟨fun b o e n hb hx'=>?_,fun b o e n hb hx'=>?_,fun b o e n _=>I.base.free b o e n (noex b),fun b o e _=>?_,I.base.tups,I.base.frzs,I.base.tbls⟩,fun b u e=>?_⟩,Lk.no _ _,q⟩
 ·exact nS b (bl b o e hb) o (I.base.keep b o e n hb (noex b))
 ·obtain ⟨o',k⟩:=I.base.there b o e (noex b)
  exact ⟨o',nS b (bl b o e hb) o' k⟩
 ·exact st2 b o (nS b (bl b o e hb) o (I.base.keep b o e n hb (noex b)))
 ·obtain ⟨sl,k⟩:=I.base.slot b o e n hb (noex b)
  obtain ⟨_,o',k1,k2⟩:=cc I.funs hb
  rw [k] at k1;cases k1
  obtain ⟨sl',k3⟩:=up b _ (hx.keeps _ _ k) k2
  exact ⟨sl',k3⟩
 ·obtain ⟨o',k⟩:=I.base.there b o e (noex b)
  by_cases hb:b∈lJ outer
  ·obtain ⟨_,o2,k1,_⟩:=cc fl.2.2.1 hb
   exact ⟨o2,k1⟩
  ·exact ⟨o',st2 b o' (nS b (bl b o e hb) o' k)⟩
 ·refine (I.hok b u e).stay (fun c o hc k=>?_) (fun _ q=>q) fun _ _ q=>q
  have hcs:c∉lJ X.stack:=fun z=>by
   have:=I.stkFree c z
   rcases hc with y|y
   ·rw [y,e] at this;cases this
   ·rw [y] at this;cases this
  exact st2 c o (nS c hcs o k)
theorem Ek (hE:∀ c dx H',E' c dx H'->E c dx H'):nV (jf P w) (eZ (jf P w) P w K mg base N qual scope f cd A outer s H E) E':=by
 intro pins σ H1 s1 e s' I h
 obtain ⟨ea,C,t,H',B,dx,rfl,os,bare,x,lk,q⟩:=h
 let X:=eZ (jf P w) P w K mg base N qual scope f cd A outer s H E
 have noex:∀ b:ag,b∉X.ex:=fun b z=>absurd (show b∈([] : List ag) from z) (by simp)
 have bl:∀ b o,s.heap.get? b=some o->b∉lJ outer->b∉lJ X.stack:=fun b o e n z=>by
  rcases List.mem_cons.mp (I.stkSub b z) with y|y
  ·exact absurd (am e) (by rw [y];exact Nat.not_lt.mpr I.ok.above)
  ·exact n y
 have sub:∀ b∈lJ outer,b∈lJ X.stack:=fun b hb=>by
  obtain ⟨env,he,hf⟩:=List.mem_filterMap.mp hb
  exact xS (ao _ he) hf
 show ak _ X.A (Ac X.env (.ref ea)) _ _ _
 refine aZ (re (yK _ _) (wpAny_leaves_onW (base:=B) (outer:=outer) (L:=X.env.locals) (Q:=fun _ s2=>∃ h2,s2={ s' with heap:=h2 }/\ku B outer ea (.ref C) (.ref t) h2/\s'.heap.UpToSlots h2) (E:=fun _ _=>False) I.ok.frames rfl x.fly fun h2 fl up=>⟨h2,rfl,fl,up⟩)) (fun _ s2 h2=>?_) fun _ _ z=>z.1.elim
 obtain ⟨⟨h2,rfl,fl,up⟩,dk⟩:=h2
 have st2:=fl.1
 refine ⟨ea,C,t,H',B,dx,rfl,os.trans I.os,bare,⟨fl,x.cov,fun b o e n hb=>?_,fun b o e hb=>?_,⟨fun b o e n hb hx'=>?_,fun b o e n hb hx'=>?_,fun b o e n _=>?_,fun b o e _=>?_,fun b xs e=>x.un.tups b xs (I.base.tups b xs e),fun b o xs e=>x.un.frzs b o xs (I.base.frzs b o xs e),fun b ps e=>?_⟩,fun b u e=>?_⟩,lk.on dk (fl.there.elim fun o h=>⟨o,h.1⟩),hE _ _ _ q⟩
 ·exact x.old b o (I.base.keep b o e n hb (noex b)) (I.base.free b o e n (noex b)) (bl b o e hb)
 ·obtain ⟨o',k⟩:=I.base.there b o e (noex b)
  exact x.all b o' k (bl b o e hb)
 ·exact st2 b o (x.old b o (I.base.keep b o e n hb (noex b)) (I.base.free b o e n (noex b)) (bl b o e hb))
 ·obtain ⟨sl,k⟩:=I.base.slot b o e n hb (noex b)
  obtain ⟨sl1,k1⟩:=x.un.slot b _ k (I.base.free b o e n (noex b)) (sub b hb) (by simp)
  obtain ⟨_,o',k2,k3⟩:=cc x.fly.2.2.1 (sub b hb)
  rw [k1] at k2;cases k2
  obtain ⟨sl2,k4⟩:=up b _ k1 k3
  exact ⟨sl2,k4⟩
 ·obtain ⟨o',k⟩:=I.base.there b o e (noex b)
  exact x.un.free b o' k (I.base.free b o e n (noex b)) (by simp)
 ·obtain ⟨o',k⟩:=I.base.there b o e (noex b)
  by_cases hb:b∈lJ outer
  ·obtain ⟨_,o2,k1,_⟩:=cc fl.2.2.1 hb
   exact ⟨o2,k1⟩
  ·obtain ⟨o2,k2⟩:=x.all b o' k (bl b o e hb)
   exact ⟨o2,st2 b o2 k2⟩
 ·obtain ⟨m1,e1⟩:=I.base.tbls b ps e
  obtain ⟨m2,e2⟩:=x.un.tbls b _ e1
  exact ⟨m1++m2,by rw [e2,K0]⟩
 ·exact (x.hok b u e).stay (fun c o hc k=>by
   rcases hc with z|z
   ·rw [z] at k ⊢;exact x.kp st2 b u o e k
   ·exact x.kp st2 c _ o z k) (fun _ q=>q) fun _ _ q=>q
end
end
section
section
variable {P:bf}{w:bE}{K:a7}{mg:Str->Option ae}{base:bw}{N:List Str}{qual:Str}{scope:gH}{f:ag}{cd:ae}{A:bV}{outer:List Env}{s:ah}{H:Hp}{E:XK}
theorem M_ {x:Str}{np cpos pos:Pos}{e0:bR}{bK:List bR}{C:ag}{bmB:List ae}{newId initId Bn:String}{ta:TA} (O:OwnCls x C bmB newId mg base) (FB:tW Bn newId initId bmB)
  (hg:Gl (eZ (jf P w) P w K mg base N qual scope f cd A outer s H E) x) (ha:PA (eZ (jf P w) P w K mg base N qual scope f cd A outer s H E) (e0::bK) ta)
  (he:aA (e0::bK) (eZ (jf P w) P w K mg base N qual scope f cd A outer s H E).env=(false,cL e0 (eZ (jf P w) P w K mg base N qual scope f cd A outer s H E).env)::aA bK (eZ (jf P w) P w K mg base N qual scope f cd A outer s H E).env:=by rfl)
  (hdb:(x==("__debug__" : Str))=false:=by decide) (hpl:(gm cpos (aA bK (eZ (jf P w) P w K mg base N qual scope f cd A outer s H E).env)).any (·.1)=false:=by rfl) :
  PS (eZ (jf P w) P w K mg base N qual scope f cd A outer s H E) (.Raise (some (.Call (.Name x np) (e0::bK) [] cpos)) none pos) (fun D σ H1=>ta σ H1 fun vs H2=>vs.length<=sizeLine/\E (.ref C) none H2):=by
 intro pins s1 σ H1 D I h
 obtain ⟨tl,Nn,nm,q,bs,hdct,sn,sub,ab,col,dd,k0,k1,k2,k3,k5,mN,hC,hN,hni,T⟩:=O.obj
 refine wpAny_Raise_call_subT (C:=C) (nm:=nm) (q:=q) (N:=Nn) (bs:=bs) (bm:=tl) (hdct:=hdct) (sn:=sn) (sub:=sub) (ab:=ab) (col:=col) (dd:=dd) (k0:=k0) (k1:=k1) (k2:=k2) (k3:=k3) (k5:=k5)
  FB (mN:=mN) (T.hasType FB.hasBase) (I.ok.hd rfl) ?_ hni (si I hg O.bound ⟨rfl,?_⟩ hdb)
 ·rw [he]
  show (false||_)=false
  rw [uS];exact hpl
 ·have hx:=ha cpos pins s1 σ H1 _ I h
  rw [he] at hx ⊢
  refine lF (fY hx fun us s2 ⟨vs,H2,I2,r2,z,qE⟩=>?_)
  have kb:∀ b o,base.get? b=some o->s2.heap.get? b=some o:=I2.bk
  exact ⟨rfl,by show us.length<=sizeLine;rw [<- r2.length];exact z,kb _ _ hC,hN.keeps kb,T.keeps kb,fun h' ea hm=>CG I2 hm qE⟩
end
structure wl (base:bw) (C:ag) (bm:List ae):Prop where
 obj:∃ nm q N bs hdct sn sub ab col dd k0 k1 k2 k3 k5 newId,base.get? C=some (fm nm q C N bs bm hdct sn sub ab col dd k0 k1 k2 k3 k5 newId)
 exc:bm.contains (.type "BaseException")=true
def u3 (dx:Option ag) (ea C:ag):HO:=.ext fun h=>∃ o,h.get? ea=some o/\o.cls=.ref C/\∀ d,dx=some d->o.dict=some d/\qT o=true
theorem Qu {dx:Option ag} (e:h.get? ea=some o) (c:o.cls=.ref C) (l:∀ d,dx=some d->o.dict=some d/\qT o=true):de P w H h ea (u3 dx ea C) :=
 ⟨⟨o,e,c,l⟩,⟨o,e⟩,fun h1 h2 ⟨o,e,c,l⟩ k=>⟨o,k o e,c,l⟩⟩
def N0 (X:Cx) (ea:ag):Cx:={ X with A:=X.A.mark (some (.ref ea)),calm:=false,xe:=fun _ _=>False }
theorem bG.inH     (I:bG X pins σ H s) (ea:ag):bG (N0 X ea) pins σ H s :=
 ⟨⟨I.ok.mod,I.ok.kind,I.ok.glob,I.ok.blt,I.ok.above,I.ok.inj,I.ok.has,I.ok.cab,(fun z=>lw z),I.ok.frames,I.ok.stk,I.ok.exf,I.ok.bs,I.ok.bsz,I.ok.noex,I.ok.exfs,I.ok.funs,I.ok.frf⟩,I.os,I.bare,I.base,I.loc,I.cell,I.free,I.freeC,I.pin,I.hok,I.len⟩
theorem bG.outH      (ok:X.Ok) (I:bG (N0 X ea) pins σ H s):bG X pins σ H s :=
 ⟨ok,I.os,I.bare,I.base,I.loc,I.cell,I.free,I.freeC,I.pin,I.hok,I.len⟩
def xz (X:Cx):St:=bc X.N.length none
theorem bG.forget        (I:bG X pins σ H s) (hn:h'.Ns X.env.locals m') (sb:bI X.env.locals s.heap h'):bG X pins (xz X) H { s with heap:=h',toks:=t' }:=by
 have ne0:∀ b o,X.s₀.heap.get? b=some o->b≠X.env.locals:=fun b o e=>aD (aE (am e) I.ok.above)
 refine ⟨I.ok,I.os,I.bare,⟨fun b o e n hb hx=>(sb.2 b (ne0 b o e)).trans (I.base.keep b o e n hb hx),fun b o e n hb hx=>?_,I.base.free,fun b o e hx=>?_,I.base.tups,I.base.frzs,I.base.tbls⟩,⟨m',hn,fun i x v h1 h2 h3=>?_⟩,fun x c e=>?_,I.free,I.freeC,fun p hp=>?_,yC I.hok I.free sb,by simp [xz]⟩
 ·obtain ⟨sl,k⟩:=I.base.slot b o e n hb hx
  exact ⟨sl,(sb.2 b (ne0 b o e)).trans k⟩
 ·obtain ⟨o',k⟩:=I.base.there b o e hx
  exact ⟨o',(sb.2 b (ne0 b o e)).trans k⟩
 ·have h2:(xz X)[i]?=some (some v):=h2
  unfold xz at h2
  rw [bP] at h2
  split at h2<;>cases h2
 ·obtain ⟨v,z⟩:=I.cell x c e
  exact ⟨v,z.sameBut sb (I.cne x c e)⟩
 ·obtain ⟨e,n,ne,nf,d⟩:=I.pin p hp
  exact ⟨(sb.2 p.1 ne).trans e,n,ne,nf,d⟩
theorem N1           (I:bG X pins σ H s) (hg:Gl X x) (hm:X.mg x=some u) (h:Q u s)
  (hd:(x==("__debug__" : Str))=false:=by decide):ak (aB X.prog X.w) A (cL (.Name x pos) X.env) Q E s :=
 mW I.ok.kind hg (DJ (by rw [I.ok.glob];exact I.mod.glob.keeps I.bk) hm h) hd
def TL (X:Cx) (xe:ae->ah->Prop) (pn:List (ag×Obj)):Cx:={ X with xe:=xe,pn:=pn }
theorem bG.inT     (I:bG X pins σ H s) (xe:ae->ah->Prop):bG (TL X xe (X.pn++pins)) [] σ H s :=
 ⟨⟨I.ok.mod,I.ok.kind,I.ok.glob,I.ok.blt,I.ok.above,I.ok.inj,I.ok.has,I.ok.cab,I.ok.hd,I.ok.frames,I.ok.stk,I.ok.exf,I.ok.bs,I.ok.bsz,I.ok.noex,I.ok.exfs,I.ok.funs,I.ok.frf⟩,I.os,I.bare,I.base,I.loc,I.cell,I.free,I.freeC,
  fun p hp=>I.pin p ((List.mem_append.mp hp).elim id fun z=>absurd z (by simp)),I.hok,I.len⟩
theorem bG.outT      (ok:X.Ok) (I:bG (TL X xe (X.pn++pins)) pins' σ H s):bG X pins σ H s :=
 ⟨ok,I.os,I.bare,I.base,I.loc,I.cell,I.free,I.freeC,fun p hp=>I.pin p (gO _ hp),I.hok,I.len⟩
theorem bG.track0       (I:bG X pins σ H s) (h0:X.s₀.heap.get? D=none) (f0:H D=none) (f1:D≠X.env.locals) (f4:∀ x c,X.env.cells.lookup x=some c->c≠D) (f5:∀ p∈X.pn++pins,p.1≠D)
  (new:de X.prog X.w (upd H D ho) s.heap D ho):bG X pins σ (upd H D ho) s :=
 ⟨I.ok,I.os,I.bare,⟨I.base.keep,I.base.slot,fun b o e n hx=>by rw [aU (fun z=>by rw [z,h0] at e;cases e)];exact I.base.free b o e n hx,I.base.there,fun b xs e=>by have q:=I.base.tups b xs e;rw [aU (b6 q f0)];exact q,
  fun b o xs e=>by have q:=I.base.frzs b o xs e;rw [aU (b6 q f0)];exact q,fun b ps e=>by obtain ⟨m,q⟩:=I.base.tbls b ps e;exact ⟨m,by rw [aU (b6 q f0)];exact q⟩⟩,I.loc,I.cell,
  by rw [aU (dq f1)];exact I.free,fun x c e=>by rw [aU (f4 x c e)];exact I.freeC x c e,fun p hp=>by
  obtain ⟨e,n,r⟩:=I.pin p hp
  exact ⟨e,by rw [aU (f5 p hp)];exact n,r⟩,sk I.hok f0 new,I.len⟩
end
section
structure El (K:a7) (C:ag):Prop where
 ga:fL K (.ref C) "__getattribute__"=some (some (.builtin "BaseException.__getattribute__"))
 gn:fL K (.ref C) "__getattr__"=some none
 ca:fL K (.ref C) "__class__"=some (some (.builtin "object.__class__"))
 gg:uO K (.builtin "object.__class__") "__get__"=some (some (.builtin "getset_descriptor.__get__"))
 tk:xm K (.builtin "object.__class__")=some true
 mo:bU K C (.type "object")=some true
 be:bU K C (.type "BaseException")=some true
 cl:(fB K C).isSome=true
def Bj (x C:ag) (h:bw):Prop:=∃ o,h.get? x=some o/\o.cls=.ref C
theorem Bj.type   (p:Bj x C h):Ak M h (typeOf (.ref x)) (.ref C):=by
 obtain ⟨o,e,c⟩:=p
 exact c ▸ (PySem.W.Looks.ld e).andThen .now
section
variable {prog:bf}{w:bE}{A:bV}{E:ae->ah->Prop}{s:ah}{K:a7}{x C:ag}{R:Result->ah->Prop}
open PySem.W Builtin Builtin.ObjectAttr Builtin.Getset_descriptor in
theorem Qv (Z:El K C) (X:K.In s.heap) (p:Bj x C s.heap) (q:R (.ok (.ret (.ref C))) s):ij (aB prog w) A (.call (.builtin "getset_descriptor.__get__") ⟨[.builtin "object.__class__",.ref x,tp],[]⟩) R s:=by
 obtain ⟨hp,gs,dr,tt,os⟩:=s
 have T0:=p.type (M:=aB prog w)
 have T1:=looks_mroIn (M:=aB prog w) X Z.mo
 refine js KF.slot_gs.plain KF.entry_gs ?_
 refine KF.slot_gs.check _ _ _ _ _ _ _ _ KF.type_class (KF.args_gs _ _ _) ?_
 unfold fK.«getset_descriptor.__get__» descrGet
 rw [dga_obj]
 refine a6 (aa ?_)
 unfold descrGetter descrCheckInstance descrNameAndClass pA
 simp only [KF.owner_class]
 repeat lk
 refine ⟨n5 _ (by decide +kernel),fO KF.entry_class ?_⟩
 unfold fK.«object.__class__» shownTypeOf
 repeat lk
 exact q
theorem KD (Z:El K C) (X:K.In s.heap) (p:Bj x C s.heap) (h:Q (some (.ref C)) { s with toks:=s.toks+1 }):ak (aB prog w) A (PH (.ref x) "__class__") Q E s:=by
 obtain ⟨hh,g,d,t,os⟩:=s
 have L0:=p.type (M:=aB prog w)
 have L1:=iK (M:=aB prog w) X Z.ga
 have L2:=iK (M:=aB prog w) X Z.gn
 have F1:=iK (M:=aB prog w) X Z.ca
 have F2:=PySem.W.looks_specialIn (M:=aB prog w) X Z.gg
 have F3:=PySem.W.looks_takesIn (M:=aB prog w) X Z.tk
 have L4:=G8 (M:=aB prog w) X Z.be
 unfold PH getAttrBy? getAttrBy
 refine a6 (wpAny_mkText (a6 (kg (bW (a6 (L0.at (a6 (L1.at ?_))))))))
 show ak _ _ (uJ (.ref x) (.str "__class__" t) (.ref C) (.builtin "BaseException.__getattribute__") false false) _ _ _
 unfold uJ
 show ak _ _ (fM (.ref C) "__getattr__" >>= _) _ _ _
 refine a6 (L2.at (a6 (kg (bW ?_))))
 show ak _ _ (v_ (.builtin "BaseException.__getattribute__") (.ref x) (.str "__class__" t)) _ _ _
 unfold v_
 refine a6 (mY (F.excAttr_ValueError.ga.bind (.ref x)) ?_)
 show ak _ _ (call (.builtin "BaseException.__getattribute__") [.ref x,.str "__class__" t]) _ _ _
 refine kF (js F.excAttr_ValueError.ga.plain F.entry_bexc_ga ?_)
 have hk:builtinKind "BaseException.__getattribute__"=some .slot:=by decide +kernel
 have hsp:splitId "BaseException.__getattribute__"=some ("BaseException","__getattribute__"):=by decide +kernel
 have hao:=F.args_bexc_ga (.ref x) (.str "__class__" t)
 simp only [ml,hk,hsp]
 have LI:Ak (aB prog w) hh (pA (.ref x) (.type "BaseException")) true:=L0.andThen L4
 refine a6 (LI.at ?_)
 rw [if_neg (by decide)]
 refine mY (a:=()) (by unfold Gv at hao;exact hao) ?_
 unfold fK.«object.__getattribute__»
 refine a6 (m:=slotArgs "__getattribute__" 1 _) (aa ?_)
 refine a6 (m:=qU _) (aa ?_)
 refine a6 (L0.at (a6 ?_))
 unfold Pk
 refine a6 (F1.at (a6 (F2.at (a6 ?_))))
 refine a6 (F3.at ?_)
 refine aa (a6 (gI (aa ?_)))
 show ak _ _ (holding [.builtin "object.__class__"] (call (.builtin "getset_descriptor.__get__") [.builtin "object.__class__",.ref x,.ref C]) >>= fun v=>ret v) _ _ _
 refine a6 (bW (kF (Qv (s:=⟨hh,g,d,t+1,os⟩) Z X p ?_)))
 exact aa (PySem.W.handed_on rfl (aa h))
theorem N5 (Z:El K C):PySem.W.KitX K (.ref x) (.ref C) (Bj x C) where
 ty:=fun _ _ _ p=>p.type
 it:=fun M h X _=>by
  obtain ⟨cd,hc⟩:=Option.isSome_iff_exists.mp Z.cl
  unfold fB at hc
  split at hc
  ·rename_i c' d' cd' sl' ho
   intro A' Q' E' s' k q
   unfold isType loadHead
   exact a6 (wpAny_loadPart (k _ _ (X _ _ ho)) (aa q))
  ·cases hc
 ne:=fun h tp dd its n sl X htp=>by
  refine Bool.eq_false_iff.mpr fun q=>?_
  obtain rfl:C=tp:=Value.ref.inj (beq_iff_eq.mp q)
  obtain ⟨cd,hc⟩:=Option.isSome_iff_exists.mp Z.cl
  unfold fB at hc
  split at hc
  ·rename_i c' d' cd' sl' ho
   have z:=(X _ _ ho).symm.trans htp
   cases z
  ·cases hc
 ca:=fun X p k=>KD Z X p k
end
section
variable {X:Cx}
theorem wW:ja X (.builtin "isinstance") (fun xs H Q=>∃ x c cv b,xs=[x,c]/\((∃ n,c=.ty n/\cv=.type n)\/∃ C',c=.ref C'/\cv=.ref C')/\((∃ t,wa X.K H x t/\dC X.K t cv=some b) \/
  ∃ dx ea C,x=.ref ea/\H ea=some (u3 dx ea C)/\El X.K C/\dC X.K (.ref C) cv=some b)/\Q (.bl b) H):=by
 intro pins s σ H xs us Q I r h
 obtain ⟨x,c,cv,b,rfl,rc,h,q⟩:=h
 obtain ⟨u,v,rfl,ru,rv⟩:=Mv r
 obtain rfl:v=cv:=by
  rcases rc with ⟨n,rfl,rfl⟩|⟨C',rfl,rfl⟩
  ·exact rv
  ·exact rv
 rcases h with ⟨t,ty,e⟩|⟨dx,ea,C,rfl,hH,Z,e⟩
 ·exact oH I ru ty e fun tk=>⟨.bl b,H,I.tok tk,rfl,q⟩
 ·cases ru
  have p:Bj ea C s.heap:=(show de X.prog X.w H s.heap ea (u3 dx ea C) from I.hok ea _ hH).1.elim fun o h=>⟨o,h.1,h.2.1⟩
  exact cz (N5 Z) I.kIn p e (fun z=>nomatch z) fun tk=>⟨.bl b,H,I.tok tk,rfl,q⟩
end
end
section
structure my (k:Nat) (A:bV):Prop where
 dp:A.depth+3*k+5<gK
 un:A.units+16*k+200<sU
theorem kj.h  (r:kj k A):my k A:=⟨r.dp,r.un⟩
theorem my.mark  (r:my k A) (v:Option ae):my k (A.mark v):=⟨r.dp,r.un⟩
theorem my.deeper  (r:my (k+1) A) (env:Env):my k (A.deeper env):=⟨by have:=r.dp;show A.depth+1+3*k+5<_;omega,by have:=r.un;show A.units+3+16*k+200<_;omega⟩
structure Em (P:bf) (w:bE) (K:a7) (mg:Str->Option ae) (base:bw) (k:Nat) (f:ag) (fd:eX) (ps:List Str) (sp:Sp):Prop where
 len:∀ vs H Q E,sp vs H Q E->vs.length=ps.length
 run:∀ (A:bV) (outer:List Env) (s:ah) (H:Hp) (args:Args) (us:List ae) (vs:List V) (Q:VK) (E:XK),my k A->GN P w K mg base A outer s H->wN s fd args (ps.zip us)->cV vs us->sp vs H Q E ->
  ij (aB P w) A (.call (.ref f) args) (CR Y4 outer P w H s Q E) s
def V9 (P:bf) (w:bE) (K:a7) (mg:Str->Option ae) (base:bw) (N:List Str) (qual:Str) (scope:gH) (f:ag) (cd:ae) (A:bV) (outer:List Env) (s:ah) (H:Hp):Cx where
 prog:=P
 w:=w
 K:=K
 mg:=mg
 base:=base
 A:=A.deeper (jN qual scope s.heap.objs.size f cd)
 N:=N
 s₀:=s
 H₀:=H
 env:=jN qual scope s.heap.objs.size f cd
 outer:=outer
 stack:=jN qual scope s.heap.objs.size f cd::outer
 ex:=[]
 calm:=false
 fn:=fun _=>true
 pn:=[]
 xe:=fun _ _=>False
section
variable {P:bf}{w:bE}{K:a7}{mg:Str->Option ae}{base:bw}
theorem H9
  (S:bA N ps scope) (e0:GN P w K mg base A outer s H) (hl:vs.length=ps.length) (r:cV vs us)
  (x:InCallC s s.heap.objs.size (Gk (jN qual scope s.heap.objs.size f cd).kindOf (ps.zip us) fun _=>none) (ba (s.heap.objs.size+1) scope.names []) (Gm (jN qual scope s.heap.objs.size f cd).kindOf (ps.zip us) fun _=>none) s1) :
  bG (V9 P w K mg base N qual scope f cd A outer s H) [] (start N vs) H s1:=by
 have e1:GN P w K mg base { A with handled:=none } outer s H:=⟨e0.frames,e0.mod,e0.bs,e0.bsz,e0.funs,e0.frf,e0.hok,e0.bare⟩;have I:=B9 (CX:=Y4) (E:=E0) S (A:={ A with handled:=none }) rfl e1 hl r x;exact ⟨⟨I.ok.mod,I.ok.kind,I.ok.glob,I.ok.blt,I.ok.above,I.ok.inj,I.ok.has,I.ok.cab,(fun z=>lw z),I.ok.frames,I.ok.stk,I.ok.exf,I.ok.bs,I.ok.bsz,I.ok.noex,I.ok.exfs,I.ok.funs,I.ok.frf⟩,I.os,I.bare,I.base,I.loc,I.cell,I.free,I.freeC,I.pin,I.hok,I.len⟩
theorem TM {k:Nat}{f:ag}{name qual:Str}{params:Arguments}{body:List cY}{scope:gH}{dV kV doc pm cdv ct oc:ae}{an od:Option ag}
  {osl:Array (Option ae)}{N ps:List Str}{sp:Sp} (lk:K.lookup f=some ⟨oc,od,.func (eO name qual params body scope dV kV doc pm an cdv ct),osl⟩) (hcd:jO K cdv qual=true) (S:bA N ps scope)
  (len:∀ vs H Q E,sp vs H Q E->vs.length=ps.length)
  (hbody:∀ (A:bV) (outer:List Env) (s:ah) (H:Hp) (vs:List V) (Q:VK) (E:XK),my k (A.deeper (jN qual scope s.heap.objs.size f cdv))->sp vs H Q E ->
   ∃ t,Cb (V9 P w K mg base N qual scope f cdv A outer s H) body t/\t { nx:=fun _ H'=>Q .non H',rt:=Q } (start N vs) H) :
  Em P w K mg base (k+1) f (eO name qual params body scope dV kV doc pm an cdv ct) ps sp:=by
 refine ⟨len,fun A outer s H args us vs Q E hr e0 hb r hsp=>?_⟩;have hl:=len _ _ _ _ hsp;have KX:K.In s.heap:=e0.mod.kin.keeps fun b o e=>(e0.bs b o e).1;have lim:s.heap.NoLimit:=e0.mod.nolimit.keeps fun b o e=>(e0.bs b o e).1;have hkind:∀ y∈ps.zip us,scope.names.lookup y.1=some .local\/(scope.names.lookup y.1=some .cell/\((ba (s.heap.objs.size+1) scope.names []).lookup y.1).isSome=true):=fun ⟨n,v⟩ hy=>by
  rcases S.par n (qQ hy).1 with q|q
  ·exact .inl q
  ·exact .inr ⟨q,fk _ _ _ (.inl q)⟩
 refine Pg (by have:=hr.dp;omega) (KX _ _ lk) rfl S.co S.gen rfl (tT KX hcd) (hb _ _ _ _ ?_);refine Gn S.kind hkind fun env he s1 x=>?_;subst he;refine ⟨lim.keeps x.toInCall.keep,codeAny_func ?_⟩;obtain ⟨t,ht,hq⟩:=hbody A outer s H vs Q E (hr.deeper _) hsp;have I:bG (V9 P w K mg base N qual scope f cdv A outer s H) [] (start N vs) H s1:=H9 S e0 hl r x;refine aZ (ht [] s1 (start N vs) H _ I hq) (fun fl s' hs=>?_) fun e s' hs=>(show False from hs).elim;have fin:∀ {σ':St}{H':Hp}{v:V}{u:ae},bG (V9 P w K mg base N qual scope f cdv A outer s H) [] σ' H' s'->dn v u->Q v H'->CE outer P w H s Q u s' :=
  fun {σ' H' v u} J rv q=>⟨v,H',J.os,J.bare,J.base,J.hok,rv,q⟩
 cases fl with
 |ret u =>
  obtain ⟨v,σ',H',J,rv,q⟩:=hs;exact fin J rv q
 |next =>
  obtain ⟨σ',H',J,q⟩:=hs;exact fin (v:=V.non) (u:=dz) J rfl q
 |brk =>
  obtain ⟨_,_,_,q⟩:=hs;exact eN q
 |cont =>
  obtain ⟨_,_,_,q⟩:=hs;exact eN q
theorem Gb.okH {x qual:Str}{st:cY}{f:ag}{fd:eX}{N ps:List Str}{k:Nat}{sp:Sp} (F:Gb K x qual st f fd) (S:bA N ps (ax st)) (len:∀ vs H Q E,sp vs H Q E->vs.length=ps.length)
  (hbody:∀ (cdv:ae) (A:bV) (outer:List Env) (s:ah) (H:Hp) (vs:List V) (Q:VK) (E:XK),my k (A.deeper (jN qual (ax st) s.heap.objs.size f cdv))->sp vs H Q E ->
   ∃ t,Cb (V9 P w K mg base N qual (ax st) f cdv A outer s H) (hJ st) t/\t { nx:=fun _ H'=>Q .non H',rt:=Q } (start N vs) H):Em P w K mg base (k+1) f fd ps sp:=by
 obtain ⟨oc,od,kV,doc,pm,an,cdv,ct,osl,rfl,lk,hcd⟩:=F.ex;exact TM lk hcd S len fun A outer s H vs Q E hr hsp=>hbody cdv A outer s H vs Q E hr hsp
end
section
theorem Eo (F:Em X.prog X.w X.K X.mg X.base k f fd ps sp) (hr:my k X.A) (hg:Gl X x) (hm:X.mg x=some (.ref f)) (hk:d_ X.K (.ref f)=true) (hb:kC X.K fd ps [])
  (ha:PA X (e::es) t) (hdb:(x==("__debug__" : Str))=false:=by decide) (he:aA (e::es) X.env=(false,cL e X.env)::aA es X.env:=by rfl) (hpl:(gm pos (aA es X.env)).any (·.1)=false:=by rfl) :
  PE X (.Call (.Name x p) (e::es) [] pos) (B4 sp [] E0 t):=by
 intro pins s σ H Q I h;refine pw (si I hg hm ?_ hdb);refine Gj (h₀:=X.base) I.ok.mod.kin hk (fY (ha pos pins s σ H _ I h) fun us s1 ⟨vs,H1,I1,r,q⟩=>⟨I1.kIn,?_⟩) he hpl;have q:sp (vs++[]) H1 Q E0:=q;rw [cB] at q;have hl:us.length=ps.length:=by rw [<- r.length];exact F.len _ _ _ _ q
 have hb':=hb s1 us I1.kIn (by rw [cB];exact hl);rw [cB] at hb';refine kF (oA (F.run X.A X.stack s1 H1 ⟨us,[]⟩ us vs Q E0 hr I1.env0 hb' r q) fun r s' hq=>?_);cases r with
 |error e=>exact (show False from hq).elim
 |ok fl =>
  cases fl with
  |ret u=>exact I1.after hq
  |next=>exact eN hq
  |brk=>exact eN hq
  |cont=>exact eN hq
end
end
section
section
def Xo:C6->String
 |.none=>"NoneType" | .bool _=>"bool" | .int _=>"int" | .str _=>"str" | .list _=>"list" | .tuple _=>"tuple" | .dict _=>"dict"
theorem Ha            (I:bG X pins σ H s) (rx:dn x u) (r:GZ X.K H x d) (e:dC X.K (.type (Xo d)) c=some b) (h:∀ tk,Q (.bool b) { s with toks:=tk }) :
  ak (aB X.prog X.w) A (call (.builtin "isinstance") [u,c]) Q E s:=by
 cases r with
 |none=>exact oH I rx .non e h
 |bool y=>exact oH I rx (.bl y) e h
 |int i=>exact oH I rx (.int i) e h
 |str y=>exact oH I rx (.str y) e h
 |list hq _ =>
  cases rx;obtain ⟨its,rv,⟨o,n,ho,c,_,dd⟩,_⟩:=I.list hq;exact cz uP I.kIn ⟨o,ho,c⟩ e (fun z=>nomatch z) h
 |tuple hq _ =>
  cases rx;obtain ⟨its,rv,⟨o,ho,c,n,dd⟩,_⟩:=I.tuple hq;exact cz Gi I.kIn ⟨o,ho,c⟩ e (fun z=>nomatch z) h
theorem N6:ja X (.builtin "isinstance") (fun xs H Q=>∃ x d T b,xs=[x,.ty T]/\GZ X.K H x d/\dC X.K (.type (Xo d)) (.type T)=some b/\Q (.bl b) H):=by
 intro pins s σ H xs us Q I r h;obtain ⟨x,d,T,b,rfl,rp,e,q⟩:=h;obtain ⟨u,v,rfl,ru,rv⟩:=Mv r;obtain rfl:v=.type T:=rv;exact Ha I ru rp e fun tk=>⟨.bl b,H,I.tok tk,rfl,q⟩
end
end
end L2
section
namespace HT
open PySem PyProof.Rows
section
theorem Ep {t sl:ag}{items:Array ae}{vl vu:ae}{lo hi:Option Int}{Q:ae->ah->Prop} (ht:DI s.heap t items) (hs:s.heap.IsSliceOf sl vl vu .none) (pl:vS vl lo) (pu:vS vu hi)
  (hw:j3 items.size 0 lo=0/\j3 items.size items.size hi=items.size) (h:Q (.ref t) s):ak (aB prog w) A (mT (.ref t) (.ref sl)) Q E s:=by
 obtain ⟨os,hos,hcs,hds⟩:=id hs;have hTs:s.TypeIs (.ref sl) "slice":=⟨os,hos,hcs⟩;unfold mT;try with_reducible refine bW ?_
 first|refine a6 (aa ?_)|skip
 refine a6 (Ae ht.typeIs (by decide) ?_);refine a6 (cF (name:=ir "__getitem__") ht.typeIs cS
  (cx cS ht.typeIs xn ?_ (yf _ _)))
 show ak _ _ (l7 (.ref t) >>= _) _ _ s;refine a6 (K6 ht ?_);refine a6 (iI hTs ?_);rw [if_pos (by decide)];refine a6 (oK hs pl pu ?_);have hyes:((((j3 items.size 0 lo:Nat):Int)==0&&(1:Int)==1&&(j3 items.size items.size hi-j3 items.size 0 lo)==items.size)=true):=by
  rw [hw.1,hw.2];simp
 show ak _ _ (if (((j3 items.size 0 lo:Nat):Int)==0&&(1:Int)==1&&(j3 items.size items.size hi-j3 items.size 0 lo)==items.size)=true then _ else _) _ _ s;rw [if_pos hyes];refine a6 ?_;unfold Builtin.Tuple.tupleIsExact;refine a6 (iI ht.typeIs (aa ?_));rw [if_pos (by decide)];refine a6 (gI ?_);first
  |exact aa (aa ⟨_,rfl,h⟩)
  |exact aa ⟨_,rfl,aa h⟩
  |exact a6 (aa (aa ⟨_,rfl,aa h⟩))
  |exact a6 (aa (aa ⟨_,rfl,h⟩))
end
end HT
namespace L2
open PySem PySem.Spec PyProof.Rows
section
inductive N7 (K:a7) (x:V) (lo:Option Int) (hi:Option Int) (H:Hp) (Q:VK):Prop
 |mk (a xs:_) (h0:x=.ref a) (h1:lz K H a xs) (h2:(HT.j3 xs.length 0 lo=0/\HT.j3 xs.length xs.length hi=xs.length)) (h3:Q (.ref a) H):N7 K x lo hi H Q
def Va (K:a7):V->Option Int->Option Int->Hp->VK->Prop:=N7 K
theorem Qw:UW X (Va X.K):=by
 intro pins s σ H x v vl vu lo hi sl Q I rx hs pl pu h;obtain ⟨a,xs,rfl,hx,hw,q⟩:=h;cases rx;obtain ⟨its,r,ht,hz⟩:=I.tuple hx;have hlen:its.toArray.size=xs.length:=by rw [aG];exact r.length.symm
 exact ⟨"tuple",_,PyProof.Rows.slot_tuple_getitem.lookup,ht.typeIs,HT.Ep ht hs pl pu (by rw [hlen];exact hw) ⟨.ref a,H,I,rfl,q⟩⟩
theorem gS   (h:H p=none):dD H (upd H p o):=fun b u e=>by rw [aU (b6 e h)];exact e
theorem u4:∀ {bs:List Bool}{us:List ae},cV (bs.map V.bl) us->us=bs.map i6
 |[],_,.nil=>rfl
 |b::r,_,.cons h t=>by cases h;rw [u4 t];rfl
theorem yL {A:bV}{s:ah}{bs:List Bool}:∀ y,y∈(bs.map i6).toArray->K8 A s y (.bool true) (w4 true y):=fun y hy=>by
 have hy:y∈bs.map i6:=by simpa using hy
 obtain ⟨b,_,rfl⟩:=List.mem_map.mp hy;exact AV b true
def Qx (K:a7):V->List V->Hp->VK->Prop:=fun x vs H Q=>∃ l,∃ bs:List Bool,x=.ref l/\vs=[.bl true]/\mV K H l (bs.map V.bl)/\Q (.int (bs.countP id:Nat)) H
theorem KG:X8 X "list.count" (Qx X.K):=by
 intro pins s σ H x vs v us Q I rx rv h;obtain ⟨l,bs,rfl,rfl,hq,q⟩:=h;cases rx;obtain ⟨u,rfl,ru⟩:=rv.one;cases ru;obtain ⟨its,r,⟨o,n,ho,c,hd,dt⟩,hz⟩:=I.list hq;rw [u4 r] at dt;obtain ⟨cls,dd,data,sl⟩:=o;simp only at c dt;subst c dt;refine mj AZ ⟨_,ho,rfl⟩ PySem.F.entry_list_count (PySem.F.args_list_count_2 _ _) (SeqAt.list_countAt l (bs.map i6).toArray n dd sl (.bool true) (w4 true)) ⟨ho,fun y hy=>yL y hy,?_⟩;refine ⟨.int _,H,I.tok _,⟨_,rfl⟩,?_⟩;have e:(bs.map i6).toArray.toList.countP (w4 true)=bs.countP id:=by
  show (bs.map i6).countP (w4 true)=_;rw [List.countP_map];congr 1;funext b;cases b<;>rfl
 rw [e];exact q
def Qy (K:a7):V->List V->Hp->VK->Prop:=fun x vs H Q=>∃ l,∃ bs:List Bool,∃ j:Nat,x=.ref l/\vs=[.bl true]/\mV K H l (bs.map V.bl)/\bs[j]?=some true/\(∀ m,m<j->bs[m]?=some false)/\j<=1000/\Q (.int (j:Nat)) H
theorem KH:X8 X "list.index" (Qy X.K):=by
 intro pins s σ H x vs v us Q I rx rv h;obtain ⟨l,bs,j,rfl,rfl,hq,hj,hno,hsm,q⟩:=h;cases rx;obtain ⟨u,rfl,ru⟩:=rv.one;cases ru;obtain ⟨its,r,⟨o,n,ho,c,hd,dt⟩,hz⟩:=I.list hq;rw [u4 r] at dt;obtain ⟨cls,dd,data,sl⟩:=o;simp only at c dt;subst c dt;obtain ⟨hjl,hjv⟩:=List.getElem?_eq_some_iff.mp hj;refine mj A_ ⟨_,ho,rfl⟩ PySem.F.entry_list_index (PySem.F.args_list_index_2 _ _) (SeqAt.list_indexAt l (bs.map i6).toArray n dd sl (.bool true) (w4 true) j (by simpa using hjl) (by omega) ?_ ?_) ⟨ho,fun y hy=>yL y hy,?_⟩
 ·simp [w4,hjv]
 ·intro m hm hlt;have:=hno m hlt;obtain ⟨_,hv⟩:=List.getElem?_eq_some_iff.mp this;simp [w4,hv]
 ·exact ⟨.int _,H,I.tok _,⟨_,rfl⟩,q⟩
theorem yM (hc:X.calm=true):ja X (.type "list") (fun xs H Q=>∃ a kvs,xs=[.ref a]/\H a=some (.dK kvs)/\∀ l,H l=none->Q (.ref l) (upd H l (.lst (kvs.map fun p=>kV p.1)))):=by
 intro pins s σ H xs us Q I r h;obtain ⟨a,kvs,rfl,hH,q⟩:=h;obtain ⟨u,rfl,rx⟩:=jU r;cases rx;obtain ⟨hz,hs,vs,rk,hd⟩:=(show de X.prog X.w H s.heap a (.dK kvs) from I.hok a _ hH);obtain ⟨ep,hat⟩:∃ ep,s.heap.DictAt (dU X.prog X.w) a vs ep:=by
  obtain ⟨o,es,ep,h1,h2,h3,h4⟩:=hd;exact ⟨ep,o,es,h1,h2,h3,h4⟩
 have hlen:kvs.length=vs.length:=tS rk;refine PySem.W.kdl_call (PySem.W.kdl_dict hs) (I.ok.hd hc) hat (by omega) fun h' tk acc' c' kp e hacc=>?_;have rv:cV (kvs.map fun p=>kV p.1) acc'.toList:=by
  have key:∀ {kvs:List (gj×V)}{vs:List (gj×ae)} (acc:List ae),KV kvs vs->acc.length=vs.length->(∀ (j:Nat) (v:ae),acc[j]?=some v->∃ k x,vs[j]?=some (k,x)/\yr k v=true)->cV (kvs.map fun p=>kV p.1) acc:=by
   intro kvs;induction kvs with
   |nil=>intro vs acc rk hl _;cases rk;cases acc with
    |nil=>exact .nil
    |cons _ _=>simp at hl
   |cons p kvs ih =>
    intro vs acc rk hl hv;cases rk with
    |cons h1 t1 =>
     cases acc with
     |nil=>simp at hl
     |cons v acc =>
      refine .cons ?_ (ih acc t1 (by simpa using hl) fun j v hj=>by simpa using hv (j+1) v (by simpa using hj));obtain ⟨k,x,e1,e2⟩:=hv 0 v rfl;simp only [DU,DO] at e1;subst e1;have hk:p.1=k:=h1.1;rcases fE e2 with ⟨i,t,e,rfl⟩|⟨i,t,e,rfl⟩
      ·show dn (kV p.1) _;rw [hk,e];exact ⟨t,rfl⟩
      ·show dn (kV p.1) _;rw [hk,e];exact ⟨t,rfl⟩
  exact key acc'.toList rk (by rw [aq];exact hacc.1) fun j v hj=>hacc.2 j v (by rw [<- eI];exact hj)
 exact ⟨.ref s.heap.objs.size,_,I.laid (t':=tk) kp (ar _) (show de X.prog X.w _ h' _ (.lst _) from ⟨by simpa using hz,acc'.toList,c',rv,by rw [Gy];exact e⟩),rfl,q _ (I.hok.fresh (ar _))⟩
def yN (x:Str):List V:=x.cps.toList.map fun c=>V.str ⟨#[c]⟩
theorem xA (hc:X.calm=true):ja X (.type "tuple") (fun xs H Q=>∃ x,xs=[.str x]/\x.cps.size<=sizeLine/\∀ l,H l=none->Q (.ref l) (upd H l (.tup (yN x)))):=by
 intro pins s σ H xs us Q I r h;obtain ⟨x,rfl,hz,q⟩:=h;obtain ⟨u,rfl,rx⟩:=jU r;obtain ⟨t,rfl⟩:=rx;refine call_tuple_str (I.ok.hd hc) x t (fun h' tk acc kp hacc=>?_) hz;have I1:bG X pins σ H { s with heap:=h',toks:=tk }:=I.kept (t':=tk) kp;have rv:cV (yN x) acc.toList:=by
  have key:∀ (cs:List Nat) (acc:List ae),acc.length=cs.length->(∀ (j:Nat) (v:ae),acc[j]?=some v->∃ c u,cs[j]?=some c/\v=.str ⟨#[c]⟩ u)->cV (cs.map fun c=>V.str ⟨#[c]⟩) acc:=by
   intro cs;induction cs with
   |nil=>intro acc hl _;cases acc with
    |nil=>exact .nil
    |cons _ _=>simp at hl
   |cons c cs ih =>
    intro acc hl hv;cases acc with
    |nil=>simp at hl
    |cons v acc =>
     obtain ⟨c',u,e1,rfl⟩:=hv 0 v rfl;simp only [DU,DO] at e1;subst e1;exact .cons ⟨u,rfl⟩ (ih acc (by simpa using hl) fun j v hj=>by simpa using hv (j+1) v (by simpa using hj))
  refine key x.cps.toList acc.toList (by rw [aq,aq];exact hacc.1) fun j v hj=>?_;obtain ⟨c,u,e1,e2⟩:=hacc.2 j v (by rw [<- eI];exact hj);exact ⟨c,u,by rw [eI];exact e1,e2⟩
 have I2:bG X pins σ (upd H h'.objs.size (.tup (yN x))) { s with heap:=h'.push { cls:=.type "tuple",data:=.seq acc },toks:=tk } :=
  I1.laid (t':=tk) (fun b o e=>ac _ e) (ar _) (show de X.prog X.w _ _ _ (.tup (yN x)) from ⟨by unfold yN;simpa using hz,acc.toList,rv,by rw [Gy];exact tj _ _⟩)
 exact ⟨.ref h'.objs.size,_,I2,rfl,q _ (I1.hok.fresh (ar _))⟩
end
end L2
end
namespace L2
open PySem PySem.Spec PyProof.Rows
section
theorem CH (elt target iter:bR) (ifs:List bR) (scope:gH) (pos:Pos) (it acc:ae) (env:Env) :
  compTurn (.SetComp elt [⟨target,iter,ifs,0⟩] scope pos) 0 it acc env=(do
   G3 iter.pos
   let r <- nL it
   match r with
   |none=>pure (.done .next)
   |some v =>
    gV target it v
    qP target env v;let mut ok:=true
    for c in ifs do
     if ok then ok <- C0 c env (cL c env)
    if ok then
     (do let v <- cL elt env;G3 elt.pos;let _ <- call (.builtin "set.add") [acc,v])
    again (.compLoop (.SetComp elt [⟨target,iter,ifs,0⟩] scope pos) 0 it acc env)):=by rfl
section
theorem qG {elt target iter ifs bK scope pos it acc env}
  (h0:ij (aB prog w) A (.compLoop (.SetComp elt (⟨target,iter,ifs,0⟩::bK) scope pos) 0 it acc env) R s)
  (h:ak (aB prog w) A (C1 it) (fun it' s'=>ij (aB prog w) A (.compLoop (.SetComp elt (⟨target,iter,ifs,0⟩::bK) scope pos) 0 it' acc env) R s')
   (notedBy (aB prog w) A env fun x s'=>R (.error x) s') s) :
  ij (aB prog w) A (.compStart (.SetComp elt (⟨target,iter,ifs,0⟩::bK) scope pos) 0 it acc env) R s:=by
 refine uH ?_;show ak _ _ ((compStart (.SetComp elt (⟨target,iter,ifs,0⟩::bK) scope pos) 0 it acc env).onRaise (fun x=>do sV x env;G3 theWindowsPlace)) _ _ s;refine wpAny_notedAt ?_;unfold compStart;show ak _ _ (ask >>= _) _ _ s;refine a6 (iu (wpAny_ite ?_));split
 ·first
   |exact a6 (aa (aa (yj rfl h0)))
   |exact aa (yj rfl h0)
 ·first
   |exact a6 (gI (a6 (du (a6 (aZ h (fun it' s' hq=>aa (yj rfl hq)) fun _ _ x=>x)))))
   |(refine a6 (gI ?_);show ak _ _ (G3 iter.pos >>= _) _ _ s;exact a6 (du (a6 (aZ h (fun it' s' hq=>aa (yj rfl hq)) fun _ _ x=>x))))
theorem tH (h:Q (.ref s.heap.objs.size) { s with heap:=s.heap.push (fo w) }):ak (aB prog w) A (newSet (.type "set")) Q E s:=by
 unfold newSet setsByText;refine a6 (a6 (iu (aa ?_)));dsimp only;simp only [newObj];exact a6 (Pw (aa h))
theorem Av     (hS:lK w s.heap a ss) (hr:ss.length+1<iZ)
  (h:∀ h' tk',bI a s.heap h'->lK w h' a (if x∈ss then ss else ss++[x])->Q .none { s with heap:=h',toks:=tk' }) :
  ak (aB prog w) A (call (.builtin "set.add") [.ref a,.str x tk]) Q E s:=by
 have hT:s.TypeIs (.ref a) "set":=by obtain ⟨es,ep,t,I,_⟩:=id hS;exact ⟨_,I.at_,rfl⟩
 refine cx F.slot_set_add hT F.entry_set_add ?_ (F.args_set_add_2 _ _);unfold fK.«set.add» PJ;simp only [List.isEmpty_nil,bind_assoc];unfold PK;refine a6 (aa ?_);try dsimp only
 refine a6 (aa ?_);try dsimp only
 refine a6 ?_;refine Ea hS hr fun h' tk' sb hS'=>?_;exact aa ⟨_,rfl,h h' tk' sb hS'⟩
end
section
theorem Es      (I:Nat->ah->Prop)
  (turn:∀ n s,I n s->ak (aB prog w) A (nL it) (fun r s₁=>match r with
   |none=>R (.ok .next) s₁
   |some v=>ak (aB prog w) A (gV target it v) (fun _ s₁'=>ak (aB prog w) A (qP target env v) (fun _ s₂ =>
     ak (aB prog w) A (forIn ifs true fun c r=>if r=true then do let ok <- C0 c env (cL c env);pure (g9 ok) else pure (g9 r)) (fun ok s₃ =>
      if ok=true then ak (aB prog w) A (cL elt env) (fun x s₄ =>
       ak (aB prog w) A (call (.builtin "set.add") [acc,x]) (fun _ s₅=>∃ m,m<n/\I m s₅) (fun _ _=>False) s₄) (fun _ _=>False) s₃
      else ∃ m,m<n/\I m s₃) (fun _ _=>False) s₂) (fun _ _=>False) s₁') (fun _ _=>False) s₁) (fun _ _=>False) s)
  (n:Nat) (h:I n s) :
  ij (aB prog w) A (.compLoop (.SetComp elt [⟨target,iter,ifs,0⟩] scope pos) 0 it acc env) R s:=by
 refine codeAny_loop rfl I (fun n s hI=>?_) n h;show ak _ A ((compTurn (.SetComp elt [⟨target,iter,ifs,0⟩] scope pos) 0 it acc env).onRaise (fun x=>do sV x env;theTreesLotGoes x)) _ _ s;refine wpAny_noted ?_;rw [CH];have nf:∀ {α:Type}{t:Sem α}{Q:α->ah->Prop}{E':ae->ah->Prop}{s:ah},ak (aB prog w) A t Q (fun _ _=>False) s->ak (aB prog w) A t Q E' s :=
  fun h=>aZ h (fun _ _ q=>q) fun _ _ f=>f.elim
 refine a6 (du (a6 (nf (aZ (turn n s hI) (fun r s₁ h₁=>?_) fun _ _ h'=>h'))));cases r with
 |none=>exact aa h₁
 |some v =>
  refine a6 (nf (aZ h₁ (fun _ s₁' h₁'=>?_) fun _ _ h'=>h'));refine a6 (nf (aZ h₁' (fun _ s₂ h₂=>a6 (nf (aZ h₂ (fun ok s₃ h₃=>?_) fun _ _ h'=>h'))) fun _ _ h'=>h'));cases ok with
  |false=>exact aa ⟨rfl,h₃⟩
  |true =>
   exact a6 (a6 (nf (aZ h₃ (fun x s₄ h₄=>a6 (du (a6 (nf (aZ h₄ (fun _ s₅ h₅=>aa (aa ⟨rfl,h₅⟩)) fun _ _ h'=>h'))))) fun _ _ h'=>h')))
end
inductive Y6 (X:Cx) (pins:List (ag×Obj)) (N':List Str) (scope:gH) (cl:List (Str×ag)) (C:ag) (s2:ah) (H2:Hp) (fp:List ag) (nt:Nat) (ix:List Nat) (σ:St) (tn:Nat->bw->Prop) (W:Nat->Nat->List Str->Hp->Prop) (n:Nat) (s':ah):Prop
 |mk (i:Nat) (acc:List Str) (oD:Obj) (H':Hp) (I:bG (cQ X N' scope cl C s2 H2 fp (X.pn++pins)) [(s2.heap.objs.size,oD)] (jM nt ix σ) H' s') (S:lK X.w s'.heap s2.heap.objs.size acc) (t:tn i s'.heap) (f:∀ b∈fp,H' b=none) (w:W i n acc H'):Y6 X pins N' scope cl C s2 H2 fp nt ix σ tn W n s'
theorem KI {X:Cx}{elt tg iter:bR}{ifs:List bR}{scope:gH}{pos:Pos}{g:TG}{tt:TT}{te:TE}{N':List Str}{nt:Nat}{ix:List Nat}
  (hc:X.calm=true) (S:nW X scope N' nt ix) (lo:RY nt g)
  (hb:∀ cl C s₀ H₀ ex pn,PG (cQ X N' scope cl C s₀ H₀ ex pn) tg g/\Pn (cQ X N' scope cl C s₀ H₀ ex pn) ifs tt/\PE (cQ X N' scope cl C s₀ H₀ ex pn) elt te)
  {cl:List (Str×ag)} (c1:∀ x c,cl.lookup x=some c->X.env.cells.lookup x=some c) (c2:∀ y∈scope.names,y.2=.free->∃ c,cl.lookup y.1=some c)
  {pins:List (ag×Obj)}{σ:St}{H2:Hp}{s2:ah}{it:ag}{fp:List ag}{tn:Nat->bw->Prop}{J:It}{Q:VK}{E:ae->ah->Prop}
  (I2:bG X pins σ H2 s2) (T:Aq X.prog X.w X.K tg J fp it tn) (st2:tn 0 s2.heap) (f2:∀ b∈fp,qX X pins H2 b)
  {W:Nat->Nat->List Str->Hp->Prop} (w0:∃ m,W 0 m [] H2)
  (turn:∀ i m acc H,W i m acc H->(J.stop i H/\∀ p,H p=none->Q (.ref p) (upd H p (lU X.w p acc))) \/
   (J.go i H/\acc.length+1<iZ/\∀ x H',J.yld i H x H'->g x (jM nt ix σ) H' fun σ2 H2=>tt σ2 H2 fun b H3 =>
    if b=true then te σ2 H3 fun y H4=>∃ z m',y=.str z/\m'<m/\W (i+1) m' (if z∈acc then acc else acc++[z]) H4 else ∃ m',m'<m/\W (i+1) m' acc H3))
  {RR:ae->ag->Result->ah->Prop}
  (hRR:∀ D C m s' (acc:List Str) H',H' D=none->qX X pins (upd H' D (lU X.w D acc)) C->Q (.ref D) (upd H' D (lU X.w D acc))->s'.heap.Ns C m->(∀ h',bI C s'.heap h'->bG X pins σ (upd H' D (lU X.w D acc)) { s' with heap:=h' })->RR (.ref D) C (.ok .next) s') :
  ak (aB X.prog X.w) X.A (newSet (.type "set")) (fun acc s₃=>ak (aB X.prog X.w) X.A (vU scope X.env.globals cl [] X.env.qual none .none (some X.env)) (fun cenv s₄ =>
   ij (aB X.prog X.w) X.A (.compStart (.SetComp elt [⟨tg,iter,ifs,0⟩] scope pos) 0 (.ref it) acc { cenv with scope:=relabel scope X.env }) (RR acc cenv.locals) s₄) E s₃) E s2:=by
 refine tH (IP fun h₁ hh₁=>?_);dsimp only at hh₁ ⊢;generalize hG2:s2.heap.push (fo X.w)=G2 at hh₁ ⊢;have hC:G2.objs.size=s2.heap.objs.size+1:=by rw [<- hG2,cp]
 have hDC:s2.heap.objs.size≠G2.objs.size:=by rw [hC];exact aD (fW _)
 have hCle:s2.heap.objs.size<=G2.objs.size:=by rw [hC];exact ik _
 have below:∀ b,b<s2.heap.objs.size->b≠G2.objs.size:=fun b hb=>by rw [hC];exact aD (gR hb)
 have kp:∀ b o,G2.get? b=some o->h₁.get? b=some o:=fun b o e=>by rw [hh₁];exact uF _ _ b o (ac _ e)
 have hns₁:h₁.Ns G2.objs.size (fun _=>none):=by rw [hh₁];exact (Heap.Ns.new G2 (.type "dict")).keeps (uF _ _)
 have ok₁:CellsOk h₁ (G2.objs.size+1) (ba (G2.objs.size+1) scope.names []):=by rw [hh₁];exact Be G2 scope.names
 have cne:∀ x c,(ba (G2.objs.size+1) scope.names cl).lookup x=some c->X.env.cells.lookup x=some c\/s2.heap.objs.size<c:=fun x c e=>by
  rcases lc e with a|⟨_,a⟩
  ·exact .inr (aE (kH hCle) (ok₁.empty x c a).2)
  ·exact .inl (c1 x c a)
 have old:∀ b o,s2.heap.get? b=some o->h₁.get? b=some o:=fun b o e=>kp b o (hG2 ▸ ac _ e);have hacc:h₁.get? s2.heap.objs.size=some (fo X.w):=kp _ _ (hG2 ▸ aF _ rfl);have ff:∀ b∈fp,b<s2.heap.objs.size:=fun b hb=>by
  obtain ⟨o,e,_⟩:=T.obj _ _ st2 b hb;exact am e
 have I3:bG (cQ X N' scope (ba (G2.objs.size+1) scope.names cl) G2.objs.size s2 H2 fp (X.pn++pins)) [] (jM nt ix σ) H2 { s2 with heap:=h₁,toks:=s2.toks }:=E7 S I2 c1 c2 f2 ff hCle hns₁ old ok₁;obtain ⟨pg,pt,pe⟩:=hb (ba (G2.objs.size+1) scope.names cl) G2.objs.size s2 H2 fp (X.pn++pins);have hDfs:s2.heap.objs.size∉lJ X.stack:=fun z=>by
  rcases List.mem_cons.mp (I2.stkSub _ z) with e|e
  ·exact absurd I2.lt (by rw [<- e];exact c6 _)
  ·exact I2.nofs (ar _) e
 have st1:tn 0 h₁:=T.keep _ _ _ st2 fun b _ o e=>old b o e;have hDf:s2.heap.objs.size∉fp:=fun z=>absurd (ff _ z) (c6 _);have stat:∀ {H':Hp}{pl:List (ag×Obj)},(∀ p∈pl,p.1∉fp)->(∀ b∈fp,H' b=none)->∀ b∈fp,qX (cQ X N' scope (ba (G2.objs.size+1) scope.names cl) G2.objs.size s2 H2 fp (X.pn++pins)) pl H' b:=fun hpl hn b hb=>by
  obtain ⟨f0,f1,f2',f3,f4,f5⟩:=f2 b hb;refine ⟨hn b hb,below b (ff b hb),fun z=>?_,.inl hb,fun x c e=>(cne x c e).elim (f4 x c) fun q z=>xq q (by rw [z];exact ff b hb),fun p hp z=>?_⟩
  ·rcases List.mem_cons.mp (I2.stkSub _ z) with e|e
   ·exact f1 e
   ·exact f2' e
  ·rcases List.mem_append.mp hp with q|q
   ·exact f5 p q z
   ·exact hpl p q (z ▸ hb)
 obtain ⟨m0,w0⟩:=w0;have loop:ij (aB X.prog X.w) X.A (.compLoop (.SetComp elt [⟨tg,iter,ifs,0⟩] scope pos) 0 (.ref it) (.ref s2.heap.objs.size) (compEnvC scope (ba (G2.objs.size+1) scope.names cl) G2.objs.size X.env))
    (RR (.ref s2.heap.objs.size) G2.objs.size) { s2 with heap:=h₁,toks:=s2.toks }:=by
  refine Es (Y6 X pins N' scope (ba (G2.objs.size+1) scope.names cl) G2.objs.size s2 H2 fp nt ix σ tn W) ?_ m0
   ⟨0,[],_,H2,I3.pin1 hacc (I2.hok.fresh (ar _)) hDC hDfs (fun v z=>nomatch z),Bg X.w hacc,st1,fun b hb=>(f2 b hb).1,w0⟩
  rintro n s3 ⟨i,acc,oD,H3,J3,hS3,st3,fr3,w3⟩;have plD:∀ p∈[(s2.heap.objs.size,oD)],p.1∉fp:=fun p hp=>by
   have:p=(s2.heap.objs.size,oD):=by simpa using hp
   rw [this];exact hDf
  have stS:∀ {s8:ah},s8.heap.get? s2.heap.objs.size=some oD->lK X.w s8.heap s2.heap.objs.size acc:=fun {s8} e=>hS3.keep fun o eo=>by
   have q:=(J3.pin (s2.heap.objs.size,oD) (aY _ (List.mem_singleton.mpr rfl))).1;rw [q] at eo;cases eo;exact e
  rcases turn i n acc H3 w3 with ⟨stop,qn⟩|⟨go,hlt,step⟩
  ·refine fY (T.done (cQ X N' scope (ba (G2.objs.size+1) scope.names cl) G2.objs.size s2 H2 fp (X.pn++pins)) rfl rfl rfl hc i _ s3 _ H3 _ J3 (stat plD fr3) st3 stop) fun r s4 h_0=>?_;obtain ⟨hr,I4⟩:=h_0;subst hr;obtain ⟨pD,pN,_⟩:=I4.pin (s2.heap.objs.size,_) (aY _ (List.mem_singleton.mpr rfl));obtain ⟨mm,hn,_⟩:=I4.loc;have hCn:H3 G2.objs.size=none:=I4.free;refine hRR _ _ mm s4 acc H3 pN (I2.fpOk hCle (by rw [aU (dq hDC)];exact hCn)) (qn _ pN) hn fun h' sb=>?_;have hu:Un (lJ X.stack) fp H2 (upd H3 s2.heap.objs.size (lU X.w s2.heap.objs.size acc)) s2.heap h':=Un.grow I4.base sb hCle (ar _) pN;refine I2.call' (s':={ s4 with heap:=h' }) (ch:=fp) I4.os hu ?_ I4.bare fun b hb=>?_
   ·exact sk (yC I4.hok hCn sb) pN (CB ((stS pD).keep fun o e=>(sb.2 _ hDC).trans e))
   ·obtain ⟨_,f1,_,f3,f4,f5⟩:=f2 b hb;exact ⟨f3,f1,f4,f5⟩
  ·refine fY (T.item (cQ X N' scope (ba (G2.objs.size+1) scope.names cl) G2.objs.size s2 H2 fp (X.pn++pins)) rfl rfl rfl hc i _ s3 _ H3 _ J3 (stat plD fr3) st3 go) fun r s4 h_1=>?_;obtain ⟨u,hr,h4⟩:=h_1;subst hr;refine fY h4 fun _ s5 h_2=>?_;obtain ⟨x,H5,I5,r5,y5,st5,fr5⟩:=h_2;have I5':=I5.pinned (stat plD fr5) (T.obj _ _ st5);refine fY (pg _ s5 _ H5 x u _ I5' r5 (lo _ _ _ _ (step x H5 y5))) fun _ s6 h_3=>?_;obtain ⟨σ6,H6,I6,q6,l6,k6⟩:=h_3;have hw:∀ (j:Nat) v,(jM nt ix σ)[j]?=some (some v)->σ6[j]?=some (some v):=fun j v e=>by
    by_cases hj:nt<=j
    ·rw [k6 j hj];exact e
    ·unfold jM at e;rw [bQ (by simpa using hj),bP,if_pos (by omega)] at e;cases e
   refine fY (pt _ s6 σ6 H6 _ I6 q6) fun b s7 h_4=>?_;obtain ⟨H7,I7,q7⟩:=h_4;have fpk:∀ {s8:ah}{σ8:St}{H8:Hp},bG (cQ X N' scope (ba (G2.objs.size+1) scope.names cl) G2.objs.size s2 H2 fp (X.pn++pins)) ([(s2.heap.objs.size,oD)]++w9 fp s5.heap) σ8 H8 s8 ->
     tn (i+1) s8.heap/\∀ b∈fp,H8 b=none:=fun {s8 σ8 H8} I8=>by
    refine ⟨T.keep _ _ _ st5 fun b hb o e=>(I8.pin (b,o) (aY _ (aY _ (kK hb e)))).1,fun b hb=>?_⟩;obtain ⟨o,e,d⟩:=T.obj _ _ st5 b hb;exact (I8.pin (b,o) (aY _ (aY _ (kK hb e)))).2.1
   cases b with
   |false =>
    simp only [cb,if_false] at q7 ⊢;obtain ⟨m',hm,w7⟩:=q7;obtain ⟨t7,f7⟩:=fpk I7;obtain ⟨pD,_⟩:=I7.pin (s2.heap.objs.size,oD) (aY _ (gO _ (List.mem_singleton.mpr rfl)));exact ⟨m',hm,i+1,acc,oD,H7,(I7.weak l6.symm hw).unpinned,stS pD,t7,f7,w7⟩
   |true =>
    simp only [if_true] at q7 ⊢;refine fY (pe _ s7 σ6 H7 _ I7 q7) fun u8 s8 h_5=>?_;obtain ⟨y,H8,I8,r8,z,m',hy,hm,w8⟩:=h_5;obtain ⟨t8,f8⟩:=fpk I8;obtain ⟨pD,pN,_⟩:=I8.pin (s2.heap.objs.size,_) (aY _ (gO _ (List.mem_singleton.mpr rfl)));subst hy;obtain ⟨tz,rfl⟩:=r8;refine Av (stS pD) hlt fun h9 tk9 sb9 hS9=>?_;obtain ⟨es9,ep9,t9,is9,pm9⟩:=id hS9;have e9':=is9.at_;refine ⟨m',hm,i+1,_,{ cls:=.type "set",dict:=none,data:=.set es9 ep9 t9 },H8,?_,hS9,T.keep _ _ _ t8 fun b hb o e=>sb9.extBut b o (fun z=>hDf (z ▸ hb)) e,f8,w8⟩;have I8':bG (cQ X N' scope (ba (G2.objs.size+1) scope.names cl) G2.objs.size s2 H2 fp (X.pn++pins)) [] (jM nt ix σ) H8 s8:=(I8.weak l6.symm hw).pins_of fun p hp=>absurd hp (by simp);have I9:bG (cQ X N' scope (ba (G2.objs.size+1) scope.names cl) G2.objs.size s2 H2 fp (X.pn++pins)) [] (jM nt ix σ) H8 { s8 with heap:=h9,toks:=tk9 } :=
     I8'.turned (it:=s2.heap.objs.size) (fun b o hb e=>sb9.extBut b o hb e) pN hDC (.inr (ar _)) (fun x c e z=>by
      rcases cne x c e with e|e
      ·obtain ⟨v,q⟩:=I2.cell x c e;exact absurd q.lt (by rw [z];exact c6 _)
      ·exact absurd e (by rw [z];exact c6 _)) fun p hp z=>by
      have hp:p∈X.pn++pins:=(List.mem_append.mp hp).elim id fun z=>absurd z (by simp);exact absurd (am (I2.pin p hp).1) (by rw [z];exact c6 _)
    exact I9.pin1 e9' pN hDC hDfs (fun v z=>nomatch z)
 exact qG loop (T.self _ 0 _ _ _ st1 loop)
inductive S0 (w:bE) (nt:Nat) (ix:List Nat) (g:TG) (tt:TT) (te:TE) (σ:St) (Q:VK) (J:It) (H1:Hp):Prop
 |mk (W:Nat->Nat->List Str->Hp->Prop) (w0:∃ m,W 0 m [] H1) (turn:∀ i m acc H,W i m acc H ->
 (J.stop i H/\∀ p,H p=none->Q (.ref p) (upd H p (lU w p acc))) \/
 (J.go i H/\acc.length+1<iZ/\∀ x H',J.yld i H x H'->g x (jM nt ix σ) H' fun σ2 H2=>tt σ2 H2 fun b H3 =>
  if b=true then te σ2 H3 fun y H4=>∃ z m',y=.str z/\m'<m/\W (i+1) m' (if z∈acc then acc else acc++[z]) H4 else ∃ m',m'<m/\W (i+1) m' acc H3)):S0 w nt ix g tt te σ Q J H1
def N8 (w:bE) (nt:Nat) (ix:List Nat) (wi:TI) (g:TG) (tt:TT) (te:TE):TE:=fun σ H Q=>wi σ H (S0 w nt ix g tt te σ Q)
theorem Hb {X:Cx}{elt tg iter:bR}{ifs:List bR}{scope:gH}{pos:Pos}{wi:TI}{g:TG}{tt:TT}{te:TE}{N':List Str}{nt:Nat}{ix:List Nat}
  (hc:X.calm=true) (S:nW X scope N' nt ix) (lo:RY nt g) (hi:PI X tg iter wi)
  (hb:∀ cl C s₀ H₀ ex pn,PG (cQ X N' scope cl C s₀ H₀ ex pn) tg g/\Pn (cQ X N' scope cl C s₀ H₀ ex pn) ifs tt/\PE (cQ X N' scope cl C s₀ H₀ ex pn) elt te)
  (hs:∀ x,eF iter X.env x=pure x:=by intro _;rfl):PE X (.SetComp elt [⟨tg,iter,ifs,0⟩] scope pos) (N8 X.w nt ix wi g tt te):=by
 intro pins s σ H Q I h;obtain ⟨cl,hcl,c1,c2⟩:=tZ (scope:=scope) (env:=X.env) fun y hy hf=>I.ok.has y.1 (S.free y hy hf);show ak _ _ (comprehension (.SetComp elt [⟨tg,iter,ifs,0⟩] scope pos) scope X.env (firstIterPos [⟨tg,iter,ifs,0⟩] pos) (newSet (.type "set")) (firstAsync [⟨tg,iter,ifs,0⟩]) (firstIter [⟨tg,iter,ifs,0⟩] X.env)) _ _ _;refine qR (use:=none) rfl hs hcl S.kind S.loc (fY (hi pins s σ H _ I h) fun v s1 h1=>fY h1 fun itv s2 h2=>?_);obtain ⟨it,fp,tn,J,H2,e,I2,T,st2,f2,W,w0,turn⟩:=h2;subst e;refine KI (RR:=fun acc C=>compPost (aB X.prog X.w) X.A X.xe none (EP X pins σ Q) acc C) hc S lo hb c1 c2 I2 T st2 f2 w0 turn ?_;intro D C m s' acc H' hD _ q hn hI;exact ⟨m,hn,fun h' sb=>⟨.ref D,_,hI h' sb,rfl,q⟩⟩
section
theorem Aw:ja X (.builtin "len") (fun xs H Q=>∃ p ss,xs=[.ref p]/\H p=some (lU X.w p ss)/\Q (.int ss.length) H):=by
 intro pins s σ H xs us Q I r h;obtain ⟨p,ss,rfl,hq,q⟩:=h;obtain ⟨u,rfl,rx⟩:=jU r;cases rx;obtain ⟨es,ep,t,is,pm⟩:=(show de X.prog X.w H s.heap p (lU X.w p ss) from I.hok p _ hq).1;have hlen:es.size=ss.length:=by rw [<- pm.length_eq,au,aq]
 have hsm:(es.size:Int)<2 ^ 63:=by
  have h1:=is.few;have h2:iZ<=2 ^ 62:=by decide
  omega
 refine AY kind_len plain_len entry_len (args_len1 _) (wpAny_len_body_set is.at_ ⟨rfl,rfl,rfl⟩ rfl is.fits hsm ?_);refine ⟨.int _,H,I.tok _,⟨_,rfl⟩,?_⟩;rw [hlen];exact q
end
end
end L2
section
namespace L2
open PySem PySem.Spec PyProof.Rows
section
variable {K:a7}{nt:Nat}{ix:List Nat}{te:TE}{σ:St}{H1:Hp}{Q:VK}{a:ag}{xs:List V}{i:Nat}
end
end L2
namespace L2
open PySem PySem.Spec PyProof.Rows
def IS (so:gH) (N:List Str) (scope:gH) (N':List Str) (nt:Nat) (ix:List Nat):Bool :=
 (scope.kind == .function)&&(scope.names.all fun y=>y.2 != .cell||scope.names.lookup y.1==some .cell)&&(scope.names.all fun y=>y.2 != .local||scope.names.lookup y.1==some .local) &&
 (scope.names.all fun y=>y.2 != .free||so.names.lookup y.1==some .cell||so.names.lookup y.1==some .free) &&
 ((bq ix.length).all fun k=>match ix[k]? with
  |none=>false
  |some i=>match N[i]? with
   |none=>false
   |some x=>N'[nt+k]? == some x&&scope.names.lookup x==some .free)&&(N'.length==nt+ix.length)
theorem c9       (h:IS so N scope N' nt ix=true) (h1:X.env.scope=so:=by rfl) (h2:X.N=N:=by rfl):nW X scope N' nt ix:=by
 unfold IS at h;simp only [aP,cR] at h;obtain ⟨⟨⟨⟨⟨a,b⟩,c⟩,d⟩,e⟩,l⟩:=h;refine ⟨by simpa using a,fun y hy z=>?_,fun y hy z=>?_,fun y hy z=>?_,fun k i hk=>?_,by simpa using l⟩
 ·have:=b y hy;simpa [z] using this
 ·have:=c y hy;simpa [z] using this
 ·have:=d y hy;rw [h1];simpa [z] using this
 ·have hl:k<ix.length:=(List.getElem?_eq_some_iff.mp hk).1;have:=e k (List.mem_range.mpr hl);rw [hk] at this;rw [h2];simp only at this;split at this
  ·cases this
  ·rename_i x hx
   simp only [aP] at this;exact ⟨x,hx,by simpa using this.1,by simpa using this.2⟩
end L2
end
namespace L2
open PySem PySem.Spec PyProof.Rows
section
section
variable {K:a7}{nt:Nat}{ix:List Nat}{te:TE}{σ:St}{H1:Hp}{Q:VK}{a b:ag}{xs ys:List V}{i k:Nat}
end
end
end L2
namespace J
open PySem L2
section
abbrev D:=C6
inductive R (α:Type) where
 |ok (a:α)
 |ex (c:Str) (n:Option D)
 |no
def R.bind {α β:Type}:R α->(α->R β)->R β
 |.ok a,f=>f a
 |.ex c n,_=>.ex c n
 |.no,_=>.no
@[simp] theorem bind_ok {α β:Type} (a:α) (f:α->R β):(R.ok a).bind f=f a:=rfl
@[simp] theorem bind_ex {α β:Type} (c:Str) (n:Option D) (f:α->R β):(R.ex c n).bind f=.ex c n:=rfl
@[simp] theorem bind_no {α β:Type} (f:α->R β):(R.no:R α).bind f=.no:=rfl
def kD:gj->D
 |.inl i=>.int i
 |.inr x=>.str x
def tD (ks:List gj):D:=.tuple (ks.map kD)
mutual
inductive RD (K:a7) (H:Hp):V->D->Prop
 |none:RD K H .non .none
 |bool (b:Bool):RD K H (.bl b) (.bool b)
 |int (i:Int):RD K H (.int i) (.int i)
 |str (x:Str):RD K H (.str x) (.str x)
 |list {a:ag}{xs:List V}{ds:List D}:mV K H a xs->RDs K H xs ds->RD K H (.ref a) (.list ds)
 |tuple {a:ag}{xs:List V}{ds:List D}:H a=some (.tup xs)->RDs K H xs ds->RD K H (.ref a) (.tuple ds)
 |dictK {a:ag}{kvs:List (gj×V)}{ds:List (D×D)}:H a=some (.dK kvs)->RDk K H kvs ds->RD K H (.ref a) (.dict ds)
 |dictT {a:ag}{kvs:List (List gj×V)}{ds:List (D×D)}:H a=some (.dT kvs)->kvs≠[]->RDt K H kvs ds->RD K H (.ref a) (.dict ds)
 |dictF {a:ag}{o:Obj}{kvs:List (List gj×V)}{ds:List (D×D)}:H a=some (.frz o (.dT kvs))->kvs≠[]->RDt K H kvs ds->RD K H (.ref a) (.dict ((.none,.none)::ds))
inductive RDs (K:a7) (H:Hp):List V->List D->Prop
 |nil:RDs K H [] []
 |cons {x:V}{xs:List V}{d:D}{ds:List D}:RD K H x d->RDs K H xs ds->RDs K H (x::xs) (d::ds)
inductive RDk (K:a7) (H:Hp):List (gj×V)->List (D×D)->Prop
 |nil:RDk K H [] []
 |cons {k:gj}{x:V}{xs:List (gj×V)}{d:D}{ds:List (D×D)}:RD K H x d->RDk K H xs ds->RDk K H ((k,x)::xs) ((kD k,d)::ds)
inductive RDt (K:a7) (H:Hp):List (List gj×V)->List (D×D)->Prop
 |nil:RDt K H [] []
 |cons {k:List gj}{x:V}{xs:List (List gj×V)}{d:D}{ds:List (D×D)}:RD K H x d->RDt K H xs ds->RDt K H ((k,x)::xs) ((tD k,d)::ds)
end
section
theorem RD.same (e:dD H H')  (h:RD K H v d):RD K H' v d:=RD.rec (motive_1:=fun v d _=>RD K H' v d) (motive_2:=fun v d _=>RDs K H' v d) (motive_3:=fun v d _=>RDk K H' v d) (motive_4:=fun v d _=>RDt K H' v d) .none .bool .int .str (fun h _ r=>.list (e.seq h) r) (fun h _ r=>.tuple (e _ _ h) r) (fun h _ r=>.dictK (e _ _ h) r) (fun h n _ r=>.dictT (e _ _ h) n r) (fun h n _ r=>.dictF (e _ _ h) n r) .nil (fun _ _ a b=>.cons a b) .nil (fun _ _ a b=>.cons a b) .nil (fun _ _ a b=>.cons a b) h
theorem RDs.same (e:dD H H')  (h:RDs K H v d):RDs K H' v d:=RDs.rec (motive_1:=fun v d _=>RD K H' v d) (motive_2:=fun v d _=>RDs K H' v d) (motive_3:=fun v d _=>RDk K H' v d) (motive_4:=fun v d _=>RDt K H' v d) .none .bool .int .str (fun h _ r=>.list (e.seq h) r) (fun h _ r=>.tuple (e _ _ h) r) (fun h _ r=>.dictK (e _ _ h) r) (fun h n _ r=>.dictT (e _ _ h) n r) (fun h n _ r=>.dictF (e _ _ h) n r) .nil (fun _ _ a b=>.cons a b) .nil (fun _ _ a b=>.cons a b) .nil (fun _ _ a b=>.cons a b) h
theorem RDk.same (e:dD H H')  (h:RDk K H v d):RDk K H' v d:=RDk.rec (motive_1:=fun v d _=>RD K H' v d) (motive_2:=fun v d _=>RDs K H' v d) (motive_3:=fun v d _=>RDk K H' v d) (motive_4:=fun v d _=>RDt K H' v d) .none .bool .int .str (fun h _ r=>.list (e.seq h) r) (fun h _ r=>.tuple (e _ _ h) r) (fun h _ r=>.dictK (e _ _ h) r) (fun h n _ r=>.dictT (e _ _ h) n r) (fun h n _ r=>.dictF (e _ _ h) n r) .nil (fun _ _ a b=>.cons a b) .nil (fun _ _ a b=>.cons a b) .nil (fun _ _ a b=>.cons a b) h
theorem RDt.same (e:dD H H')  (h:RDt K H v d):RDt K H' v d:=RDt.rec (motive_1:=fun v d _=>RD K H' v d) (motive_2:=fun v d _=>RDs K H' v d) (motive_3:=fun v d _=>RDk K H' v d) (motive_4:=fun v d _=>RDt K H' v d) .none .bool .int .str (fun h _ r=>.list (e.seq h) r) (fun h _ r=>.tuple (e _ _ h) r) (fun h _ r=>.dictK (e _ _ h) r) (fun h n _ r=>.dictT (e _ _ h) n r) (fun h n _ r=>.dictF (e _ _ h) n r) .nil (fun _ _ a b=>.cons a b) .nil (fun _ _ a b=>.cons a b) .nil (fun _ _ a b=>.cons a b) h
mutual
def pp:D->Bool
 |.dict _=>false
 |.list xs=>noDs xs
 |.tuple xs=>noDs xs
 |_=>true
def noDs:List D->Bool
 |[]=>true
 |x::r=>pp x&&noDs r
end
theorem Vb (h:(a&&b)=true):a=true:=(Bool.and_eq_true_iff.mp h).1
theorem Vc (h:(a&&b)=true):b=true:=(Bool.and_eq_true_iff.mp h).2
theorem RD.rep  (h:RD K H v d):pp d=true->GZ K H v d:=RD.rec (motive_1:=fun v d _=>pp d=true->GZ K H v d) (motive_2:=fun v d _=>noDs d=true->Reps K H v d) (motive_3:=fun _ _ _=>True) (motive_4:=fun _ _ _=>True) (fun _=>.none) (fun b _=>.bool b) (fun i _=>.int i) (fun x _=>.str x) (fun h _ r e=>.list h (r e)) (fun h _ r e=>.tuple (.of h) (r e)) (fun _ _ _ e=>lw e) (fun _ _ _ _ e=>lw e) (fun _ _ _ _ e=>lw e) (fun _=>.nil) (fun _ _ a b e=>.cons (a (Vb e)) (b (Vc e))) trivial (fun _ _ _ _=>trivial) trivial (fun _ _ _ _=>trivial) h
theorem RDs.length:∀ {ds:List D},RDs K H vs ds->vs.length=ds.length:=by
 induction vs with
 |nil=>intro ds h;cases h;rfl
 |cons x r ih=>intro ds h;cases h with|cons a b=>exact congrArg (· + 1) (ih b)
theorem RDs.get:∀ {ds:List D}{i:Nat}{v:V},RDs K H vs ds->vs[i]?=some v->∃ d,ds[i]?=some d/\RD K H v d:=by
 induction vs with
 |nil=>intro ds i v _ e;cases e
 |cons x r ih =>
  intro ds i v h e;cases h with
  |cons a b =>
   cases i with
   |zero=>cases e;exact ⟨_,rfl,a⟩
   |succ i=>have q:=ih (i:=i) b e;exact q
theorem RDs.get':∀ {ds:List D}{i:Nat}{d:D},RDs K H vs ds->ds[i]?=some d->∃ v,vs[i]?=some v/\RD K H v d:=by
 induction vs with
 |nil=>intro ds i v h e;cases h;cases e
 |cons x r ih =>
  intro ds i v h e;cases h with
  |cons a b =>
   cases i with
   |zero=>cases e;exact ⟨_,rfl,a⟩
   |succ i=>have q:=ih (i:=i) b e;exact q
theorem RDs.append  : ∀ {ds:List D},RDs K H vs ds->RDs K H ws es->RDs K H (vs++ws) (ds++es):=by
 induction vs with
 |nil=>intro ds h s;cases h;exact s
 |cons x r ih=>intro ds h s;cases h with|cons a b=>exact .cons a (ih b s)
theorem RDs.drop:∀ {ds:List D} (n:Nat),RDs K H vs ds->RDs K H (vs.drop n) (ds.drop n):=by
 induction vs with
 |nil=>intro ds n h;cases h;cases n<;>exact .nil
 |cons x r ih =>
  intro ds n h;cases n with
  |zero=>exact h
  |succ n=>cases h with|cons a b=>exact ih n b
theorem RDs.take:∀ {ds:List D} (n:Nat),RDs K H vs ds->RDs K H (vs.take n) (ds.take n):=by
 induction vs with
 |nil=>intro ds n h;cases h;cases n<;>exact .nil
 |cons x r ih =>
  intro ds n h;cases n with
  |zero=>exact .nil
  |succ n=>cases h with|cons a b=>exact .cons a (ih n b)
theorem RDs.reverse  (h:RDs K H vs ds):RDs K H vs.reverse ds.reverse:=by
 induction vs generalizing ds with
 |nil=>cases h;exact .nil
 |cons x r ih=>cases h with|cons a b=>rw [oC,oC];exact (ih b).append (.cons a .nil)
theorem yO:∀ (ss:List Str),RDs K H (ss.map V.str) (ss.map ap)
 |[]=>.nil
 |x::r=>.cons (.str x) (yO r)
theorem RD.str_inv  (h:RD K H v (.str x)):v=.str x:=by cases h;rfl
theorem RD.bool_inv  (h:RD K H v (.bool x)):v=.bl x:=by cases h;rfl
theorem RD.int_inv  (h:RD K H v (.int x)):v=.int x:=by cases h;rfl
theorem CI {α:Type}{c:α->D}{k:α->V} (hc:∀ {v x},RD K H v (c x)->v=k x) {ss:List α}:∀ {vs:List V},RDs K H vs (ss.map c)->vs=ss.map k:=by
 induction ss with
 |nil=>intro vs h;cases h;rfl
 |cons x r ih=>intro vs h;cases h with|cons a b=>rw [hc a,ih b];rfl
theorem pI {ss:List Str}{vs:List V}:RDs K H vs (ss.map ap)->vs=ss.map V.str:=CI RD.str_inv
theorem Ax {ss:List Bool}{vs:List V}:RDs K H vs (ss.map b_)->vs=ss.map V.bl:=CI RD.bool_inv
theorem CJ {ss:List Int}{vs:List V}:RDs K H vs (ss.map bC)->vs=ss.map V.int:=CI RD.int_inv
end
def nt:HO->Bool
 |.tup _=>false
 |_=>true
structure cE (H Hs H' Hs':Hp):Prop where
 all:dD H H'
 sh:dD Hs Hs'
 sub:dD Hs' H'
 out:∀ a o,H a=some o->nt o=true->Hs a=none->Hs' a=none
theorem cE.refl (h:dD Hs H):cE H Hs H Hs:=⟨.refl _,.refl _,h,fun _ _ _ _ e=>e⟩
theorem cE.trans (a:cE H Hs H1 Hs1) (b:cE H1 Hs1 H2 Hs2):cE H Hs H2 Hs2 :=
 ⟨a.all.trans b.all,a.sh.trans b.sh,b.sub,fun c o e t n=>b.out c o (a.all c o e) t (a.out c o e t n)⟩
theorem cE.new   (h:dD Hs H) (n:H p=none):cE H Hs (upd H p o) (upd Hs p o):=by
 have n':Hs p=none:=h.free n;refine ⟨gS n,gS n',fun b u e=>?_,fun a u e t z=>?_⟩
 ·by_cases hb:b=p
  ·subst hb;rw [aR] at e ⊢;exact e
  ·rw [aU hb] at e ⊢;exact h b u e
 ·rw [aU (b6 e n)];exact z
theorem cE.mine   (h:dD Hs H) (n:H p=none):cE H Hs (upd H p o) Hs:=by
 refine ⟨gS n,.refl _,fun b u e=>?_,fun a u e t z=>z⟩;have e':=h b u e;rw [aU (b6 e' n)];exact e'
inductive mZ (K:a7) (Hs:Hp):HO->D->Prop
 |lst {vs:List V}{ds:List D}:RDs K Hs vs ds->mZ K Hs (.lst vs) (.list ds)
 |dK {kvs:List (gj×V)}{ds:List (D×D)}:RDk K Hs kvs ds->mZ K Hs (.dK kvs) (.dict ds)
 |dT {kvs:List (List gj×V)}{ds:List (D×D)}:kvs≠[]->RDt K Hs kvs ds->mZ K Hs (.dT kvs) (.dict ds)
 |dF {o:Obj}{kvs:List (List gj×V)}{ds:List (D×D)}:kvs≠[]->RDt K Hs kvs ds->mZ K Hs (.frz o (.dT kvs)) (.dict ((.none,.none)::ds))
theorem mZ.same    (e:dD Hs Hs') (h:mZ K Hs o d):mZ K Hs' o d:=by
 cases h with
 |lst r=>exact .lst (r.same e)
 |dK r=>exact .dK (r.same e)
 |dT n r=>exact .dT n (r.same e)
 |dF n r=>exact .dF n (r.same e)
theorem mZ.nt    (h:mZ K Hs o d):J.nt o=true:=by cases h<;>rfl
theorem mZ.share     (n:Hs a=none) (h:mZ K Hs o d):RD K (upd Hs a o) (.ref a) d:=by
 have e:dD Hs (upd Hs a o):=gS n;cases h with
 |lst r=>exact .list (.of aR) (r.same e)
 |dK r=>exact .dictK aR (r.same e)
 |dT n r=>exact .dictT aR n (r.same e)
 |dF n r=>exact .dictF aR n (r.same e)
inductive Sl where
 |no
 |shr (d:D)
 |own (d:D)
 |lck (d:D)
 |ow2 (dss:List (List D))
abbrev az:=List Sl
inductive Bk (K:a7) (H Hs:Hp):List ag->List (List D)->Prop
 |nil:Bk K H Hs [] []
 |cons {a:ag}{as:List ag}{vs:List V}{ds:List D}{dss:List (List D)}:H a=some (.lst vs)->RDs K Hs vs ds->Bk K H Hs as dss->Bk K H Hs (a::as) (ds::dss)
theorem Bk.step  (e:dD H H') (e':dD Hs Hs')  (h:Bk K H Hs as dss):Bk K H' Hs' as dss:=by
 induction h with
 |nil=>exact .nil
 |cons h r t ih=>exact .cons (e _ _ h) (r.same e') ih
theorem Bk.upd      (n:b∉as) (h:Bk K H Hs as dss):Bk K (upd H b o) Hs as dss:=by
 induction h with
 |nil=>exact .nil
 |cons h r t ih=>exact .cons (by rw [aU (fun z=>n (by rw [<- z];exact al))];exact h) r (ih fun z=>n (ao _ z))
theorem Bk.there     (h:Bk K H Hs as dss) (hb:b∈as):∃ o,H b=some o/\nt o=true:=by
 induction h with
 |nil=>cases hb
 |cons h r t ih =>
  rcases List.mem_cons.mp hb with e|hb
  ·exact ⟨_,e ▸ h,rfl⟩
  ·exact ih hb
structure O2 (K:a7) (H0 H Hs:Hp) (ρ:az) (σ:St) (i:Nat) (dss:List (List D)) (a:ag) (as:List ag):Prop where
 at_:σ[i]?=some (some (V.ref a))
 ob:H a=some (.lst (as.map V.ref))
 nd:(a::as).Nodup
 out:∀ b∈a::as,Hs b=none/\H0 b=none
 dj:∀ b∈a::as,∀ (j:Nat) (e:D),ρ[j]?=some (Sl.own e)->σ[j]?≠some (some (V.ref b))
 inn:Bk K H Hs as dss
structure Fr (K:a7) (H0 Hs0:Hp) (la:Nat->Option ag) (ρ:az) (σ:St) (H Hs:Hp):Prop where
 st:cE H0 Hs0 H Hs
 len:ρ.length=σ.length
 sh:∀ (i:Nat) (d:D),ρ[i]?=some (Sl.shr d)->∃ v,σ[i]?=some (some v)/\RD K Hs v d
 ow:∀ (i:Nat) (d:D),ρ[i]?=some (Sl.own d)->∃ a o,σ[i]?=some (some (V.ref a))/\H a=some o/\Hs a=none/\H0 a=none/\mZ K Hs o d
 lk:∀ (i:Nat) (d:D),ρ[i]?=some (Sl.lck d)->∃ a o,σ[i]?=some (some (V.ref a))/\la i=some a/\H a=some o/\Hs a=none/\H0 a=some o/\mZ K Hs o d
 dj:∀ (i j:Nat) (d e:D) (a:ag),ρ[i]?=some (Sl.own d)->ρ[j]?=some (Sl.own e)->σ[i]?=some (some (V.ref a))->σ[j]?=some (some (V.ref a))->i=j
 lh:∀ (i:Nat) (a:ag),la i=some a->∃ o,H0 a=some o
 o2:∀ (i:Nat) (dss:List (List D)),ρ[i]?=some (Sl.ow2 dss)->∃ a as,O2 K H0 H Hs ρ σ i dss a as
 u2:∀ (i j:Nat) (d e:List (List D)),ρ[i]?=some (Sl.ow2 d)->ρ[j]?=some (Sl.ow2 e)->i=j
theorem Fr.step     (f:Fr K H0 Hs0 la ρ σ H Hs) (s:cE H Hs H' Hs'):Fr K H0 Hs0 la ρ σ H' Hs':=by
 refine ⟨f.st.trans s,f.len,fun i d e=>?_,fun i d e=>?_,fun i d e=>?_,f.dj,f.lh,fun i dss e=>?_,f.u2⟩
 ·obtain ⟨v,h1,h2⟩:=f.sh i d e;exact ⟨v,h1,h2.same s.sh⟩
 ·obtain ⟨a,o,h1,h2,h3,h4,h5⟩:=f.ow i d e;exact ⟨a,o,h1,s.all _ _ h2,s.out _ _ h2 h5.nt h3,h4,h5.same s.sh⟩
 ·obtain ⟨a,o,h1,h2,h3,h4,h5,h6⟩:=f.lk i d e;exact ⟨a,o,h1,h2,s.all _ _ h3,s.out _ _ h3 h6.nt h4,h5,h6.same s.sh⟩
 ·obtain ⟨a,as,h⟩:=f.o2 i dss e;refine ⟨a,as,h.at_,s.all _ _ h.ob,h.nd,fun b hb=>⟨?_,(h.out b hb).2⟩,h.dj,h.inn.step s.all s.sh⟩;have there:∃ o,H b=some o/\nt o=true:=by
   rcases List.mem_cons.mp hb with rfl|hb
   ·exact ⟨_,h.ob,rfl⟩
   ·exact h.inn.there hb
  obtain ⟨o,ho,hn⟩:=there;exact s.out b o ho hn (h.out b (by assumption)).1
inductive Vd (K:a7) (H Hs:Hp) (v:V) (d:D):Prop
 |mk (a:ag) (o:HO) (h0:v=.ref a) (h1:H a=some o) (h2:Hs a=none) (h3:mZ K Hs o d):Vd K H Hs v d
def RB (K:a7) (H Hs:Hp) (v:V) (d:D):Prop:=RD K Hs v d\/Vd K H Hs v d
theorem RB.step    (h:RB K H Hs v d) (s:cE H Hs H' Hs'):RB K H' Hs' v d:=by
 rcases h with h|⟨a,o,h1,h2,h3,h4⟩
 ·exact .inl (h.same s.sh)
 ·exact .inr ⟨a,o,h1,s.all _ _ h2,s.out _ _ h2 h4.nt h3,h4.same s.sh⟩
theorem RB.full    (sub:dD Hs H) (h:RB K H Hs v d):RD K H v d:=by
 rcases h with h|⟨a,o,rfl,h2,h3,h4⟩
 ·exact h.same sub
 ·have e:dD (upd Hs a o) H:=fun b u q=>by
   by_cases hb:b=a
   ·subst hb;rw [aR] at q;cases q;exact h2
   ·rw [aU hb] at q;exact sub b u q
  exact (h4.share h3).same e
theorem RB.list    (sub:dD Hs H) (h:RB K H Hs v (.list ds)):∃ a vs,v=.ref a/\mV K H a vs/\RDs K Hs vs ds:=by
 rcases h with h|⟨a,o,rfl,h2,h3,h4⟩
 ·cases h with|list q r=>exact ⟨_,_,rfl,sub.seq q,r⟩
 ·cases h4 with|lst r=>exact ⟨a,_,rfl,.of h2,r⟩
theorem RB.tuple    (sub:dD Hs H) (h:RB K H Hs v (.tuple ds)):∃ a vs,v=.ref a/\lz K H a vs/\RDs K Hs vs ds/\Hs a=some (.tup vs):=by
 rcases h with h|⟨a,o,rfl,h2,h3,h4⟩
 ·cases h with|tuple q r=>exact ⟨_,_,rfl,.of (sub _ _ q),r,q⟩
 ·cases h4
theorem RB.str    (h:RB K H Hs v (.str x)):v=.str x:=by
 rcases h with h|⟨a,o,rfl,h2,h3,h4⟩
 ·exact h.str_inv
 ·cases h4
theorem RB.int    (h:RB K H Hs v (.int i)):v=.int i:=by
 rcases h with h|⟨a,o,rfl,h2,h3,h4⟩
 ·exact h.int_inv
 ·cases h4
theorem RB.bool    (h:RB K H Hs v (.bool b)):v=.bl b:=by
 rcases h with h|⟨a,o,rfl,h2,h3,h4⟩
 ·exact h.bool_inv
 ·cases h4
theorem RB.non   (h:RB K H Hs v .none):v=.non:=by
 rcases h with h|⟨a,o,rfl,h2,h3,h4⟩
 ·cases h;rfl
 ·cases h4
def XW (K:a7) (cls:Str->ag) (E:XK) (c:Str) (n:Option D) (H Hs:Hp):Prop:=match n with
 |none=>E (.ref (cls c)) none H
 |some d=>∀ dx v,H dx=some (.xd [("number",v)])->RD K Hs v d->E (.ref (cls c)) (some dx) H
def Fin {α:Type} (K:a7) (cls:Str->ag) (E:XK) (H Hs:Hp) (r:R α) (q:α->Prop):Prop:=match r with
 |.ok d=>q d
 |.ex c n=>∀ H' Hs',cE H Hs H' Hs'->XW K cls E c n H' Hs'
 |.no=>False
inductive Y7 (K:a7) (cls:Str->ag) (E:XK) (ρ:az) (r:R D) (σ:St) (H:Hp) (Q:VK):Prop
 |mk (H0 Hs0:Hp) (la:Nat->Option ag) (Hs:Hp) (f:Fr K H0 Hs0 la ρ σ H Hs) (q:Fin K cls E H Hs r fun d=>∀ v H' Hs',cE H Hs H' Hs'->RD K Hs' v d->Q v H'):Y7 K cls E ρ r σ H Q
def TR (K:a7) (cls:Str->ag) (E:XK) (ρ:az) (r:R D):TE:=Y7 K cls E ρ r
inductive Y8 (K:a7) (cls:Str->ag) (E:XK) (ρ:az) (r:R D) (σ:St) (H:Hp) (Q:VK):Prop
 |mk (H0 Hs0:Hp) (la:Nat->Option ag) (Hs:Hp) (f:Fr K H0 Hs0 la ρ σ H Hs) (q:Fin K cls E H Hs r fun d=>∀ v H' Hs',cE H Hs H' Hs'->RB K H' Hs' v d->Q v H'):Y8 K cls E ρ r σ H Q
def TB (K:a7) (cls:Str->ag) (E:XK) (ρ:az) (r:R D):TE:=Y8 K cls E ρ r
inductive Ve (K:a7) (cls:Str->ag) (E:XK) (ρ:az) (r:R Bool) (σ:St) (H:Hp) (Q:Bool->Hp->Prop):Prop
 |mk (H0 Hs0:Hp) (la:Nat->Option ag) (Hs:Hp) (f:Fr K H0 Hs0 la ρ σ H Hs) (q:Fin K cls E H Hs r fun b=>∀ H' Hs',cE H Hs H' Hs'->Q b H'):Ve K cls E ρ r σ H Q
def LW (K:a7) (cls:Str->ag) (E:XK) (ρ:az) (r:R Bool):TT:=Ve K cls E ρ r
inductive S1 (K:a7) (H Hs:Hp):List V->List D->Prop
 |nil:S1 K H Hs [] []
 |cons {x:V}{xs:List V}{d:D}{ds:List D}:RB K H Hs x d->S1 K H Hs xs ds->S1 K H Hs (x::xs) (d::ds)
inductive Vf (K:a7) (cls:Str->ag) (E:XK) (ρ:az) (r:R (List D)) (σ:St) (H:Hp) (Q:List V->Hp->Prop):Prop
 |mk (H0 Hs0:Hp) (la:Nat->Option ag) (Hs:Hp) (f:Fr K H0 Hs0 la ρ σ H Hs) (q:Fin K cls E H Hs r fun d=>∀ v H' Hs',cE H Hs H' Hs'->RDs K Hs' v d->Q v H'):Vf K cls E ρ r σ H Q
def WB (K:a7) (cls:Str->ag) (E:XK) (ρ:az) (r:R (List D)):TA:=Vf K cls E ρ r
inductive Vg (K:a7) (cls:Str->ag) (E:XK) (ρ:az) (r:R (List D)) (σ:St) (H:Hp) (Q:List V->Hp->Prop):Prop
 |mk (H0 Hs0:Hp) (la:Nat->Option ag) (Hs:Hp) (f:Fr K H0 Hs0 la ρ σ H Hs) (q:Fin K cls E H Hs r fun d=>∀ v H' Hs',cE H Hs H' Hs'->S1 K H' Hs' v d->Q v H'):Vg K cls E ρ r σ H Q
def WC (K:a7) (cls:Str->ag) (E:XK) (ρ:az) (r:R (List D)):TA:=Vg K cls E ρ r
structure C where
 X:Cx
 cls:Str->ag
 E:XK
structure JE (c:C) (e:bR) (g:az->R D):Prop where of ::
 run:∀ ρ,PE c.X e (TR c.X.K c.cls c.E ρ (g ρ))
instance {c:C}{e:bR}{g:az->R D}:CoeFun (JE c e g) (fun _=>∀ ρ,PE c.X e (TR c.X.K c.cls c.E ρ (g ρ))):=⟨JE.run⟩
structure JB (c:C) (e:bR) (g:az->R D):Prop where of ::
 run:∀ ρ,PE c.X e (TB c.X.K c.cls c.E ρ (g ρ))
instance {c:C}{e:bR}{g:az->R D}:CoeFun (JB c e g) (fun _=>∀ ρ,PE c.X e (TB c.X.K c.cls c.E ρ (g ρ))):=⟨JB.run⟩
structure JT (c:C) (e:bR) (g:az->R Bool):Prop where of ::
 run:∀ ρ,PT c.X e (LW c.X.K c.cls c.E ρ (g ρ))
instance {c:C}{e:bR}{g:az->R Bool}:CoeFun (JT c e g) (fun _=>∀ ρ,PT c.X e (LW c.X.K c.cls c.E ρ (g ρ))):=⟨JT.run⟩
structure JW (c:C) (e:bR) (g:az->R Bool):Prop where of ::
 run:∀ ρ,PW c.X e (LW c.X.K c.cls c.E ρ (g ρ))
instance {c:C}{e:bR}{g:az->R Bool}:CoeFun (JW c e g) (fun _=>∀ ρ,PW c.X e (LW c.X.K c.cls c.E ρ (g ρ))):=⟨JW.run⟩
structure Et (c:C) (es:List bR) (g:az->R (List D)):Prop where of ::
 run:∀ ρ,PA c.X es (WB c.X.K c.cls c.E ρ (g ρ))
instance {c:C}{es:List bR}{g:az->R (List D)}:CoeFun (Et c es g) (fun _=>∀ ρ,PA c.X es (WB c.X.K c.cls c.E ρ (g ρ))):=⟨Et.run⟩
structure S2 (c:C) (es:List bR) (g:az->R (List D)):Prop where of ::
 run:∀ ρ,PA c.X es (WC c.X.K c.cls c.E ρ (g ρ))
instance {c:C}{es:List bR}{g:az->R (List D)}:CoeFun (S2 c es g) (fun _=>∀ ρ,PA c.X es (WC c.X.K c.cls c.E ρ (g ρ))):=⟨S2.run⟩
section
theorem rh   (h:PE X e t) (m:∀ σ H Q,t' σ H Q->t σ H Q):PE X e t':=fun pins s σ H Q I q=>h pins s σ H Q I (m σ H Q q)
theorem WD   (h:PT X e t) (m:∀ σ H Q,t' σ H Q->t σ H Q):PT X e t':=fun pins s σ H Q I q=>h pins s σ H Q I (m σ H Q q)
theorem Y9   (h:PW X e t) (m:∀ σ H Q,t' σ H Q->t σ H Q):PW X e t':=fun wh pins s σ H Q I q=>h wh pins s σ H Q I (m σ H Q q)
theorem WE {X:Cx}{e:List bR}{t t':TA} (h:PA X e t) (m:∀ σ H Q,t' σ H Q->t σ H Q):PA X e t':=fun pos pins s σ H Q I q=>h pos pins s σ H Q I (m σ H Q q)
theorem Ay {X:Cx}{e:cY}{t t':TS} (h:PS X e t) (m:∀ D σ H,t' D σ H->t D σ H):PS X e t':=fun pins s σ H Q I q=>h pins s σ H Q I (m Q σ H q)
theorem Xp {X:Cx}{e:List cY}{t t':TS} (h:Cb X e t) (m:∀ D σ H,t' D σ H->t D σ H):Cb X e t':=fun pins s σ H Q I q=>h pins s σ H Q I (m Q σ H q)
theorem JE.bor (h:JE c e g):JB c e g:=.of fun ρ=>rh (h ρ) fun σ H Q ⟨H0,Hs0,la,Hs,f,q⟩=>⟨H0,Hs0,la,Hs,f,by
 cases hr:g ρ with
 |ok d=>rw [hr] at q;exact fun v H' Hs' s r=>q v H' Hs' s (.inl r)
 |ex c n=>rw [hr] at q;exact q
 |no=>rw [hr] at q;exact q⟩
theorem one {K:a7}{cls:Str->ag}{E:XK}{ρ:az}{r:R D}{β:Type}{k:D->R β}{σ:St}{H:Hp}{H0 Hs0 Hs:Hp}{la:Nat->Option ag}{Q:V->Hp->Prop}{q:β->Prop} (f:Fr K H0 Hs0 la ρ σ H Hs)
  (h:Fin K cls E H Hs (r.bind k) q) (m:∀ d v H' Hs',r=.ok d->cE H Hs H' Hs'->Fr K H0 Hs0 la ρ σ H' Hs'->RB K H' Hs' v d->Q v H'):TB K cls E ρ r σ H Q:=by
 refine ⟨H0,Hs0,la,Hs,f,?_⟩;cases r with
 |ok d=>exact fun v H' Hs' s r=>m d v H' Hs' rfl s (f.step s) r
 |ex c n=>exact h
 |no=>exact h
theorem CK {K:a7}{cls:Str->ag}{E:XK}{ρ:az}{r:R D}{β:Type}{k:D->R β}{σ:St}{H:Hp}{H0 Hs0 Hs:Hp}{la:Nat->Option ag}{Q:V->Hp->Prop}{q:β->Prop} (f:Fr K H0 Hs0 la ρ σ H Hs)
  (h:Fin K cls E H Hs (r.bind k) q) (m:∀ d v H' Hs',r=.ok d->cE H Hs H' Hs'->Fr K H0 Hs0 la ρ σ H' Hs'->RD K Hs' v d->Q v H'):TR K cls E ρ r σ H Q:=by
 refine ⟨H0,Hs0,la,Hs,f,?_⟩;cases r with
 |ok d=>exact fun v H' Hs' s r=>m d v H' Hs' rfl s (f.step s) r
 |ex c n=>exact h
 |no=>exact h
theorem N9 {K:a7}{cls:Str->ag}{E:XK}{ρ:az}{r:R Bool}{β:Type}{k:Bool->R β}{σ:St}{H:Hp}{H0 Hs0 Hs:Hp}{la:Nat->Option ag}{Q:Bool->Hp->Prop}{q:β->Prop} (f:Fr K H0 Hs0 la ρ σ H Hs)
  (h:Fin K cls E H Hs (r.bind k) q) (m:∀ d H' Hs',r=.ok d->cE H Hs H' Hs'->Fr K H0 Hs0 la ρ σ H' Hs'->Q d H'):LW K cls E ρ r σ H Q:=by
 refine ⟨H0,Hs0,la,Hs,f,?_⟩;cases r with
 |ok d=>exact fun H' Hs' s=>m d H' Hs' rfl s (f.step s)
 |ex c n=>exact h
 |no=>exact h
theorem CL {K:a7}{cls:Str->ag}{E:XK}{ρ:az}{r:R (List D)}{β:Type}{k:List D->R β}{σ:St}{H:Hp}{H0 Hs0 Hs:Hp}{la:Nat->Option ag}{Q:List V->Hp->Prop}{q:β->Prop} (f:Fr K H0 Hs0 la ρ σ H Hs)
  (h:Fin K cls E H Hs (r.bind k) q) (m:∀ d v H' Hs',r=.ok d->cE H Hs H' Hs'->Fr K H0 Hs0 la ρ σ H' Hs'->RDs K Hs' v d->Q v H'):WB K cls E ρ r σ H Q:=by
 refine ⟨H0,Hs0,la,Hs,f,?_⟩;cases r with
 |ok d=>exact fun v H' Hs' s r=>m d v H' Hs' rfl s (f.step s) r
 |ex c n=>exact h
 |no=>exact h
theorem Na {K:a7}{cls:Str->ag}{E:XK}{ρ:az}{r:R (List D)}{β:Type}{k:List D->R β}{σ:St}{H:Hp}{H0 Hs0 Hs:Hp}{la:Nat->Option ag}{Q:List V->Hp->Prop}{q:β->Prop} (f:Fr K H0 Hs0 la ρ σ H Hs)
  (h:Fin K cls E H Hs (r.bind k) q) (m:∀ d v H' Hs',r=.ok d->cE H Hs H' Hs'->Fr K H0 Hs0 la ρ σ H' Hs'->S1 K H' Hs' v d->Q v H'):WC K cls E ρ r σ H Q:=by
 refine ⟨H0,Hs0,la,Hs,f,?_⟩;cases r with
 |ok d=>exact fun v H' Hs' s r=>m d v H' Hs' rfl s (f.step s) r
 |ex c n=>exact h
 |no=>exact h
theorem Fin.on {α:Type}{K:a7}{cls:Str->ag}{E:XK}{H Hs H' Hs':Hp}{r:R α}{q q':α->Prop} (h:Fin K cls E H Hs r q) (s:cE H Hs H' Hs') (m:∀ a,q a->q' a):Fin K cls E H' Hs' r q':=by
 cases r with
 |ok a=>exact m a h
 |ex c n=>exact fun H2 Hs2 s2=>h H2 Hs2 (s.trans s2)
 |no=>exact h
end
end
section
def Gc (ρ:az) (i:Nat):R D:=match ρ[i]? with
 |some (Sl.shr d)=>.ok d
 |_=>.no
def Eu (ρ:az) (i:Nat):R D:=match ρ[i]? with
 |some (Sl.shr d)=>.ok d
 |some (Sl.own d)=>.ok d
 |some (Sl.lck d)=>.ok d
 |_=>.no
section
variable {c:C}{e a b:bR}{g ga gb:az->R D}{pos:Pos}
theorem ai (i:Nat) (hN:c.X.N[i]?=some x:=by rfl) (hv:Pm c.X.env.scope x:=by first|exact i4 rfl|exact eU (i4 rfl)|exact eU (eU rfl)) (hd:(x==("__debug__" : Str))=false:=by decide)
  (hcd:(x==("__classdict__" : Str))=false:=by decide):JE c (.Name x pos) (fun ρ=>Gc ρ i):=.of fun ρ=>rh (mr hN hv hd hcd) fun σ H Q h_0=>by
 obtain ⟨H0,Hs0,la,Hs,f,q⟩:=h_0;cases hr:ρ[i]? with
 |none=>simp only [Gc,hr] at q;exact q.elim
 |some s =>
  cases s with
  |shr d =>
   obtain ⟨v,h1,h2⟩:=f.sh i d hr;simp only [Gc,hr] at q;exact ⟨v,h1,q v H Hs (.refl f.st.sub) h2⟩
  |no=>simp only [Gc,hr] at q;exact q.elim
  |own d=>simp only [Gc,hr] at q;exact q.elim
  |lck d=>simp only [Gc,hr] at q;exact q.elim
  |ow2 d=>simp only [Gc,hr] at q;exact q.elim
theorem af (i:Nat) (hN:c.X.N[i]?=some x:=by rfl) (hv:Pm c.X.env.scope x:=by first|exact i4 rfl|exact eU (i4 rfl)|exact eU (eU rfl)) (hd:(x==("__debug__" : Str))=false:=by decide)
  (hcd:(x==("__classdict__" : Str))=false:=by decide):JB c (.Name x pos) (fun ρ=>Eu ρ i):=.of fun ρ=>rh (mr hN hv hd hcd) fun σ H Q h_1=>by
 obtain ⟨H0,Hs0,la,Hs,f,q⟩:=h_1;cases hr:ρ[i]? with
 |none=>simp only [Eu,hr] at q;exact q.elim
 |some s =>
  cases s with
  |shr d =>
   obtain ⟨v,h1,h2⟩:=f.sh i d hr;simp only [Eu,hr] at q;exact ⟨v,h1,q v H Hs (.refl f.st.sub) (.inl h2)⟩
  |no=>simp only [Eu,hr] at q;exact q.elim
  |own d =>
   obtain ⟨a,o,h1,h2,h3,h4,h5⟩:=f.ow i d hr;simp only [Eu,hr] at q;exact ⟨_,h1,q _ H Hs (.refl f.st.sub) (.inr ⟨a,o,rfl,h2,h3,h5⟩)⟩
  |lck d =>
   obtain ⟨a,o,h1,h2,h3,h4,h5,h6⟩:=f.lk i d hr;simp only [Eu,hr] at q;exact ⟨_,h1,q _ H Hs (.refl f.st.sub) (.inr ⟨a,o,rfl,h3,h4,h6⟩)⟩
  |ow2 d=>simp only [Eu,hr] at q;exact q.elim
theorem rj  (h:PE c.X e (tC v)) (r:∀ Hs,RD c.X.K Hs v d):JE c e (fun _=>.ok d):=.of fun ρ=>rh h fun σ H Q h_2=>by obtain ⟨H0,Hs0,la,Hs,f,q⟩:=h_2;exact q v H Hs (.refl f.st.sub) (r Hs)
theorem av  : JE c (.Constant (.int i) j pos) (fun _=>.ok (.int i)):=rj yt fun _=>.int i
theorem mz  : JE c (.Constant (.bool i) j pos) (fun _=>.ok (.bool i)):=rj Mh fun _=>.bool i
theorem kL:JE c (.Constant .none j pos) (fun _=>.ok .none):=rj T5 fun _=>.none
theorem hV  : JE c (.Constant (.str i) j pos) (fun _=>.ok (.str i)):=rj GF fun _=>.str i
theorem rm  (hg:Gl c.X x) (hm:∃ t,c.X.mg x=some (.int i t)) (hd:(x==("__debug__" : Str))=false:=by decide):JE c (.Name x pos) (fun _=>.ok (.int i)):=by
 obtain ⟨t,hm⟩:=hm;exact rj (IC hg hm (v:=.int i) ⟨t,rfl⟩ hd) fun _=>.int i
inductive Ya (K:a7) (h:D->D->R D) (x:V) (y:V) (H:Hp) (Q:VK):Prop
 |mk (Hs dx dy:_) (h0:dD Hs H) (h1:RB K H Hs x dx) (h2:RB K H Hs y dy) (h3:∃ d,h dx dy=.ok d/\∀ v H' Hs',cE H Hs H' Hs'->RD K Hs' v d->Q v H'):Ya K h x y H Q
def rD (K:a7) (h:D->D->R D):R2:=Ya K h
def xB (X:Cx) (f:ae->ae->Sem ae) (h:D->D->R D):Prop:=oG X f (rD X.K h)/\∀ x y c n,h x y≠.ex c n
def g2 (ga gb:az->R D) (h:D->D->R D):az->R D:=fun ρ=>(ga ρ).bind fun x=>(gb ρ).bind fun y=>h x y
theorem two        (hx:∀ x y c n,h x y≠.ex c n) (q:TR K cls E ρ (g2 ga gb h ρ) σ H Q):UM (rD K h) (TB K cls E ρ (ga ρ)) (TB K cls E ρ (gb ρ)) σ H Q:=by
 obtain ⟨H0,Hs0,la,Hs,f,q⟩:=q;refine one f q fun x v H1 Hs1 e1 s1 f1 r1=>?_;unfold g2 at q;rw [e1,bind_ok] at q;refine one f1 (q.on s1 (q':=fun _=>True) fun _ _=>trivial) fun y u H2 Hs2 e2 s2 f2 r2=>?_;rw [e2,bind_ok] at q;cases hr:h x y with
 |ok d =>
  rw [hr] at q;exact ⟨Hs2,x,y,f2.st.sub,r1.step s2,r2,d,hr,fun w H3 Hs3 s3 r3=>q w H3 Hs3 (s1.trans (s2.trans s3)) r3⟩
 |ex c n=>exact (hx x y c n hr).elim
 |no=>rw [hr] at q;exact q.elim
theorem bM  (ho:xB c.X (eW op) h) (ha:JB c a ga) (hb:JB c b gb):JE c (.BinOp a op b pos) (g2 ga gb h):=.of fun ρ=>rh (IG ho.1 (ha ρ) (hb ρ)) fun σ H Q q=>two ho.2 q
theorem nZ  (ho:xB c.X (bO op) h) (ha:JB c a ga) (hb:JB c b gb) (hm:gY op b=false:=by first|exact GJ _|rfl):JE c (.Compare a [op] [b] pos) (g2 ga gb h):=.of fun ρ=>rh (Q6 ho.1 (ha ρ) (hb ρ) hm) fun σ H Q q=>two ho.2 q
def fZ (g:az->R D):az->R Bool:=fun ρ=>(g ρ).bind fun d=>match d with
 |.bool b=>.ok b
 |_=>.no
theorem Vh       (q:LW K cls E ρ (fZ g ρ) σ H Q):TR K cls E ρ (g ρ) σ H fun x H'=>∃ k,x=.bl k/\Q k H':=by
 obtain ⟨H0,Hs0,la,Hs,f,q⟩:=q;refine CK f q fun d v H1 Hs1 e1 s1 f1 r1=>?_;unfold fZ at q;rw [e1,bind_ok] at q;cases r1 with
 |bool b=>exact ⟨b,rfl,q H1 Hs1 s1⟩
 |_=>exact q.elim
theorem dg  (ho:xB c.X (bO op) h) (ha:JB c a ga) (hb:JB c b gb) (hm:gY op b=false:=by first|exact GJ _|rfl):JT c (.Compare a [op] [b] pos) (fZ (g2 ga gb h)):=.of fun ρ=>WD (IH ho.1 (ha ρ) (hb ρ) hm) fun σ H Q q=>two ho.2 (Vh q)
theorem gL (h:JE c e g) (he:∀ whole,C0 e c.X.env whole=(do let v <- whole;G3 e.pos;holding [v] (truthy v)):=by intro _;rfl):JT c e (fZ g):=.of fun ρ=>WD (Mj (h ρ) he) fun σ H Q q=>Vh q
def le (g:az->R Bool):az->R Bool:=fun ρ=>(g ρ).bind fun b=>.ok (!b)
def CM (g h:az->R Bool):az->R Bool:=fun ρ=>(g ρ).bind fun b=>if b then h ρ else .ok false
def IT (g h:az->R Bool):az->R Bool:=fun ρ=>(g ρ).bind fun b=>if b then .ok true else h ρ
variable {gt gu:az->R Bool}{bK:List bR}
theorem gT (h:JT c e gt):JT c (.UnaryOp .Not e pos) (le gt):=.of fun ρ=>WD (Ml (h ρ)) fun σ H Q q=>by
 obtain ⟨H0,Hs0,la,Hs,f,q⟩:=q;refine N9 f q fun d H1 Hs1 e1 s1 f1=>?_;unfold le at q;rw [e1,bind_ok] at q;exact q H1 Hs1 s1
theorem xT (h:JT c a gt):JW c (.BoolOp .And [a] pos) gt:=.of fun ρ=>PY (h ρ)
theorem n_ (h:JT c a gt):JW c (.BoolOp .Or [a] pos) gt:=.of fun ρ=>Mk (h ρ)
theorem CN (h:JT c a gt) (h2:JW c (.BoolOp .And (b::bK) pos) gu):JW c (.BoolOp .And (a::b::bK) pos) (CM gt gu):=.of fun ρ=>Y9 (T6 (h ρ) (h2 ρ)) fun σ H Q q=>by
 obtain ⟨H0,Hs0,la,Hs,f,q⟩:=q;refine N9 f q fun d H1 Hs1 e1 s1 f1=>?_;unfold CM at q;rw [e1,bind_ok] at q;cases d with
 |true=>exact GR ⟨H0,Hs0,la,Hs1,f1,q.on s1 fun b k H2 Hs2 s2=>k H2 Hs2 (s1.trans s2)⟩
 |false=>exact Cm (q H1 Hs1 s1)
theorem tJ (h:JT c a gt) (h2:JW c (.BoolOp .Or (b::bK) pos) gu):JW c (.BoolOp .Or (a::b::bK) pos) (IT gt gu):=.of fun ρ=>Y9 (RJ (h ρ) (h2 ρ)) fun σ H Q q=>by
 obtain ⟨H0,Hs0,la,Hs,f,q⟩:=q;refine N9 f q fun d H1 Hs1 e1 s1 f1=>?_;unfold IT at q;rw [e1,bind_ok] at q;cases d with
 |false=>exact Cm ⟨H0,Hs0,la,Hs1,f1,q.on s1 fun b k H2 Hs2 s2=>k H2 Hs2 (s1.trans s2)⟩
 |true=>exact GR (q H1 Hs1 s1)
theorem JW.t (h:JW c e gt):JT c e gt:=.of fun ρ=>(h ρ).pt
def Ev (g:az->R D):az->R D:=fun ρ=>(fZ g ρ).bind fun b=>.ok (.bool (!b))
theorem Nb (h:JE c e g):JE c (.UnaryOp .Not e pos) (Ev g):=.of fun ρ=>rh (T9 (h ρ)) fun σ H Q q=>by
 refine Vh ?_;obtain ⟨H0,Hs0,la,Hs,f,q⟩:=q;refine N9 f q fun d H1 Hs1 e1 s1 f1=>?_;unfold Ev at q;rw [e1,bind_ok] at q;exact q _ H1 Hs1 s1 (.bool _)
def yP (g h:az->R D):az->R D:=fun ρ=>(fZ g ρ).bind fun b=>if b then h ρ else .ok (.bool false)
theorem CO (h:JE c a g):JE c (.BoolOp op [a] pos) g:=.of fun ρ=>T7 (h ρ)
theorem CQ (h:JE c a ga) (h2:JE c (.BoolOp .And (b::bK) pos) gb):JE c (.BoolOp .And (a::b::bK) pos) (yP ga gb):=.of fun ρ=>rh (T8 (h ρ) (h2 ρ)) fun σ H Q q=>by
 refine Vh ?_;obtain ⟨H0,Hs0,la,Hs,f,q⟩:=q;refine N9 f q fun d H1 Hs1 e1 s1 f1=>?_;unfold yP at q;rw [e1,bind_ok] at q;cases d with
 |true=>exact GR ⟨H0,Hs0,la,Hs1,f1,q.on s1 fun b k v H2 Hs2 s2 r2=>k v H2 Hs2 (s1.trans s2) r2⟩
 |false=>exact Cm (q _ H1 Hs1 s1 (.bool _))
def rn (ga gb gc:az->R D) (h h':D->D->R D):az->R D:=fun ρ=>(ga ρ).bind fun x=>(gb ρ).bind fun y=>(h x y).bind fun z=>match z with
 |.bool true=>(gc ρ).bind fun w=>h' y w
 |.bool false=>.ok (.bool false)
 |_=>.no
def a9 (g:az->R D) (gs:az->R (List D)):az->R (List D):=fun ρ=>(g ρ).bind fun d=>(gs ρ).bind fun ds=>.ok (d::ds)
def aC:az->R (List D):=fun _=>.ok []
theorem aw:Et c [] aC:=.of fun ρ=>WE el fun σ H Q h_3=>by obtain ⟨H0,Hs0,la,Hs,f,q⟩:=h_3;exact q [] H Hs (.refl f.st.sub) .nil
theorem bN:S2 c [] aC:=.of fun ρ=>WE el fun σ H Q h_4=>by obtain ⟨H0,Hs0,la,Hs,f,q⟩:=h_4;exact q [] H Hs (.refl f.st.sub) .nil
theorem a8 (h:JE c e g) (hr:Et c es gs) (hs:aA (e::es) c.X.env=(false,cL e c.X.env)::aA es c.X.env:=by rfl):Et c (e::es) (a9 g gs):=.of fun ρ=>WE (bX (h ρ) (hr ρ) hs) fun σ H Q h_5=>by
 obtain ⟨H0,Hs0,la,Hs,f,q⟩:=h_5;refine CK f q fun d v H1 Hs1 e1 s1 f1 r1=>?_;unfold a9 at q;rw [e1,bind_ok] at q;refine CL f1 (q.on s1 (q':=fun _=>True) fun _ _=>trivial) fun ds vs H2 Hs2 e2 s2 f2 r2=>?_;rw [e2,bind_ok] at q;exact q _ H2 Hs2 (s1.trans s2) (.cons (r1.same s2.sh) r2)
theorem bj (h:JB c e g) (hr:S2 c es gs) (hs:aA (e::es) c.X.env=(false,cL e c.X.env)::aA es c.X.env:=by rfl):S2 c (e::es) (a9 g gs):=.of fun ρ=>WE (bX (h ρ) (hr ρ) hs) fun σ H Q h_6=>by
 obtain ⟨H0,Hs0,la,Hs,f,q⟩:=h_6;refine one f q fun d v H1 Hs1 e1 s1 f1 r1=>?_;unfold a9 at q;rw [e1,bind_ok] at q;refine Na f1 (q.on s1 (q':=fun _=>True) fun _ _=>trivial) fun ds vs H2 Hs2 e2 s2 f2 r2=>?_;rw [e2,bind_ok] at q;exact q _ H2 Hs2 (s1.trans s2) (.cons (r1.step s2) r2)
def cP (gs:az->R (List D)) (k:List D->D):az->R D:=fun ρ=>(gs ρ).bind fun ds=>if ds.length<=1000 then .ok (k ds) else .no
theorem ft {x1} (h:Et c es gs):JE c (.Tuple es x1 pos) (cP gs .tuple):=.of fun ρ=>rh (GM (h ρ)) fun σ H Q h_7=>by
 obtain ⟨H0,Hs0,la,Hs,f,q⟩:=h_7;refine CL f q fun ds vs H1 Hs1 e1 s1 f1 r1=>?_;unfold cP at q;rw [e1,bind_ok] at q;by_cases hl:ds.length<=1000
 ·rw [if_pos hl] at q;refine ⟨b9 (c8 (by rw [r1.length];exact hl)),fun p hp=>q _ _ _ (s1.trans (.new f1.st.sub hp)) (.tuple aR (r1.same (cE.new f1.st.sub hp).sh))⟩
 ·rw [if_neg hl] at q;exact q.elim
theorem gx (h:Et c es gs):JE c (.List es pos) (cP gs .list):=.of fun ρ=>rh (ms (h ρ)) fun σ H Q h_8=>by
 obtain ⟨H0,Hs0,la,Hs,f,q⟩:=h_8;refine CL f q fun ds vs H1 Hs1 e1 s1 f1 r1=>?_;unfold cP at q;rw [e1,bind_ok] at q;by_cases hl:ds.length<=1000
 ·rw [if_pos hl] at q;refine ⟨b9 (c8 (by rw [r1.length];exact hl)),fun p hp=>q _ _ _ (s1.trans (.new f1.st.sub hp)) (.list (.of aR) (r1.same (cE.new f1.st.sub hp).sh))⟩
 ·rw [if_neg hl] at q;exact q.elim
end
end
end J
namespace J
open PySem PySem.Spec PyProof.Rows L2
section
section
def dB:D->D->R D
 |.int i,.int j=>.ok (.int (i+j))
 |.str x,.str y=>if x.length+y.length<=1000 then .ok (.str (x++y)) else .no
 |.tuple xs,.tuple ys=>if xs.length+ys.length<=1000 then .ok (.tuple (xs++ys)) else .no
 |.list xs,.list ys=>if xs.length+ys.length<=1000 then .ok (.list (xs++ys)) else .no
 |_,_=>.no
inductive Nc (K:a7) (x:V) (y:V) (H:Hp) (Q:VK):Prop
 |mk (l b xs zs:_) (h0:x=.ref l) (h1:y=.ref b) (h2:mV K H l xs) (h3:mV K H b zs) (h4:xs.length+zs.length<=sizeLine) (h5:∀ p,H p=none->Q (.ref p) (upd H p (.lst (xs++zs)))):Nc K x y H Q
def Vi (K:a7):R2:=Nc K
theorem Qz:oG X (eW .Add) (Vi X.K):=by
 intro pins s σ H x y v u Q I rx ry h;obtain ⟨l,b,xs,zs,rfl,rfl,h1,h2,hz,q⟩:=h;cases rx;cases ry;obtain ⟨its,r,⟨o,n,e,c1,c2,c3⟩,z⟩:=I.list h1;obtain ⟨its2,r2,⟨o2,n2,e2,d1,d2,d3⟩,z2⟩:=I.list h2;obtain ⟨k1,k2,k3,k4⟩:=o;obtain ⟨m1,m2,m3,m4⟩:=o2;simp only at c1 c2 c3 d1 d2 d3;subst c1 c2 c3 d1 d2 d3;refine Ad ⟨_,e,rfl⟩ ⟨_,e2,rfl⟩ noFill_list_add seq_list_add PySem.F.slot_list_add PySem.F.entry_list_add (PySem.F.args_list_add_2 _ _) (PyProof.Rows.list_addW l b _ _ n n2 _ _ k4 m4 (by rw [aG,aG,<- r.length,<- r2.length];exact hz)) ⟨e,e2,?_⟩;have ea:its.toArray++its2.toArray=(its++its2).toArray:=by simp
 rw [ea];exact ⟨.ref _,_,I.lnew (t':=s.toks) (r.append r2) (by rw [aJ];omega),rfl,q _ I.fresh⟩
inductive Nd (K:a7) (x:V) (y:V) (H:Hp) (Q:VK):Prop
 |mk (a b ys:_) (h0:x=.ref a) (h1:y=.ref b) (h2:lz K H a []) (h3:lz K H b ys) (h4:Q (.ref b) H):Nd K x y H Q
def Vj (K:a7):R2:=Nd K
theorem QA:oG X (eW .Add) (Vj X.K):=by
 intro pins s σ H x y v u Q I rx ry h;obtain ⟨a,b,ys,rfl,rfl,h1,h2,q⟩:=h;cases rx;cases ry;obtain ⟨its,r,⟨⟨k1,k2,k3,k4⟩,e,c1,n,c3⟩,z⟩:=I.tuple h1;obtain ⟨its2,r2,⟨⟨m1,m2,m3,m4⟩,e2,d1,n2,d3⟩,z2⟩:=I.tuple h2;simp only at c1 c3 d1 d3;subst c1 c3 d1 d3;cases r;exact Ad ⟨_,e,rfl⟩ ⟨_,e2,rfl⟩ C2 K5 pz oB (nN _ _)
  (PyProof.Rows.tuple_addW0 a b _ _ n n2 _ _ k4 m4 rfl) ⟨e,e2,⟨.ref b,H,I,rfl,q⟩⟩
theorem cu:xB X (eW .Add) dB:=by
 refine ⟨fun pins s σ H x y v u Q I rv ru ⟨Hs,dx,dy,sub,rx,ry,d,hd,q⟩=>?_,fun x y c n=>?_⟩
 ·unfold dB at hd;split at hd
  ·cases hd;exact Tg pins s σ H x y v u Q I rv ru ⟨_,_,rx.int,ry.int,q _ H Hs (.refl sub) (.int _)⟩
  ·split at hd
   ·rename_i hz
    cases hd;exact GL pins s σ H x y v u Q I rv ru ⟨_,_,rx.str,ry.str,b9 (c8 hz),q _ H Hs (.refl sub) (.str _)⟩
   ·cases hd
  ·split at hd
   ·rename_i xs ys hz
    cases hd;obtain ⟨a,vs,rfl,qa,ra,_⟩:=rx.tuple sub;obtain ⟨b,ws,rfl,qb,rb,_⟩:=ry.tuple sub;have hz':vs.length+ws.length<=sizeLine:=by rw [ra.length,rb.length];exact b9 (c8 hz)
    have big:∀ p,H p=none->Q (.ref p) (upd H p (.tup (vs++ws))):=fun p hp=>q _ _ _ (.new sub hp) (.tuple aR ((ra.append rb).same (cE.new sub hp).sh));cases vs with
    |nil =>
     cases ra;refine QA pins s σ H _ _ v u Q I rv ru ⟨a,b,ws,rfl,rfl,qa,qb,?_⟩;rcases ry with ry|⟨_,_,_,_,_,ow⟩
     ·exact q _ H Hs (.refl sub) (by simpa using ry)
     ·cases ow
    |cons v0 vr =>
     refine Qe pins s σ H _ _ v u Q I rv ru ⟨a,b,_,ws,rfl,rfl,qa,qb,by simp,hz',fun e=>?_,fun _=>big⟩;subst e;cases rb;rcases rx with rx|⟨_,_,_,_,_,ow⟩
     ·exact q _ H Hs (.refl sub) (by simpa using rx)
     ·cases ow
   ·cases hd
  ·split at hd
   ·rename_i xs ys hz
    cases hd;obtain ⟨a,vs,rfl,qa,ra⟩:=rx.list sub;obtain ⟨b,ws,rfl,qb,rb⟩:=ry.list sub;have hz':vs.length+ws.length<=sizeLine:=by rw [ra.length,rb.length];exact b9 (c8 hz)
    exact Qz pins s σ H _ _ v u Q I rv ru ⟨a,b,vs,ws,rfl,rfl,qa,qb,hz',fun p hp=>q _ _ _ (.new sub hp) (.list (.of aR) ((ra.append rb).same (cE.new sub hp).sh))⟩
   ·cases hd
  ·cases hd
 ·unfold dB;split<;>(try split)<;>exact fun h=>by cases h
def Ew (C:Int->Int->Bool) (k:Int->Int->D):D->D->R D
 |.int i,.int j=>if C i j then .ok (k i j) else .no
 |_,_=>.no
theorem CS {f:ae->ae->Sem ae}{C:Int->Int->Bool}{P:Int->Int->Prop}{k:Int->Int->D}{kv:Int->Int->V} (h:oG X f (rI P kv)) (hC:∀ i j,C i j=true->P i j) (hk:∀ Hs i j,RD X.K Hs (kv i j) (k i j)):xB X f (Ew C k):=by
 refine ⟨fun pins s σ H x y v u Q I rv ru ⟨Hs,dx,dy,sub,rx,ry,d,hd,q⟩=>?_,fun x y c n=>?_⟩
 ·unfold Ew at hd;split at hd
  ·split at hd
   ·rename_i hc
    cases hd;exact h pins s σ H x y v u Q I rv ru ⟨_,_,rx.int,ry.int,hC _ _ hc,q _ H Hs (.refl sub) (hk _ _ _)⟩
   ·cases hd
  ·cases hd
 ·unfold Ew;split<;>(try split)<;>exact fun h=>by cases h
def Bl (i j:Int):Bool:=(decide (-(2 ^ 64)<i)&&decide (i<2 ^ 64))||(decide (-(2 ^ 64)<j)&&decide (j<2 ^ 64))
theorem Vk  (h:oG X f (Q0 g)):oG X f (rI (fun _ _=>True) g):=fun pins s σ H x y v u Q I rv ru h_0=>by obtain ⟨i,j,a,b,_,q⟩:=h_0;exact h pins s σ H x y v u Q I rv ru ⟨i,j,a,b,q⟩
def TQ:=Ew (fun _ _=>true) fun i j=>.int (i-j)
def xC:=Ew Bl fun i j=>.int (i*j)
def KJ:=Ew (fun _ j=>decide (0<j)) fun i j=>.int (i % j)
def Nf:=Ew (fun _ j=>decide (0<j)&&decide (j<1073741824)) fun i j=>.int (i / j)
theorem TU:xB X (eW .Sub) TQ:=CS (Vk Th) (fun _ _ _=>trivial) fun _ _ _=>.int _
theorem ro:xB X (eW .Mult) xC:=CS Ti (fun i j h=>by
 unfold Bl at h;simp only [jL,aP,decide_eq_true_eq] at h;exact h) fun _ _ _=>.int _
theorem CT:xB X (eW .Mod) KJ:=CS Tj (fun i j h=>of_decide_eq_true h) fun _ _ _=>.int _
theorem QB:xB X (eW .FloorDiv) Nf:=CS Q1 (fun i j h=>by
 simp only [aP,decide_eq_true_eq] at h;exact h) fun _ _ _=>.int _
def ko (neg:Bool) (x y:D):R D:=if x.canLay0&&y.canLay0&&decide (min x.depth y.depth<=60) then .ok (.bool (if neg then !bB x y else bB x y)) else .no
mutual
theorem CU:∀ d:D,d.canLay0=true->pp d=true
 |.none,_=>rfl
 |.bool _,_=>rfl
 |.int _,_=>rfl
 |.str _,_=>rfl
 |.list xs,h=>by
  simp only [db] at h;simp only [pp];exact lays_noD xs h
 |.tuple xs,h=>by
  simp only [db] at h;simp only [pp];exact lays_noD xs h
 |.dict _,h=>by simp [db] at h
theorem lays_noD:∀ d:List D,bH d=true->noDs d=true
 |[],_=>rfl
 |x::r,h=>by
  simp only [bH,aP] at h;simp only [noDs,aP];exact ⟨CU x h.1,lays_noD r h.2⟩
end
theorem Ng  (h:oG X f (TF X.K neg)):xB X f (ko neg):=by
 refine ⟨fun pins s σ H x y v u Q I rv ru ⟨Hs,dx,dy,sub,rx,ry,d,hd,q⟩=>?_,fun x y c n=>?_⟩
 ·unfold ko at hd;split at hd
  ·rename_i hc
   simp only [aP,decide_eq_true_eq] at hc;cases hd;exact h pins s σ H x y v u Q I rv ru ⟨dx,dy,(rx.full sub).rep (CU _ hc.1.1),(ry.full sub).rep (CU _ hc.1.2),hc.1.1,hc.1.2,hc.2,q _ H Hs (.refl sub) (.bool _)⟩
  ·cases hd
 ·unfold ko;split<;>exact fun h=>by cases h
theorem rq (hu:X.A.units+64<sU):xB X (bO .Eq) (ko false):=Ng (TH hu)
theorem rA (hu:X.A.units+64<sU):xB X (bO .NotEq) (ko true):=Ng (TJ hu)
def KL (k:Int->Int->Bool) (t:Str->Str->Bool):D->D->R D
 |.int i,.int j=>.ok (.bool (k i j))
 |.str x,.str y=>.ok (.bool (t x y))
 |_,_=>.no
theorem Nh   (h1:oG X f (Q0 fun i j=>.bl (k i j))) (h2:oG X f (fun x y H Q=>∃ i j,x=.str i/\y=.str j/\Q (.bl (t i j)) H)):xB X f (KL k t):=by
 refine ⟨fun pins s σ H x y v u Q I rv ru ⟨Hs,dx,dy,sub,rx,ry,d,hd,q⟩=>?_,fun x y c n=>?_⟩
 ·unfold KL at hd;split at hd
  ·cases hd;exact h1 pins s σ H x y v u Q I rv ru ⟨_,_,rx.int,ry.int,q _ H Hs (.refl sub) (.bool _)⟩
  ·cases hd;exact h2 pins s σ H x y v u Q I rv ru ⟨_,_,rx.str,ry.str,q _ H Hs (.refl sub) (.bool _)⟩
  ·cases hd
 ·unfold KL;split<;>exact fun h=>by cases h
def Hc:=KL (fun i j=>decide (i<j)) lS
def QC:=KL (fun i j=>decide (i<=j)) fun x y=>!lS y x
def S3:D->D->R D
 |.int i,.int j=>.ok (.bool (decide (j<i)))
 |_,_=>.no
theorem Bm:xB X (bO .Lt) Hc:=Nh UQ Kn
theorem yQ:xB X (bO .LtE) QC:=Nh UR KA
theorem IU:xB X (bO .Gt) S3:=by
 refine ⟨fun pins s σ H x y v u Q I rv ru ⟨Hs,dx,dy,sub,rx,ry,d,hd,q⟩=>?_,fun x y c n=>?_⟩
 ·unfold S3 at hd;split at hd
  ·cases hd;exact US pins s σ H x y v u Q I rv ru ⟨_,_,rx.int,ry.int,q _ H Hs (.refl sub) (.bool _)⟩
  ·cases hd
 ·unfold S3;split<;>exact fun h=>by cases h
def He:D->Bool
 |.none=>true
 |_=>false
def Bo (neg:Bool):D->D->R D
 |x,.none=>.ok (.bool (if neg then !He x else He x))
 |_,_=>.no
theorem IV {K:a7}{H Hs:Hp}{v:V}{d:D} (h:RB K H Hs v d):decide (v=.non)=He d:=by
 rcases h with h|⟨a,o,rfl,_,_,h⟩
 ·cases h<;>rfl
 ·cases h<;>rfl
theorem Vl:xB X (bO .Is) (Bo false):=by
 refine ⟨fun pins s σ H x y v u Q I rv ru ⟨Hs,dx,dy,sub,rx,ry,d,hd,q⟩=>?_,fun x y c n=>?_⟩
 ·unfold Bo at hd;split at hd
  ·cases hd;exact Tl pins s σ H x y v u Q I rv ru ⟨ry.non,by rw [IV rx];exact q _ H Hs (.refl sub) (.bool _)⟩
  ·cases hd
 ·unfold Bo;split<;>exact fun h=>by cases h
theorem Ex:xB X (bO .IsNot) (Bo true):=by
 refine ⟨fun pins s σ H x y v u Q I rv ru ⟨Hs,dx,dy,sub,rx,ry,d,hd,q⟩=>?_,fun x y c n=>?_⟩
 ·unfold Bo at hd;split at hd
  ·cases hd;exact Q5 pins s σ H x y v u Q I rv ru ⟨ry.non,by rw [IV rx];exact q _ H Hs (.refl sub) (.bool _)⟩
  ·cases hd
 ·unfold Bo;split<;>exact fun h=>by cases h
def lR:D->Bool
 |.none=>true
 |.bool _=>true
 |.int _=>true
 |.str _=>true
 |_=>false
def Ey (neg:Bool):D->D->R D
 |x,.list ys=>if lR x&&ys.all lR then .ok (.bool (if neg then !(ys.any fun y=>bB y x) else ys.any fun y=>bB y x)) else .no
 |x,.tuple ys=>if lR x&&ys.all lR then .ok (.bool (if neg then !(ys.any fun y=>bB y x) else ys.any fun y=>bB y x)) else .no
 |_,_=>.no
theorem IW {K:a7}{H:Hp}{v:V}{d:D} (h:RD K H v d) (f:lR d=true):qY v=true:=by
 cases h<;>first|rfl|cases f
theorem Ez {K:a7}{H Hs:Hp}{v:V}{d:D} (h:RB K H Hs v d) (f:lR d=true):qY v=true:=by
 rcases h with h|⟨a,o,rfl,_,_,h⟩
 ·exact IW h f
 ·cases h<;>cases f
theorem EA {K:a7}{H:Hp}{vs:List V}:∀ {ds:List D},RDs K H vs ds->ds.all lR=true->vs.all qY=true:=by
 induction vs with
 |nil=>intro ds _ _;rfl
 |cons x r ih =>
  intro ds h f;cases h with
  |cons h t =>
   rw [uQ,aP] at f ⊢;exact ⟨IW h f.1,ih t f.2⟩
theorem TV {K:a7}{H H2 Hs:Hp}{v u:V}{d e:D} (h:RD K H v d) (h2:RB K H2 Hs u e) (f:lR d=true) (f2:lR e=true):Qg v u=bB d e:=by
 have h2':RD K Hs u e:=by
  rcases h2 with h2|⟨a,o,rfl,_,_,h2⟩
  ·exact h2
  ·cases h2<;>cases f2
 cases h with
 |list _ _=>cases f
 |tuple _ _=>cases f
 |dictK _ _=>cases f
 |dictT _ _ _=>cases f
 |dictF _ _ _=>cases f
 |none=>cases h2'<;>first|rfl|cases f2
 |bool b=>cases h2'<;>first|rfl|cases f2
 |int i=>cases h2'<;>first|rfl|cases f2
 |str x=>cases h2'<;>first|rfl|cases f2
theorem Hf {K:a7}{H H2 Hs:Hp}{u:V}{e:D} (h2:RB K H2 Hs u e) (f2:lR e=true):∀ {vs:List V}{ds:List D},RDs K H vs ds->ds.all lR=true->Wu u vs=ds.any fun y=>bB y e
 |_,_,.nil,_=>rfl
 |_,_,.cons h t,f=>by
  rw [uQ,aP] at f;have:=Hf h2 f2 t f.2;unfold Wu at this ⊢;rw [fN,fN,this,TV h h2 f.1 f2]
theorem Ni  (h:oG X f (Xc X.K neg)):xB X f (Ey neg):=by
 refine ⟨fun pins s σ H x y v u Q I rv ru ⟨Hs,dx,dy,sub,rx,ry,d,hd,q⟩=>?_,fun x y c n=>?_⟩
 ·unfold Ey at hd;split at hd
  ·split at hd
   ·rename_i hc
    simp only [aP] at hc;cases hd;obtain ⟨b,ws,rfl,qb,rb⟩:=ry.list sub;refine h pins s σ H _ _ v u Q I rv ru ⟨b,ws,rfl,.inl qb,Ez rx hc.1,EA rb hc.2,?_⟩;rw [Hf rx hc.1 rb hc.2];exact q _ H Hs (.refl sub) (.bool _)
   ·cases hd
  ·split at hd
   ·rename_i hc
    simp only [aP] at hc;cases hd;obtain ⟨b,ws,rfl,qb,rb,_⟩:=ry.tuple sub;refine h pins s σ H _ _ v u Q I rv ru ⟨b,ws,rfl,.inr qb,Ez rx hc.1,EA rb hc.2,?_⟩;rw [Hf rx hc.1 rb hc.2];exact q _ H Hs (.refl sub) (.bool _)
   ·cases hd
  ·cases hd
 ·unfold Ey;split<;>(try split)<;>exact fun h=>by cases h
theorem EB:xB X (bO .In) (Ey false):=Ni Kq
theorem yR:xB X (bO .NotIn) (Ey true):=Ni Cj
end
end
end J
namespace J
open PySem L2
section
section
variable {c:C}{e a b:bR}{g ga gb:az->R D}{pos:Pos}
def CV:D->D->R D
 |.list xs,.int i=>match DP xs i with
  |some d=>.ok d
  |none=>.no
 |.tuple xs,.int i=>match DP xs i with
  |some d=>.ok d
  |none=>.no
 |.str x,.int i=>if x.length<=1000 then (match DP x.cps.toList i with
  |some k=>.ok (.str ⟨#[k]⟩)
  |none=>.no) else .no
 |_,_=>.no
theorem IX    (h:RDs K H vs ds)  (e:DP ds i=some d):∃ v,DP vs i=some v/\RD K H v d:=by
 unfold DP at e ⊢;rw [h.length];cases hx:RP ds.length i with
 |none=>rw [hx] at e;cases e
 |some j =>
  rw [hx] at e;exact h.get' e
theorem Xq:UY X (rD X.K CV):=by
 intro va sl pins s σ H x y v u Q I rv ru h;obtain ⟨Hs,dx,dy,sub,rx,ry,d,hd,q⟩:=h;unfold CV at hd;split at hd
 ·split at hd
  ·rename_i d' he
   cases hd;obtain ⟨p,vs,rfl,qa,ra⟩:=rx.list sub;obtain ⟨w,hw,rw'⟩:=IX ra he;exact pE va sl pins s σ H _ _ v u Q I rv ru ⟨p,vs,_,w,rfl,ry.int,qa,hw,q _ H Hs (.refl sub) rw'⟩
  ·cases hd
 ·split at hd
  ·rename_i d' he
   cases hd;obtain ⟨p,vs,rfl,qa,ra,_⟩:=rx.tuple sub;obtain ⟨w,hw,rw'⟩:=IX ra he;exact Tr va sl pins s σ H _ _ v u Q I rv ru ⟨p,vs,_,w,rfl,ry.int,qa,hw,q _ H Hs (.refl sub) rw'⟩
  ·cases hd
 ·split at hd
  ·rename_i hz
   split at hd
   ·rename_i k he
    cases hd;exact Tt va sl pins s σ H _ _ v u Q I rv ru ⟨_,_,k,rx.str,ry.int,b9 (c8 hz),he,q _ H Hs (.refl sub) (.str _)⟩
   ·cases hd
  ·cases hd
 ·cases hd
theorem TW (x y:D) (c:Str) (n:Option D):CV x y≠.ex c n:=by
 unfold CV;split<;>(try split)<;>(try split)<;>exact fun h=>by cases h
theorem Vm (ha:JB c a ga) (hb:JB c b gb) (hs:xQ b:=by exact fun _ _=>rfl):JE c (.Subscript a b pos) (g2 ga gb CV):=.of fun ρ=>rh (RQ Xq (ha ρ) (hb ρ) hs) fun σ H Q q=>two TW q
def oM (ds:List D) (lo hi:Option Int):List D:=(ds.drop (HT.j3 ds.length 0 lo)).take (HT.j3 ds.length ds.length hi-HT.j3 ds.length 0 lo)
theorem CW    (h:RDs K H vs ds) (lo hi:Option Int):RDs K H (xw vs lo hi) (oM ds lo hi):=by
 unfold xw oM;rw [h.length];exact (h.drop _).take _
def xU:D->Option Int->Option Int->R D
 |.list xs,lo,hi=>.ok (.list (oM xs lo hi))
 |.tuple xs,lo,hi=>.ok (.tuple (oM xs lo hi))
 |_,_,_=>.no
inductive S4 (K:a7) (x:V) (lo:Option Int) (hi:Option Int) (H:Hp) (Q:VK):Prop
 |mk (Hs dx:_) (h0:dD Hs H) (h1:RB K H Hs x dx) (h2:∃ d,xU dx lo hi=.ok d/\∀ v H' Hs',cE H Hs H' Hs'->RD K Hs' v d->Q v H'):S4 K x lo hi H Q
def Xr (K:a7):V->Option Int->Option Int->Hp->VK->Prop:=S4 K
theorem Xs {X:Cx}:UW X (Xr X.K):=by
 intro pins s σ H x v vl vu lo hi sl Q I rx hs pl pu h;obtain ⟨Hs,dx,sub,rb,d,hd,q⟩:=h;unfold xU at hd;split at hd
 ·cases hd;obtain ⟨p,vs,rfl,qa,ra⟩:=rb.list sub;exact IJ pins s σ H _ v vl vu lo hi sl Q I rx hs pl pu ⟨p,vs,rfl,qa,fun l hl=>q _ _ _ (.new sub hl) (.list (.of aR) ((CW ra lo hi).same (cE.new sub hl).sh))⟩
 ·cases hd;obtain ⟨p,vs,rfl,qa,ra,_⟩:=rb.tuple sub;by_cases hw:HT.j3 vs.length 0 lo=0/\HT.j3 vs.length vs.length hi=vs.length
  ·refine Qw pins s σ H _ v vl vu lo hi sl Q I rx hs pl pu ⟨p,vs,rfl,qa,hw,?_⟩;rcases rb with rb|⟨_,_,_,_,_,ow⟩
   ·refine q _ H Hs (.refl sub) ?_;unfold oM;rw [<- ra.length,hw.1,hw.2,ra.length];simpa using rb
   ·cases ow
  ·exact Tq pins s σ H _ v vl vu lo hi sl Q I rx hs pl pu ⟨p,vs,rfl,qa,hw,fun l hl=>q _ _ _ (.new sub hl) (.tuple aR ((CW ra lo hi).same (cE.new sub hl).sh))⟩
 ·cases hd
inductive Vn (K:a7) (cls:Str->ag) (E:XK) (ρ:az) (r:R (Option Int)) (σ:St) (H:Hp) (Q:Option Int->Hp->Prop):Prop
 |mk (H0 Hs0:Hp) (la:Nat->Option ag) (Hs:Hp) (f:Fr K H0 Hs0 la ρ σ H Hs) (q:Fin K cls E H Hs r fun d=>∀ H' Hs',cE H Hs H' Hs'->Q d H'):Vn K cls E ρ r σ H Q
def Xt (K:a7) (cls:Str->ag) (E:XK) (ρ:az) (r:R (Option Int)):TO:=Vn K cls E ρ r
structure JO (c:C) (e:Option bR) (g:az->R (Option Int)):Prop where of ::
 run:∀ ρ,PO c.X e (Xt c.X.K c.cls c.E ρ (g ρ))
instance {c:C}{e:Option bR}{g:az->R (Option Int)}:CoeFun (JO c e g) (fun _=>∀ ρ,PO c.X e (Xt c.X.K c.cls c.E ρ (g ρ))):=⟨JO.run⟩
theorem Yb {X:Cx}{e:Option bR}{t t':TO} (h:PO X e t) (m:∀ σ H Q,t' σ H Q->t σ H Q):PO X e t':=fun pins s σ H Q I q=>h pins s σ H Q I (m σ H Q q)
def KM:az->R (Option Int):=fun _=>.ok none
def Gd (g:az->R D):az->R (Option Int):=fun ρ=>(g ρ).bind fun d=>match d with
 |.int i=>.ok (some i)
 |_=>.no
theorem lV:JO c none KM:=.of fun ρ=>Yb Qc fun σ H Q h_0=>by obtain ⟨H0,Hs0,la,Hs,f,q⟩:=h_0;exact q H Hs (.refl f.st.sub)
theorem jW (h:JE c e g):JO c (some e) (Gd g):=.of fun ρ=>Yb (Qd (h ρ)) fun σ H Q h_1=>by
 obtain ⟨H0,Hs0,la,Hs,f,q⟩:=h_1;refine CK f q fun d v H1 Hs1 e1 s1 f1 r1=>?_;unfold Gd at q;rw [e1,bind_ok] at q;cases r1 with
 |int i=>exact ⟨i,rfl,q H1 Hs1 s1⟩
 |_=>exact q.elim
theorem QD {K:a7}{cls:Str->ag}{E:XK}{ρ:az}{r:R (Option Int)}{β:Type}{k:Option Int->R β}{σ:St}{H:Hp}{H0 Hs0 Hs:Hp}{la:Nat->Option ag}{Q:Option Int->Hp->Prop}{q:β->Prop} (f:Fr K H0 Hs0 la ρ σ H Hs)
  (h:Fin K cls E H Hs (r.bind k) q) (m:∀ d H' Hs',r=.ok d->cE H Hs H' Hs'->Fr K H0 Hs0 la ρ σ H' Hs'->Q d H'):Xt K cls E ρ r σ H Q:=by
 refine ⟨H0,Hs0,la,Hs,f,?_⟩;cases r with
 |ok d=>exact fun H' Hs' s=>m d H' Hs' rfl s (f.step s)
 |ex c n=>exact h
 |no=>exact h
def IY (g:az->R D) (gl gh:az->R (Option Int)):az->R D:=fun ρ=>(g ρ).bind fun x=>(gl ρ).bind fun l=>(gh ρ).bind fun h=>xU x l h
theorem jX {lo hi:Option bR}{gl gh:az->R (Option Int)}{p2:Pos} (he:JB c e g) (hl:JO c lo gl) (hh:JO c hi gh):JE c (.Subscript e (.Slice lo hi none p2) pos) (IY g gl gh):=.of fun ρ=>rh (D_ Xs (he ρ) (hl ρ) (hh ρ)) fun σ H Q h_2=>by
 obtain ⟨H0,Hs0,la,Hs,f,q⟩:=h_2;refine one f q fun d v H1 Hs1 e1 s1 f1 r1=>?_;unfold IY at q;rw [e1,bind_ok] at q;refine QD f1 (q.on s1 (q':=fun _=>True) fun _ _=>trivial) fun l H2 Hs2 e2 s2 f2=>?_;rw [e2,bind_ok] at q;refine QD f2 (q.on (s1.trans s2) (q':=fun _=>True) fun _ _=>trivial) fun h H3 Hs3 e3 s3 f3=>?_;rw [e3,bind_ok] at q;cases hr:xU d l h with
 |ok z=>rw [hr] at q;exact ⟨Hs3,d,f3.st.sub,(r1.step s2).step s3,z,hr,fun w H4 Hs4 s4 r4=>q w H4 Hs4 (s1.trans (s2.trans (s3.trans s4))) r4⟩
 |ex c n=>unfold xU at hr;split at hr<;>cases hr
 |no=>rw [hr] at q;exact q.elim
inductive Yc (K:a7) (h:List D->R D) (xs:List V) (H:Hp) (Q:VK):Prop
 |mk (Hs ds:_) (h0:dD Hs H) (h1:S1 K H Hs xs ds) (h2:∃ d,h ds=.ok d/\∀ v H' Hs',cE H Hs H' Hs'->RD K Hs' v d->Q v H'):Yc K h xs H Q
def rC (K:a7) (h:List D->R D):List V->Hp->VK->Prop:=Yc K h
def KN (X:Cx) (f:ae) (h:List D->R D):Prop:=ja X f (rC X.K h)/\∀ x c n,h x≠.ex c n
def bY (gs:az->R (List D)) (h:List D->R D):az->R D:=fun ρ=>(gs ρ).bind h
theorem S5 {K:a7}{cls:Str->ag}{E:XK}{h:List D->R D}{gs:az->R (List D)}{ρ:az}{σ:St}{H:Hp}{Q:VK} (hx:∀ x c n,h x≠.ex c n) (q:TR K cls E ρ (bY gs h ρ) σ H Q):Uz (rC K h) (WC K cls E ρ (gs ρ)) σ H Q:=by
 obtain ⟨H0,Hs0,la,Hs,f,q⟩:=q;refine Na f q fun ds vs H1 Hs1 e1 s1 f1 r1=>?_;unfold bY at q;rw [e1,bind_ok] at q;cases hr:h ds with
 |ok d =>
  rw [hr] at q;exact ⟨Hs1,ds,f1.st.sub,r1,d,hr,fun w H3 Hs3 s3 r3=>q w H3 Hs3 (s1.trans s3) r3⟩
 |ex c n=>exact (hx ds c n hr).elim
 |no=>rw [hr] at q;exact q.elim
variable {es:List bR}{gs:az->R (List D)}{x:Str}{p:Pos}{id T:String}{h:List D->R D}
theorem bS (hc:KN c.X (.builtin id) h) (hg:Gl c.X x) (hm:c.X.mg x=none) (hv:iG x=some (.builtin id)) (ha:S2 c (e::es) gs) (hn:x≠"__name__":=by decide) (hdb:(x==("__debug__" : Str))=false:=by decide)
  (he:aA (e::es) c.X.env=(false,cL e c.X.env)::aA es c.X.env:=by rfl) (hpl:(gm pos (aA es c.X.env)).any (·.1)=false:=by rfl):JE c (.Call (.Name x p) (e::es) [] pos) (bY gs h):=.of fun ρ=>rh (oJ hc.1 hg hm hv (ha ρ) hn hdb he hpl) fun σ H Q q=>S5 hc.2 q
theorem dR (hc:KN c.X (.type T) h) (hg:Gl c.X x) (hm:c.X.mg x=none) (hv:iG x=some (.type T)) (ha:S2 c (e::es) gs) (hn:x≠"__name__":=by decide) (hdb:(x==("__debug__" : Str))=false:=by decide)
  (he:aA (e::es) c.X.env=(false,cL e c.X.env)::aA es c.X.env:=by rfl) (hpl:(gm pos (aA es c.X.env)).any (·.1)=false:=by rfl):JE c (.Call (.Name x p) (e::es) [] pos) (bY gs h):=.of fun ρ=>rh (wc hc.1 hg hm hv (ha ρ) hn hdb he hpl) fun σ H Q q=>S5 hc.2 q
end
end
section
section
theorem S1.one    (h:S1 K H Hs xs [d]):∃ x,xs=[x]/\RB K H Hs x d:=by
 cases h with|cons a t=>cases t;exact ⟨_,rfl,a⟩
def i5 (h:D->R D):List D->R D
 |[d]=>h d
 |_=>.no
theorem u5  (hx:∀ d c n,h d≠.ex c n)
  (hr:∀ pins s σ H x u Q Hs d d',bG X pins σ H s->dn x u->dD Hs H->RB X.K H Hs x d->h d=.ok d'->(∀ v H' Hs',cE H Hs H' Hs'->RD X.K Hs' v d'->Q v H')->ak (aB X.prog X.w) X.A (call f [u]) (EP X pins σ Q) X.xe s):KN X f (i5 h):=by
 refine ⟨fun pins s σ H xs us Q I r ⟨Hs,ds,sub,rb,d,hd,q⟩=>?_,fun x c n=>?_⟩
 ·unfold i5 at hd;split at hd
  ·obtain ⟨x,rfl,rx⟩:=rb.one;obtain ⟨u,rfl,ru⟩:=jU r;exact hr pins s σ H x u Q Hs _ _ I ru sub rx hd q
  ·cases hd
 ·unfold i5;split
  ·exact hx _ _ _
  ·exact fun h=>by cases h
def jg:D->R D
 |.list xs=>.ok (.int xs.length)
 |.tuple xs=>.ok (.int xs.length)
 |.str x=>if x.length<=1000 then .ok (.int x.length) else .no
 |_=>.no
theorem RDk.length   : ∀ {ds:List (D×D)},RDk K H vs ds->vs.length=ds.length:=by
 induction vs with
 |nil=>intro ds h;cases h;rfl
 |cons x r ih=>intro ds h;cases h with|cons a b=>exact congrArg (· + 1) (ih b)
theorem RB.dict    (sub:dD Hs H) (h:RB K H Hs v (.dict ds)):∃ a,v=.ref a/\((∃ kvs,H a=some (.dK kvs)/\RDk K Hs kvs ds)\/(∃ kvs,H a=some (.dT kvs)/\kvs≠[]/\RDt K Hs kvs ds)\/∃ o kvs es,ds=(.none,.none)::es/\H a=some (.frz o (.dT kvs))/\kvs≠[]/\RDt K Hs kvs es):=by
 rcases h with h|⟨a,o,rfl,h2,h3,h4⟩
 ·cases h with
  |dictK q r=>exact ⟨_,rfl,.inl ⟨_,sub _ _ q,r⟩⟩
  |dictT q n r=>exact ⟨_,rfl,.inr (.inl ⟨_,sub _ _ q,n,r⟩)⟩
  |dictF q n r=>exact ⟨_,rfl,.inr (.inr ⟨_,_,_,rfl,sub _ _ q,n,r⟩)⟩
 ·cases h4 with
  |dK r=>exact ⟨a,rfl,.inl ⟨_,h2,r⟩⟩
  |dT n r=>exact ⟨a,rfl,.inr (.inl ⟨_,h2,n,r⟩)⟩
  |dF n r=>exact ⟨a,rfl,.inr (.inr ⟨_,_,_,rfl,h2,n,r⟩)⟩
theorem gy:KN X (.builtin "len") (i5 jg):=by
 refine u5 (fun d c n=>?_) fun pins s σ H x u Q Hs d d' I ru sub rx hd q=>?_
 ·unfold jg;split<;>(try split)<;>exact fun h=>by cases h
 ·unfold jg at hd;split at hd
  ·cases hd;obtain ⟨a,vs,rfl,qa,ra⟩:=rx.list sub;refine uY pins s σ H _ _ Q I (.cons ru .nil) ⟨a,vs,rfl,.inl qa,?_⟩;rw [ra.length];exact q _ H Hs (.refl sub) (.int _)
  ·cases hd;obtain ⟨a,vs,rfl,qa,ra,_⟩:=rx.tuple sub;refine uY pins s σ H _ _ Q I (.cons ru .nil) ⟨a,vs,rfl,.inr qa,?_⟩;rw [ra.length];exact q _ H Hs (.refl sub) (.int _)
  ·split at hd
   ·rename_i hz
    cases hd;exact Ck pins s σ H _ _ Q I (.cons ru .nil) ⟨_,by rw [rx.str],b9 (c8 hz),q _ H Hs (.refl sub) (.int _)⟩
   ·cases hd
  ·cases hd
def rE (T:String) (d:D):Bool:=match T,d with
 | "str",.str _=>true
 | "int",.int _=>true
 | "int",.bool _=>true
 | "bool",.bool _=>true
 | "list",.list _=>true
 | "tuple",.tuple _=>true
 |_,_=>false
def vd (g:az->R D) (T:String):az->R D:=fun ρ=>(g ρ).bind fun d=>if pp d then .ok (.bool (rE T d)) else .no
theorem QE  (T:String) (hT:T="str"\/T="int"\/T="bool"\/T="list"\/T="tuple") (h:pp d=true):dC K (.type (Xo d)) (.type T)=some (rE T d):=by
 rcases hT with rfl|rfl|rfl|rfl|rfl<;>cases d<;>first|rfl|simp [pp] at h
theorem o0      (h:JB c e g) (hgi:Gl c.X "isinstance") (hi:c.X.mg "isinstance"=none) (hgT:Gl c.X T) (hT:c.X.mg T=none) (hv:iG T=some (.type Ts))
  (hTs:Ts="str"\/Ts="int"\/Ts="bool"\/Ts="list"\/Ts="tuple")
  (hn:T≠"__name__":=by decide) (hdb:(T==("__debug__" : Str))=false:=by decide)
  (he:aA [e,.Name T p2] c.X.env=(false,cL e c.X.env)::aA [.Name T p2] c.X.env:=by rfl) (hpl:(gm pos (aA [.Name T p2] c.X.env)).any (·.1)=false:=by rfl) :
  JE c (.Call (.Name "isinstance" p) [e,.Name T p2] [] pos) (vd g Ts):=.of fun ρ=>by
 refine rh (oJ N6 hgi hi kz (bX (h ρ) (bX (ID hgT hT hv (v:=.ty Ts) rfl hn hdb) el) he) (by decide) (by decide) he hpl) fun σ H Q h_0=>?_;obtain ⟨H0,Hs0,la,Hs,f,q⟩:=h_0;refine one f q fun d v H1 Hs1 e1 s1 f1 r1=>?_;unfold vd at q;rw [e1,bind_ok] at q;by_cases hd:pp d=true
 ·rw [if_pos hd] at q;exact ⟨v,d,Ts,_,rfl,(r1.full f1.st.sub).rep hd,QE Ts hTs hd,q _ H1 Hs1 s1 (.bool _)⟩
 ·rw [if_neg hd] at q;exact q.elim
def ni:List D->Option (List Bool)
 |[]=>some []
 |.bool b::r=>(ni r).map (b::·)
 |_::_=>none
theorem CY:∀ {bs:List Bool},ni ds=some bs->ds=bs.map b_:=by
 induction ds with
 |nil=>intro bs h;cases h;rfl
 |cons d r ih =>
  intro bs h;cases d with
  |bool b =>
   have h:(ni r).map (b::·)=some bs:=h;cases hr:ni r with
   |none=>rw [hr] at h;cases h
   |some z=>rw [hr] at h;cases h;rw [ih hr];rfl
  |_=>cases h
def gU (k:List Bool->Bool):D->R D
 |.list ds=>match ni ds with
  |some bs=>.ok (.bool (k bs))
  |none=>.no
 |_=>.no
theorem EC {id:String}{k:List Bool->Bool} (h:ja X (.builtin id) (fun xs H Q=>∃ p,∃ bs:List Bool,xs=[.ref p]/\mV X.K H p (bs.map V.bl)/\Q (.bl (k bs)) H)):KN X (.builtin id) (i5 (gU k)):=by
 refine u5 (fun d c n=>?_) fun pins s σ H x u Q Hs d d' I ru sub rx hd q=>?_
 ·unfold gU;split<;>(try split)<;>exact fun h=>by cases h
 ·unfold gU at hd;split at hd
  ·split at hd
   ·rename_i bs hb
    cases hd;obtain ⟨a,vs,rfl,qa,ra⟩:=rx.list sub;rw [CY hb] at ra;rw [Ax ra] at qa;exact h pins s σ H _ _ Q I (.cons ru .nil) ⟨a,bs,rfl,qa,q _ H Hs (.refl sub) (.bool _)⟩
   ·cases hd
  ·cases hd
theorem pJ (hc:X.calm=true):KN X (.builtin "all") (i5 (gU fun bs=>bs.all id)):=EC (yF hc)
theorem Nj (hc:X.calm=true):KN X (.builtin "any") (i5 (gU fun bs=>bs.any id)):=EC (yG hc)
def o6 (x:Str):List D:=x.cps.toList.map fun c=>ap ⟨#[c]⟩
theorem KO  (x:Str):RDs K H (yN x) (o6 x):=by
 unfold yN o6;induction x.cps.toList with
 |nil=>exact .nil
 |cons a r ih=>exact .cons (.str _) ih
def hW:D->R D
 |.list xs=>.ok (.tuple xs)
 |.tuple xs=>.ok (.tuple xs)
 |.str x=>if x.cps.size<=1000 then .ok (.tuple (o6 x)) else .no
 |_=>.no
theorem iM (hc:X.calm=true):KN X (.type "tuple") (i5 hW):=by
 refine u5 (fun d c n=>?_) fun pins s σ H x u Q Hs d d' I ru sub rx hd q=>?_
 ·unfold hW;split<;>(try split)<;>exact fun h=>by cases h
 ·unfold hW at hd;split at hd
  ·cases hd;obtain ⟨a,vs,rfl,qa,ra⟩:=rx.list sub;exact tF pins s σ H _ _ Q I (.cons ru .nil) ⟨a,vs,rfl,.inl ⟨qa,fun l hl=>q _ _ _ (.new sub hl) (.tuple aR (ra.same (cE.new sub hl).sh))⟩⟩
  ·cases hd;obtain ⟨a,vs,rfl,qa,ra,_⟩:=rx.tuple sub;refine tF pins s σ H _ _ Q I (.cons ru .nil) ⟨a,vs,rfl,.inr ⟨qa,?_⟩⟩;rcases rx with rx|⟨_,_,_,_,_,ow⟩
   ·exact q _ H Hs (.refl sub) rx
   ·cases ow
  ·split at hd
   ·rename_i hz
    cases hd;exact xA hc pins s σ H _ _ Q I (.cons ru .nil) ⟨_,by rw [rx.str],b9 (c8 hz),fun l hl=>q _ _ _ (.new sub hl) (.tuple aR (KO _))⟩
   ·cases hd
  ·cases hd
def Bp:D->R D
 |.list xs=>.ok (.list xs)
 |.tuple xs=>.ok (.list xs)
 |_=>.no
theorem QF:KN X (.type "list") (i5 Bp):=by
 refine u5 (fun d c n=>?_) fun pins s σ H x u Q Hs d d' I ru sub rx hd q=>?_
 ·unfold Bp;split<;>exact fun h=>by cases h
 ·unfold Bp at hd;split at hd
  ·cases hd;obtain ⟨a,vs,rfl,qa,ra⟩:=rx.list sub;exact uZ pins s σ H _ _ Q I (.cons ru .nil) ⟨a,vs,rfl,.inl qa,fun l hl=>q _ _ _ (.new sub hl) (.list (.of aR) (ra.same (cE.new sub hl).sh))⟩
  ·cases hd;obtain ⟨a,vs,rfl,qa,ra,_⟩:=rx.tuple sub;exact uZ pins s σ H _ _ Q I (.cons ru .nil) ⟨a,vs,rfl,.inr qa,fun l hl=>q _ _ _ (.new sub hl) (.list (.of aR) (ra.same (cE.new sub hl).sh))⟩
  ·cases hd
def gM:List D->Option (List Str)
 |[]=>some []
 |.str b::r=>(gM r).map (b::·)
 |_::_=>none
theorem rF:∀ {bs:List Str},gM ds=some bs->ds=bs.map ap:=by
 induction ds with
 |nil=>intro bs h;cases h;rfl
 |cons d r ih =>
  intro bs h;cases d with
  |str b =>
   have h:(gM r).map (b::·)=some bs:=h;cases hr:gM r with
   |none=>rw [hr] at h;cases h
   |some z=>rw [hr] at h;cases h;rw [ih hr];rfl
  |_=>cases h
@[simp] theorem strsOf_map:∀ bs:List Str,gM (bs.map ap)=some bs
 |[]=>rfl
 |b::r=>by show (gM (r.map ap)).map (b::·)=_;rw [strsOf_map r];rfl
def sw:D->R D
 |.list ds=>match gM ds with
  |some ss=>if ss.length<64 then .ok (.list ((jV ss).map .str)) else .no
  |none=>.no
 |_=>.no
theorem KP:KN X (.builtin "sorted") (i5 sw):=by
 refine u5 (fun d c n=>?_) fun pins s σ H x u Q Hs d d' I ru sub rx hd q=>?_
 ·unfold sw;split<;>(try split)<;>(try split)<;>exact fun h=>by cases h
 ·unfold sw at hd;split at hd
  ·split at hd
   ·split at hd
    ·rename_i ss hs hz
     cases hd;obtain ⟨a,vs,rfl,qa,ra⟩:=rx.list sub;rw [rF hs] at ra;rw [pI ra] at qa;exact wk pins s σ H _ _ Q I (.cons ru .nil) ⟨a,ss,rfl,qa,hz,fun l hl=>q _ _ _ (.new sub hl) (.list (.of aR) (yO _))⟩
    ·cases hd
   ·cases hd
  ·cases hd
end
end
section
inductive Vo (K:a7) (cls:Str->ag) (n:Nat) (F:List D->R D) (vs:List V) (H:Hp) (Q:VK) (E:XK):Prop
 |mk (Hs ds:_) (h0:dD Hs H) (h1:ds.length=n) (h2:RDs K Hs vs ds) (h3:Fin K cls E H Hs (F ds) fun d=>∀ v H' Hs',cE H Hs H' Hs'->RD K Hs' v d->Q v H'):Vo K cls n F vs H Q E
def S6 (K:a7) (cls:Str->ag) (n:Nat) (F:List D->R D):Sp:=Vo K cls n F
structure Fn (P:bf) (w:bE) (K:a7) (mg:Str->Option ae) (base:bw) (cls:Str->ag) (x:Str) (k n:Nat) (F:List D->R D):Prop where
 ex:∃ f fd ps,sY P w K mg base (jf P w) k f fd ps (S6 K cls n F)/\mg x=some (.ref f)/\d_ K (.ref f)=true/\kC K fd ps []
section
def e6 (n:Nat) (F:List D->R D) (gs:az->R (List D)):az->R D:=fun ρ=>(gs ρ).bind fun ds=>if ds.length=n then F ds else .no
theorem QG  (G:Fn c.X.prog c.X.w c.X.K c.X.mg c.X.base c.cls x k n F) (hr:kj k c.X.A) (hg:Gl c.X x) (hx:nV (jf c.X.prog c.X.w) c.X c.E) (ha:Et c (e::es) gs)
  (hdb:(x==("__debug__" : Str))=false:=by decide) (he:aA (e::es) c.X.env=(false,cL e c.X.env)::aA es c.X.env:=by rfl) (hpl:(gm pos (aA es c.X.env)).any (·.1)=false:=by rfl) :
  JE c (.Call (.Name x p) (e::es) [] pos) (e6 n F gs):=.of fun ρ=>by
 obtain ⟨f,fd,ps,hf,hm,hk,hb⟩:=G.ex;refine rh (Q9 (E:=c.E) hf hr hg hm hk hb .nil hx (ha ρ) hdb he hpl) fun σ H Q h_0=>?_;obtain ⟨H0,Hs0,la,Hs,fr,q⟩:=h_0;refine CL fr q fun ds vs H1 Hs1 e1 s1 f1 r1=>?_;unfold e6 at q;rw [e1,bind_ok] at q;by_cases hn:ds.length=n
 ·rw [if_pos hn] at q;show S6 _ _ _ _ (vs++[]) _ _ _;rw [cB];exact ⟨Hs1,ds,f1.st.sub,hn,r1,q.on s1 fun d k v H2 Hs2 s2 r2=>k v H2 Hs2 (s1.trans s2) r2⟩
 ·rw [if_neg hn] at q;exact q.elim
end
inductive Fl where
 |nx (ρ:az)
 |rt (d:D)
 |bk (ρ:az)
 |ct (ρ:az)
def oN (K:a7) (cls:Str->ag) (E:XK) (H0 Hs0:Hp) (la:Nat->Option ag) (D:Ca) (r:R Fl):Prop:=match r with
 |.ok (.nx ρ')=>∀ σ' H' Hs',Fr K H0 Hs0 la ρ' σ' H' Hs'->D.nx σ' H'
 |.ok (.bk ρ')=>∀ σ' H' Hs',Fr K H0 Hs0 la ρ' σ' H' Hs'->D.bk σ' H'
 |.ok (.ct ρ')=>∀ σ' H' Hs',Fr K H0 Hs0 la ρ' σ' H' Hs'->D.ct σ' H'
 |.ok (.rt d)=>∀ v H' Hs',cE H0 Hs0 H' Hs'->RD K Hs' v d->D.rt v H'
 |.ex c n=>∀ H' Hs',cE H0 Hs0 H' Hs'->XW K cls E c n H' Hs'
 |.no=>False
inductive Yd (K:a7) (cls:Str->ag) (E:XK) (ρ:az) (r:R Fl) (D:Ca) (σ:St) (H:Hp):Prop
 |mk (H0 Hs0:Hp) (la:Nat->Option ag) (Hs:Hp) (f:Fr K H0 Hs0 la ρ σ H Hs) (q:oN K cls E H0 Hs0 la D r):Yd K cls E ρ r D σ H
def SR (K:a7) (cls:Str->ag) (E:XK) (ρ:az) (r:R Fl):TS:=Yd K cls E ρ r
structure JS (c:C) (s:cY) (g:az->R Fl):Prop where of ::
 run:∀ ρ,PS c.X s (SR c.X.K c.cls c.E ρ (g ρ))
instance {c:C}{s:cY}{g:az->R Fl}:CoeFun (JS c s g) (fun _=>∀ ρ,PS c.X s (SR c.X.K c.cls c.E ρ (g ρ))):=⟨JS.run⟩
structure IZ (c:C) (s:List cY) (g:az->R Fl):Prop where of ::
 run:∀ ρ,Cb c.X s (SR c.X.K c.cls c.E ρ (g ρ))
instance {c:C}{s:List cY}{g:az->R Fl}:CoeFun (IZ c s g) (fun _=>∀ ρ,Cb c.X s (SR c.X.K c.cls c.E ρ (g ρ))):=⟨IZ.run⟩
theorem Fr.set     (f:Fr K H0 Hs0 la ρ σ H Hs) (i:Nat)  (r:RD K Hs v d):Fr K H0 Hs0 la (ρ.set i (.shr d)) (σ.set i (some v)) H Hs:=by
 have hl:=f.len;have nx:∀ {j:Nat}{s:Sl},(∀ d,s≠.shr d)->(ρ.set i (.shr d))[j]?=some s->ρ[j]?=some s/\i≠j:=fun {j s} hs e=>by
  by_cases hj:i=j
  ·subst hj;by_cases hi:i<ρ.length
   ·rw [aI hi] at e;exact absurd (bx e).symm (hs d)
   ·rw [cA (by simpa using hi)] at e;cases e
  ·rw [aj hj] at e;exact ⟨e,hj⟩
 refine ⟨f.st,by simp [hl],fun j e h=>?_,fun j e h=>?_,fun j e h=>?_,fun j k d1 d2 a h1 h2 h3 h4=>?_,f.lh,fun j e h=>?_,fun j k d1 d2 h1 h2=>?_⟩
 ·by_cases hj:i=j
  ·subst hj;by_cases hi:i<ρ.length
   ·rw [aI hi] at h;cases h;exact ⟨v,aI (by omega),r⟩
   ·rw [cA (by simpa using hi)] at h;cases h
  ·rw [aj hj] at h ⊢;exact f.sh j e h
 ·obtain ⟨h,hj⟩:=nx (fun _ z=>by cases z) h;rw [aj hj];exact f.ow j e h
 ·obtain ⟨h,hj⟩:=nx (fun _ z=>by cases z) h;rw [aj hj];exact f.lk j e h
 ·obtain ⟨h1,n1⟩:=nx (fun _ z=>by cases z) h1;obtain ⟨h2,n2⟩:=nx (fun _ z=>by cases z) h2;rw [aj n1] at h3;rw [aj n2] at h4;exact f.dj j k d1 d2 a h1 h2 h3 h4
 ·obtain ⟨h,hj⟩:=nx (fun _ z=>by cases z) h;obtain ⟨a,as,O⟩:=f.o2 j e h;refine ⟨a,as,by rw [aj hj];exact O.at_,O.ob,O.nd,O.out,fun b hb k e' hk=>?_,O.inn⟩;obtain ⟨hk,nk⟩:=nx (fun _ z=>by cases z) hk;rw [aj nk];exact O.dj b hb k e' hk
 ·exact f.u2 j k d1 d2 (nx (fun _ z=>by cases z) h1).1 (nx (fun _ z=>by cases z) h2).1
theorem Fr.setO     (f:Fr K H0 Hs0 la ρ σ H Hs) (i:Nat)   (n:H a=none) (r:mZ K Hs o d):Fr K H0 Hs0 la (ρ.set i (.own d)) (σ.set i (some (.ref a))) (upd H a o) Hs:=by
 have f':=f.step (cE.mine (o:=o) f.st.sub n);have hl:=f.len;have n0:H0 a=none:=f.st.all.free n;have ns:Hs a=none:=f.st.sub.free n;have nx:∀ {j:Nat}{s:Sl},(∀ d,s≠.own d)->(ρ.set i (.own d))[j]?=some s->ρ[j]?=some s/\i≠j:=fun {j s} hs e=>by
  by_cases hj:i=j
  ·subst hj;by_cases hi:i<ρ.length
   ·rw [aI hi] at e;exact absurd (bx e).symm (hs d)
   ·rw [cA (by simpa using hi)] at e;cases e
  ·rw [aj hj] at e;exact ⟨e,hj⟩
 have ne:∀ j e,ρ[j]?=some (Sl.own e)->σ[j]?≠some (some (V.ref a)):=fun j e h z=>by
  obtain ⟨b,o',h1,h2,_⟩:=f.ow j e h;rw [z] at h1;cases h1;rw [n] at h2;cases h2
 refine ⟨f'.st,by simp [hl],fun j e h=>?_,fun j e h=>?_,fun j e h=>?_,fun j k d1 d2 b h1 h2 h3 h4=>?_,f.lh,fun j e h=>?_,fun j k d1 d2 h1 h2=>?_⟩
 ·obtain ⟨h,hj⟩:=nx (fun _ z=>by cases z) h;rw [aj hj];exact f'.sh j e h
 ·by_cases hj:i=j
  ·subst hj;by_cases hi:i<ρ.length
   ·rw [aI hi] at h;cases h;exact ⟨a,o,aI (by omega),aR,ns,n0,r⟩
   ·rw [cA (by simpa using hi)] at h;cases h
  ·rw [aj hj] at h ⊢;exact f'.ow j e h
 ·obtain ⟨h,hj⟩:=nx (fun _ z=>by cases z) h;rw [aj hj];exact f'.lk j e h
 ·by_cases hj:i=j
  ·by_cases hk:i=k
   ·exact hj.symm.trans hk
   ·rw [aj hk] at h2 h4;subst hj;by_cases hi:i<ρ.length
    ·rw [aI (by omega)] at h3;cases h3;exact (ne k d2 h2 h4).elim
    ·rw [cA (by simpa using hi)] at h1;cases h1
  ·rw [aj hj] at h1 h3;by_cases hk:i=k
   ·subst hk;by_cases hi:i<ρ.length
    ·rw [aI (by omega)] at h4;cases h4;exact (ne j d1 h1 h3).elim
    ·rw [cA (by simpa using hi)] at h2;cases h2
   ·rw [aj hk] at h2 h4;exact f.dj j k d1 d2 b h1 h2 h3 h4
 ·obtain ⟨h,hj⟩:=nx (fun _ z=>by cases z) h;obtain ⟨b,as,O⟩:=f.o2 j e h;have nb:∀ c∈b::as,c≠a:=fun c hc z=>by
   subst z;rcases List.mem_cons.mp hc with z|z
   ·have:=O.ob;rw [<- z,n] at this;cases this
   ·obtain ⟨o,ho,_⟩:=O.inn.there z;rw [n] at ho;cases ho
  refine ⟨b,as,by rw [aj hj];exact O.at_,by rw [aU (nb b al)];exact O.ob,O.nd,O.out,fun c hc k e' hk=>?_,O.inn.upd fun z=>nb a (ao _ z) rfl⟩;by_cases nk:i=k
  ·subst nk;intro z;by_cases hi:i<ρ.length
   ·rw [aI (by omega)] at z;cases z;exact nb _ hc rfl
   ·rw [cA (by simp;omega)] at hk;cases hk
  ·rw [aj nk] at hk ⊢;exact O.dj c hc k e' hk
 ·exact f.u2 j k d1 d2 (nx (fun _ z=>by cases z) h1).1 (nx (fun _ z=>by cases z) h2).1
theorem Fr.write     (f:Fr K H0 Hs0 la ρ σ H Hs) (i:Nat)   (hi:ρ[i]?=some (Sl.own d)) (hs:σ[i]?=some (some (V.ref a))) (r:mZ K Hs o d'):Fr K H0 Hs0 la (ρ.set i (.own d')) σ (upd H a o) Hs:=by
 obtain ⟨a',o',h1,h2,h3,h4,h5⟩:=f.ow i d hi;rw [hs] at h1;cases h1;have hl:=f.len;have hil:i<ρ.length:=(List.getElem?_eq_some_iff.mp hi).1;have nx:∀ {j:Nat}{s:Sl},(∀ d,s≠.own d)->(ρ.set i (.own d'))[j]?=some s->ρ[j]?=some s/\i≠j:=fun {j s} hs e=>by
  by_cases hj:i=j
  ·subst hj;rw [aI hil] at e;exact absurd (bx e).symm (hs d')
  ·rw [aj hj] at e;exact ⟨e,hj⟩
 refine ⟨⟨fun b u e=>?_,f.st.sh,fun b u e=>?_,f.st.out⟩,by simp [hl],fun j e h=>?_,fun j e h=>?_,fun j e h=>?_,fun j k d1 d2 b h1 h2 h3 h4=>?_,f.lh,fun j e h=>?_,fun j k d1 d2 h1 h2=>?_⟩
 ·rw [aU (b6 e h4)];exact f.st.all b u e
 ·rw [aU (b6 e h3)];exact f.st.sub b u e
 ·obtain ⟨h,hj⟩:=nx (fun _ z=>by cases z) h;exact f.sh j e h
 ·by_cases hj:i=j
  ·subst hj;rw [aI hil] at h;cases h;exact ⟨a,o,hs,aR,h3,h4,r⟩
  ·rw [aj hj] at h;obtain ⟨b,u,k1,k2,k3,k4,k5⟩:=f.ow j e h;refine ⟨b,u,k1,?_,k3,k4,k5⟩;rw [aU (fun z=>hj ?_)]
   ·exact k2
   ·subst z;exact f.dj i j d e b hi h hs k1
 ·obtain ⟨h,hj⟩:=nx (fun _ z=>by cases z) h;obtain ⟨b,u,k1,k2,k3,k4,k5,k6⟩:=f.lk j e h;refine ⟨b,u,k1,k2,?_,k4,k5,k6⟩;rw [aU (b6 k5 h4)];exact k3
 ·have own:∀ {j:Nat}{e:D},(ρ.set i (.own d'))[j]?=some (Sl.own e)->∃ e',ρ[j]?=some (Sl.own e'):=fun {j e} h=>by
   by_cases hj:i=j
   ·subst hj;exact ⟨d,hi⟩
   ·rw [aj hj] at h;exact ⟨e,h⟩
  obtain ⟨e1,h1⟩:=own h1;obtain ⟨e2,h2⟩:=own h2;exact f.dj j k e1 e2 b h1 h2 h3 h4
 ·obtain ⟨h,hj⟩:=nx (fun _ z=>by cases z) h;obtain ⟨b,as,O⟩:=f.o2 j e h;have nb:∀ c∈b::as,c≠a:=fun c hc z=>by
   subst z;exact O.dj c hc i d hi hs
  refine ⟨b,as,O.at_,by rw [aU (nb b al)];exact O.ob,O.nd,O.out,fun c hc k e' hk=>?_,O.inn.upd fun z=>nb a (ao _ z) rfl⟩;by_cases nk:i=k
  ·subst nk;exact O.dj c hc i d hi
  ·rw [aj nk] at hk;exact O.dj c hc k e' hk
 ·exact f.u2 j k d1 d2 (nx (fun _ z=>by cases z) h1).1 (nx (fun _ z=>by cases z) h2).1
def fQ (ρ:az):az:=ρ.map fun s=>match s with
 |.own d=>.shr d
 |.ow2 dss=>.shr (.list (dss.map .list))
 |s=>s
open Classical in
theorem Fr.share     (f:Fr K H0 Hs0 la ρ σ H Hs):∃ Hs',Fr K H0 Hs0 la (fQ ρ) σ H Hs'/\cE H Hs H Hs'\/Fr K H0 Hs0 la (fQ ρ) σ H Hs':=by
 let P:ag->Prop:=fun b=>(∃ (i:Nat) (d:D),ρ[i]?=some (Sl.own d)/\σ[i]?=some (some (V.ref b)))\/∃ (i:Nat) (dss:List (List D)) (a:ag) (as:List ag),ρ[i]?=some (Sl.ow2 dss)/\O2 K H0 H Hs ρ σ i dss a as/\b∈a::as
 let Hs':Hp:=fun b=>if P b then H b else Hs b
 have pos:∀ b,P b->Hs' b=H b:=fun b h=>if_pos h;have neg:∀ b,¬ P b->Hs' b=Hs b:=fun b h=>if_neg h;have up:dD Hs Hs':=fun b o e=>by
  by_cases h:P b
  ·rw [pos b h];exact f.st.sub b o e
  ·rw [neg b h];exact e
 have none0:∀ b o,H0 b=some o->¬ P b:=fun b o e hP=>by
  rcases hP with ⟨i,d,h1,h2⟩|⟨i,dss,a,as,h1,O,hb⟩
  ·obtain ⟨a,o',k1,_,_,k4,_⟩:=f.ow i d h1;rw [h2] at k1;cases k1;rw [e] at k4;cases k4
  ·have:=(O.out b hb).2;rw [e] at this;cases this
 have un:∀ {j:Nat}{s:Sl},(fQ ρ)[j]?=some s->(∃ d,s=.shr d/\ρ[j]?=some (Sl.own d))\/(∃ dss:List (List D),s=.shr (.list (dss.map .list))/\ρ[j]?=some (Sl.ow2 dss))\/((∀ d,s≠.own d)/\(∀ d,s≠.ow2 d)/\ρ[j]?=some s):=fun {j s} e=>by
  unfold fQ at e;rw [aO] at e;cases h:ρ[j]? with
  |none=>rw [h] at e;cases e
  |some t =>
   rw [h] at e;cases t with
   |own d=>cases e;exact .inl ⟨d,rfl,rfl⟩
   |no=>cases e;exact .inr (.inr ⟨fun _ z=>(by cases z),fun _ z=>(by cases z),rfl⟩)
   |shr d=>cases e;exact .inr (.inr ⟨fun _ z=>(by cases z),fun _ z=>(by cases z),rfl⟩)
   |lck d=>cases e;exact .inr (.inr ⟨fun _ z=>(by cases z),fun _ z=>(by cases z),rfl⟩)
   |ow2 d=>cases e;exact .inr (.inl ⟨d,rfl,rfl⟩)
 refine ⟨Hs',.inr ⟨⟨f.st.all,f.st.sh.trans up,fun b o e=>?_,fun a o e t z=>?_⟩,by simp [fQ,f.len],fun j d h=>?_,fun j d h=>?_,fun j d h=>?_,fun j k d1 d2 a h1 h2 _ _=>?_,f.lh,fun j d h=>?_,fun j k d1 d2 h1 h2=>?_⟩⟩
 ·by_cases h:P b
  ·rw [pos b h] at e;exact e
  ·rw [neg b h] at e;exact f.st.sub b o e
 ·rw [neg a (none0 a o e)];exact f.st.out a o e t z
 ·rcases un h with ⟨d',e,h'⟩|⟨dss,e,h'⟩|⟨_,_,h'⟩
  ·cases e;obtain ⟨a,o,k1,k2,k3,k4,k5⟩:=f.ow j d h';refine ⟨_,k1,?_⟩;have hp:Hs' a=some o:=by rw [pos a (.inl ⟨j,d,h',k1⟩)];exact k2
   have e:dD (upd Hs a o) Hs':=fun b u q=>by
    by_cases hb:b=a
    ·subst hb;rw [aR] at q;cases q;exact hp
    ·rw [aU hb] at q;exact up b u q
   exact (k5.share k3).same e
  ·cases e;obtain ⟨a,as,O⟩:=f.o2 j dss h';refine ⟨_,O.at_,?_⟩;have hp:∀ b∈a::as,∀ o,H b=some o->Hs' b=some o:=fun b hb o ho=>by rw [pos b (.inr ⟨j,dss,a,as,h',O,hb⟩)];exact ho
   refine .list (.of (hp a al _ O.ob)) ?_;have go:∀ {as':List ag}{dss':List (List D)},(∀ b∈as',b∈a::as)->Bk K H Hs as' dss'->RDs K Hs' (as'.map V.ref) (dss'.map .list):=fun {as' dss'} hs hi=>by
    induction hi with
    |nil=>exact .nil
    |cons h1 h2 _ ih=>exact .cons (.list (.of (hp _ (hs _ al) _ h1)) (h2.same up)) (ih fun b hb=>hs b (ao _ hb))
   exact go (fun b hb=>ao _ hb) O.inn
  ·obtain ⟨v,k1,k2⟩:=f.sh j d h';exact ⟨v,k1,k2.same up⟩
 ·rcases un h with ⟨d',e,h'⟩|⟨d',e,h'⟩|⟨n,_,h'⟩
  ·cases e
  ·cases e
  ·exact (n d rfl).elim
 ·rcases un h with ⟨d',e,h'⟩|⟨d',e,h'⟩|⟨_,_,h'⟩
  ·cases e
  ·cases e
  ·obtain ⟨a,o,k1,k2,k3,k4,k5,k6⟩:=f.lk j d h';exact ⟨a,o,k1,k2,k3,by rw [neg a (none0 a o k5)];exact k4,k5,k6.same up⟩
 ·rcases un h1 with ⟨d',e,h'⟩|⟨d',e,h'⟩|⟨n,_,h'⟩
  ·cases e
  ·cases e
  ·exact (n d1 rfl).elim
 ·rcases un h with ⟨d',e,h'⟩|⟨d',e,h'⟩|⟨_,n,h'⟩
  ·cases e
  ·cases e
  ·exact (n d rfl).elim
 ·rcases un h1 with ⟨d',e,h'⟩|⟨d',e,h'⟩|⟨_,n,h'⟩
  ·cases e
  ·cases e
  ·exact (n d1 rfl).elim
theorem Fr.shared     (f:Fr K H0 Hs0 la ρ σ H Hs):∃ Hs',Fr K H0 Hs0 la (fQ ρ) σ H Hs':=by
 obtain ⟨Hs',h|h⟩:=f.share
 ·exact ⟨Hs',h.1⟩
 ·exact ⟨Hs',h⟩
section
variable {c:C}{e a b:bR}{g ga gb:az->R D}{pos:Pos}{x:Str}{st:cY}{bK:List cY}{gs gr:az->R Fl}
def aX (g h:az->R Fl):az->R Fl:=fun ρ=>(g ρ).bind fun fl=>match fl with
 |.nx ρ'=>h ρ'
 |fl=>.ok fl
theorem cf:IZ c [] (fun ρ=>.ok (.nx ρ)):=.of fun ρ=>Xp IE fun D σ H h_1=>by obtain ⟨H0,Hs0,la,Hs,f,q⟩:=h_1;exact q σ H Hs f
theorem aN (h:JS c st gs):IZ c [st] gs:=.of fun ρ=>xP (h ρ)
theorem ay (h:JS c st gs) (hr:IZ c bK gr):IZ c (st::bK) (aX gs gr):=.of fun ρ pins s σ H D I h_2=>by
 obtain ⟨H0,Hs0,la,Hs,f,q⟩:=h_2;unfold aX at q;cases hg:gs ρ with
 |no=>rw [hg] at q;exact q.elim
 |ex x n =>
  rw [hg] at q;refine jT (h ρ) (oF (X:=c.X) (sts:=bK)) pins s σ H D I ⟨H0,Hs0,la,Hs,f,?_⟩;rw [hg];exact q
 |ok fl =>
  rw [hg,bind_ok] at q;cases fl with
  |nx ρ' =>
   refine jT (h ρ) (hr ρ') pins s σ H D I ⟨H0,Hs0,la,Hs,f,?_⟩;rw [hg];exact fun σ' H' Hs' f'=>⟨H0,Hs0,la,Hs',f',q⟩
  |rt d =>
   refine jT (h ρ) (oF (X:=c.X) (sts:=bK)) pins s σ H D I ⟨H0,Hs0,la,Hs,f,?_⟩;rw [hg];exact q
  |bk ρ' =>
   refine jT (h ρ) (oF (X:=c.X) (sts:=bK)) pins s σ H D I ⟨H0,Hs0,la,Hs,f,?_⟩;rw [hg];exact q
  |ct ρ' =>
   refine jT (h ρ) (oF (X:=c.X) (sts:=bK)) pins s σ H D I ⟨H0,Hs0,la,Hs,f,?_⟩;rw [hg];exact q
theorem sE            (f:Fr K H0 Hs0 la ρ σ H Hs)
  (h:oN K cls E H0 Hs0 la D' (r.bind k)) (m:∀ d v H' Hs',r=.ok d->cE H Hs H' Hs'->Fr K H0 Hs0 la ρ σ H' Hs'->RD K Hs' v d->Q v H'):TR K cls E ρ r σ H Q:=by
 refine ⟨H0,Hs0,la,Hs,f,?_⟩;cases r with
 |ok d=>exact fun v H' Hs' s r=>m d v H' Hs' rfl s (f.step s) r
 |ex c n=>exact fun H' Hs' s=>h H' Hs' (f.st.trans s)
 |no=>exact h
theorem sT            (f:Fr K H0 Hs0 la ρ σ H Hs)
  (h:oN K cls E H0 Hs0 la D' (r.bind k)) (m:∀ d H' Hs',r=.ok d->cE H Hs H' Hs'->Fr K H0 Hs0 la ρ σ H' Hs'->Q d H'):LW K cls E ρ r σ H Q:=by
 refine ⟨H0,Hs0,la,Hs,f,?_⟩;cases r with
 |ok d=>exact fun H' Hs' s=>m d H' Hs' rfl s (f.step s)
 |ex c n=>exact fun H' Hs' s=>h H' Hs' (f.st.trans s)
 |no=>exact h
def cC (g:az->R D):az->R Fl:=fun ρ=>(g (fQ ρ)).bind fun d=>.ok (.rt d)
theorem bF (h:JE c e g):JS c (.Return (some e) pos) (cC g):=.of fun ρ=>Ay (Cd (h (fQ ρ))) fun D σ H h_3=>by
 obtain ⟨H0,Hs0,la,Hs,f,q⟩:=h_3;obtain ⟨Hs',f'⟩:=f.shared;refine sE f' q fun d v H1 Hs1 e1 s1 f1 r1=>?_;unfold cC at q;rw [e1,bind_ok] at q;exact q v H1 Hs1 f1.st r1
def dZ (t:az->R Bool) (g h:az->R Fl):az->R Fl:=fun ρ=>(t ρ).bind fun b=>if b then g ρ else h ρ
theorem eL    (ht:JT c t gt) (hA:IZ c A gA) (hB:IZ c B gB):JS c (.If t A B pos) (dZ gt gA gB):=.of fun ρ=>Ay (RK (ht ρ) (hA ρ) (hB ρ)) fun D σ H h_5=>by
 obtain ⟨H0,Hs0,la,Hs,f,q⟩:=h_5;refine sT f q fun d H1 Hs1 e1 s1 f1=>?_;unfold dZ at q;rw [e1,bind_ok] at q;cases d with
 |true=>exact GR ⟨H0,Hs0,la,Hs1,f1,q⟩
 |false=>exact Cm ⟨H0,Hs0,la,Hs1,f1,q⟩
def f_ (i:Nat) (g:az->R D):az->R Fl:=fun ρ=>(g ρ).bind fun d=>.ok (.nx (ρ.set i (.shr d)))
theorem eJ (i:Nat) (h:JE c e g) (hN:c.X.N.Nodup) (hi:c.X.N[i]?=some x:=by rfl) (hx:RH c.X.env.scope x:=by first|exact i4 rfl|exact eU rfl) (hs:iq e (some (.Name x pos')) pos.line c.X.env=pure false:=by rfl)
  (hf:c.X.fn x=true\/c.X.env.scope.names.lookup x=some .local:=by first|exact .inl rfl|exact .inr rfl|assumption):JS c (.Assign [.Name x pos'] e pos) (f_ i g):=.of fun ρ=>Ay (Cf hN hi hx (h ρ) hs hf) fun D σ H h_6=>by
 obtain ⟨H0,Hs0,la,Hs,f,q⟩:=h_6;refine sE f q fun d v H1 Hs1 e1 s1 f1 r1=>?_;unfold f_ at q;rw [e1,bind_ok] at q;exact q _ H1 Hs1 (f1.set i r1)
def yS (g:az->R D):az->R Fl:=fun ρ=>(g ρ).bind fun _=>.ok (.nx ρ)
theorem xV (h:JE c e g) (hs:iq e none pos.line c.X.env=pure false:=by rfl):JS c (.Expr e pos) (yS g):=.of fun ρ=>Ay (sj (h ρ) hs) fun D σ H h_7=>by
 obtain ⟨H0,Hs0,la,Hs,f,q⟩:=h_7;refine sE f q fun d v H1 Hs1 e1 s1 f1 r1=>?_;unfold yS at q;rw [e1,bind_ok] at q;exact q _ H1 Hs1 f1
def Ye (K:a7) (H0 Hs0:Hp) (la:Nat->Option ag) (H Hs:Hp) (Q:St->Hp->Prop) (r:R az):Prop:=match r with
 |.ok ρ'=>∀ σ',Fr K H0 Hs0 la ρ' σ' H Hs->Q σ' H
 |_=>False
inductive Vp (K:a7) (ρ:az) (d:D) (r:R az) (v:V) (σ:St) (H:Hp) (Q:St->Hp->Prop):Prop
 |mk (H0 Hs0:Hp) (la:Nat->Option ag) (Hs:Hp) (f:Fr K H0 Hs0 la ρ σ H Hs) (rd:RD K Hs v d) (q:Ye K H0 Hs0 la H Hs Q r):Vp K ρ d r v σ H Q
def TX (K:a7) (ρ:az) (d:D) (r:R az):TG:=Vp K ρ d r
inductive S7 (K:a7) (ρ:az) (ds:List D) (r:R az) (vs:List V) (σ:St) (H:Hp) (Q:St->Hp->Prop):Prop
 |mk (H0 Hs0:Hp) (la:Nat->Option ag) (Hs:Hp) (f:Fr K H0 Hs0 la ρ σ H Hs) (rd:RDs K Hs vs ds) (q:Ye K H0 Hs0 la H Hs Q r):S7 K ρ ds r vs σ H Q
def Vq (K:a7) (ρ:az) (ds:List D) (r:R az):P_:=S7 K ρ ds r
structure JG (c:C) (t:bR) (k:D->az->R az):Prop where of ::
 run:∀ ρ d,PG c.X t (TX c.X.K ρ d (k d ρ))
instance {c:C}{t:bR}{k:D->az->R az}:CoeFun (JG c t k) (fun _=>∀ ρ d,PG c.X t (TX c.X.K ρ d (k d ρ))):=⟨JG.run⟩
structure UB (c:C) (t:List bR) (k:List D->az->R az):Prop where of ::
 run:∀ ρ d,RL c.X t (Vq c.X.K ρ d (k d ρ))
instance {c:C}{t:List bR}{k:List D->az->R az}:CoeFun (UB c t k) (fun _=>∀ ρ d,RL c.X t (Vq c.X.K ρ d (k d ρ))):=⟨UB.run⟩
theorem Yf   (h:PG X e t) (m:∀ v σ H Q,t' v σ H Q->t v σ H Q):PG X e t':=fun pins s σ H v u Q I r q=>h pins s σ H v u Q I r (m v σ H Q q)
theorem Xu {X:Cx}{e:List bR}{t t':P_} (h:RL X e t) (m:∀ v σ H Q,t' v σ H Q->t v σ H Q):RL X e t':=fun pins s σ H v u Q I r q=>h pins s σ H v u Q I r (m v σ H Q q)
def cg (i:Nat):D->az->R az:=fun d ρ=>.ok (ρ.set i (.shr d))
theorem dH (i:Nat) (hN:c.X.N.Nodup) (hi:c.X.N[i]?=some x:=by rfl) (hx:RH c.X.env.scope x:=by first|exact i4 rfl|exact eU rfl) (hf:c.X.fn x=true\/c.X.env.scope.names.lookup x=some .local:=by first|exact .inl rfl|exact .inr rfl|assumption) :
  JG c (.Name x pos) (cg i):=.of fun ρ d=>Yf (cH hN hi hx hf) fun v σ H Q h_11=>by obtain ⟨H0,Hs0,la,Hs,f,r,q⟩:=h_11;exact q _ (f.set i r)
def pK:List D->az->R az:=fun ds ρ=>match ds with
 |[]=>.ok ρ
 |_=>.no
def c_ (k:D->az->R az) (ks:List D->az->R az):List D->az->R az:=fun ds ρ=>match ds with
 |d::r=>(k d ρ).bind fun ρ'=>ks r ρ'
 |_=>.no
theorem pL:UB c [] pK:=.of fun ρ ds=>Xu Ce fun vs σ H Q h_12=>by
 obtain ⟨H0,Hs0,la,Hs,f,r,q⟩:=h_12;cases r with
 |nil=>exact ⟨rfl,q σ f⟩
 |cons _ _=>exact q.elim
theorem e7 (h:JG c t kt) (hr:UB c ts kts) (hs:(iH (t::ts) c.X.env).map (·.2)=qP t c.X.env::(iH ts c.X.env).map (·.2):=by rfl):UB c (t::ts) (c_ kt kts):=.of fun ρ ds pins s σ H vs us Q I rv h_13=>by
 obtain ⟨H0,Hs0,la,Hs,f,r,q⟩:=h_13;cases r with
 |nil=>exact q.elim
 | @cons v vr d dr r1 r2 =>
  unfold c_ at q;cases hk:kt d ρ with
  |ok ρ' =>
   simp only [hk,bind_ok] at q;refine qW (h ρ d) (hr ρ' dr) hs pins s σ H _ us Q I rv ⟨v,vr,rfl,H0,Hs0,la,Hs,f,r1,?_⟩;rw [hk];exact fun σ' f'=>⟨H0,Hs0,la,Hs,f',r2,q⟩
  |ex x n=>simp only [hk,bind_ex] at q;exact q.elim
  |no=>simp only [hk,bind_no] at q;exact q.elim
def o7 (n:Nat) (ks:List D->az->R az):D->az->R az:=fun d ρ=>match d with
 |.tuple ds=>if ds.length=n then ks ds ρ else .no
 |_=>.no
theorem u6 (hc:c.X.calm=true) (h:UB c ts kts) (hn:(iH ts c.X.env).length=n:=by rfl) (hst:(iH ts c.X.env).findIdx? (·.1)=none:=by rfl):JG c (.Tuple ts k pos) (o7 n kts):=.of fun ρ d=>by
 cases d with
 |tuple ds =>
  refine Yf (GG hc (h ρ ds) hn hst) fun v σ H Q h_14=>?_;obtain ⟨H0,Hs0,la,Hs,f,r,q⟩:=h_14;cases r with
  | @tuple p xs _ hq rs =>
   unfold o7 at q;by_cases hl:ds.length=n
   ·simp only [if_pos hl] at q;exact ⟨p,xs,rfl,(lz.of (f.st.sub _ _ hq)),by rw [rs.length];exact hl,H0,Hs0,la,Hs,f,rs,q⟩
   ·simp only [if_neg hl] at q;exact q.elim
 |_=>exact fun pins s σ H v u Q I rv h_15=>by obtain ⟨H0,Hs0,la,Hs,f,r,q⟩:=h_15;exact q.elim
def CZ (g:az->R D) (k:D->az->R az):az->R Fl:=fun ρ=>(g ρ).bind fun d=>match k d ρ with
 |.ok ρ'=>.ok (.nx ρ')
 |_=>.no
theorem C_ (h:JE c e g) (hg:JG c t kt) (hs:xL [t] e pos.line c.X.env=pure false:=by rfl) (hw:xM [t] e c.X.env=pure none:=by rfl) (h1:(iH [t] c.X.env).map (·.2)=[qP t c.X.env]:=by rfl) :
  JS c (.Assign [t] e pos) (CZ g kt):=.of fun ρ=>by
 cases hr:g ρ with
 |ok d =>
  refine Ay (Mn (h ρ) (hg ρ d) hs hw h1) fun D σ H h_16=>?_;obtain ⟨H0,Hs0,la,Hs,f,q⟩:=h_16;refine sE (k:=fun d=>match kt d ρ with | .ok ρ'=>.ok (.nx ρ')|_=>.no) f q fun d' v H1 Hs1 e1 s1 f1 r1=>?_;rw [hr] at e1;cases e1;unfold CZ at q;rw [hr,bind_ok] at q;refine ⟨H0,Hs0,la,Hs1,f1,r1,?_⟩;cases hk:kt d ρ with
  |ok ρ'=>rw [hk] at q;exact fun σ' f'=>q σ' H1 Hs1 f'
  |ex x n=>rw [hk] at q;exact q.elim
  |no=>rw [hk] at q;exact q.elim
 |ex x n =>
  refine Ay (Mn (h ρ) (hg ρ .none) hs hw h1) fun D σ H h_17=>?_;obtain ⟨H0,Hs0,la,Hs,f,q⟩:=h_17;refine sE (k:=fun _=>.no) (D':=D) f (by unfold CZ at q;rw [hr] at q ⊢;exact q) fun d' v H1 Hs1 e1 s1 f1 r1=>?_;rw [hr] at e1;cases e1
 |no =>
  refine fun pins s σ H D I h_18=>?_;obtain ⟨H0,Hs0,la,Hs,f,q⟩:=h_18;unfold CZ at q;rw [hr] at q;exact q.elim
end
end
section
def Pp (K:a7) (J:It) (ds:List D) (Hn Hs:Hp):Prop:=∀ H2 Hs2,dD Hn H2->dD Hs Hs2->dD Hs2 H2 ->
 (∀ i,i<ds.length->J.go i H2)/\(∀ i,ds.length<=i->J.stop i H2)/\∀ i x H3,i<ds.length->J.yld i H2 x H3->∃ d Hs3,ds[i]?=some d/\cE H2 Hs2 H3 Hs3/\RD K Hs3 x d
theorem D0     (h:mV K Hn a vs) (r:RDs K Hs vs ds):Pp K (WV K a) ds Hn Hs:=fun H2 Hs2 e1 e2 e3=>by
 have q:=e1.seq h;refine ⟨fun i hi=>?_,fun i hi=>⟨vs,q,by rw [r.length];exact hi⟩,fun i x H3 hi y=>?_⟩
 ·have hi':i<vs.length:=by rw [r.length];exact hi
  exact ⟨vs,vs[i],q,aW hi'⟩
 ·obtain ⟨rfl,y⟩:=y;obtain ⟨d,k1,k2⟩:=r.get (y vs q);exact ⟨d,Hs2,k1,.refl e3,k2.same e2⟩
theorem Nk     (h:lz K Hn a vs) (r:RDs K Hs vs ds):Pp K (WW K a) ds Hn Hs:=fun H2 Hs2 e1 e2 e3=>by
 have q:=e1.tup h;refine ⟨fun i hi=>?_,fun i hi=>⟨vs,q,by rw [r.length];exact hi⟩,fun i x H3 hi y=>?_⟩
 ·have hi':i<vs.length:=by rw [r.length];exact hi
  exact ⟨vs,vs[i],q,aW hi'⟩
 ·obtain ⟨rfl,y⟩:=y;obtain ⟨d,k1,k2⟩:=r.get (y vs q);exact ⟨d,Hs2,k1,.refl e3,k2.same e2⟩
theorem Nl  (x:Str):Pp K (V5 x) (o6 x) Hn Hs:=fun H2 Hs2 e1 e2 e3=>by
 have hl:(o6 x).length=x.cps.size:=by simp [o6]
 refine ⟨fun i hi=>by rw [hl] at hi;exact hi,fun i hi=>by rw [hl] at hi;exact hi,fun i v H3 hi y=>?_⟩;obtain ⟨rfl,c,k1,rfl⟩:=y;refine ⟨.str ⟨#[c]⟩,Hs2,?_,.refl e3,.str _⟩;unfold o6;rw [aO,eI,k1];rfl
def rG (lo:Int) (n:Nat):List D:=(bq n).map fun (k:Nat)=>bC (lo+k)
theorem Nm  (lo:Int) (n:Nat):Pp K (Wt lo n) (rG lo n) Hn Hs:=fun H2 Hs2 e1 e2 e3=>by
 have hl:(rG lo n).length=n:=by simp [rG]
 refine ⟨fun i hi=>by rw [hl] at hi;exact hi,fun i hi=>by rw [hl] at hi;exact hi,fun i v H3 hi y=>?_⟩;obtain ⟨rfl,rfl⟩:=y;refine ⟨.int (lo+i),Hs2,?_,.refl e3,.int _⟩;rw [hl] at hi;unfold rG;rw [aO,Kc hi];rfl
def jh (n:Nat):List D->List D
 |[]=>[]
 |d::r=>.tuple [.int n,d]::jh (n+1) r
theorem wn:∀ (ds:List D) (n i:Nat),(jh n ds)[i]?=(ds[i]?).map fun d=>br [.int ((n+i:Nat):Int),d]
 |[],_,_=>by simp [jh]
 |d::r,n,0=>by simp [jh]
 |d::r,n,i+1=>by
  simp only [jh,jR];rw [wn r (n+1) i,show n+1+i=n+(i+1) by omega]
theorem wo:∀ (ds:List D) (n:Nat),(jh n ds).length=ds.length
 |[],_=>rfl
 |d::r,n=>by simp [jh,wo r]
theorem QH     (h:lz K Hn a vs) (r:RDs K Hs vs ds):Pp K (Xk K a) (jh 0 ds) Hn Hs:=fun H2 Hs2 e1 e2 e3=>by
 have q:=e1.tup h;have hl:=wo ds 0;refine ⟨fun i hi=>?_,fun i hi=>⟨vs,q,by rw [r.length];omega⟩,fun i x H3 hi y=>?_⟩
 ·have hi':i<vs.length:=by rw [r.length];omega
  exact ⟨vs,vs[i],q,aW hi'⟩
 ·obtain ⟨p,hp,rfl,y⟩:=y;obtain ⟨x,k0,rfl⟩:=y vs q;obtain ⟨d,k1,k2⟩:=r.get k0;have st:=cE.new (o:=.tup [.int i,x]) e3 hp;refine ⟨.tuple [.int i,d],_,?_,st,.tuple aR (.cons (.int _) (.cons ((k2.same e2).same st.sh) .nil))⟩;rw [wn,k1];simp
def xD:List D->List D->List D
 |x::xs,y::ys=>.tuple [x,y]::xD xs ys
 |_,_=>[]
theorem ED:∀ (xs ys:List D) (i:Nat) (x y:D),xs[i]?=some x->ys[i]?=some y->(xD xs ys)[i]?=some (.tuple [x,y])
 |x::xs,y::ys,0,_,_,h1,h2=>by simp at h1 h2;subst h1 h2;rfl
 |_::xs,_::ys,i+1,x,y,h1,h2=>by
  simp only [jR] at h1 h2;simp only [xD,jR];exact ED xs ys i x y h1 h2
 |[],_,_,_,_,h1,_=>by simp at h1
 |_::_,[],_,_,_,_,h2=>by simp at h2
theorem EE:∀ (xs ys:List D),(xD xs ys).length=min xs.length ys.length
 |x::xs,y::ys=>by simp [xD,EE xs ys]
 |[],_=>by simp [xD]
 |_::_,[]=>by simp [xD]
theorem TY     (h:lz K Hn a vs) (r:RDs K Hs vs ds) (h':lz K Hn b ws) (r':RDs K Hs ws es):Pp K (Xl K a b) (xD ds es) Hn Hs:=fun H2 Hs2 e1 e2 e3=>by
 have q:=e1.tup h;have q':=e1.tup h';have hl:=EE ds es;refine ⟨fun i hi=>?_,fun i hi=>⟨vs,ws,q,q',by rw [r.length,r'.length];omega⟩,fun i x H3 hi y=>?_⟩
 ·have h1:i<vs.length:=by rw [r.length];omega
  have h2:i<ws.length:=by rw [r'.length];omega
  exact ⟨vs,ws,vs[i],ws[i],q,q',aW h1,aW h2⟩
 ·obtain ⟨p,hp,rfl,y⟩:=y;obtain ⟨x,z,k0,k0',rfl⟩:=y vs ws q q';obtain ⟨d,k1,k2⟩:=r.get k0;obtain ⟨d',k1',k2'⟩:=r'.get k0';have st:=cE.new (o:=.tup [x,z]) e3 hp;exact ⟨.tuple [d,d'],_,ED ds es i d d' k1 k1',st,.tuple aR (.cons ((k2.same e2).same st.sh) (.cons ((k2'.same e2).same st.sh) .nil))⟩
inductive Vr (K:a7) (cls:Str->ag) (E:XK) (ρ:az) (r:R (List D)) (σ:St) (H:Hp) (Q:It->Hp->Prop):Prop
 |mk (H0 Hs0:Hp) (la:Nat->Option ag) (Hs:Hp) (f:Fr K H0 Hs0 la ρ σ H Hs) (q:Fin K cls E H Hs r fun ds=>∀ J H' Hs' Hn,cE H Hs H' Hs'->dD Hn H'->Pp K J ds Hn Hs'->Q J H'):Vr K cls E ρ r σ H Q
def WF (K:a7) (cls:Str->ag) (E:XK) (ρ:az) (r:R (List D)):TI:=Vr K cls E ρ r
inductive Vs (K:a7) (cls:Str->ag) (E:XK) (ρ:az) (r:R (List D)) (σ:St) (H:Hp) (Q:It->Hp->Prop):Prop
 |mk (H0 Hs0:Hp) (la:Nat->Option ag) (Hs:Hp) (f:Fr K H0 Hs0 la ρ σ H Hs) (q:Fin K cls E H Hs r fun ds=>∀ J H' Hs',cE H Hs H' Hs'->Pp K J ds Hs' Hs'->Q J H'):Vs K cls E ρ r σ H Q
def Yg (K:a7) (cls:Str->ag) (E:XK) (ρ:az) (r:R (List D)):TI:=Vs K cls E ρ r
structure JI (c:C) (tg it:bR) (g:az->R (List D)):Prop where of ::
 run:∀ ρ,PI c.X tg it (WF c.X.K c.cls c.E ρ (g ρ))
instance {c:C}{tg it:bR}{g:az->R (List D)}:CoeFun (JI c tg it g) (fun _=>∀ ρ,PI c.X tg it (WF c.X.K c.cls c.E ρ (g ρ))):=⟨JI.run⟩
structure LX (c:C) (tg it:bR) (g:az->R (List D)):Prop where of ::
 run:∀ ρ,PI c.X tg it (Yg c.X.K c.cls c.E ρ (g ρ))
instance {c:C}{tg it:bR}{g:az->R (List D)}:CoeFun (LX c tg it g) (fun _=>∀ ρ,PI c.X tg it (Yg c.X.K c.cls c.E ρ (g ρ))):=⟨LX.run⟩
theorem KQ   (h:PI X tg e t) (m:∀ σ H Q,t' σ H Q->t σ H Q):PI X tg e t':=fun pins s σ H Q I q=>h pins s σ H Q I (m σ H Q q)
section
def yT:D->R (List D)
 |.list ds=>.ok ds
 |.tuple ds=>.ok ds
 |.str x=>.ok (o6 x)
 |_=>.no
def kW (g:az->R D):az->R (List D):=fun ρ=>(g ρ).bind yT
theorem eT (h:JB c l g):JI c tg l (kW g):=.of fun ρ=>by
 cases hr:g ρ with
 |no=>exact fun pins s σ H Q I h_0=>by obtain ⟨H0,Hs0,la,Hs,f,q⟩:=h_0;exact by unfold kW at q;rw [hr] at q;exact q.elim
 |ex x n =>
  refine KQ (uV (h ρ)) fun σ H Q h_1=>?_;obtain ⟨H0,Hs0,la,Hs,f,q⟩:=h_1;refine one f q fun d v H1 Hs1 e1 s1 f1 r1=>?_;rw [hr] at e1;cases e1
 |ok d =>
  cases d with
  |list ds =>
   refine KQ (uV (h ρ)) fun σ H Q h_2=>?_;obtain ⟨H0,Hs0,la,Hs,f,q⟩:=h_2;refine one f q fun d v H1 Hs1 e1 s1 f1 r1=>?_;rw [hr] at e1;cases e1;unfold kW at q;rw [hr,bind_ok] at q;obtain ⟨a,vs,rfl,qa,ra⟩:=r1.list f1.st.sub;exact ⟨a,rfl,⟨vs,qa⟩,q _ H1 Hs1 H1 s1 (.refl _) (D0 qa ra)⟩
  |tuple ds =>
   refine KQ (Mp (h ρ)) fun σ H Q h_3=>?_;obtain ⟨H0,Hs0,la,Hs,f,q⟩:=h_3;refine one f q fun d v H1 Hs1 e1 s1 f1 r1=>?_;rw [hr] at e1;cases e1;unfold kW at q;rw [hr,bind_ok] at q;obtain ⟨a,vs,rfl,qa,ra,_⟩:=r1.tuple f1.st.sub;exact ⟨a,rfl,⟨vs,qa⟩,q _ H1 Hs1 H1 s1 (.refl _) (Nk qa ra)⟩
  |str x =>
   refine KQ (MT (h ρ)) fun σ H Q h_4=>?_;obtain ⟨H0,Hs0,la,Hs,f,q⟩:=h_4;refine one f q fun d v H1 Hs1 e1 s1 f1 r1=>?_;rw [hr] at e1;cases e1;unfold kW at q;rw [hr,bind_ok] at q;exact ⟨x,r1.str,q _ H1 Hs1 H1 s1 (.refl _) (Nl x)⟩
  |none=>exact fun pins s σ H Q I h_5=>by obtain ⟨H0,Hs0,la,Hs,f,q⟩:=h_5;exact by unfold kW at q;rw [hr] at q;exact q.elim
  |bool _=>exact fun pins s σ H Q I h_6=>by obtain ⟨H0,Hs0,la,Hs,f,q⟩:=h_6;exact by unfold kW at q;rw [hr] at q;exact q.elim
  |int _=>exact fun pins s σ H Q I h_7=>by obtain ⟨H0,Hs0,la,Hs,f,q⟩:=h_7;exact by unfold kW at q;rw [hr] at q;exact q.elim
  |dict _=>exact fun pins s σ H Q I h_8=>by obtain ⟨H0,Hs0,la,Hs,f,q⟩:=h_8;exact by unfold kW at q;rw [hr] at q;exact q.elim
theorem I_ (h:JE c l g):LX c tg l (kW g):=.of fun ρ=>by
 cases hr:g ρ with
 |no=>exact fun pins s σ H Q I h_9=>by obtain ⟨H0,Hs0,la,Hs,f,q⟩:=h_9;exact by unfold kW at q;rw [hr] at q;exact q.elim
 |ex x n =>
  refine KQ (uV (h ρ)) fun σ H Q h_10=>?_;obtain ⟨H0,Hs0,la,Hs,f,q⟩:=h_10;refine CK f q fun d v H1 Hs1 e1 s1 f1 r1=>?_;rw [hr] at e1;cases e1
 |ok d =>
  cases d with
  |list ds =>
   refine KQ (uV (h ρ)) fun σ H Q h_11=>?_;obtain ⟨H0,Hs0,la,Hs,f,q⟩:=h_11;refine CK f q fun d v H1 Hs1 e1 s1 f1 r1=>?_;rw [hr] at e1;cases e1;unfold kW at q;rw [hr,bind_ok] at q;cases r1 with
   |list qa ra=>exact ⟨_,rfl,⟨_,f1.st.sub.seq qa⟩,q _ H1 Hs1 s1 (D0 qa ra)⟩
  |tuple ds =>
   refine KQ (Mp (h ρ)) fun σ H Q h_12=>?_;obtain ⟨H0,Hs0,la,Hs,f,q⟩:=h_12;refine CK f q fun d v H1 Hs1 e1 s1 f1 r1=>?_;rw [hr] at e1;cases e1;unfold kW at q;rw [hr,bind_ok] at q;cases r1 with
   |tuple qa ra=>exact ⟨_,rfl,⟨_,(lz.of (f1.st.sub _ _ qa))⟩,q _ H1 Hs1 s1 (Nk (.of qa) ra)⟩
  |str x =>
   refine KQ (MT (h ρ)) fun σ H Q h_13=>?_;obtain ⟨H0,Hs0,la,Hs,f,q⟩:=h_13;refine CK f q fun d v H1 Hs1 e1 s1 f1 r1=>?_;rw [hr] at e1;cases e1;unfold kW at q;rw [hr,bind_ok] at q;cases r1 with
   |str _=>exact ⟨x,rfl,q _ H1 Hs1 s1 (Nl x)⟩
  |none=>exact fun pins s σ H Q I h_14=>by obtain ⟨H0,Hs0,la,Hs,f,q⟩:=h_14;exact by unfold kW at q;rw [hr] at q;exact q.elim
  |bool _=>exact fun pins s σ H Q I h_15=>by obtain ⟨H0,Hs0,la,Hs,f,q⟩:=h_15;exact by unfold kW at q;rw [hr] at q;exact q.elim
  |int _=>exact fun pins s σ H Q I h_16=>by obtain ⟨H0,Hs0,la,Hs,f,q⟩:=h_16;exact by unfold kW at q;rw [hr] at q;exact q.elim
  |dict _=>exact fun pins s σ H Q I h_17=>by obtain ⟨H0,Hs0,la,Hs,f,q⟩:=h_17;exact by unfold kW at q;rw [hr] at q;exact q.elim
theorem LX.i (h:LX c tg l gs):JI c tg l gs:=.of fun ρ=>KQ (h ρ) fun σ H Q ⟨H0,Hs0,la,Hs,f,q⟩=>⟨H0,Hs0,la,Hs,f,by
 cases hr:gs ρ with
 |ok ds=>rw [hr] at q;exact fun J H' Hs' s i=>q J H' Hs' Hs' s s.sub i
 |ex x n=>rw [hr] at q;exact q
 |no=>rw [hr] at q;exact q⟩
def Hg:List D->R (List D)
 |[.int j]=>if -(2 ^ 62)<=j/\j<2 ^ 62 then .ok (rG 0 j.toNat) else .no
 |_=>.no
def yU (gs:az->R (List D)):az->R (List D):=fun ρ=>(gs ρ).bind Hg
theorem pM (hg:Gl c.X "range") (hm:c.X.mg "range"=none) (ha:S2 c [a] gs) (hs:aA [a] c.X.env=[(false,cL a c.X.env)]:=by rfl):LX c tg (.Call (.Name "range" p) [a] [] pos) (yU gs):=.of fun ρ=>KQ (Kl hg hm (ha ρ) hs) fun σ H Q h_18=>by
 obtain ⟨H0,Hs0,la,Hs,f,q⟩:=h_18;refine Na f q fun ds vs H1 Hs1 e1 s1 f1 r1=>?_;unfold yU at q;rw [e1,bind_ok] at q;unfold Hg at q;split at q
 ·rename_i j
  by_cases hj:-(2 ^ 62)<=j/\j<2 ^ 62
  ·rw [if_pos hj] at q;obtain ⟨x,rfl,rx⟩:=r1.one;exact ⟨j,by rw [rx.int],hj.1,hj.2,q _ H1 Hs1 s1 (Nm 0 _)⟩
  ·rw [if_neg hj] at q;exact q.elim
 ·exact q.elim
def WG:List D->R (List D)
 |[.tuple ds]=>.ok (jh 0 ds)
 |_=>.no
def Hh (gs:az->R (List D)):az->R (List D):=fun ρ=>(gs ρ).bind WG
theorem RDs.one    (h:RDs K H xs [d]):∃ x,xs=[x]/\RD K H x d:=by
 cases h with|cons a t=>cases t;exact ⟨_,rfl,a⟩
theorem RDs.two {K:a7}{H:Hp}{xs:List V}{d e:D} (h:RDs K H xs [d,e]):∃ x y,xs=[x,y]/\RD K H x d/\RD K H y e:=by
 cases h with|cons a t=>cases t with|cons b t=>cases t;exact ⟨_,_,rfl,a,b⟩
theorem yV {x1} (hg:Gl c.X "enumerate") (hm:c.X.mg "enumerate"=none) (ha:Et c [a] gs) (hs:aA [a] c.X.env=[(false,cL a c.X.env)]:=by rfl):LX c (.Tuple elts x1 tpos) (.Call (.Name "enumerate" p) [a] [] pos) (Hh gs):=.of fun ρ=>KQ (Qs hg hm (ha ρ) hs) fun σ H Q h_20=>by
 obtain ⟨H0,Hs0,la,Hs,f,q⟩:=h_20;refine CL f q fun ds vs H1 Hs1 e1 s1 f1 r1=>?_;unfold Hh at q;rw [e1,bind_ok] at q;unfold WG at q;split at q
 ·obtain ⟨x,rfl,rx⟩:=r1.one;cases rx with
  |tuple qa ra=>exact ⟨_,_,rfl,(lz.of (f1.st.sub _ _ qa)),q _ H1 Hs1 s1 (QH (.of qa) ra)⟩
 ·exact q.elim
def zp:List D->R (List D)
 |[.tuple ds,.tuple es]=>.ok (xD ds es)
 |_=>.no
def QI (gs:az->R (List D)):az->R (List D):=fun ρ=>(gs ρ).bind zp
theorem QJ {x1} (hg:Gl c.X "zip") (hm:c.X.mg "zip"=none) (ha:Et c [a,b] gs) (hs:aA [a,b] c.X.env=[(false,cL a c.X.env),(false,cL b c.X.env)]:=by rfl) (hs2:aA [b] c.X.env=[(false,cL b c.X.env)]:=by rfl) :
  LX c (.Tuple elts x1 tpos) (.Call (.Name "zip" p) [a,b] [] pos) (QI gs):=.of fun ρ=>KQ (TD hg hm (ha ρ) hs hs2) fun σ H Q h_21=>by
 obtain ⟨H0,Hs0,la,Hs,f,q⟩:=h_21;refine CL f q fun ds vs H1 Hs1 e1 s1 f1 r1=>?_;unfold QI at q;rw [e1,bind_ok] at q;unfold zp at q;split at q
 ·obtain ⟨x,y,rfl,rx,ry⟩:=r1.two;cases rx with
  |tuple qa ra =>
   cases ry with
   |tuple qb rb=>exact ⟨_,_,_,_,rfl,(lz.of (f1.st.sub _ _ qa)),(lz.of (f1.st.sub _ _ qb)),q _ H1 Hs1 s1 (TY (.of qa) ra (.of qb) rb)⟩
 ·exact q.elim
end
end
section
inductive Yh (K:a7) (cls:Str->ag) (E:XK) (ρ:az) (r:R D) (σ:St) (H:Hp) (Q:VK):Prop
 |mk (H0 Hs0:Hp) (la:Nat->Option ag) (Hs:Hp) (f:Fr K H0 Hs0 la ρ σ H Hs) (q:Fin K cls E H Hs r fun d=>∀ a o H' Hs',cE H Hs H' Hs'->H' a=none->mZ K Hs' o d->Q (.ref a) (upd H' a o)):Yh K cls E ρ r σ H Q
def TN (K:a7) (cls:Str->ag) (E:XK) (ρ:az) (r:R D):TE:=Yh K cls E ρ r
structure JN (c:C) (e:bR) (g:az->R D):Prop where of ::
 run:∀ ρ,PE c.X e (TN c.X.K c.cls c.E ρ (g ρ))
instance {c:C}{e:bR}{g:az->R D}:CoeFun (JN c e g) (fun _=>∀ ρ,PE c.X e (TN c.X.K c.cls c.E ρ (g ρ))):=⟨JN.run⟩
section
variable {c:C}{e a b l tg:bR}{g ga gb:az->R D}{pos p:Pos}{gs:az->R (List D)}{es:List bR}{x:Str}
theorem Xv        (q:TR K cls E ρ r σ H Q):TN K cls E ρ r σ H Q:=by
 obtain ⟨H0,Hs0,la,Hs,f,q⟩:=q;refine ⟨H0,Hs0,la,Hs,f,?_⟩;cases r with
 |ok d=>exact fun a o H' Hs' s n r=>q _ _ _ (s.trans (.new s.sub n)) (r.share (s.sub.free n))
 |ex x n=>exact q
 |no=>exact q
theorem JN.je (h:JN c e g):JE c e g:=.of fun ρ=>rh (h ρ) fun σ H Q q=>Xv q
theorem u7 (h:Et c es gs):JN c (.List es pos) (cP gs .list):=.of fun ρ=>rh (ms (h ρ)) fun σ H Q h_0=>by
 obtain ⟨H0,Hs0,la,Hs,f,q⟩:=h_0;refine CL f q fun ds vs H1 Hs1 e1 s1 f1 r1=>?_;unfold cP at q;rw [e1,bind_ok] at q;by_cases hl:ds.length<=1000
 ·rw [if_pos hl] at q;exact ⟨b9 (c8 (by rw [r1.length];exact hl)),fun p hp=>q p _ H1 Hs1 s1 hp (.lst r1)⟩
 ·rw [if_neg hl] at q;exact q.elim
theorem J4:JN c (.Dict [] [] pos) (fun _=>.ok (.dict [])):=.of fun ρ=>rh MG fun σ H Q h_1=>by obtain ⟨H0,Hs0,la,Hs,f,q⟩:=h_1;exact fun p hp=>q p _ H Hs (.refl f.st.sub) hp (.dK .nil)
def gQ (i:Nat) (g:az->R D):az->R Fl:=fun ρ=>(g ρ).bind fun d=>.ok (.nx (ρ.set i (.own d)))
theorem sN            (f:Fr K H0 Hs0 la ρ σ H Hs)
  (h:oN K cls E H0 Hs0 la D' (r.bind k)) (m:∀ d a o H' Hs',r=.ok d->Fr K H0 Hs0 la ρ σ H' Hs'->H' a=none->mZ K Hs' o d->Q (.ref a) (upd H' a o)):TN K cls E ρ r σ H Q:=by
 refine ⟨H0,Hs0,la,Hs,f,?_⟩;cases r with
 |ok d=>exact fun a o H' Hs' s n r=>m d a o H' Hs' rfl (f.step s) n r
 |ex c n=>exact fun H' Hs' s=>h H' Hs' (f.st.trans s)
 |no=>exact h
theorem jY (i:Nat) (h:JN c e g) (hN:c.X.N.Nodup) (hi:c.X.N[i]?=some x:=by rfl) (hx:RH c.X.env.scope x:=by first|exact i4 rfl|exact eU rfl) (hs:iq e (some (.Name x pos')) pos.line c.X.env=pure false:=by rfl)
  (hf:c.X.fn x=true\/c.X.env.scope.names.lookup x=some .local:=by first|exact .inl rfl|exact .inr rfl|assumption):JS c (.Assign [.Name x pos'] e pos) (gQ i g):=.of fun ρ=>Ay (Cf hN hi hx (h ρ) hs hf) fun D σ H h_2=>by
 obtain ⟨H0,Hs0,la,Hs,f,q⟩:=h_2;refine sN f q fun d a o H1 Hs1 e1 f1 n1 r1=>?_;unfold gQ at q;rw [e1,bind_ok] at q;exact q _ _ Hs1 (f1.setO i n1 r1)
def KR {α:Type}:R α->R α
 |.ex _ _=>.no
 |r=>r
theorem J5 {α:Type}{r:R α}{a:α} (h:KR r=.ok a):r=.ok a:=by
 cases r<;>first|exact h|cases h
def i9 (f:D->R (Option D)):List D->R (List D)
 |[]=>.ok []
 |d::r=>(f d).bind fun o=>(i9 f r).bind fun ys=>.ok (match o with
  |some y=>y::ys
  |none=>ys)
theorem yW   (h:i9 f (d::r)=.ok ys):∃ o zs,f d=.ok o/\i9 f r=.ok zs/\ys=o.toList++zs:=by
 unfold i9 at h;cases hf:f d with
 |ok o =>
  rw [hf,bind_ok] at h;cases hm:i9 f r with
  |ok zs =>
   rw [hm,bind_ok] at h;cases h;cases o<;>exact ⟨_,zs,rfl,rfl,rfl⟩
  |ex x n=>rw [hm] at h;cases h
  |no=>rw [hm] at h;cases h
 |ex x n=>rw [hf] at h;cases h
 |no=>rw [hf] at h;cases h
def Pq:Sl->Sl
 |.own d=>.lck d
 |.ow2 _=>.no
 |s=>s
def oO (nt:Nat) (ix:List Nat) (ρ:az):az:=bc nt Sl.no++ix.map fun i=>Pq ((ρ[i]?).getD .no)
def Vt (nt:Nat):D->az->R az:=match nt with
 | 1=>cg 0
 | 2=>o7 2 (c_ (cg 0) (c_ (cg 1) pK))
 |_=>fun _ _=>.no
def j4 (nt:Nat) (ρ:az) (gt:az->R Bool) (ge:az->R D):D->R (Option D):=fun d=>KR ((Vt nt d ρ).bind fun ρ'=>(gt ρ').bind fun b=>if b then (ge ρ').bind fun y=>.ok (some y) else .ok none)
def eM (nt:Nat) (ix:List Nat) (gi:az->R (List D)) (gt:az->R Bool) (ge:az->R D):az->R D:=fun ρ=>(gi ρ).bind fun ds=>if ds.length<=1000 then (i9 (j4 nt (oO nt ix ρ) gt ge) ds).bind fun ys=>.ok (.list ys) else .no
structure Vu (c:C) (ifs:List bR) (g:az->R Bool):Prop where of ::
 run:∀ ρ,Pn c.X ifs (LW c.X.K c.cls c.E ρ (g ρ))
instance {c:C}{ifs:List bR}{g:az->R Bool}:CoeFun (Vu c ifs g) (fun _=>∀ ρ,Pn c.X ifs (LW c.X.K c.cls c.E ρ (g ρ))):=⟨Vu.run⟩
theorem ev:Vu c [] (fun _=>.ok true):=.of fun ρ pins s σ H Q I h_3=>by obtain ⟨H0,Hs0,la,Hs,f,q⟩:=h_3;exact Qo pins s σ H Q I (q H Hs (.refl f.st.sub))
theorem sx (h:JT c e gt):Vu c [e] gt:=.of fun ρ=>Qp (h ρ)
def KS (K:a7) (nt:Nat):TG:=match nt with
 | 1=>wT 0
 |_=>Tb K 2 (L2.a9 (wT 0) (L2.a9 (wT 1) L2.aC))
theorem D1 {K:a7}{nt:Nat} (h:nt=1\/nt=2):RY nt (KS K nt):=by
 rcases h with rfl|rfl
 ·exact MI (by decide)
 ·exact Qq (by decide) (by decide)
theorem EF {K:a7}{nt:Nat}{H0 Hs0 H Hs:Hp}{la:Nat->Option ag}{ρ ρ':az}{σ:St}{v:V}{d:D}{Q:St->Hp->Prop} (hnt:nt=1\/nt=2) (f:Fr K H0 Hs0 la ρ σ H Hs) (r:RD K Hs v d) (hb:Vt nt d ρ=.ok ρ')
  (q:∀ σ',Fr K H0 Hs0 la ρ' σ' H Hs->Q σ' H):KS K nt v σ H Q:=by
 rcases hnt with rfl|rfl
 ·cases hb;exact q _ (f.set 0 r)
 ·unfold Vt o7 at hb;simp only at hb;cases r with
  | @tuple p xs ds hq rs =>
   simp only at hb;split at hb
   ·rename_i hl
    cases rs with
    |nil=>cases hl
    |cons r1 rs =>
     cases rs with
     |nil=>cases hl
     |cons r2 rs =>
      cases rs with
      |nil =>
       cases hb;exact ⟨p,_,rfl,(lz.of (f.st.sub _ _ hq)),rfl,_,_,rfl,_,_,rfl,rfl,q _ ((f.set 0 r1).set 1 r2)⟩
      |cons _ _=>simp at hl
   ·cases hb
  |none=>cases hb
  |bool _=>cases hb
  |int _=>cases hb
  |str _=>cases hb
  |list _ _=>cases hb
  |dictK _ _=>cases hb
  |dictT _ _ _=>cases hb
  |dictF _ _ _=>cases hb
theorem Fr.block     (f:Fr K H0 Hs0 la ρ σ H Hs) (nt:Nat) (ix:List Nat):∃ la',Fr K H Hs la' (oO nt ix ρ) (L2.jM nt ix σ) H Hs:=by
 have lk:∀ (j:Nat) (d:D),(oO nt ix ρ)[j]?=some (Sl.lck d)->∃ a o,(L2.jM nt ix σ)[j]?=some (some (V.ref a))/\H a=some o/\Hs a=none/\mZ K Hs o d:=fun j d h=>by
  unfold oO at h;by_cases hj:j<nt
  ·rw [bQ (by simpa using hj),bP,if_pos hj] at h;cases h
  ·have hj:nt<=j:=by omega
   rw [bd (by simpa using hj),cX,aO] at h;cases hi:ix[j-nt]? with
   |none=>rw [hi] at h;cases h
   |some i =>
    rw [hi] at h;have at_:∀ v,σ[i]?=some (some v)->(L2.jM nt ix σ)[j]?=some (some v):=fun v k1=>by
     unfold L2.jM;rw [bd (by simpa using hj),cX,aO,hi];simp [k1]
    cases hr:ρ[i]? with
    |none=>simp only [dI,hr,gW,Pq] at h;cases h
    |some s =>
     simp only [dI,hr,kS] at h;cases s with
     |own d' =>
      cases h;obtain ⟨a,o,k1,k2,k3,k4,k5⟩:=f.ow i d hr;exact ⟨a,o,at_ _ k1,k2,k3,k5⟩
     |lck d' =>
      cases h;obtain ⟨a,o,k1,k2,k3,k4,k5,k6⟩:=f.lk i d hr;exact ⟨a,o,at_ _ k1,k3,k4,k6⟩
     |no=>cases h
     |shr _=>cases h
     |ow2 _=>cases h
 have no2:∀ (j:Nat) (d:List (List D)),¬ (oO nt ix ρ)[j]?=some (Sl.ow2 d):=fun j d h=>by
  unfold oO at h;by_cases hj:j<nt
  ·rw [bQ (by simpa using hj),bP,if_pos hj] at h;cases h
  ·have hj:nt<=j:=by omega
   rw [bd (by simpa using hj),cX,aO] at h;cases hi:ix[j-nt]? with
   |none=>rw [hi] at h;cases h
   |some i =>
    rw [hi] at h;cases hr:ρ[i]? with
    |none=>simp only [dI,hr,gW,Pq] at h;cases h
    |some s =>
     simp only [dI,hr,kS] at h;cases s<;>cases h
 refine ⟨fun j=>match (oO nt ix ρ)[j]?,(L2.jM nt ix σ)[j]? with
  |some (Sl.lck _),some (some (V.ref a))=>some a
  |_,_=>none,.refl f.st.sub,by simp [oO,L2.jM],fun j d h=>?_,fun j d h=>?_,fun j d h=>?_,fun j k d1 d2 a h1 h2 _ _=>?_,fun j a h=>?_,fun j d h=>(no2 j d h).elim,fun j k d1 d2 h1 _=>(no2 j d1 h1).elim⟩
 case refine_3 =>
  obtain ⟨a,o,k1,k2,k3,k4⟩:=lk j d h;exact ⟨a,o,k1,by rw [h,k1],k2,k3,k2,k4⟩
 case refine_5 =>
  split at h
  ·rename_i d a' h1 h2
   cases h;obtain ⟨a',o,k1,k2,_⟩:=lk j d h1;rw [h2] at k1;cases k1;exact ⟨o,k2⟩
  ·cases h
 all_goals
  unfold oO at *
 ·have h:=h;by_cases hj:j<nt
  ·rw [bQ (by simpa using hj),bP,if_pos hj] at h;cases h
  ·have hj:nt<=j:=by omega
   rw [bd (by simpa using hj),cX,aO] at h;cases hi:ix[j-nt]? with
   |none=>rw [hi] at h;cases h
   |some i =>
    rw [hi] at h;cases hr:ρ[i]? with
    |none=>simp only [dI,hr,gW,Pq] at h;cases h
    |some s =>
     simp only [dI,hr,kS] at h;cases s with
     |shr d' =>
      cases h;obtain ⟨v,k1,k2⟩:=f.sh i d hr;refine ⟨v,?_,k2⟩;unfold L2.jM;rw [bd (by simpa using hj),cX,aO,hi];simp [k1]
     |no=>cases h
     |own _=>cases h
     |lck _=>cases h
     |ow2 _=>cases h
 ·have h:=h;by_cases hj:j<nt
  ·rw [bQ (by simpa using hj),bP,if_pos hj] at h;cases h
  ·have hj:nt<=j:=by omega
   rw [bd (by simpa using hj),cX,aO] at h;cases hi:ix[j-nt]? with
   |none=>rw [hi] at h;cases h
   |some i =>
    rw [hi] at h;cases hr:ρ[i]? with
    |none=>simp only [dI,hr,gW,Pq] at h;cases h
    |some s =>
     simp only [dI,hr,kS] at h;cases s<;>cases h
 ·have h1:=h1;by_cases hj:j<nt
  ·rw [bQ (by simpa using hj),bP,if_pos hj] at h1;cases h1
  ·have hj:nt<=j:=by omega
   rw [bd (by simpa using hj),cX,aO] at h1;cases hi:ix[j-nt]? with
   |none=>rw [hi] at h1;cases h1
   |some i =>
    rw [hi] at h1;cases hr:ρ[i]? with
    |none=>simp only [dI,hr,gW,Pq] at h1;cases h1
    |some s =>
     simp only [dI,hr,kS] at h1;cases s<;>cases h1
theorem yX (h:∀ d c n,f d≠.ex c n):∀ (ds:List D) (c:Str) (n:Option D),i9 f ds≠.ex c n
 |[],c,n=>fun e=>by cases e
 |d::r,c,n=>fun e=>by
  unfold i9 at e;cases hf:f d with
  |ok o =>
   rw [hf,bind_ok] at e;cases hm:i9 f r with
   |ok zs=>rw [hm,bind_ok] at e;cases e
   |ex x k=>exact yX h r x k hm
   |no=>rw [hm] at e;cases e
  |ex x k=>exact h d x k hf
  |no=>rw [hf] at e;cases e
theorem EG (nt:Nat) (ρ:az) (gt:az->R Bool) (ge:az->R D) (d:D) (c:Str) (n:Option D):j4 nt ρ gt ge d≠.ex c n:=by
 unfold j4 KR;split<;>first|exact fun e=>by cases e|skip
 rename_i h
 exact fun e=>h c n e
inductive Yi (K:a7) (f:D->R (Option D)) (ds ys:List D) (H1 Hs1:Hp) (i m:Nat) (acc:List V) (H':Hp):Prop
 |mk (done bK zs ya Hs':_) (h0:ds=done++bK) (h1:done.length=i) (h2:bK.length=m) (h3:cE H1 Hs1 H' Hs') (h4:RDs K Hs' acc ya) (h5:ya.length<=i) (h6:i9 f bK=.ok zs) (h7:ys=ya++zs):Yi K f ds ys H1 Hs1 i m acc H'
theorem J6 {K:a7}{cls:Str->ag}{E:XK}{nt:Nat}{ix:List Nat}{gi:az->R (List D)}{gt:az->R Bool}{ge:az->R D}{ρ:az}{σ:St}{H:Hp}{Q:VK} (hnt:nt=1\/nt=2)
  (q:TN K cls E ρ (eM nt ix gi gt ge ρ) σ H Q) :
  MH nt ix (WF K cls E ρ (gi ρ)) (KS K nt) (fun σ H Q=>∃ ρ',LW K cls E0 ρ' (gt ρ') σ H Q) (fun σ H Q=>∃ ρ',TR K cls E0 ρ' (ge ρ') σ H Q) σ H Q:=by
 obtain ⟨H0,Hs0,la,Hs,f,q⟩:=q;refine ⟨H0,Hs0,la,Hs,f,?_⟩;unfold eM at q;cases hi:gi ρ with
 |no=>rw [hi] at q;exact q
 |ex x n=>rw [hi] at q;exact q
 |ok ds =>
  rw [hi,bind_ok] at q;intro J H1 Hs1 Hn s1 sn it;by_cases hl:ds.length<=1000
  ·rw [if_pos hl] at q;cases hm:i9 (j4 nt (oO nt ix ρ) gt ge) ds with
   |no=>rw [hm] at q;exact q.elim
   |ex x n=>exact (yX (EG _ _ _ _) _ _ _ hm).elim
   |ok ys =>
    rw [hm,bind_ok] at q;obtain ⟨lb,fb⟩:=(f.step s1).block nt ix;refine ⟨Yi K (j4 nt (oO nt ix ρ) gt ge) ds ys H1 Hs1,
     ⟨ds.length,[],ds,ys,[],Hs1,rfl,rfl,rfl,.refl s1.sub,.nil,eB _,hm,rfl⟩,?_⟩
    rintro i m acc H' ⟨done,bK,zs,ya,Hs',hds,hdl,hrl,st,ra,yl,hz,hy⟩;obtain ⟨igo,istop,iyld⟩:=it H' Hs' (sn.trans st.all) st.sh st.sub;cases bK with
    |nil =>
     left;cases hz;rw [cB] at hds hy;subst hy hds;exact ⟨istop i (by omega),fun p hp=>q p _ H' Hs' (s1.trans st) hp (.lst ra)⟩
    |cons d bK =>
     right;have hil:i<ds.length:=by rw [hds,aJ,aM];omega
     refine ⟨igo i hil,c8 (by rw [ra.length];omega),fun x H2 hyl=>?_⟩;obtain ⟨d',Hs2,hd,s2,r2⟩:=iyld i x H2 hil hyl;have hdd:d'=d:=by
      rw [hds,bd (by omega)] at hd;simp [hdl] at hd;exact hd.symm
     subst hdd;obtain ⟨o,zs',hf,hz',rfl⟩:=yW hz;have hf:=J5 hf;cases hb:Vt nt d' (oO nt ix ρ) with
     |no=>rw [hb] at hf;cases hf
     |ex x n=>rw [hb] at hf;cases hf
     |ok ρ' =>
      rw [hb,bind_ok] at hf;refine EF hnt ((fb.step st).step s2) r2 hb fun σ2 f2=>⟨ρ',?_⟩;refine ⟨_,_,_,Hs2,f2,?_⟩;cases ht:gt ρ' with
      |no=>rw [ht] at hf;cases hf
      |ex x n=>rw [ht] at hf;cases hf
      |ok b =>
       rw [ht,bind_ok] at hf;intro H3 Hs3 s3;cases b with
       |false =>
        rw [if_neg aL] at hf;cases hf;refine Cm ⟨bK.length,by rw [<- hrl];simp,done++[d'],bK,zs',ya,Hs3,by rw [hds];simp,by simp [hdl],rfl,(st.trans s2).trans s3,ra.same (s2.trans s3).sh,by omega,hz',by simpa using hy⟩
       |true =>
        rw [if_pos rfl] at hf;refine GR ⟨ρ',_,_,_,Hs3,f2.step s3,?_⟩;cases he:ge ρ' with
        |no=>rw [he] at hf;cases hf
        |ex x n=>rw [he] at hf;cases hf
        |ok y =>
         rw [he,bind_ok] at hf;cases hf;intro v H4 Hs4 s4 r4;exact ⟨bK.length,by rw [<- hrl];simp,done++[d'],bK,zs',ya++[y],Hs4,by rw [hds];simp,by simp [hdl],rfl,((st.trans s2).trans s3).trans s4,(ra.same ((s2.trans s3).trans s4).sh).append (.cons r4 .nil),by simp;omega,hz',by rw [hy];simp⟩
  ·rw [if_neg hl] at q;exact q.elim
def C.comp (c:C) (N':List Str) (scope:gH) (cl:List (Str×ag)) (A:ag) (s₀:ah) (H₀:Hp) (ex:List ag) (pn:List (ag×Obj)):C:=⟨cQ c.X N' scope cl A s₀ H₀ ex pn,c.cls,E0⟩
variable {elt iter:bR}{ifs:List bR}{scope:gH}{N':List Str}{nt:Nat}{ix:List Nat}{gi:az->R (List D)}{gt:az->R Bool}{ge:az->R D}
def vf (c:C) (N':List Str) (scope:gH) (nt:Nat) (tg:bR) (ifs:List bR) (elt:bR) (gt:az->R Bool) (ge:az->R D):Prop :=
 ∀ cl A s₀ H₀ ex pn,PG (c.comp N' scope cl A s₀ H₀ ex pn).X tg (KS c.X.K nt)/\Vu (c.comp N' scope cl A s₀ H₀ ex pn) ifs gt/\JE (c.comp N' scope cl A s₀ H₀ ex pn) elt ge
theorem vf.at (h:vf c N' scope nt tg ifs elt gt ge):∀ cl A s₀ H₀ ex pn,PG (cQ c.X N' scope cl A s₀ H₀ ex pn) tg (KS c.X.K nt)/\Pn (cQ c.X N' scope cl A s₀ H₀ ex pn) ifs (fun σ H Q=>∃ ρ',LW c.X.K c.cls E0 ρ' (gt ρ') σ H Q) /\
  PE (cQ c.X N' scope cl A s₀ H₀ ex pn) elt (fun σ H Q=>∃ ρ',TR c.X.K c.cls E0 ρ' (ge ρ') σ H Q):=fun cl A s₀ H₀ ex pn=>by
 obtain ⟨h1,h2,h3⟩:=h cl A s₀ H₀ ex pn;exact ⟨h1,fun pins s σ H Q I h_4=>by obtain ⟨ρ',q⟩:=h_4;exact h2 ρ' pins s σ H Q I q,fun pins s σ H Q I h_5=>by obtain ⟨ρ',q⟩:=h_5;exact h3 ρ' pins s σ H Q I q⟩
theorem fu (nt:Nat) (hnt:nt=1\/nt=2) (hc:c.X.calm=true) (S:nW c.X scope N' nt ix) (hi:JI c tg iter gi) (hb:vf c N' scope nt tg ifs elt gt ge) (hs:∀ x,eF iter c.X.env x=pure x:=by intro _;rfl) :
  JN c (.ListComp elt [⟨tg,iter,ifs,0⟩] scope pos) (eM nt ix gi gt ge):=.of fun ρ=>rh (E8 hc S (D1 hnt) (hi ρ) hb.at hs) fun σ H Q q=>J6 hnt q
theorem iN (i:Nat) {spos py:Pos} (nt:Nat) (hnt:nt=1\/nt=2) (hN:c.X.N.Nodup) (hc:c.X.calm=true) (S:nW c.X scope N' nt ix) (hi:JI c tg iter gi) (hb:vf c N' scope nt tg ifs elt gt ge)
  (hiN:c.X.N[i]?=some x:=by rfl) (hy:c.X.env.scope.names.lookup x=some .local:=by rfl)
  (hsw:iq (.ListComp elt [⟨tg,iter,ifs,0⟩] scope pos) (some (.Name x py)) spos.line c.X.env=pure true:=by rfl)
  (hs:∀ x,eF iter c.X.env x=pure x:=by intro _;rfl):JS c (.Assign [.Name x py] (.ListComp elt [⟨tg,iter,ifs,0⟩] scope pos) spos) (gQ i (eM nt ix gi gt ge)):=.of fun ρ=>Ay (GU hN hiN hy hc S (D1 hnt) (hi ρ) hb.at hsw hs) fun D σ H h_6=>by
 obtain ⟨H0,Hs0,la,Hs,f,q⟩:=h_6;refine J6 (Q:=fun x H1=>D.nx (σ.set i (some x)) H1) hnt (sN f q fun d a o H1 Hs1 e1 f1 n1 r1=>?_);unfold gQ at q;rw [e1,bind_ok] at q;exact q _ _ Hs1 (f1.setO i n1 r1)
end
end
section
theorem S8   (h:PS X.nox st t):PS X st t:=fun pins s σ H D I hw =>
 aZ (h pins s σ H D (I.wish _) hw) (fun _ _ q=>q.unwish) fun _ _ z=>eN z
def C.nox (c:C):C:=⟨c.X.nox,c.cls,E0⟩
def iR (k:D->az->R az) (b:az->R Fl):List D->az->R Fl
 |[],ρ=>.ok (.nx ρ)
 |d::r,ρ=>match k d ρ with
  |.ok ρ1=>match b ρ1 with
   |.ok (.nx ρ')=>iR k b r ρ'
   |.ok (.ct ρ')=>iR k b r ρ'
   |.ok (.bk ρ')=>.ok (.nx ρ')
   |.ok (.rt d)=>.ok (.rt d)
   |_=>.no
  |_=>.no
def D2 (i:Nat) (ρ:az):az:=match ρ[i]? with
 |some (Sl.own d)=>ρ.set i (.lck d)
 |_=>ρ
def yY (i:Nat) (ρ0 ρ:az):az:=match ρ0[i]?,ρ[i]? with
 |some (Sl.own _),some (Sl.lck d)=>ρ.set i (.own d)
 |_,_=>ρ
def Yy (i:Nat) (ρ0:az):R Fl->R Fl
 |.ok (.nx ρ)=>.ok (.nx (yY i ρ0 ρ))
 |.ok (.bk ρ)=>.no
 |.ok (.ct ρ)=>.no
 |r=>r
section
inductive Yj (K:a7) (cls:Str->ag) (E:XK) (H0 Hs0:Hp) (la:Nat->Option ag) (D':Ca) (kt:D->az->R az) (gb:az->R Fl) (ds:List D) (i m:Nat) (σ:St) (H:Hp):Prop
 |mk (done bK ρ Hs:_) (h0:ds=done++bK) (h1:done.length=i) (h2:bK.length=m) (h3:Fr K H0 Hs0 la ρ σ H Hs) (h4:oN K cls E H0 Hs0 la D' (iR kt gb bK ρ)):Yj K cls E H0 Hs0 la D' kt gb ds i m σ H
theorem No
  (it:Pp K J ds Hn Hs0) (hn:dD Hn H0) (f:Fr K H0 Hs0 la ρ σ H Hs)
  (htg:∀ ρ d v σ H Q,TX K ρ d (kt d ρ) v σ H Q->tg v σ H Q) (htb:∀ ρ D σ H,SR K cls E0 ρ (gb ρ) D σ H->tb D σ H)
  (q:oN K cls E H0 Hs0 la D' (iR kt gb ds ρ)) :
  WY tg tb D' σ J H:=by
 refine ⟨Yj K cls E H0 Hs0 la D' kt gb ds,⟨ds.length,[],ds,ρ,Hs,rfl,rfl,rfl,f,q⟩,?_⟩;rintro i m σ H ⟨done,bK,ρ,Hs,hds,hdl,hrl,f,q⟩;obtain ⟨igo,istop,iyld⟩:=it H Hs (hn.trans f.st.all) f.st.sh f.st.sub;cases bK with
 |nil =>
  rw [cB] at hds;subst hds;exact .inl ⟨istop i (by omega),q σ H Hs f⟩
 |cons d bK =>
  have hil:i<ds.length:=by rw [hds,aJ,aM];omega
  refine .inr ⟨igo i hil,fun σ' H'=>∃ ρ' Hs',Fr K H0 Hs0 la ρ' σ' H' Hs'/\oN K cls E H0 Hs0 la D' (iR kt gb bK ρ'),fun σ' H' ⟨ρ',Hs',f',q'⟩=>⟨bK.length,by rw [<- hrl];simp,done++[d],bK,ρ',Hs',by rw [hds];simp,by simp [hdl],rfl,f',q'⟩,fun x H2 hyl=>?_⟩;obtain ⟨d',Hs2,hd,s2,r2⟩:=iyld i x H2 hil hyl;have hdd:d'=d:=by
   rw [hds,bd (by omega)] at hd;simp [hdl] at hd;exact hd.symm
  subst hdd;unfold iR at q;refine htg ρ d' x σ H2 _ ⟨H0,Hs0,la,Hs2,f.step s2,r2,?_⟩;cases hk:kt d' ρ with
  |ex c n=>rw [hk] at q;exact q
  |no=>rw [hk] at q;exact q
  |ok ρ1 =>
   rw [hk] at q;intro σ2 f2;refine htb ρ1 _ σ2 H2 ⟨H0,Hs0,la,Hs2,f2,?_⟩;cases hg:gb ρ1 with
   |no=>simp only [hg] at q;exact q.elim
   |ex c n=>simp only [hg] at q;exact q.elim
   |ok fl =>
    simp only [hg] at q;cases fl with
    |nx ρ'=>exact fun σ' H' Hs' f'=>⟨ρ',Hs',f',q⟩
    |ct ρ'=>exact fun σ' H' Hs' f'=>⟨ρ',Hs',f',q⟩
    |bk ρ'=>exact fun σ' H' Hs' f'=>q σ' H' Hs' f'
    |rt d=>exact q
def qH (A B:Hp):Hp:=fun b=>match A b with
 |some o=>some o
 |none=>B b
theorem jZ:dD A (qH A B):=fun b o e=>by unfold qH;rw [e]
theorem jz  (h:A b=none):qH A B b=B b:=by unfold qH;rw [h]
theorem EH (h1:dD A H) (h2:dD B H):dD (qH A B) H:=fun b o e=>by
 cases h:A b with
 |some u=>unfold qH at e;rw [h] at e;cases e;exact h1 b o h
 |none=>rw [jz h] at e;exact h2 b o e
theorem Np (h1:dD A H) (h2:dD B H):dD B (qH A B):=fun b o e=>by
 cases h:A b with
 |some u =>
  unfold qH;rw [h];have:=h1 b u h;rw [h2 b o e] at this;exact this.symm
 |none=>rw [jz h];exact e
theorem Fr.into    (f:Fr K H0 Hs0 la ρ σ H Hs):Fr K (qH H0 Hs) Hs la ρ σ H Hs:=by
 have sub:=EH f.st.all f.st.sub;refine ⟨⟨sub,.refl _,f.st.sub,fun a o e _ z=>z⟩,f.len,f.sh,fun i d h=>?_,fun i d h=>?_,f.dj,fun i a e=>let ⟨o,k⟩:=f.lh i a e;⟨o,jZ _ _ k⟩,fun i d h=>?_,f.u2⟩
 ·obtain ⟨a,o,h1,h2,h3,h4,h5⟩:=f.ow i d h;exact ⟨a,o,h1,h2,h3,by rw [jz h4];exact h3,h5⟩
 ·obtain ⟨a,o,h1,h2,h3,h4,h5,h6⟩:=f.lk i d h;exact ⟨a,o,h1,h2,h3,h4,jZ _ _ h5,h6⟩
 ·obtain ⟨a,as,O⟩:=f.o2 i d h;exact ⟨a,as,O.at_,O.ob,O.nd,fun b hb=>⟨(O.out b hb).1,by rw [jz (O.out b hb).2];exact (O.out b hb).1⟩,O.dj,O.inn⟩
theorem cE.outof (s:cE H0 Hs0 H1 Hs1) (t:cE (qH H0 Hs1) Hs1 H' Hs'):cE H0 Hs0 H' Hs' :=
 ⟨jZ.trans t.all,s.sh.trans t.sh,t.sub,fun a o e n z=>t.out a o (jZ _ _ e) n (s.out a o e n z)⟩
theorem Fr.outof    (f1:Fr K H0 Hs0 la ρ1 σ1 H1 Hs1) (f:Fr K (qH H0 Hs1) Hs1 la ρ σ H' Hs'):Fr K H0 Hs0 la ρ σ H' Hs':=by
 refine ⟨f1.st.outof f.st,f.len,f.sh,fun i d h=>?_,fun i d h=>?_,f.dj,f1.lh,fun i d h=>?_,f.u2⟩
 ·obtain ⟨a,o,h1,h2,h3,h4,h5⟩:=f.ow i d h;exact ⟨a,o,h1,h2,h3,jZ.free h4,h5⟩
 ·obtain ⟨a,o,h1,h2,h3,h4,h5,h6⟩:=f.lk i d h;obtain ⟨o',e⟩:=f1.lh i a h2;have e':=jZ (B:=Hs1) _ _ e;rw [h5] at e';cases e';exact ⟨a,o,h1,h2,h3,h4,e,h6⟩
 ·obtain ⟨a,as,O⟩:=f.o2 i d h;exact ⟨a,as,O.at_,O.ob,O.nd,fun b hb=>⟨(O.out b hb).1,jZ.free (O.out b hb).2⟩,O.dj,O.inn⟩
end
end
section
section
theorem oN.into      (f1:Fr K H0 Hs0 la ρ1 σ1 H1 Hs1) (q:oN K cls E H0 Hs0 la D' r):oN K cls E (qH H0 Hs1) Hs1 la D' r:=by
 cases r with
 |no=>exact q
 |ex c n=>exact fun H' Hs' s=>q H' Hs' (f1.st.outof s)
 |ok fl =>
  cases fl with
  |nx ρ=>exact fun σ' H' Hs' f=>q σ' H' Hs' (f1.outof f)
  |bk ρ=>exact fun σ' H' Hs' f=>q σ' H' Hs' (f1.outof f)
  |ct ρ=>exact fun σ' H' Hs' f=>q σ' H' Hs' (f1.outof f)
  |rt d=>exact fun v H' Hs' s r=>q v H' Hs' (f1.st.outof s) r
theorem Fr.lock    (f:Fr K H0 Hs0 la ρ σ H Hs)    (hi:ρ[i]?=some (Sl.own d)) (k1:σ[i]?=some (some (V.ref a))) (k2:H a=some o) (k3:Hs a=none) (k4:H0 a=none) (k5:mZ K Hs o d) :
  Fr K (qH H0 (upd Hs a o)) Hs (fun j=>if j=i then some a else la j) (ρ.set i (.lck d)) σ H Hs:=by
 have hil:i<ρ.length:=(List.getElem?_eq_some_iff.mp hi).1;have sub:dD (upd Hs a o) H:=fun b u q=>by
  by_cases hb:b=a
  ·subst hb;rw [aR] at q;cases q;exact k2
  ·rw [aU hb] at q;exact f.st.sub b u q
 have nx:∀ {j:Nat}{s:Sl},(∀ d,s≠.lck d)->(ρ.set i (.lck d))[j]?=some s->ρ[j]?=some s/\i≠j:=fun {j s} hs e=>by
  by_cases hj:i=j
  ·subst hj;rw [aI hil] at e;exact absurd (bx e).symm (hs d)
  ·rw [aj hj] at e;exact ⟨e,hj⟩
 refine ⟨⟨EH f.st.all sub,.refl _,f.st.sub,fun a o e _ z=>z⟩,by simp [f.len],fun j e h=>?_,fun j e h=>?_,fun j e h=>?_,fun j k d1 d2 b h1 h2 h3 h4=>?_,fun j b h=>?_,fun j e h=>?_,fun j k d1 d2 h1 h2=>?_⟩
 ·obtain ⟨h,_⟩:=nx (fun _ z=>by cases z) h;exact f.sh j e h
 ·obtain ⟨h,hj⟩:=nx (fun _ z=>by cases z) h;obtain ⟨b,u,q1,q2,q3,q4,q5⟩:=f.ow j e h;refine ⟨b,u,q1,q2,q3,?_,q5⟩;rw [jz q4,aU (fun z=>hj ?_)]
  ·exact q3
  ·subst z;exact f.dj i j d e b hi h k1 q1
 ·by_cases hj:i=j
  ·subst hj;rw [aI hil] at h;cases h;exact ⟨a,o,k1,if_pos rfl,k2,k3,by rw [jz k4,aR],k5⟩
  ·rw [aj hj] at h;obtain ⟨b,u,q1,q2,q3,q4,q5,q6⟩:=f.lk j e h;exact ⟨b,u,q1,by rw [if_neg (dq hj)];exact q2,q3,q4,jZ _ _ q5,q6⟩
 ·obtain ⟨h1,_⟩:=nx (fun _ z=>by cases z) h1;obtain ⟨h2,_⟩:=nx (fun _ z=>by cases z) h2;exact f.dj j k d1 d2 b h1 h2 h3 h4
 ·by_cases hj:j=i
  ·simp only [if_pos hj] at h;cases h;exact ⟨o,by rw [jz k4,aR]⟩
  ·simp only [if_neg hj] at h;obtain ⟨u,e⟩:=f.lh j b h;exact ⟨u,jZ _ _ e⟩
 ·obtain ⟨h,hj⟩:=nx (fun _ z=>by cases z) h;obtain ⟨b,as,O⟩:=f.o2 j e h;refine ⟨b,as,O.at_,O.ob,O.nd,fun c hc=>⟨(O.out c hc).1,?_⟩,fun c hc k e' hk=>O.dj c hc k e' (nx (fun _ z=>by cases z) hk).1,O.inn⟩;rw [jz (O.out c hc).2,aU (fun z=>?_)]
  ·exact (O.out c hc).1
  ·subst z;exact O.dj c hc i d hi k1
 ·exact f.u2 j k d1 d2 (nx (fun _ z=>by cases z) h1).1 (nx (fun _ z=>by cases z) h2).1
theorem cE.unlock   (s:cE H0 Hs0 H Hs) (t:cE (qH H0 (upd Hs a o)) Hs H' Hs'):cE H0 Hs0 H' Hs' :=
 ⟨jZ.trans t.all,s.sh.trans t.sh,t.sub,fun b u e n z=>t.out b u (jZ _ _ e) n (s.out b u e n z)⟩
theorem Fr.unlock    (f:Fr K H0 Hs0 la ρ σ H Hs)    (hi:ρ[i]?=some (Sl.own d)) (k4:H0 a=none)
  (f':Fr K (qH H0 (upd Hs a o)) Hs (fun j=>if j=i then some a else la j) ρ' σ' H' Hs'):Fr K H0 Hs0 la (yY i ρ ρ') σ' H' Hs':=by
 have st:=f.st.unlock f'.st;have own:∀ (j:Nat) (e:D),ρ'[j]?=some (Sl.own e)->∃ b u,σ'[j]?=some (some (V.ref b))/\H' b=some u/\Hs' b=none/\H0 b=none/\mZ K Hs' u e/\(qH H0 (upd Hs a o)) b=none:=fun j e h=>by
  obtain ⟨b,u,q1,q2,q3,q4,q5⟩:=f'.ow j e h;exact ⟨b,u,q1,q2,q3,jZ.free q4,q5,q4⟩
 have lck:∀ (j:Nat) (e:D),j≠i->ρ'[j]?=some (Sl.lck e)->∃ b u,σ'[j]?=some (some (V.ref b))/\la j=some b/\H' b=some u/\Hs' b=none/\H0 b=some u/\mZ K Hs' u e:=fun j e hj h=>by
  obtain ⟨b,u,q1,q2,q3,q4,q5,q6⟩:=f'.lk j e h;simp only [if_neg hj] at q2;obtain ⟨u',e'⟩:=f.lh j b q2;have:=jZ (B:=upd Hs a o) _ _ e';rw [q5] at this;cases this;exact ⟨b,u,q1,q2,q3,q4,e',q6⟩
 have two:∀ (j:Nat) (e:List (List D)),ρ'[j]?=some (Sl.ow2 e)->∃ b as,O2 K H0 H' Hs' ρ' σ' j e b as:=fun j e h=>by
  obtain ⟨b,as,O⟩:=f'.o2 j e h;exact ⟨b,as,O.at_,O.ob,O.nd,fun c hc=>⟨(O.out c hc).1,jZ.free (O.out c hc).2⟩,O.dj,O.inn⟩
 unfold yY;cases hl:ρ'[i]? with
 |none =>
  simp only [hi];refine ⟨st,f'.len,f'.sh,fun j e h=>let ⟨b,u,q1,q2,q3,q4,q5,_⟩:=own j e h;⟨b,u,q1,q2,q3,q4,q5⟩,fun j e h=>lck j e (fun z=>by rw [z,hl] at h;cases h) h,f'.dj,f.lh,two,f'.u2⟩
 |some s =>
  cases s with
  |no=>simp only [hi];exact ⟨st,f'.len,f'.sh,fun j e h=>let ⟨b,u,q1,q2,q3,q4,q5,_⟩:=own j e h;⟨b,u,q1,q2,q3,q4,q5⟩,fun j e h=>lck j e (fun z=>by rw [z,hl] at h;cases h) h,f'.dj,f.lh,two,f'.u2⟩
  |shr _=>simp only [hi];exact ⟨st,f'.len,f'.sh,fun j e h=>let ⟨b,u,q1,q2,q3,q4,q5,_⟩:=own j e h;⟨b,u,q1,q2,q3,q4,q5⟩,fun j e h=>lck j e (fun z=>by rw [z,hl] at h;cases h) h,f'.dj,f.lh,two,f'.u2⟩
  |own _=>simp only [hi];exact ⟨st,f'.len,f'.sh,fun j e h=>let ⟨b,u,q1,q2,q3,q4,q5,_⟩:=own j e h;⟨b,u,q1,q2,q3,q4,q5⟩,fun j e h=>lck j e (fun z=>by rw [z,hl] at h;cases h) h,f'.dj,f.lh,two,f'.u2⟩
  |ow2 _=>simp only [hi];exact ⟨st,f'.len,f'.sh,fun j e h=>let ⟨b,u,q1,q2,q3,q4,q5,_⟩:=own j e h;⟨b,u,q1,q2,q3,q4,q5⟩,fun j e h=>lck j e (fun z=>by rw [z,hl] at h;cases h) h,f'.dj,f.lh,two,f'.u2⟩
  |lck d' =>
   simp only [hi];have hil:i<ρ'.length:=(List.getElem?_eq_some_iff.mp hl).1;have nx:∀ {j:Nat}{s:Sl},(∀ d,s≠.own d)->(ρ'.set i (.own d'))[j]?=some s->ρ'[j]?=some s/\i≠j:=fun {j s} hs e=>by
    by_cases hj:i=j
    ·subst hj;rw [aI hil] at e;exact absurd (bx e).symm (hs d')
    ·rw [aj hj] at e;exact ⟨e,hj⟩
   obtain ⟨b,u,q1,q2,q3,q4,q5,q6⟩:=f'.lk i d' hl;simp only [if_pos rfl] at q2;cases q2;have ne:∀ (j:Nat) (e:D),ρ'[j]?=some (Sl.own e)->σ'[j]?≠some (some (V.ref a)):=fun j e h z=>by
    obtain ⟨b,u,p1,_,_,_,_,p6⟩:=own j e h;rw [z] at p1;cases p1;rw [q5] at p6;cases p6
   refine ⟨st,by simp [f'.len],fun j e h=>?_,fun j e h=>?_,fun j e h=>?_,fun j k d1 d2 c h1 h2 h3 h4=>?_,f.lh,fun j e h=>?_,fun j k d1 d2 h1 h2=>?_⟩
   ·obtain ⟨h,_⟩:=nx (fun _ z=>by cases z) h;exact f'.sh j e h
   ·by_cases hj:i=j
    ·subst hj;rw [aI hil] at h;cases h;exact ⟨a,u,q1,q3,q4,k4,q6⟩
    ·rw [aj hj] at h;obtain ⟨b,u,p1,p2,p3,p4,p5,_⟩:=own j e h;exact ⟨b,u,p1,p2,p3,p4,p5⟩
   ·obtain ⟨h,hj⟩:=nx (fun _ z=>by cases z) h;exact lck j e (dq hj) h
   ·by_cases hj:i=j
    ·by_cases hk:i=k
     ·exact hj.symm.trans hk
     ·rw [aj hk] at h2;subst hj;rw [q1] at h3;cases h3;exact (ne k d2 h2 h4).elim
    ·rw [aj hj] at h1;by_cases hk:i=k
     ·subst hk;rw [q1] at h4;cases h4;exact (ne j d1 h1 h3).elim
     ·rw [aj hk] at h2;exact f'.dj j k d1 d2 c h1 h2 h3 h4
   ·obtain ⟨h,hj⟩:=nx (fun _ z=>by cases z) h;obtain ⟨b,as,O⟩:=two j e h;refine ⟨b,as,O.at_,O.ob,O.nd,O.out,fun c hc k e' hk=>?_,O.inn⟩;by_cases nk:i=k
    ·subst nk;intro z;rw [q1] at z;cases z;obtain ⟨b',as',O'⟩:=f'.o2 j e h;have hh:=O.at_;rw [O'.at_] at hh;cases hh;have hs:as'=as:=by
      have h1:=O.ob;rw [O'.ob] at h1;injection h1 with h1;injection h1 with h1;exact LS (fun x y z=>by cases z;rfl) |>.mp h1
     subst hs;have:=(O'.out _ hc).2;rw [q5] at this;cases this
    ·rw [aj nk] at hk;exact O.dj c hc k e' hk
   ·exact f'.u2 j k d1 d2 (nx (fun _ z=>by cases z) h1).1 (nx (fun _ z=>by cases z) h2).1
end
section
def s_ (gi:az->R (List D)) (kt:D->az->R az) (gb:az->R Fl):az->R Fl:=fun ρ=>match gi ρ with
 |.ok ds=>iR kt gb ds ρ
 |_=>.no
theorem pO (hc:c.X.calm=true) (hi:LX c.nox tg iter gi) (hg:JG c.nox tg kt) (hb:IZ c.nox body gbd) (hs:∀ x,eF iter c.X.env x=pure x:=by intro _;rfl):JS c (.For tg iter body [] pos) (s_ gi kt gbd):=.of fun ρ=>by
 refine S8 (Ay (Mr IA hc (hi ρ) (g:=fun v σ H Q=>∃ ρ d,TX c.X.K ρ d (kt d ρ) v σ H Q) (tb:=fun D σ H=>∃ ρ,SR c.X.K c.cls E0 ρ (gbd ρ) D σ H) ?_ ?_ hs) fun D σ H ⟨H0,Hs0,la,Hs,f,q⟩=>?_)
 ·exact fun pins s σ H v u Q I r h_0=>by obtain ⟨ρ,d,q⟩:=h_0;exact hg ρ d pins s σ H v u Q I r q
 ·exact fun pins s σ H D I h_1=>by obtain ⟨ρ,q⟩:=h_1;exact hb ρ pins s σ H D I q
 ·refine ⟨H0,Hs0,la,Hs,f,?_⟩;unfold s_ at q;cases hr:gi ρ with
  |no=>rw [hr] at q;exact q
  |ex x n=>rw [hr] at q;exact q.elim
  |ok ds =>
   rw [hr] at q;intro J H1 Hs1 s1 it;have f1:=f.step s1;exact No (E:=c.E) (cls:=c.cls) (kt:=kt) (gb:=gbd) (tg:=fun v σ H Q=>∃ ρ d,TX c.X.K ρ d (kt d ρ) v σ H Q) (tb:=fun D σ H=>∃ ρ,SR c.X.K c.cls E0 ρ (gbd ρ) D σ H) it (Np f1.st.all f1.st.sub) f1.into (fun ρ d v σ H Q h=>⟨ρ,d,h⟩) (fun ρ D σ H h=>⟨ρ,h⟩) (oN.into f1 q)
def yZ (i:Nat) (kt:D->az->R az) (gb:az->R Fl):az->R Fl:=fun ρ=>match ρ[i]? with
 |some (Sl.own (.list ds))=>Yy i ρ (iR kt gb ds (D2 i ρ))
 |_=>s_ (kW fun ρ=>Gc ρ i) kt gb ρ
theorem y_ {kt:D->az->R az}{gb:az->R Fl}:∀ (ds:List D) (ρ:az) (fl:Fl),iR kt gb ds ρ=.ok fl->(∃ ρ',fl=.nx ρ')\/∃ d,fl=.rt d
 |[],ρ,fl,h=>by cases h;exact .inl ⟨_,rfl⟩
 |d::r,ρ,fl,h=>by
  unfold iR at h;split at h
  ·split at h
   ·exact y_ r _ _ h
   ·exact y_ r _ _ h
   ·cases h;exact .inl ⟨_,rfl⟩
   ·cases h;exact .inr ⟨_,rfl⟩
   ·cases h
  ·cases h
theorem D3 {kt:D->az->R az}{gb:az->R Fl}:∀ (ds:List D) (ρ:az) (c:Str) (n:Option D),iR kt gb ds ρ≠.ex c n
 |[],ρ,c,n,h=>by cases h
 |d::r,ρ,c,n,h=>by
  unfold iR at h;split at h
  ·split at h
   ·exact D3 r _ _ _ h
   ·exact D3 r _ _ _ h
   ·cases h
   ·cases h
   ·cases h
  ·cases h
theorem QK (i:Nat) (hc:c.X.calm=true) (hg:JG c.nox tg kt) (hb:IZ c.nox body gbd) (hN:c.X.N[i]?=some x:=by rfl) (hv:Pm c.X.env.scope x:=by first|exact i4 rfl|exact eU (i4 rfl)|exact eU (eU rfl)) (hd:(x==("__debug__" : Str))=false:=by decide)
  (hcd:(x==("__classdict__" : Str))=false:=by decide) (hs:∀ y,eF (.Name x p) c.X.env y=pure y:=by intro _;rfl):JS c (.For tg (.Name x p) body [] pos) (yZ i kt gbd):=.of fun ρ=>by
 by_cases ho:∃ ds,ρ[i]?=some (Sl.own (.list ds))
 ·obtain ⟨ds,ho⟩:=ho;refine S8 (Ay (Mr (tg:=tg) IA hc (uV (X:=c.nox.X) (mr hN hv hd hcd)) (g:=fun v σ H Q=>∃ ρ d,TX c.X.K ρ d (kt d ρ) v σ H Q) (tb:=fun D σ H=>∃ ρ,SR c.X.K c.cls E0 ρ (gbd ρ) D σ H) ?_ ?_ hs) fun D σ H ⟨H0,Hs0,la,Hs,f,q⟩=>?_)
  ·exact fun pins s σ H v u Q I r h_2=>by obtain ⟨ρ,d,q⟩:=h_2;exact hg ρ d pins s σ H v u Q I r q
  ·exact fun pins s σ H D I h_3=>by obtain ⟨ρ,q⟩:=h_3;exact hb ρ pins s σ H D I q
  ·obtain ⟨a,o,k1,k2,k3,k4,k5⟩:=f.ow i _ ho;cases k5 with
   | @lst vs _ r =>
    refine ⟨_,k1,a,rfl,⟨_,.of k2⟩,?_⟩;have hn:mV c.X.K (upd Hs a (.lst vs)) a vs:=.of aR;unfold yZ at q;simp only [ho] at q;have fl:=f.lock ho k1 k2 k3 k4 (.lst r);have sub:dD (upd Hs a (.lst vs)) H:=fun b u q=>by
     by_cases hb:b=a
     ·subst hb;rw [aR] at q;cases q;exact k2
     ·rw [aU hb] at q;exact f.st.sub b u q
    refine No (E:=c.E) (cls:=c.cls) (kt:=kt) (gb:=gbd) (ρ:=D2 i ρ) (Hs:=Hs) (la:=fun i'=>if i'=i then some a else la i') (tg:=fun v σ H Q=>∃ ρ d,TX c.X.K ρ d (kt d ρ) v σ H Q) (tb:=fun D σ H=>∃ ρ,SR c.X.K c.cls E0 ρ (gbd ρ) D σ H) (D0 hn r) (Np f.st.all sub) ?_ (fun ρ d v σ H Q h=>⟨ρ,d,h⟩) (fun ρ D σ H h=>⟨ρ,h⟩) ?_
    ·unfold D2;rw [ho];exact fl
    ·cases hr:iR kt gbd ds (D2 i ρ) with
     |no=>rw [hr] at q;exact q
     |ex c n=>exact (D3 _ _ _ _ hr).elim
     |ok fl =>
      rw [hr] at q;rcases y_ _ _ _ hr with ⟨ρ',rfl⟩|⟨d,rfl⟩
      ·exact fun σ' H' Hs' f'=>q σ' H' Hs' (f.unlock ho k4 f')
      ·exact fun v H' Hs' s r=>q v H' Hs' (f.st.unlock s) r
 ·have e:yZ i kt gbd ρ=s_ (kW fun ρ=>Gc ρ i) kt gbd ρ:=by
   unfold yZ;split
   ·rename_i ds h;exact (ho ⟨ds,h⟩).elim
   ·rfl
  rw [e];exact pO hc (I_ (c:=c.nox) (ai (c:=c.nox) i hN hv hd hcd)) hg hb hs ρ
end
end
section
section
def pP (i:Nat) (g:az->R D):az->R Fl:=fun ρ=>match ρ[i]? with
 |some (Sl.own (.list ds))=>(g ρ).bind fun d=>if ds.length<1000 then .ok (.nx (ρ.set i (.own (.list (ds++[d]))))) else .no
 |_=>.no
theorem oP (i:Nat) (h:JE c e g) (hN:c.X.N[i]?=some x:=by rfl) (hv:Pm c.X.env.scope x:=by first|exact i4 rfl|exact eU (i4 rfl)|exact eU (eU rfl)) (hd:(x==("__debug__" : Str))=false:=by decide)
  (hcd:(x==("__classdict__" : Str))=false:=by decide)
  (hbase:kf (.Name x p) "append" c.X.env (cL (.Name x p) c.X.env)=cL (.Name x p) c.X.env:=by rfl)
  (hfew:((gm cpos (aA [e] c.X.env)).all (fun x=>!x.1)&&(Ps cpos (DM [] c.X.env)).all (fun x=>x.1.isSome)
   && decide ([e].length+([] : List wO).length+(if ([] : List wO).isEmpty then 0 else 1)<30))=true:=by rfl)
  (hline:(apos.endLine==cpos.line)=true:=by rfl) (hst:aA [e] c.X.env=(false,cL e c.X.env)::aA [] c.X.env:=by rfl) (hplain:(gm cpos (aA [] c.X.env)).any (·.1)=false:=by rfl)
  (hs:iq (.Call (.Attribute (.Name x p) "append" apos) [e] [] cpos) none pos.line c.X.env=pure false:=by rfl) :
  JS c (.Expr (.Call (.Attribute (.Name x p) "append" apos) [e] [] cpos) pos) (pP i g):=.of fun ρ=>by
 refine Ay (sj (yx dQ Al Am Bb (mr hN hv hd hcd) (bX (h ρ) el hst) hbase hfew hline hst hplain) hs) fun D σ H h_0=>?_;obtain ⟨H0,Hs0,la,Hs,f,q⟩:=h_0;replace q:oN c.X.K c.cls c.E H0 Hs0 la D (pP i g ρ):=q;unfold pP at q;split at q
 ·rename_i ds ho
  obtain ⟨a,o,k1,k2,k3,k4,k5⟩:=f.ow i _ ho;cases k5 with
  | @lst vs _ r =>
   refine ⟨_,k1,.inl ⟨rfl,_,.of k2⟩,?_⟩;refine sE f q fun d v H1 Hs1 e1 s1 f1 r1=>?_;rw [e1,bind_ok] at q;by_cases hl:ds.length<1000
   ·rw [if_pos hl] at q;have r':=r.same s1.sh;exact ⟨a,vs,v,rfl,rfl,s1.all _ _ k2,c8 (by rw [r.length];omega),q _ _ Hs1 (f1.write i ho k1 (.lst (r'.append (.cons r1 .nil))))⟩
   ·rw [if_neg hl] at q;exact q.elim
 ·exact q.elim
def qy:D->Option gj
 |.int i=>some (.inl i)
 |.str x=>some (.inr x)
 |_=>none
theorem z0  (h:qy d=some y):d=kD y:=by
 cases d<;>cases h<;>rfl
def z3 (kvs:List (D×D)) (k d:D):List (D×D):=if kvs.any (fun kv=>bB kv.1 k) then kvs.map (fun kv=>if bB kv.1 k then (kv.1,d) else kv) else kvs++[(k,d)]
theorem Hi (a b:gj):bB (kD a) (kD b)=decide (a=b):=by
 cases a<;>cases b<;>simp [kD,bB,sf]
theorem RDk.any   (y:gj):∀ {ds:List (D×D)},RDk K H kvs ds->(ds.any fun kv=>bB kv.1 (kD y))=kvs.any fun kv=>decide (kv.1=y):=by
 induction kvs with
 |nil=>intro ds h;cases h;rfl
 |cons x r ih=>intro ds h;cases h with|cons h t=>rw [fN,fN,ih t,Hi]
theorem RDk.repl  (y:gj)  (rv:RD K H v d):∀ {kvs:List (gj×V)}{ds:List (D×D)},RDk K H kvs ds ->
  RDk K H (kvs.map fun kv=>if kv.1=y then (kv.1,v) else kv) (ds.map fun kv=>if bB kv.1 (kD y) then (kv.1,d) else kv)
 |_,_,.nil=>.nil
 |_,_,.cons (k:=k) h t=>by
  rw [aS,aS];have e:=Hi k y;by_cases hk:k=y
  ·subst hk;rw [show (if k=k then (k,v) else (k,_))=(k,v) from if_pos rfl,show (if bB (kD k) (kD k)=true then (kD k,d) else (kD k,_))=(kD k,d) from if_pos (by rw [e];simp)];exact .cons rv (RDk.repl k rv t)
  ·simp only [e,hk,if_neg,decide_false,cb,not_false_eq_true];exact .cons h (RDk.repl y rv t)
theorem RDk.snoc  (y:gj)  (rv:RD K H v d):∀ {kvs:List (gj×V)}{ds:List (D×D)},RDk K H kvs ds->RDk K H (kvs++[(y,v)]) (ds++[(kD y,d)])
 |_,_,.nil=>.cons rv .nil
 |_,_,.cons h t=>.cons h (RDk.snoc y rv t)
theorem RDk.put    (r:RDk K H kvs ds) (y:gj)  (rv:RD K H v d):RDk K H (q_ kvs y v) (z3 ds (kD y) d):=by
 unfold q_ z3;rw [r.any y];split
 ·exact r.repl y rv
 ·exact r.snoc y rv
def ic (kvs:List (D×D)):Bool:=kvs.all fun kv=>(qy kv.1).isSome
def D4 (i:Nat) (gk g:az->R D):az->R Fl:=fun ρ=>match ρ[i]? with
 |some (Sl.own (.dict kvs))=>(g ρ).bind fun d=>(gk ρ).bind fun k=>match qy k with
  |some _=>if kvs.length<1000/\ic kvs=true then .ok (.nx (ρ.set i (.own (.dict (z3 kvs k d))))) else .no
  |none=>.no
 |_=>.no
theorem Hj    (h:RD K H v (kD y)):v=kV y:=by
 cases y<;>cases h<;>rfl
theorem RDt.flat    (h:RDt K H kvs ds) (f:ic ds=true):kvs=[]/\ds=[]:=by
 cases h with
 |nil=>exact ⟨rfl,rfl⟩
 |cons h t=>simp [ic,tD,qy] at f
theorem J7 (i:Nat) (h:JE c e g) (hk:JE c k gk) (hu:c.X.A.units+1<sU) (hN:c.X.N[i]?=some x:=by rfl) (hv:Pm c.X.env.scope x:=by first|exact i4 rfl|exact eU (i4 rfl)|exact eU (eU rfl)) (hd:(x==("__debug__" : Str))=false:=by decide)
  (hcd:(x==("__classdict__" : Str))=false:=by decide) (hs:iq e (some (.Subscript (.Name x p) k apos)) pos.line c.X.env=pure false:=by rfl):JS c (.Assign [.Subscript (.Name x p) k apos] e pos) (D4 i gk g):=.of fun ρ=>by
 refine Ay (Qn hu (mr hN hv hd hcd) (hk ρ) (h ρ) hs) fun D σ H h_1=>?_
 obtain ⟨H0,Hs0,la,Hs,f,q⟩:=h_1
 replace q:oN c.X.K c.cls c.E H0 Hs0 la D (D4 i gk g ρ):=q
 unfold D4 at q
 split at q
 ·rename_i kvs ho
  obtain ⟨a,o,k1,k2,k3,k4,k5⟩:=f.ow i _ ho
  have main:∀ {H:Hp}{vs:List (gj×V)},Fr c.X.K H0 Hs0 la ρ σ H Hs->H a=some (.dK vs)->RDk c.X.K Hs vs kvs->RW (Cc i) (TR c.X.K c.cls c.E ρ (gk ρ)) (TR c.X.K c.cls c.E ρ (g ρ)) D σ H:=fun {H vs} f k2 r=>by
   refine sE f q fun d v H1 Hs1 e1 s1 f1 r1=>?_
   rw [e1,bind_ok] at q
   refine ⟨_,k1,sE f1 q fun y w H2 Hs2 e2 s2 f2 r2=>?_⟩
   rw [e2,bind_ok] at q
   split at q
   ·rename_i ky hy
    obtain rfl:=z0 hy
    by_cases hl:kvs.length<1000/\ic kvs=true
    ·rw [if_pos hl] at q
     have ha:=s2.all _ _ (s1.all _ _ k2)
     have r':=(r.same s1.sh).same s2.sh
     rw [Hj r2]
     exact ⟨a,_,rfl,MD.k ha (c8 (by rw [r.length];omega)),q _ _ Hs2 (f2.write i ho k1 (.dK (r'.put ky (r1.same s2.sh))))⟩
    ·rw [if_neg hl] at q;exact q.elim
   ·exact q.elim
  cases k5 with
  |dK r=>exact main f k2 r
  |dT n r =>
   refine sE f q fun d v H1 Hs1 e1 s1 f1 r1=>?_
   rw [e1,bind_ok] at q
   refine ⟨_,k1,sE f1 q fun y w H2 Hs2 e2 s2 f2 r2=>?_⟩
   rw [e2,bind_ok] at q
   split at q
   ·rw [if_neg (fun z=>n (r.flat z.2).1)] at q;exact q.elim
   ·exact q.elim
  |dF n r =>
   refine sE f q fun d v H1 Hs1 e1 s1 f1 r1=>?_
   rw [e1,bind_ok] at q
   refine ⟨_,k1,sE f1 q fun y w H2 Hs2 e2 s2 f2 r2=>?_⟩
   rw [e2,bind_ok] at q
   split at q
   ·rw [if_neg (fun z=>by cases z.2)] at q;exact q.elim
   ·exact q.elim
 ·exact q.elim
def vg (kvs:List (D×D)) (k:D):Option D:=(kvs.find? fun kv=>bB kv.1 k).map (·.2)
theorem RDk.val  : ∀ {kvs:List (gj×V)}{ds:List (D×D)},RDk K H kvs ds->∀ (y:gj),(u_ kvs y=none/\vg ds (kD y)=none)\/∃ v d,u_ kvs y=some v/\vg ds (kD y)=some d/\RD K H v d
 |_,_,.nil,y=>.inl ⟨rfl,rfl⟩
 |_,_,.cons (k:=k) h t,y=>by
  unfold u_ vg;rw [dL,dL,Hi];by_cases hk:k=y
  ·simp only [hk,decide_true,dI];exact .inr ⟨_,_,rfl,rfl,h⟩
  ·simp only [hk,decide_false];exact RDk.val t y
def aT:D->D->R D
 |.dict kvs,k=>match qy k with
  |some _=>if ic kvs=true then (match vg kvs k with
   |some d=>.ok d
   |none=>.no) else .no
  |none=>.no
 |x,k=>CV x k
theorem bJ (hu:c.X.A.units+1<sU) (ha:JB c a ga) (hb:JB c b gb) (hs:xQ b:=by exact fun _ _=>rfl):JE c (.Subscript a b pos) (g2 ga gb aT):=.of fun ρ=>by
 by_cases hx:∃ kvs,ga ρ=.ok (.dict kvs)
 ·obtain ⟨kvs,hx⟩:=hx;refine rh (Qm hu (ha ρ) (hb ρ) hs) fun σ H Q h_2=>?_;obtain ⟨H0,Hs0,la,Hs,f,q⟩:=h_2;refine one f q fun d v H1 Hs1 e1 s1 f1 r1=>?_;rw [hx] at e1;cases e1;unfold g2 at q;rw [hx,bind_ok] at q;refine one f1 (q.on s1 (q':=fun _=>True) fun _ _=>trivial) fun y w H2 Hs2 e2 s2 f2 r2=>?_;rw [e2,bind_ok] at q;unfold aT at q;simp only at q;split at q
  ·rename_i ky hy
   obtain rfl:=z0 hy;by_cases hf:ic kvs=true
   ·rw [if_pos hf] at q;obtain ⟨p,rfl,h⟩:=(r1.step s2).dict f2.st.sub;have rk:w=kV ky:=by
     rcases r2 with r2|⟨_,o,rfl,_,_,ow⟩
     ·exact Hj r2
     ·cases ky<;>cases ow
    subst rk;rcases h with ⟨vs,h1,h2⟩|⟨vs,h1,hn,h2⟩|⟨o,vs,es,rfl,h1,hn,h2⟩
    ·rcases h2.val ky with ⟨_,h3⟩|⟨u,d,h3,h4,h5⟩
     ·rw [h3] at q;exact q.elim
     ·rw [h4] at q;exact ⟨p,u,rfl,by rw [<- h3];exact GS.k h1,q _ H2 Hs2 (s1.trans s2) h5⟩
    ·exact (hn (h2.flat hf).1).elim
    ·cases hf
   ·rw [if_neg hf] at q;exact q.elim
  ·exact q.elim
 ·refine rh (Vm ha hb hs ρ) fun σ H Q q=>?_;have e:g2 ga gb aT ρ=g2 ga gb CV ρ:=by
   unfold g2;cases hr:ga ρ with
   |ok d =>
    cases d with
    |dict kvs=>exact (hx ⟨kvs,hr⟩).elim
    |_=>rfl
   |_=>rfl
  rw [e] at q;exact q
def iz:D->R D
 |.dict kvs=>if ic kvs=true then .ok (.list (kvs.map (·.1))) else .no
 |x=>Bp x
theorem EI  : ∀ {kvs:List (gj×V)}{ds:List (D×D)},RDk K H kvs ds->RDs K H (kvs.map fun p=>kV p.1) (ds.map (·.1))
 |_,_,.nil=>.nil
 |_,_,.cons (k:=k) h t=>.cons (by cases k<;>constructor) (EI t)
theorem rH (hc:X.calm=true):KN X (.type "list") (i5 iz):=by
 refine u5 (fun d c n=>?_) fun pins s σ H x u Q Hs d d' I ru sub rx hd q=>?_
 ·unfold iz Bp;split<;>(try split)<;>(try split)<;>exact fun h=>by cases h
 ·by_cases hx:∃ kvs,d=.dict kvs
  ·obtain ⟨kvs,rfl⟩:=hx;unfold iz at hd;simp only at hd;split at hd
   ·rename_i hf
    cases hd;obtain ⟨a,rfl,⟨vs,h1,h2⟩|⟨vs,h1,n,h2⟩|⟨o,vs,es,rfl,h1,n,h2⟩⟩:=rx.dict sub
    ·exact yM hc pins s σ H _ _ Q I (.cons ru .nil) ⟨a,vs,rfl,h1,fun l hl=>q _ _ _ (.new sub hl) (.list (.of aR) ((EI h2).same (cE.new sub hl).sh))⟩
    ·exact (n (h2.flat hf).1).elim
    ·cases hf
   ·cases hd
  ·have e:iz d=Bp d:=by
    cases d with
    |dict kvs=>exact (hx ⟨kvs,rfl⟩).elim
    |_=>rfl
   rw [e] at hd;exact (QF (X:=X)).1 pins s σ H [x] [u] Q I (.cons ru .nil) ⟨Hs,[d],sub,.cons rx .nil,d',hd,q⟩
end
end
section
open PyProof.Rows (envOfC)
section
variable {c:C}{e a b d:bR}{g ga gb gc:az->R D}{pos p cpos:Pos}{x:Str}
theorem Nq        (hx:∀ x y c n,h x y≠.ex c n) (hx':∀ x y c n,h' x y≠.ex c n) (q:TR K cls E ρ (rn ga gb gc h h' ρ) σ H Q) :
  GK (rD K h) (rD K h') (TB K cls E ρ (ga ρ)) (TB K cls E ρ (gb ρ)) (TB K cls E ρ (gc ρ)) σ H Q:=by
 obtain ⟨H0,Hs0,la,Hs,f,q⟩:=q
 refine one f q fun x v H1 Hs1 e1 s1 f1 r1=>?_
 unfold rn at q
 rw [e1,bind_ok] at q
 refine one f1 (q.on s1 (q':=fun _=>True) fun _ _=>trivial) fun y u H2 Hs2 e2 s2 f2 r2=>?_
 rw [e2,bind_ok] at q
 cases hr:h x y with
 |ex c n=>exact (hx x y c n hr).elim
 |no=>rw [hr] at q;exact q.elim
 |ok z =>
  rw [hr,bind_ok] at q
  refine ⟨Hs2,x,y,f2.st.sub,r1.step s2,r2,z,hr,fun w H3 Hs3 s3 r3=>?_⟩
  cases r3 with
  |bool k =>
   refine ⟨k,rfl,?_⟩
   have f3:=f2.step s3
   cases k with
   |false=>exact Cm (q _ H3 Hs3 (s1.trans (s2.trans s3)) (.bool _))
   |true =>
    refine GR (one f3 (q.on (s1.trans (s2.trans s3)) (q':=fun _=>True) fun _ _=>trivial) fun t u' H4 Hs4 e4 s4 f4 r4=>?_)
    simp only [e4,bind_ok] at q
    cases hr':h' y t with
    |ex c n=>exact (hx' y t c n hr').elim
    |no=>rw [hr'] at q;exact q.elim
    |ok z' =>
     rw [hr'] at q
     exact ⟨Hs4,y,t,f4.st.sub,(r2.step s3).step s4,r4,z',hr',fun w H5 Hs5 s5 r5=>q w H5 Hs5 (s1.trans (s2.trans (s3.trans (s4.trans s5)))) r5⟩
  |none=>exact q.elim
  |int _=>exact q.elim
  |str _=>exact q.elim
  |list _ _=>exact q.elim
  |tuple _ _=>exact q.elim
  |dictK _ _=>exact q.elim
  |dictT _ _ _=>exact q.elim
  |dictF _ _ _=>exact q.elim
theorem EJ  (ho:xB c.X (bO op) h) (ho':xB c.X (bO op') h') (ha:JB c a ga) (hb:JB c b gb) (hc:JB c d gc) (hm:LL [op,op'] [b,d]=false:=by with_unfolding_all rfl):JE c (.Compare a [op,op'] [b,d] pos) (rn ga gb gc h h') :=
 .of fun ρ=>rh (Mt ho.1 ho'.1 (ha ρ) (hb ρ) (hc ρ) hm) fun σ H Q q=>Nq ho.2 ho'.2 q
theorem Nr  (ho:xB c.X (bO op) h) (ho':xB c.X (bO op') h') (ha:JB c a ga) (hb:JB c b gb) (hc:JB c d gc) (hm:LL [op,op'] [b,d]=false:=by with_unfolding_all rfl):JT c (.Compare a [op,op'] [b,d] pos) (fZ (rn ga gb gc h h')) :=
 .of fun ρ=>WD (Mu ho.1 ho'.1 (ha ρ) (hb ρ) (hc ρ) hm) fun σ H Q q=>Nq ho.2 ho'.2 (Vh q)
def TZ:D->R D
 |.int i=>.ok (.int (-i))
 |_=>.no
def u9 (g:az->R D):az->R D:=fun ρ=>(g ρ).bind TZ
theorem Hk (h:JE c e g):JE c (.UnaryOp .USub e pos) (u9 g):=.of fun ρ=>rh (RN Ms (h ρ)) fun σ H Q h_0=>by
 obtain ⟨H0,Hs0,la,Hs,f,q⟩:=h_0
 refine CK f q fun d v H1 Hs1 e1 s1 f1 r1=>?_
 unfold u9 at q
 rw [e1,bind_ok] at q
 cases r1 with
 |int i=>exact ⟨i,rfl,q _ H1 Hs1 s1 (.int _)⟩
 |_=>exact q.elim
inductive Vv (K:a7) (w:bE) (cls:Str->ag) (E:XK) (ρ:az) (r:R (List Str)) (σ:St) (H:Hp) (Q:VK):Prop
 |mk (H0 Hs0:Hp) (la:Nat->Option ag) (Hs:Hp) (f:Fr K H0 Hs0 la ρ σ H Hs) (q:Fin K cls E H Hs r fun ss=>∀ p H' Hs',cE H Hs H' Hs'->H' p=none->Q (.ref p) (upd H' p (lU w p ss))):Vv K w cls E ρ r σ H Q
def WH (K:a7) (w:bE) (cls:Str->ag) (E:XK) (ρ:az) (r:R (List Str)):TE:=Vv K w cls E ρ r
structure QL (c:C) (e:bR) (g:az->R (List Str)):Prop where of ::
 run:∀ ρ,PE c.X e (WH c.X.K c.X.w c.cls c.E ρ (g ρ))
instance {c:C}{e:bR}{g:az->R (List Str)}:CoeFun (QL c e g) (fun _=>∀ ρ,PE c.X e (WH c.X.K c.X.w c.cls c.E ρ (g ρ))):=⟨QL.run⟩
theorem J8 {K:a7}{w:bE}{cls:Str->ag}{E:XK}{ρ:az}{r:R (List Str)}{β:Type}{k:List Str->R β}{σ:St}{H:Hp}{H0 Hs0 Hs:Hp}{la:Nat->Option ag}{Q:V->Hp->Prop}{q:β->Prop} (f:Fr K H0 Hs0 la ρ σ H Hs)
  (h:Fin K cls E H Hs (r.bind k) q) (m:∀ ss p H' Hs',r=.ok ss->cE H Hs H' Hs'->Fr K H0 Hs0 la ρ σ H' Hs'->H' p=none->Q (.ref p) (upd H' p (lU w p ss))):WH K w cls E ρ r σ H Q:=by
 refine ⟨H0,Hs0,la,Hs,f,?_⟩
 cases r with
 |ok d=>exact fun p H' Hs' s n=>m d p H' Hs' rfl s (f.step s) n
 |ex c n=>exact h
 |no=>exact h
variable {gset:az->R (List Str)}
def ua:D->R (List Str)
 |.list ds=>match gM ds with
  |some ss=>if ss.length<60 then .ok (dh [] ss) else .no
  |none=>.no
 |.tuple ds=>match gM ds with
  |some ss=>if ss.length<60 then .ok (dh [] ss) else .no
  |none=>.no
 |_=>.no
def pQ (g:az->R D):az->R (List Str):=fun ρ=>(g ρ).bind ua
theorem D5 (hc:c.X.calm=true) (h:JB c e g) (hg2:Gl c.X "set") (hm2:c.X.mg "set"=none) (he:aA [e] c.X.env=(false,cL e c.X.env)::aA [] c.X.env:=by rfl) :
  QL c (.Call (.Name "set" p) [e] [] cpos) (pQ g):=.of fun ρ=>by
 refine rh (wc (Eg hc) hg2 hm2 PyProof.Rows.boot_set (bX (h ρ) el he) (he:=he)) fun σ H Q h_1=>?_
 obtain ⟨H0,Hs0,la,Hs,f,q⟩:=h_1
 refine one f q fun d v H1 Hs1 e1 s1 f1 r1=>?_
 unfold pQ at q
 rw [e1,bind_ok] at q
 unfold ua at q
 split at q
 ·split at q
  ·rename_i ss hs
   by_cases hz:ss.length<60
   ·rw [if_pos hz] at q
    obtain ⟨a,vs,rfl,qa,ra⟩:=r1.list f1.st.sub
    rw [rF hs] at ra
    rw [pI ra] at qa
    exact ⟨a,ss,rfl,.inl qa,aE (Kd hz 1) (by decide),fun p hp=>q p H1 Hs1 s1 hp⟩
   ·rw [if_neg hz] at q;exact q.elim
  ·exact q.elim
 ·split at q
  ·rename_i ss hs
   by_cases hz:ss.length<60
   ·rw [if_pos hz] at q
    obtain ⟨a,vs,rfl,qa,ra,_⟩:=r1.tuple f1.st.sub
    rw [rF hs] at ra
    rw [pI ra] at qa
    exact ⟨a,ss,rfl,.inr qa,aE (Kd hz 1) (by decide),fun p hp=>q p H1 Hs1 s1 hp⟩
   ·rw [if_neg hz] at q;exact q.elim
  ·exact q.elim
 ·exact q.elim
def lf (g:az->R (List Str)):az->R D:=fun ρ=>(g ρ).bind fun ss=>if ss.length<64 then .ok (.list ((jV ss).map .str)) else .no
theorem ub (hc:c.X.calm=true) (h:QL c e gset) (hg:Gl c.X "sorted") (hm:c.X.mg "sorted"=none) (he:aA [e] c.X.env=(false,cL e c.X.env)::aA [] c.X.env:=by rfl) :
  JE c (.Call (.Name "sorted" p) [e] [] cpos) (lf gset):=.of fun ρ=>by
 refine rh (oJ (xy hc) hg hm wR (bX (h ρ) el he) (he:=he)) fun σ H Q h_2=>?_
 obtain ⟨H0,Hs0,la,Hs,f,q⟩:=h_2
 dsimp only [L2.Uz,L2.tE,L2.DY]
 refine J8 (w:=c.X.w) f q fun ss p H1 Hs1 e1 s1 f1 n1=>?_
 unfold lf at q
 rw [e1,bind_ok] at q
 by_cases hz:ss.length<64
 ·rw [if_pos hz] at q
  have st1:cE H1 Hs1 (upd H1 p (lU c.X.w p ss)) Hs1:=.mine f1.st.sub n1
  exact ⟨p,ss,rfl,aR,hz,fun l hl=>q _ _ _ (s1.trans (st1.trans (.new st1.sub hl))) (.list (.of aR) (yO _))⟩
 ·rw [if_neg hz] at q;exact q.elim
def vh (g:az->R (List Str)):az->R D:=fun ρ=>(g ρ).bind fun ss=>.ok (.int ss.length)
theorem KU (h:QL c e gset) (hg:Gl c.X "len") (hm:c.X.mg "len"=none) (he:aA [e] c.X.env=(false,cL e c.X.env)::aA [] c.X.env:=by rfl) :
  JE c (.Call (.Name "len" p) [e] [] cpos) (vh gset):=.of fun ρ=>by
 refine rh (oJ Aw hg hm bv (bX (h ρ) el he) (he:=he)) fun σ H Q h_3=>?_
 obtain ⟨H0,Hs0,la,Hs,f,q⟩:=h_3
 dsimp only [L2.Uz,L2.tE,L2.DY]
 refine J8 (w:=c.X.w) f q fun ss p H1 Hs1 e1 s1 f1 n1=>?_
 unfold vh at q
 rw [e1,bind_ok] at q
 have st1:cE H1 Hs1 (upd H1 p (lU c.X.w p ss)) Hs1:=.mine f1.st.sub n1
 exact ⟨p,ss,rfl,aR,q _ _ _ (s1.trans st1) (.int _)⟩
variable {elt iter tg:bR}{ifs:List bR}{scope:gH}{N':List Str}{nt:Nat}{ix:List Nat}{gi:az->R (List D)}{gt:az->R Bool}{ge:az->R D}
def wq (nt:Nat) (ix:List Nat) (gi:az->R (List D)) (gt:az->R Bool) (ge:az->R D):az->R (List Str):=fun ρ=>(gi ρ).bind fun ds=>if ds.length<=60 then (i9 (j4 nt (oO nt ix ρ) gt ge) ds).bind fun ys=>match gM ys with
 |some ss=>.ok (dh [] ss)
 |none=>.no else .no
theorem Az  : ∀ {ss:List Str},gM (xs++ys)=some ss->∃ s1 s2,gM xs=some s1/\gM ys=some s2/\ss=s1++s2:=by
 induction xs with
 |nil=>intro ss h;exact ⟨[],ss,rfl,h,rfl⟩
 |cons d r ih =>
  intro ss h
  cases d with
  |str b =>
   have h:(gM (r++ys)).map (b::·)=some ss:=h
   cases hr:gM (r++ys) with
   |none=>rw [hr] at h;cases h
   |some z =>
    rw [hr] at h
    cases h
    obtain ⟨s1,s2,h1,h2,rfl⟩:=ih hr
    exact ⟨b::s1,s2,by show (gM r).map (b::·)=_;rw [h1];rfl,h2,rfl⟩
  |_=>cases h
theorem zb (z:Str):∀ (l acc:List Str),dh acc (l++[z])=if z∈dh acc l then dh acc l else dh acc l++[z]
 |[],acc=>rfl
 |x::l,acc=>by
  show dh _ (l++[z])=_
  rw [zb z l]
  rfl
inductive Yk (f:D->R (Option D)) (ds:List D) (ss:List Str) (H1 Hs1:Hp) (i m:Nat) (acc:List Str) (H':Hp):Prop
 |mk (done bK zs sa sz Hs':_) (h0:ds=done++bK) (h1:done.length=i) (h2:bK.length=m) (h3:cE H1 Hs1 H' Hs') (h4:acc=dh [] sa) (h5:sa.length<=i) (h6:i9 f bK=.ok zs) (h7:gM zs=some sz) (h8:ss=sa++sz):Yk f ds ss H1 Hs1 i m acc H'
theorem QM        (hnt:nt=1\/nt=2)
  (q:WH K w cls E ρ (wq nt ix gi gt ge ρ) σ H Q) :
  N8 w nt ix (WF K cls E ρ (gi ρ)) (KS K nt) (fun σ H Q=>∃ ρ',LW K cls E0 ρ' (gt ρ') σ H Q) (fun σ H Q=>∃ ρ',TR K cls E0 ρ' (ge ρ') σ H Q) σ H Q:=by
 obtain ⟨H0,Hs0,la,Hs,f,q⟩:=q
 refine ⟨H0,Hs0,la,Hs,f,?_⟩
 unfold wq at q
 cases hi:gi ρ with
 |no=>rw [hi] at q;exact q
 |ex x n=>rw [hi] at q;exact q
 |ok ds =>
  rw [hi,bind_ok] at q
  intro J H1 Hs1 Hn s1 sn it
  by_cases hl:ds.length<=60
  ·rw [if_pos hl] at q
   cases hm:i9 (j4 nt (oO nt ix ρ) gt ge) ds with
   |no=>rw [hm] at q;exact q.elim
   |ex x n=>exact (yX (EG _ _ _ _) _ _ _ hm).elim
   |ok ys =>
    rw [hm,bind_ok] at q
    cases hs:gM ys with
    |none=>rw [hs] at q;exact q.elim
    |some ss =>
     rw [hs] at q
     obtain ⟨lb,fb⟩:=(f.step s1).block nt ix
     refine ⟨Yk (j4 nt (oO nt ix ρ) gt ge) ds ss H1 Hs1,
      ⟨ds.length,[],ds,ys,[],ss,Hs1,rfl,rfl,rfl,.refl s1.sub,rfl,eB _,hm,hs,rfl⟩,?_⟩
     rintro i m acc H' ⟨done,bK,zs,sa,sz,Hs',hds,hdl,hrl,st,rfl,yl,hz,hzs,hy⟩
     obtain ⟨igo,istop,iyld⟩:=it H' Hs' (sn.trans st.all) st.sh st.sub
     cases bK with
     |nil =>
      left
      cases hz
      cases hzs
      rw [cB] at hds hy
      subst hy hds
      exact ⟨istop i (by omega),fun p hp=>q p H' Hs' (s1.trans st) hp⟩
     |cons d bK =>
      right
      have hil:i<ds.length:=by rw [hds,aJ,aM];omega
      have hol:=gF sa []
      simp at hol
      refine ⟨igo i hil,jQ (show (dh [] sa).length+1<=61 by omega) (by decide),fun x H2 hyl=>?_⟩
      obtain ⟨d',Hs2,hd,s2,r2⟩:=iyld i x H2 hil hyl
      have hdd:d'=d:=by
       rw [hds,bd (by omega)] at hd
       simp [hdl] at hd
       exact hd.symm
      subst hdd
      obtain ⟨o,zs',hf,hz',rfl⟩:=yW hz
      have hf:=J5 hf
      obtain ⟨so,sz',hso,hsz,rfl⟩:=Az hzs
      cases hb:Vt nt d' (oO nt ix ρ) with
      |no=>rw [hb] at hf;cases hf
      |ex x n=>rw [hb] at hf;cases hf
      |ok ρ' =>
       rw [hb,bind_ok] at hf
       refine EF hnt ((fb.step st).step s2) r2 hb fun σ2 f2=>⟨ρ',?_⟩
       refine ⟨_,_,_,Hs2,f2,?_⟩
       cases ht:gt ρ' with
       |no=>rw [ht] at hf;cases hf
       |ex x n=>rw [ht] at hf;cases hf
       |ok b =>
        rw [ht,bind_ok] at hf
        intro H3 Hs3 s3
        cases b with
        |false =>
         rw [if_neg aL] at hf
         cases hf
         cases hso
         refine Cm ⟨bK.length,by rw [<- hrl];simp,done++[d'],bK,zs',sa,sz',Hs3,by rw [hds];simp,by simp [hdl],rfl,(st.trans s2).trans s3,rfl,by omega,hz',hsz,by simpa using hy⟩
        |true =>
         rw [if_pos rfl] at hf
         refine GR ⟨ρ',_,_,_,Hs3,f2.step s3,?_⟩
         cases he:ge ρ' with
         |no=>rw [he] at hf;cases hf
         |ex x n=>rw [he] at hf;cases hf
         |ok y =>
          rw [he,bind_ok] at hf
          cases hf
          intro v H4 Hs4 s4 r4
          cases r4 with
          |str z =>
           cases hso
           exact ⟨z,bK.length,rfl,by rw [<- hrl];simp,done++[d'],bK,zs',sa++[z],sz',Hs4,by rw [hds];simp,by simp [hdl],rfl,((st.trans s2).trans s3).trans s4,(zb z sa []).symm,by simp;omega,hz',hsz,by rw [hy];simp⟩
          |none=>cases hso
          |bool _=>cases hso
          |int _=>cases hso
          |list _ _=>cases hso
          |tuple _ _=>cases hso
          |dictK _ _=>cases hso
          |dictT _ _ _=>cases hso
          |dictF _ _ _=>cases hso
  ·rw [if_neg hl] at q;exact q.elim
theorem Nt (nt:Nat) (hnt:nt=1\/nt=2) (hc:c.X.calm=true) (S:nW c.X scope N' nt ix) (hi:JI c tg iter gi) (hb:vf c N' scope nt tg ifs elt gt ge) (hs:∀ x,eF iter c.X.env x=pure x:=by intro _;rfl) :
  QL c (.SetComp elt [⟨tg,iter,ifs,0⟩] scope pos) (wq nt ix gi gt ge):=.of fun ρ=>rh (Hb hc S (D1 hnt) (hi ρ) hb.at hs) fun σ H Q q=>QM hnt q
end
def bn (n:Nat) (ds:List D):az:=ds.map Sl.shr++bc (n-ds.length) Sl.no
def fv (n:Nat) (g:az->R Fl):List D->R D:=fun ds=>match g (bn n ds) with
 |.ok (.nx _)=>.ok .none
 |.ok (.rt d)=>.ok d
 |.ex c m=>.ex c m
 |_=>.no
theorem zc {n:Nat}{ds:List D}{i:Nat}{s:Sl} (h:(bn n ds)[i]?=some s):(∃ d,ds[i]?=some d/\s=.shr d)\/s=.no:=by
 unfold bn at h
 by_cases hi:i<ds.length
 ·rw [bQ (by simpa using hi),aO] at h
  cases hd:ds[i]? with
  |none=>rw [hd] at h;cases h
  |some z=>rw [hd] at h;cases h;exact .inl ⟨z,rfl,rfl⟩
 ·rw [bd (by simp;omega),bP] at h
  split at h<;>cases h
  exact .inr rfl
theorem KW {N:List Str}{vs:List V}{i:Nat}{v:V} (h:vs[i]?=some v):(L2.start N vs)[i]?=some (some v):=by
 unfold L2.start
 have hi:i<vs.length:=(List.getElem?_eq_some_iff.mp h).1
 rw [bQ (by simpa using hi),aO,h]
 rfl
theorem Fr.start {K : a7} {H Hs : Hp} {N : List Str} {vs : List V} {ds : List D} (sub : dD Hs H) (r : RDs K Hs vs ds) : Fr K H Hs (fun _ => none) (bn N.length ds) (L2.start N vs) H Hs := by
  have hl := r.length
  refine ⟨.refl sub, by simp [bn, L2.start, hl], fun i d h => ?_, fun i d h => ?_, fun i d h => ?_, fun i j d e a h _ _ _ => ?_, fun i a h => (nomatch h), fun i d h => ?_, fun i j d e h _ => ?_⟩
  · rcases zc h with ⟨z, hz, e⟩ | e
    · cases e
      obtain ⟨v, k1, k2⟩ := r.get' hz
      exact ⟨v, KW k1, k2⟩
    · cases e
  all_goals (rcases zc h with ⟨z, _, e⟩ | e <;> cases e)
theorem S9             (F:Gb K x qual st f fd) (S:bA N ps (ax st))
  (h:∀ (cdv:ae) (A:bV) (outer:List Env) (s:ah) (H:Hp) (E:XK),kj k (A.deeper (jN qual (ax st) s.heap.objs.size f cdv))->IZ ⟨eZ (jf P w) P w K mg base N qual (ax st) f cdv A outer s H E,cls,E⟩ (hJ st) g) :
  sY P w K mg base (jf P w) (k+1) f fd ps (S6 K cls ps.length (fv N.length g)):=by
 obtain ⟨oc,od,kV,doc,pm,an,cdv,ct,osl,rfl,lk,hcd⟩:=F.ex
 refine UU lk hcd S (fun vs H Q E h_4=>by obtain ⟨Hs,ds,sub,hn,r,q⟩:=h_4;exact by rw [r.length];exact hn) fun A outer s H vs Q E hr hsp=>?_
 obtain ⟨Hs,ds,sub,hn,r,q⟩:=hsp
 refine ⟨_,h cdv A outer s H E hr (bn N.length ds),H,Hs,_,Hs,Fr.start sub r,?_⟩
 unfold fv at q
 cases hg:g (bn N.length ds) with
 |no=>rw [hg] at q;exact q
 |ex c n=>rw [hg] at q;exact q
 |ok fl =>
  rw [hg] at q
  cases fl with
  |nx ρ'=>exact fun σ' H' Hs' f'=>q .non H' Hs' f'.st .none
  |rt d=>exact fun v H' Hs' s r=>q v H' Hs' s r
  |bk ρ'=>exact q.elim
  |ct ρ'=>exact q.elim
theorem Vw             (F:Gb K x qual st f fd) (S:bA N ps (ax st)) (hm:mg x=some (.ref f)) (hb:kC K fd ps [])
  (h:∀ (cdv:ae) (A:bV) (outer:List Env) (s:ah) (H:Hp) (E:XK),kj k (A.deeper (jN qual (ax st) s.heap.objs.size f cdv))->IZ ⟨eZ (jf P w) P w K mg base N qual (ax st) f cdv A outer s H E,cls,E⟩ (hJ st) g) :
  Fn P w K mg base cls x (k+1) ps.length (fv N.length g):=⟨f,fd,ps,S9 F S h,hm,F.kp,hb⟩
theorem fz:nV (jf X.prog X.w) X E0:=fun _ _ _ _ _ _ _ h=>by
 obtain ⟨_,_,_,_,_,_,_,_,_,_,_,q⟩:=h
 exact q.elim
end
section
def clear2 (ρ:az):az:=ρ.map fun s=>match s with
 |.ow2 _=>.no
 |s=>s
section
theorem Fr.clear2    (f:Fr K H0 Hs0 la ρ σ H Hs):Fr K H0 Hs0 la (clear2 ρ) σ H Hs/\∀ (j:Nat) (d:List (List D)),¬ (J.clear2 ρ)[j]?=some (Sl.ow2 d):=by
 have un:∀ {j:Nat}{s:Sl},(J.clear2 ρ)[j]?=some s->(∀ d,s≠.ow2 d)/\(ρ[j]?=some s\/s=.no):=fun {j s} e=>by
  unfold J.clear2 at e;rw [aO] at e;cases h:ρ[j]? with
  |none=>rw [h] at e;cases e
  |some t =>
   rw [h] at e;cases t with
   |ow2 d=>cases e;exact ⟨fun _ z=>(by cases z),.inr rfl⟩
   |no=>cases e;exact ⟨fun _ z=>(by cases z),.inl rfl⟩
   |shr d=>cases e;exact ⟨fun _ z=>(by cases z),.inl rfl⟩
   |lck d=>cases e;exact ⟨fun _ z=>(by cases z),.inl rfl⟩
   |own d=>cases e;exact ⟨fun _ z=>(by cases z),.inl rfl⟩
 have is:∀ {j:Nat}{s:Sl},s≠.no->(J.clear2 ρ)[j]?=some s->ρ[j]?=some s:=fun {j s} n e=>(un e).2.resolve_right n;have no2:∀ (j:Nat) (d:List (List D)),¬ (J.clear2 ρ)[j]?=some (Sl.ow2 d):=fun j d e=>(un e).1 d rfl;exact ⟨⟨f.st,by simp [J.clear2,f.len],fun j d h=>f.sh j d (is (fun z=>by cases z) h),fun j d h=>f.ow j d (is (fun z=>by cases z) h),fun j d h=>f.lk j d (is (fun z=>by cases z) h),fun j k d e a h1 h2=>f.dj j k d e a (is (fun z=>by cases z) h1) (is (fun z=>by cases z) h2),f.lh,fun j d h=>(no2 j d h).elim,fun j k d e h _=>(no2 j d h).elim⟩,no2⟩
end
def rJ:List ag->Hp->Hp
 |[],H=>H
 |a::as,H=>rJ as (upd H a (.lst []))
section
theorem zd:∀ (as:List ag) (H:Hp),(∀ a∈as,H a=none)->as.Nodup->dD H (rJ as H)
 |[],H,_,_=>.refl H
 |a::as,H,h,nd=>by
  obtain ⟨n1,n2⟩:=List.nodup_cons.mp nd;refine (gS (h a al)).trans (zd as _ (fun b hb=>?_) n2);rw [aU (fun (z:b=a)=>n1 (z ▸ hb))];exact h b (ao _ hb)
theorem EK:∀ (as:List ag) (H:Hp),as.Nodup->∀ a∈as,rJ as H a=some (.lst [])
 |a::as,H,nd,b,hb=>by
  obtain ⟨n1,n2⟩:=List.nodup_cons.mp nd;show rJ as (upd H a (.lst [])) b=_;by_cases hm:b∈as
  ·exact EK as _ n2 b hm
  ·have e:b=a:=(List.mem_cons.mp hb).resolve_right hm;subst e;have:∀ (as:List ag) (H:Hp),b∉as->rJ as H b=H b:=by
    intro as;induction as with
    |nil=>intro H _;rfl
    |cons c as ih =>
     intro H h;show rJ as (upd H c (.lst [])) b=_;rw [ih _ (fun z=>h (ao _ z)),aU (fun (z:b=c)=>h (by rw [z];exact al))]
   rw [this as _ hm,aR]
theorem mB:∀ (as:List ag) (H:Hp) (b:ag),rJ as H b=none->H b=none/\b∉as
 |[],H,b,h=>⟨h,by simp⟩
 |a::as,H,b,h=>by
  obtain ⟨h1,h2⟩:=mB as (upd H a (.lst [])) b h;by_cases hb:b=a
  ·subst hb;rw [aR] at h1;cases h1
  ·rw [aU hb] at h1;exact ⟨h1,fun z=>(List.mem_cons.mp z).elim hb h2⟩
def QN (i:Nat):az->R Fl:=fun ρ=>.ok (.nx ((clear2 ρ).set i (.ow2 [[],[],[],[]])))
theorem T_ (i:Nat)  (hN:c.X.N.Nodup) (hi:c.X.N[i]?=some x:=by rfl) (hx:RH c.X.env.scope x:=by first|exact i4 rfl|exact eU rfl)
  (hs:iq (.List [.List [] p1,.List [] p2,.List [] p3,.List [] p4] p) (some (.Name x pos')) spos.line c.X.env=pure false:=by rfl)
  (hf:c.X.fn x=true\/c.X.env.scope.names.lookup x=some .local:=by first|exact .inl rfl|exact .inr rfl|assumption)
  (h1:aA [.List [] p1,.List [] p2,.List [] p3,.List [] p4] c.X.env=(false,cL (.List [] p1) c.X.env)::aA [.List [] p2,.List [] p3,.List [] p4] c.X.env:=by rfl)
  (h2:aA [.List [] p2,.List [] p3,.List [] p4] c.X.env=(false,cL (.List [] p2) c.X.env)::aA [.List [] p3,.List [] p4] c.X.env:=by rfl)
  (h3:aA [.List [] p3,.List [] p4] c.X.env=(false,cL (.List [] p3) c.X.env)::aA [.List [] p4] c.X.env:=by rfl)
  (h4:aA [.List [] p4] c.X.env=(false,cL (.List [] p4) c.X.env)::aA [] c.X.env:=by rfl) :
  JS c (.Assign [.Name x pos'] (.List [.List [] p1,.List [] p2,.List [] p3,.List [] p4] p) spos) (QN i):=.of fun ρ=>by
 refine Ay (Cf hN hi hx (ms (bX (ms el) (bX (ms el) (bX (ms el) (bX (ms el) el h4) h3) h2) h1)) hs hf) fun D σ H h_0=>?_;obtain ⟨H0,Hs0,la,Hs,f,q⟩:=h_0;replace q:oN c.X.K c.cls c.E H0 Hs0 la D (QN i ρ):=q;obtain ⟨f,no2⟩:=f.clear2;refine ⟨eB _,fun a1 n1=>⟨eB _,fun a2 n2=>⟨eB _,fun a3 n3=>⟨eB _,fun a4 n4=>⟨b9 (c8 (show 4<=1000 by decide)),fun a n=>?_⟩⟩⟩⟩⟩;have N:=mB [a1,a2,a3,a4] H a n;have N4:=mB [a1,a2,a3] H a4 n4;have N3:=mB [a1,a2] H a3 n3;have N2:=mB [a1] H a2 n2;simp only [aQ,aH,or_false,not_or] at N N4 N3 N2;have nd:[a1,a2,a3,a4].Nodup:=by
  simp only [List.nodup_cons,aQ,aH,or_false,not_or,i_,and_true,not_false_eq_true];exact ⟨⟨dq N2.2,dq N3.2.1,dq N4.2.1⟩,⟨dq N3.2.2,dq N4.2.2.1⟩,dq N4.2.2.2⟩
 have free:∀ b∈[a1,a2,a3,a4],H b=none:=fun b hb=>by
  simp only [aQ,aH,or_false] at hb;rcases hb with rfl|rfl|rfl|rfl
  ·exact n1
  ·exact N2.1
  ·exact N3.1
  ·exact N4.1
 have nd5:(a::[a1,a2,a3,a4]).Nodup:=List.nodup_cons.mpr ⟨by simp only [aQ,aH,or_false,not_or];exact N.2,nd⟩;have sm:dD H (rJ [a1,a2,a3,a4] H):=zd _ _ free nd;have all:dD H (upd (rJ [a1,a2,a3,a4] H) a (.lst [.ref a1,.ref a2,.ref a3,.ref a4])):=sm.trans (gS n);have free5:∀ b∈a::[a1,a2,a3,a4],H b=none:=fun b hb=>(List.mem_cons.mp hb).elim (fun z=>z ▸ N.1) (free b);have st:cE H Hs (upd (rJ [a1,a2,a3,a4] H) a (.lst [.ref a1,.ref a2,.ref a3,.ref a4])) Hs:=⟨all,.refl _,f.st.sub.trans all,fun _ _ _ _ z=>z⟩;have f':=f.step st;have hl:i<σ.length\/¬ i<σ.length:=Decidable.em _;have nx:∀ {j:Nat}{s:Sl},(∀ d,s≠.ow2 d)->((clear2 ρ).set i (.ow2 [[],[],[],[]]))[j]?=some s->(clear2 ρ)[j]?=some s/\i≠j:=fun {j s} hs e=>by
  by_cases hj:i=j
  ·subst hj;by_cases hi:i<(clear2 ρ).length
   ·rw [aI hi] at e;exact absurd (bx e).symm (hs _)
   ·rw [cA (by simpa using hi)] at e;cases e
  ·rw [aj hj] at e;exact ⟨e,hj⟩
 refine q _ _ Hs ⟨f'.st,by simp [f'.len],fun j d h=>?_,fun j d h=>?_,fun j d h=>?_,fun j k d d' b h1 h2 h3 h4=>?_,f'.lh,fun j d h=>?_,fun j k d d' h1 h2=>?_⟩
 ·obtain ⟨h,hj⟩:=nx (fun _ z=>by cases z) h;rw [aj hj];exact f'.sh j d h
 ·obtain ⟨h,hj⟩:=nx (fun _ z=>by cases z) h;rw [aj hj];exact f'.ow j d h
 ·obtain ⟨h,hj⟩:=nx (fun _ z=>by cases z) h;rw [aj hj];exact f'.lk j d h
 ·obtain ⟨h1,hj⟩:=nx (fun _ z=>by cases z) h1;obtain ⟨h2,hk⟩:=nx (fun _ z=>by cases z) h2;rw [aj hj] at h3;rw [aj hk] at h4;exact f'.dj j k d d' b h1 h2 h3 h4
 ·by_cases hj:i=j
  ·subst hj;by_cases hi:i<(clear2 ρ).length
   ·rw [aI hi] at h;cases h;have at4:=EK [a1,a2,a3,a4] H nd;have ne:∀ b∈[a1,a2,a3,a4],b≠a:=fun b hb z=>(List.nodup_cons.mp nd5).1 (z ▸ hb);have go:∀ b∈[a1,a2,a3,a4],upd (rJ [a1,a2,a3,a4] H) a (.lst [.ref a1,.ref a2,.ref a3,.ref a4]) b=some (.lst []):=fun b hb=>by rw [aU (ne b hb)];exact at4 b hb
    refine ⟨a,[a1,a2,a3,a4],aI (by rw [<- f'.len];exact hi),aR,nd5,fun b hb=>⟨f.st.sub.free (free5 b hb),f.st.all.free (free5 b hb)⟩,fun b hb k e hk=>?_,.cons (go _ (by simp)) .nil (.cons (go _ (by simp)) .nil (.cons (go _ (by simp)) .nil (.cons (go _ (by simp)) .nil .nil)))⟩;obtain ⟨hk,nk⟩:=nx (fun _ z=>by cases z) hk;rw [aj nk];intro z;obtain ⟨b',o,k1,k2,_⟩:=f.ow k e hk;rw [z] at k1;cases k1;rw [free5 b hb] at k2;cases k2
   ·rw [cA (by simpa using hi)] at h;cases h
  ·rw [aj hj] at h;exact (no2 j d h).elim
 ·by_cases hj:i=j
  ·by_cases hk:i=k
   ·exact hj.symm.trans hk
   ·rw [aj hk] at h2;exact (no2 k d' h2).elim
  ·rw [aj hj] at h1;exact (no2 j d h1).elim
theorem Nu  (h:JS c st gs):JS c st (fun ρ=>gs (fQ ρ)):=.of fun ρ=>Ay (h (fQ ρ)) fun D σ H h_1=>by
 obtain ⟨H0,Hs0,la,Hs,f,q⟩:=h_1;obtain ⟨Hs',f'⟩:=f.shared;exact ⟨H0,Hs0,la,Hs',f',q⟩
def shareAt (i:Nat) (ρ:az):az:=match ρ[i]? with
 |some (Sl.own d)=>ρ.set i (.shr d)
 |_=>ρ
theorem Fr.shareAt     (f:Fr K H0 Hs0 la ρ σ H Hs) (i:Nat):∃ Hs',Fr K H0 Hs0 la (J.shareAt i ρ) σ H Hs':=by
 unfold J.shareAt;split
 ·rename_i d ho
  obtain ⟨a,o,k1,k2,k3,k4,k5⟩:=f.ow i d ho;have hil:i<ρ.length:=(List.getElem?_eq_some_iff.mp ho).1;have up:dD Hs (upd Hs a o):=gS k3;have nx:∀ {j:Nat}{s:Sl},(∀ d,s≠.shr d)->(ρ.set i (.shr d))[j]?=some s->ρ[j]?=some s/\i≠j:=fun {j s} hs e=>by
   by_cases hj:i=j
   ·subst hj;rw [aI hil] at e;exact absurd (bx e).symm (hs d)
   ·rw [aj hj] at e;exact ⟨e,hj⟩
  have ne:∀ (j:Nat) (e:D) (b:ag),i≠j->ρ[j]?=some (Sl.own e)->σ[j]?=some (some (V.ref b))->b≠a:=fun j e b hj h hb z=>by
   subst z;exact hj (f.dj i j d e b ho h k1 hb)
  refine ⟨upd Hs a o,⟨f.st.all,f.st.sh.trans up,fun b u e=>?_,fun b u e t z=>?_⟩,by simp [f.len],fun j e h=>?_,fun j e h=>?_,fun j e h=>?_,fun j k d1 d2 b h1 h2 h3 h4=>?_,f.lh,fun j e h=>?_,fun j k d1 d2 h1 h2=>?_⟩
  ·by_cases hb:b=a
   ·subst hb;rw [aR] at e;cases e;exact k2
   ·rw [aU hb] at e;exact f.st.sub b u e
  ·rw [aU (b6 e k4)];exact f.st.out b u e t z
  ·by_cases hj:i=j
   ·subst hj;rw [aI hil] at h;cases h;exact ⟨_,k1,k5.share k3⟩
   ·rw [aj hj] at h;obtain ⟨v,q1,q2⟩:=f.sh j e h;exact ⟨v,q1,q2.same up⟩
  ·obtain ⟨h,hj⟩:=nx (fun _ z=>by cases z) h;obtain ⟨b,u,q1,q2,q3,q4,q5⟩:=f.ow j e h;exact ⟨b,u,q1,q2,by rw [aU (ne j e b hj h q1)];exact q3,q4,q5.same up⟩
  ·obtain ⟨h,hj⟩:=nx (fun _ z=>by cases z) h;obtain ⟨b,u,q1,q2,q3,q4,q5,q6⟩:=f.lk j e h;exact ⟨b,u,q1,q2,q3,by rw [aU (b6 q5 k4)];exact q4,q5,q6.same up⟩
  ·exact f.dj j k d1 d2 b (nx (fun _ z=>by cases z) h1).1 (nx (fun _ z=>by cases z) h2).1 h3 h4
  ·obtain ⟨h,hj⟩:=nx (fun _ z=>by cases z) h;obtain ⟨b,as,O⟩:=f.o2 j e h;refine ⟨b,as,O.at_,O.ob,O.nd,fun c hc=>⟨?_,(O.out c hc).2⟩,fun c hc k e' hk=>O.dj c hc k e' (nx (fun _ z=>by cases z) hk).1,O.inn.step (.refl _) up⟩;rw [aU (fun z=>O.dj c hc i d ho (by rw [z];exact k1))];exact (O.out c hc).1
  ·exact f.u2 j k d1 d2 (nx (fun _ z=>by cases z) h1).1 (nx (fun _ z=>by cases z) h2).1
 ·exact ⟨Hs,f⟩
theorem Hl (i:Nat)  (h:JS c st gs):JS c st (fun ρ=>gs (shareAt i ρ)):=.of fun ρ=>Ay (h (shareAt i ρ)) fun D σ H h_2=>by
 obtain ⟨H0,Hs0,la,Hs,f,q⟩:=h_2;obtain ⟨Hs',f'⟩:=f.shareAt i;exact ⟨H0,Hs0,la,Hs',f',q⟩
theorem Bk.get    (h:Bk K H Hs as dss):∀ {j:Nat}{ds:List D},dss[j]?=some ds->∃ b vs,as[j]?=some b/\H b=some (.lst vs)/\RDs K Hs vs ds:=by
 induction h with
 |nil=>intro j ds e;cases e
 |cons h r t ih =>
  intro j ds e;cases j with
  |zero=>cases e;exact ⟨_,_,rfl,h,r⟩
  |succ j=>have q:=ih (j:=j) e;exact q
theorem Bk.set    (r':RDs K Hs vs' ds'):∀ {as:List ag}{dss:List (List D)}{j:Nat}{b:ag},Bk K H Hs as dss->as[j]?=some b->as.Nodup->Bk K (L2.upd H b (.lst vs')) Hs as (dss.set j ds')
 |_,_,_,_,.nil,h,_=>by simp at h
 |_,_,0,b,.cons h r t,e,nd=>by
  simp at e;subst e;exact .cons aR r' (t.upd (List.nodup_cons.mp nd).1)
 |_,_,j+1,b,.cons (a:=a) h r t,e,nd=>by
  have e':_:=e;simp only [jR] at e';obtain ⟨n1,n2⟩:=List.nodup_cons.mp nd;have hb:b∈_:=f9 e';exact .cons (by rw [aU (fun z=>n1 (by rw [z];exact hb))];exact h) r (Bk.set r' t e' n2)
def oQ (i:Nat) (gi g:az->R D):az->R Fl:=fun ρ=>match ρ[i]? with
 |some (Sl.ow2 dss)=>(gi ρ).bind fun k=>match k with
  |.int j=>if 0<=j then (match dss[j.toNat]? with
   |some ds=>(g ρ).bind fun d=>if ds.length<1000 then .ok (.nx (ρ.set i (.ow2 (dss.set j.toNat (ds++[d]))))) else .no
   |none=>.no) else .no
  |_=>.no
 |_=>.no
theorem ze (i:Nat) (hie:JE c ie gi) (h:JE c e g) (hN:c.X.N[i]?=some x:=by rfl) (hv:Pm c.X.env.scope x:=by first|exact i4 rfl|exact eU (i4 rfl)|exact eU (eU rfl)) (hd:(x==("__debug__" : Str))=false:=by decide)
  (hcd:(x==("__classdict__" : Str))=false:=by decide) (hpx:xQ ie:=by exact fun _ _=>rfl)
  (hbase:kf (.Subscript (.Name x p) ie p3) "append" c.X.env (cL (.Subscript (.Name x p) ie p3) c.X.env)=cL (.Subscript (.Name x p) ie p3) c.X.env:=by rfl)
  (hfew:((gm cpos (aA [e] c.X.env)).all (fun x=>!x.1)&&(Ps cpos (DM [] c.X.env)).all (fun x=>x.1.isSome)
   && decide ([e].length+([] : List wO).length+(if ([] : List wO).isEmpty then 0 else 1)<30))=true:=by rfl)
  (hline:(apos.endLine==cpos.line)=true:=by rfl) (hst:aA [e] c.X.env=(false,cL e c.X.env)::aA [] c.X.env:=by rfl) (hplain:(gm cpos (aA [] c.X.env)).any (·.1)=false:=by rfl)
  (hs:iq (.Call (.Attribute (.Subscript (.Name x p) ie p3) "append" apos) [e] [] cpos) none pos.line c.X.env=pure false:=by rfl) :
  JS c (.Expr (.Call (.Attribute (.Subscript (.Name x p) ie p3) "append" apos) [e] [] cpos) pos) (oQ i gi g):=.of fun ρ=>by
 refine Ay (sj (yx dQ Al Am Bb (RQ pE (mr hN hv hd hcd) (hie ρ) hpx) (bX (h ρ) el hst) hbase hfew hline hst hplain) hs) fun D σ H h_3=>?_;obtain ⟨H0,Hs0,la,Hs,f,q⟩:=h_3;replace q:oN c.X.K c.cls c.E H0 Hs0 la D (oQ i gi g ρ):=q;unfold oQ at q;split at q
 ·rename_i dss ho
  obtain ⟨a,as,O⟩:=f.o2 i dss ho;refine ⟨_,O.at_,?_⟩;refine sE f q fun k v H1 Hs1 e1 s1 f1 r1=>?_;rw [e1,bind_ok] at q;cases r1 with
  |int j =>
   simp only at q;by_cases hj:0<=j
   ·rw [if_pos hj] at q;split at q
    ·rename_i ds hds
     obtain ⟨b,vs,hb,hH,rv⟩:=O.inn.get hds;have hix:DP (as.map V.ref) j=some (.ref b):=by
      have:=pC (xs:=as.map V.ref) (j:=j.toNat) (v:=V.ref b) (by rw [aO,hb];rfl)
      rwa [eu hj] at this
     refine ⟨a,_,j,_,rfl,rfl,.of (s1.all _ _ O.ob),hix,.inl ⟨rfl,_,.of (s1.all _ _ hH)⟩,?_⟩;refine sE f1 q fun d w H2 Hs2 e2 s2 f2 r2=>?_;rw [e2,bind_ok] at q;by_cases hl:ds.length<1000
     ·rw [if_pos hl] at q;have st:=s1.trans s2;refine ⟨b,vs,w,rfl,rfl,st.all _ _ hH,c8 (by rw [rv.length];omega),?_⟩;have hil:i<ρ.length:=(List.getElem?_eq_some_iff.mp ho).1;obtain ⟨a',as',O2'⟩:=f2.o2 i dss ho;have ea:a'=a:=by
       have:=O2'.at_;rw [O.at_] at this;cases this;rfl
      subst ea;have eas:as'=as:=by
       have h1:=O2'.ob;rw [st.all _ _ O.ob] at h1;injection h1 with h1;injection h1 with h1;exact (LS (fun x y z=>by cases z;rfl) |>.mp h1).symm
      subst eas;have hbm:b∈a'::as':=ao _ (f9 hb);have nb:b≠a':=fun z=>(List.nodup_cons.mp O.nd).1 (z ▸ f9 hb);obtain ⟨bs,b0⟩:=O2'.out b hbm;have nx:∀ {j':Nat}{s:Sl},(∀ d,s≠.ow2 d)->(ρ.set i (.ow2 (dss.set j.toNat (ds++[d]))))[j']?=some s->ρ[j']?=some s/\i≠j':=fun {j' s} hs e=>by
       by_cases hj:i=j'
       ·subst hj;rw [aI hil] at e;exact absurd (bx e).symm (hs _)
       ·rw [aj hj] at e;exact ⟨e,hj⟩
      refine q _ _ Hs2 ⟨⟨fun c u e=>?_,f2.st.sh,fun c u e=>?_,f2.st.out⟩,by simp [f2.len],fun j' d' h=>f2.sh j' d' (nx (fun _ z=>by cases z) h).1,fun j' d' h=>?_,fun j' d' h=>?_,fun j' k' d' e' a h1 h2=>f2.dj j' k' d' e' a (nx (fun _ z=>by cases z) h1).1 (nx (fun _ z=>by cases z) h2).1,f2.lh,fun j' d' h=>?_,fun j' k' d' e' h1 h2=>?_⟩
      ·rw [aU (b6 e b0)];exact f2.st.all c u e
      ·rw [aU (b6 e bs)];exact f2.st.sub c u e
      ·obtain ⟨h,_⟩:=nx (fun _ z=>by cases z) h;obtain ⟨c',u,k1,k2,k3,k4,k5⟩:=f2.ow j' d' h;refine ⟨c',u,k1,?_,k3,k4,k5⟩;rw [aU (fun z=>O2'.dj b hbm j' d' h (by rw [<- z];exact k1))];exact k2
      ·obtain ⟨h,_⟩:=nx (fun _ z=>by cases z) h;obtain ⟨c',u,k1,k2,k3,k4,k5,k6⟩:=f2.lk j' d' h;refine ⟨c',u,k1,k2,?_,k4,k5,k6⟩;rw [aU (b6 k5 b0)];exact k3
      ·by_cases hj':i=j'
       ·subst hj';rw [aI hil] at h;cases h;refine ⟨a',as',O2'.at_,by rw [aU (dq nb)];exact O2'.ob,O2'.nd,O2'.out,fun c hc k e' hk=>O2'.dj c hc k e' (nx (fun _ z=>by cases z) hk).1,?_⟩;exact Bk.set ((rv.same st.sh).append (.cons r2 .nil)) O2'.inn hb (List.nodup_cons.mp O2'.nd).2
       ·rw [aj hj'] at h;exact (hj' (f2.u2 i j' _ _ ho h)).elim
      ·by_cases hj':i=j'
       ·by_cases hk':i=k'
        ·exact hj'.symm.trans hk'
        ·rw [aj hk'] at h2;exact (hk' (f2.u2 i k' _ _ ho h2)).elim
       ·rw [aj hj'] at h1;exact (hj' (f2.u2 i j' _ _ ho h1)).elim
     ·rw [if_neg hl] at q;exact q.elim
    ·exact q.elim
   ·rw [if_neg hj] at q;exact q.elim
  |none=>exact q.elim
  |bool _=>exact q.elim
  |str _=>exact q.elim
  |list _ _=>exact q.elim
  |tuple _ _=>exact q.elim
  |dictK _ _=>exact q.elim
  |dictT _ _ _=>exact q.elim
  |dictF _ _ _=>exact q.elim
 ·exact q.elim
end
end
section
open PyProof.Rows (OwnCls)
theorem QO (l:ag) (items:Array ae) (n:Nat) (b:ag) (dd:Option ag) (items2:Array ae) (n2:Nat) (sl:Array (Option ae)) (door:¬(!items.isEmpty&&g6 (items.size+items2.size))=true) (z1:items.size<=sizeLine) (z2:items.size+items2.size<=sizeLine+1) :
  Meets (fK.«list.extend» ⟨[.ref l,.ref b],[]⟩) (fun _ R s=>s.heap.get? l=some { cls:=.type "list",data:=.seq items n }/\s.heap.get? b=some { cls:=.type "list",dict:=dd,data:=.seq items2 n2,slots:=sl } /\
   R (.ok (.ret dz)) { s with heap:=s.heap.update l (jP fun xs=>xs++items2),toks:=s.toks }) :=
 .of_wp fun prog w A R s h=>by
  obtain ⟨hp,gg,dr,tk,os⟩:=s;obtain ⟨hl,hb,h⟩:=h;have f1:=AutoSeq1.idx_int;have f2:=AutoSeq1.sub_tuple_tuple;have f3:=AutoSeq1.sub_list_list;have f4:=AutoSeq1.sub_tuple_list;have f5:=AutoSeq1.sub_list_tuple;have qH:(items++items2).size<=sizeLine+1:=by rw [LU];exact z2
  wp_walk using (DT hl rfl (hz:=z1) (_hz':=qH)),wpAny_loadPart' hl,wpAny_loadPart' hb;exact ⟨_,rfl,h⟩
section
inductive Sc (K:a7) (x:V) (vs:List V) (H:Hp) (Q:VK):Prop
 |mk (l b xs zs:_) (h0:x=.ref l) (h1:vs=[.ref b]) (h2:H l=some (.lst xs)) (h3:mV K H b zs) (h4:xs.length+zs.length<=sizeLine) (h5:Q .non (upd H l (.lst (xs++zs)))):Sc K x vs H Q
def Xw (K:a7):V->List V->Hp->VK->Prop:=Sc K
theorem U0:Xd X "list.extend" (Xw X.K):=by
 intro pins s σ H x vs v us Q I rx rv h;obtain ⟨l,b,xs,zs,rfl,rfl,hH,hB,hz,q⟩:=h;cases rx;obtain ⟨u,rfl,ru⟩:=rv.one;cases ru;obtain ⟨z,its,n,r,hl,e⟩:=I.lstM hH;obtain ⟨its2,r2,⟨⟨m1,m2,m3,m4⟩,n2,e2,d1,d2,d3⟩,z2⟩:=I.list hB;simp only at d1 d2 d3;subst d1 d2 d3;have len2:=r2.length;have fit:its.toArray.size+its2.toArray.size<=sizeLine:=by rw [aG,aG];omega
 refine mj Pt ⟨_,e,rfl⟩ Ph (M1 _ _) (QO l its.toArray n b _ its2.toArray n2 m4 ?_ (by omega) (by omega)) ⟨e,e2,?_⟩
 ·rw [yy fit,iY];exact aL
 ·refine ⟨.non,_,I.lset (its':=its++its2) hH e (by simp) (r.append r2) ?_,rfl,q⟩;rw [aJ];omega
end
section
def EL (i:Nat) (g:az->R D):az->R Fl:=fun ρ=>match ρ[i]? with
 |some (Sl.own (.list ds))=>(g ρ).bind fun d=>match d with
  |.list es=>if ds.length+es.length<=1000 then .ok (.nx (ρ.set i (.own (.list (ds++es))))) else .no
  |_=>.no
 |_=>.no
theorem wt (i:Nat) (h:JE c e g) (hN:c.X.N[i]?=some x:=by rfl) (hv:Pm c.X.env.scope x:=by first|exact i4 rfl|exact eU (i4 rfl)|exact eU (eU rfl)) (hd:(x==("__debug__" : Str))=false:=by decide)
  (hcd:(x==("__classdict__" : Str))=false:=by decide)
  (hbase:kf (.Name x p) "extend" c.X.env (cL (.Name x p) c.X.env)=cL (.Name x p) c.X.env:=by rfl)
  (hfew:((gm cpos (aA [e] c.X.env)).all (fun x=>!x.1)&&(Ps cpos (DM [] c.X.env)).all (fun x=>x.1.isSome)
   && decide ([e].length+([] : List wO).length+(if ([] : List wO).isEmpty then 0 else 1)<30))=true:=by rfl)
  (hline:(apos.endLine==cpos.line)=true:=by rfl) (hst:aA [e] c.X.env=(false,cL e c.X.env)::aA [] c.X.env:=by rfl) (hplain:(gm cpos (aA [] c.X.env)).any (·.1)=false:=by rfl)
  (hs:iq (.Call (.Attribute (.Name x p) "extend" apos) [e] [] cpos) none pos.line c.X.env=pure false:=by rfl) :
  JS c (.Expr (.Call (.Attribute (.Name x p) "extend" apos) [e] [] cpos) pos) (EL i g):=.of fun ρ=>by
 refine Ay (sj (yx dQ nO nQ U0 (mr hN hv hd hcd) (bX (h ρ) el hst) hbase hfew hline hst hplain) hs) fun D σ H h_0=>?_;obtain ⟨H0,Hs0,la,Hs,f,q⟩:=h_0;replace q:oN c.X.K c.cls c.E H0 Hs0 la D (EL i g ρ):=q;unfold EL at q;split at q
 ·rename_i ds ho
  obtain ⟨a,o,k1,k2,k3,k4,k5⟩:=f.ow i _ ho;cases k5 with
  | @lst vs _ r =>
   refine ⟨_,k1,.inl ⟨rfl,_,.of k2⟩,?_⟩;refine sE f q fun d v H1 Hs1 e1 s1 f1 r1=>?_;rw [e1,bind_ok] at q;cases r1 with
   | @list b zs es sq rs =>
    simp only at q;by_cases hl:ds.length+es.length<=1000
    ·rw [if_pos hl] at q;have r':=r.same s1.sh;exact ⟨a,b,vs,zs,rfl,rfl,s1.all _ _ k2,f1.st.sub.seq sq,b9 (c8 (by rw [r.length,rs.length];exact hl)),q _ _ Hs1 (f1.write i ho k1 (.lst (r'.append rs)))⟩
    ·rw [if_neg hl] at q;exact q.elim
   |none=>exact q.elim
   |bool _=>exact q.elim
   |int _=>exact q.elim
   |str _=>exact q.elim
   |tuple _ _=>exact q.elim
   |dictK _ _=>exact q.elim
   |dictT _ _ _=>exact q.elim
   |dictF _ _ _=>exact q.elim
 ·exact q.elim
end
structure Er (mg:Str->Option ae) (base:bw) (cls:Str->ag) (x:Str):Prop where
 ex:∃ bmB newId initId Bn,OwnCls x (cls x) bmB newId mg base/\tW Bn newId initId bmB
def uc (x:Str) (gs:az->R (List D)):az->R Fl:=fun ρ=>(gs ρ).bind fun ds=>if ds.length<=1000 then .ex x none else .no
section
theorem EM {x:Str}{np cpos pos:Pos}{e0:bR}{bK:List bR}{gs:az->R (List D)} (R0:Er mg base cls x)
  (hg:Gl (eZ (jf P w) P w K mg base N qual scope f cd A outer s H E) x) (ha:Et ⟨eZ (jf P w) P w K mg base N qual scope f cd A outer s H E,cls,E⟩ (e0::bK) gs)
  (he:aA (e0::bK) (eZ (jf P w) P w K mg base N qual scope f cd A outer s H E).env=(false,cL e0 (eZ (jf P w) P w K mg base N qual scope f cd A outer s H E).env)::aA bK (eZ (jf P w) P w K mg base N qual scope f cd A outer s H E).env:=by rfl)
  (hdb:(x==("__debug__" : Str))=false:=by decide) (hpl:(gm cpos (aA bK (eZ (jf P w) P w K mg base N qual scope f cd A outer s H E).env)).any (·.1)=false:=by rfl) :
  JS ⟨eZ (jf P w) P w K mg base N qual scope f cd A outer s H E,cls,E⟩ (.Raise (some (.Call (.Name x np) (e0::bK) [] cpos)) none pos) (uc x gs):=.of fun ρ=>by
 obtain ⟨bmB,newId,initId,Bn,O,FB⟩:=R0.ex;refine Ay (M_ O FB hg (ha ρ) he hdb hpl) fun D σ H1 h_1=>?_;obtain ⟨H0,Hs0,la,Hs,f,q⟩:=h_1;replace q:oN K cls E H0 Hs0 la D (uc x gs ρ):=q;refine ⟨H0,Hs0,la,Hs,f,?_⟩;unfold uc at q;cases hr:gs ρ with
 |no=>rw [hr] at q;exact q
 |ex y n=>rw [hr] at q;exact fun H' Hs' s=>q H' Hs' (f.st.trans s)
 |ok ds =>
  rw [hr,bind_ok] at q;intro vs H2 Hs2 s2 r2;by_cases hl:ds.length<=1000
  ·rw [if_pos hl] at q;exact ⟨b9 (c8 (by rw [r2.length];exact hl)),q H2 Hs2 (f.st.trans s2)⟩
  ·rw [if_neg hl] at q;exact q.elim
end
end
section
structure Bi (mg:Str->Option ae):Prop where
 len:mg "len"=none
 isinstance:mg "isinstance"=none
 all:mg "all"=none
 any:mg "any"=none
 zip:mg "zip"=none
 tuple:mg "tuple"=none
 list:mg "list"=none
 sorted:mg "sorted"=none
 set:mg "set"=none
 range:mg "range"=none
 enumerate:mg "enumerate"=none
 dict:mg "dict"=none
 sum:mg "sum"=none
 max:mg "max"=none
 min:mg "min"=none
 reversed:mg "reversed"=none
 str:mg "str"=none
 int:mg "int"=none
 bool:mg "bool"=none
end
section
structure Xf (K:a7) (base:bw) (cls:Str->ag) (names:List Str) (C:ag) (j:Nat):Prop where
 ek:El K C
 is:∀ i n,names[i]?=some n->dC K (.ref C) (.ref (cls n))=some (decide (i=j))
 ve:dC K (.ref C) (.type "ValueError")=some true
 ox:∃ bm,wl base C bm/\bm.contains (.ref (cls "PlanError"))=true
 lt:j<11
inductive Sd (K:a7) (base:bw) (cls:Str->ag) (names:List Str) (vs:List V) (H:Hp) (Q:VK) (z_3:XK):Prop
 |mk (ea C j:_) (h0:vs=[.ref ea]) (h1:(∃ dx,H ea=some (u3 dx ea C))) (h2:Xf K base cls names C j) (h3:∀ t H',dD H H'->H t=none->H' t=some (.tup [.str "refused",.int (j:Nat)])->Q (.ref t) H'):Sd K base cls names vs H Q z_3
def Nv (K:a7) (base:bw) (cls:Str->ag) (names:List Str):Sp:=Sd K base cls names
def bits (j:Nat):List Bool:=[decide (0=j),decide (1=j),decide (2=j),decide (3=j),decide (4=j),decide (5=j),decide (6=j),decide (7=j),decide (8=j),decide (9=j),decide (10=j)]
theorem Hm:∀ j,j<11->(bits j).countP id=1:=by
 intro j h
 have:∀ k:_root_.Fin 11,(bits k.val).countP id=1:=by decide
 exact this ⟨j,h⟩
theorem QP:∀ j,j<11->(bits j)[j]?=some true/\∀ m,m<j->(bits j)[m]?=some false:=by
 intro j h
 have:∀ k:_root_.Fin 11,(bits k.val)[k.val]?=some true/\∀ m:_root_.Fin 11,m.val<k.val->(bits k.val)[m.val]?=some false:=by decide
 exact ⟨(this ⟨j,h⟩).1,fun m hm=>(this ⟨j,h⟩).2 ⟨m,by omega⟩ hm⟩
section
variable {X:Cx}{cls:Str->ag}{names:List Str}{base:bw}
theorem mC   (h0:PE X e0 (Cc 0)) (hg:Gl X "isinstance") (hm:X.mg "isinstance"=none) (hgn:Gl X n) (hmn:X.mg n=some (.ref (cls n))) (hdb:(n==("__debug__" : Str))=false:=by decide)
  (he:aA [e0,.Name n p2] X.env=(false,cL e0 X.env)::aA [.Name n p2] X.env:=by rfl) (hpl:(gm pos (aA [.Name n p2] X.env)).any (·.1)=false:=by rfl) :
  PE X (.Call (.Name "isinstance" p) [e0,.Name n p2] [] pos) (fun σ H Q=>∃ ea C j i,σ[0]?=some (some (V.ref ea))/\(∃ dx,H ea=some (u3 dx ea C))/\Xf X.K base cls names C j/\names[i]?=some n/\Q (.bl (decide (i=j))) H) :=
 rh (oJ wW hg hm kz (bX h0 (bX (IC hgn hmn (v:=.ref (cls n)) rfl hdb) el) he) (by decide) (by decide) he hpl) fun σ H Q ⟨ea,C,j,i,h1,⟨dx,h2⟩,x,h3,q⟩ =>
  ⟨_,h1,.ref ea,.ref (cls n),.ref (cls n),_,rfl,.inr ⟨_,rfl,rfl⟩,.inr ⟨dx,ea,C,rfl,h2,x.ek,x.is i n h3⟩,q⟩
theorem QQ  (h0:PE X e0 (Cc 0)) (hg:Gl X "isinstance") (hm:X.mg "isinstance"=none) (hgn:Gl X "ValueError") (hmn:X.mg "ValueError"=none)
  (he:aA [e0,.Name "ValueError" p2] X.env=(false,cL e0 X.env)::aA [.Name "ValueError" p2] X.env:=by rfl) (hpl:(gm pos (aA [.Name "ValueError" p2] X.env)).any (·.1)=false:=by rfl) :
  PE X (.Call (.Name "isinstance" p) [e0,.Name "ValueError" p2] [] pos) (fun σ H Q=>∃ ea C j,σ[0]?=some (some (V.ref ea))/\(∃ dx,H ea=some (u3 dx ea C))/\Xf X.K base cls names C j/\Q (.bl true) H) :=
 rh (oJ wW hg hm kz (bX h0 (bX (ID hgn hmn (u:=.type "ValueError") (v:=.ty "ValueError") rfl rfl) el) he) (by decide) (by decide) he hpl) fun σ H Q ⟨ea,C,j,h1,⟨dx,h2⟩,x,q⟩ =>
  ⟨_,h1,.ref ea,.ty "ValueError",.type "ValueError",_,rfl,.inl ⟨_,rfl,rfl⟩,.inr ⟨dx,ea,C,rfl,h2,x.ek,x.ve⟩,q⟩
end
end
end J
section
namespace J
open PySem L2
structure Wh (P:bf) (w:bE) (K:a7) (mg:Str->Option ae) (base:bw) (cls:Str->ag) (x:Str) (names:List Str) (wh:Str->Option Nat):Prop where
 fn:∃ f fd ps,Em P w K mg base 1 f fd ps (Nv K base cls names)/\mg x=some (.ref f)/\d_ K (.ref f)=true/\kC K fd ps []
 pe:mg "PlanError"=some (.ref (cls "PlanError"))
 ox:∃ bp,wl base (cls "PlanError") bp
 xf:∀ y j,wh y=some j->Xf K base cls names (cls y) j
section
variable {c:C}{body:List cY}{x n:Str}{np np2 np3 hpos cpos rpos pos:Pos}{gb:az->R Fl}{names:List Str}{wh:Str->Option Nat}
end
end J
namespace L2
open PySem
theorem my.mono1  (r:my k A) (h:1<=k:=by decide):my 1 A:=⟨by have:=r.dp;omega,by have:=r.un;omega⟩
end L2
end
namespace J
open PySem L2
section
open PyProof.Rows (OwnCls)
abbrev QR:List ae:=[.type "ValueError",.type "Exception",.type "BaseException",.type "object"]
theorem Ho {K:a7}{h:bw}{mg:Str->Option ae}{x:Str}{C:ag}{bmB:List ae}{newId:String} (X:K.In h) (G:h.Ns bt mg) (e:gE K bt x=some (some (.ref C))) (q:An K C bmB newId=true) (m1:bU K C (.type "BaseException")=some true) :
  OwnCls x C bmB newId mg h/\∃ bm,wl h C bm/\∀ v,(v==bg C)=false->bU K C v=some true->bm.contains v=true:=by
 have hmg:=il X G e
 unfold An at q
 split at q
 ·rename_i dd cd sl look
  split at q
  ·rename_i C' bm k0 k1 k2 k3 n k5 hmro hslots
   simp only [aP,beq_iff_eq,M8] at q
   obtain ⟨⟨⟨⟨⟨rfl,rfl⟩,nodel⟩,tl⟩,nsok⟩,noinit⟩:=q
   have slots:sl=#[k0,k1,k2,k3,some (.builtin n),k5]:=by
    cases sl with|mk l=>simp only at hslots;rw [hslots]
   have inMro:∀ v,bU K C' v=some true->cd.mro.contains v=true:=fun v hv=>by
    unfold bU fB at hv
    rw [look] at hv
    simp only [pi] at hv
    split at hv
    ·cases hv
    ·exact bx hv
   have bK:∀ v,(v==bg C')=false->bU K C' v=some true->bm.contains v=true:=fun v nv hv=>by
    have:=inMro v hv
    rw [hmro,gf,nv,uS] at this
    exact this
   obtain ⟨nm,bs,mro,ns,qn,hd,sn,sub,ab,col,del⟩:=cd
   dsimp only at hmro nodel nsok noinit
   subst hmro nodel slots
   have at_:=X _ _ look
   exact ⟨⟨hmg,bm,ns,nm,qn,bs,hd,sn,sub,ab,col,dd,k0,k1,k2,k3,k5,_,at_,.of_isNs (mn X nsok),eQ X nsok noinit,PySem.W.tail_of_in X tl⟩,
    bm,⟨⟨nm,qn,ns,bs,hd,sn,sub,ab,col,dd,k0,k1,k2,k3,k5,n,at_⟩,bK _ rfl m1⟩,bK⟩
  ·cases q
 ·cases q
structure TopC (K:a7) (x:Str) (C:ag):Prop where
 ns:gE K bt x=some (some (.ref C))
 ex:An K C QR "ValueError.__new__"=true
 mb:bU K C (.type "BaseException")=some true
theorem TopC.er {K:a7}{h:bw}{mg:Str->Option ae}{cls:Str->ag}{x:Str}{C:ag} (T:TopC K x C) (X:K.In h) (G:h.Ns bt mg) (hc:cls x=C):Er mg h cls x:=by
 subst hc
 exact ⟨_,_,_,_,(Ho X G T.ns T.ex T.mb).1,mq⟩
theorem QS {K:a7}{t C:ag}{cd:ClassData}{b:Bool} (h1:fB K C=some cd) (h2:yk K (.ref C)=some (.type "type")) (h3:nR K (.ref t) (.ref C)=some b) (hn:b=false->t≠C):dC K (.ref t) (.ref C)=some b:=by
 unfold dC
 split
 ·rename_i he
  have e:t=C:=by have:=eq_of_beq he;cases this;rfl
  cases b with
  |true=>rfl
  |false=>exact (hn rfl e).elim
 ·unfold M9
  simp only [h1,h2,uE,beq_self_eq_true,lI,if_true]
  exact h3
theorem U1  (h3:nR K (.ref t) (.type "ValueError")=some true):dC K (.ref t) (.type "ValueError")=some true:=by
 unfold dC
 split
 ·rename_i he
  cases (eq_of_beq he)
 ·unfold M9
  show (if PySem.W.kitMeta "ValueError"=true then _ else none)=some true
  rw [if_pos (by decide +kernel)]
  exact h3
inductive Vx (K:a7) (F:List D->R D) (vs:List V) (H:Hp) (Q:VK) (z_3:XK):Prop
 |mk (Hs ds d:_) (h0:dD Hs H) (h1:ds.length=1) (h2:RDs K Hs vs ds) (h3:F ds=.ok d) (h4:∀ v H' Hs',cE H Hs H' Hs'->RD K Hs' v d->Q v H'):Vx K F vs H Q z_3
def Vy (K:a7) (F:List D->R D):Sp:=Vx K F
theorem U2   : ∀ vs H Q E,Vy K F vs H Q E->S6 K cls 1 F vs H Q E:=fun vs H Q E ⟨Hs,ds,d,s,l,r,e,q⟩=>⟨Hs,ds,s,l,r,by rw [e];exact q⟩
def Vz (l:List (Str×ag)):Str->ag:=fun x=>(l.lookup x).getD 0
theorem U3 {K:a7}{F:List D->R D}{H:Hp}{a:ag}{ns:List Int} (hF:F [.list (ns.map .int)]=.ok (.bool true)) (h:mV K H a (ns.map V.int)):Vy K F [.ref a] H (fun v _=>v=.bl true) fun _ _ _=>False:=by
 have ri:∀ ns:List Int,RDs K H (ns.map V.int) (ns.map .int):=fun ns=>by
  induction ns with
  |nil=>exact .nil
  |cons x r ih=>exact .cons (.int x) ih
 refine ⟨H,[.list (ns.map .int)],.bool true,.refl H,rfl,.cons (.list h (ri ns)) .nil,hF,?_⟩
 intro v H' Hs' _ r
 cases r
 rfl
theorem U4      (h:jf P w [] H s (fun _ _ _=>False) e s'):False:=by
 obtain ⟨_,_,_,_,_,_,_,_,_,_,_,q⟩:=h
 exact q
theorem walkF {l:xo}{k:Nat}{q:bf}{loose:List Str}{XP:(Str->Option ae)->bw->Prop}{YP:bE->bw->Prop}{d:DefRec}{K:Params->a7}{x:Str}{F0:List D->R D}
  (hn:l.most=some 63) (hdf:d.params.defaults=[]) (hr:kj k wP) (hY:∀ (w:bE) (h:bw),YP w h->(K w.params).In h)
  (F:∀ (w:bE) (mg:Str->Option ae) (fa:ag) (h:bw),(K w.params).In h->h.Ns bt mg->mg d.name=some (.ref fa) ->
   ∃ fd:eX,(∀ (s:ah) (u:ae),wN s fd ⟨[u],[]⟩ [(x,u)])/\∀ base:bw,(K w.params).In base->base.Ns bt mg->sY l.prog w (K w.params) mg base (jf l.prog w) k fa fd [x] (Vy (K w.params) F0))
  (hF:∀ ns:List Int,ns.length<=63->F0 [.list (ns.map .int)]=.ok (.bool true)) :
  Pi q loose XP YP l.row.toRowW d [] (fun f vs=>K9 f vs) :=
 L2.Qk (n:=63) (k:=k) (x:=x) (CX:=fun w=>jf l.prog w) (sp:=fun w=>Vy (K w.params) F0) hn (by decide) hdf hr hY F (fun w H a ns hl _ hS=>U3 (hF ns hl) hS) fun _ _ _ _ _ h=>U4 h
def WI (i:Nat) (g:az->R Fl):az->R Fl:=fun ρ=>g (shareAt i ρ)
theorem Nw (i:Nat)  (h:JS c st gs):JS c st (WI i gs):=Hl i h
end
section
section
theorem D6 {α β:Type} (a:α) (f:α->R β):(R.ok a).bind f=f a:=id rfl
theorem VA {α β:Type} (c:Str) (n:Option D) (f:α->R β):(R.ex c n:R α).bind f=.ex c n:=id rfl
theorem VB {α β:Type} (f:α->R β):(R.no:R α).bind f=.no:=id rfl
def Hq (h:az->R Fl):Fl->R Fl:=fun fl=>match fl with
 |.nx ρ'=>h ρ'
 |fl=>.ok fl
theorem zf (g h:az->R Fl):aX g h (s::ρ)=(g (s::ρ)).bind (Hq h):=id rfl
theorem rK (h:az->R Fl) (ρ:az):Hq h (.nx ρ)=h ρ:=id rfl
theorem EN (h:az->R Fl) (d:D):Hq h (.rt d)=.ok (.rt d):=id rfl
def Xx (g h:az->R Fl) (ρ:az):Bool->R Fl:=fun b=>bif b then g ρ else h ρ
theorem VC (t:az->R Bool) (g h:az->R Fl):dZ t g h (s::ρ)=(t (s::ρ)).bind (Xx g h (s::ρ)):=by
 show (t (s::ρ)).bind _=_;congr 1;funext b;cases b<;>rfl
theorem Nx (g h:az->R Fl) (ρ:az):Xx g h ρ false=h ρ:=id rfl
theorem Ny (g h:az->R Fl) (ρ:az) (b:Bool):Xx g h ρ b=bif b then g ρ else h ρ:=id rfl
def Yl:D->R Fl:=fun d=>.ok (.rt d)
theorem Se (g:az->R D):cC g (s::ρ)=(g (fQ (s::ρ))).bind Yl:=id rfl
theorem VD (d:D):Yl d=.ok (.rt d):=id rfl
def zg:Sl->Sl
 |.own d=>.shr d
 |.ow2 dss=>.shr (.list (dss.map .list))
 |s=>s
theorem J9:fQ (s::ρ)=zg s::fQ ρ:=by cases s<;>rfl
theorem EO:fQ []=[]:=id rfl
theorem Ja:zg .no=.no:=id rfl
theorem EQ (d:D):zg (.shr d)=.shr d:=id rfl
theorem ES (d:D):zg (.own d)=.shr d:=id rfl
theorem ET (d:List (List D)):zg (.ow2 d)=.shr (.list (d.map .list)):=id rfl
def VE (i:Nat) (ρ:az):D->R Fl:=fun d=>.ok (.nx (ρ.set i (.shr d)))
theorem Nz (i:Nat) (g:az->R D):f_ i g (s::ρ)=(g (s::ρ)).bind (VE i (s::ρ)):=id rfl
theorem NA (i:Nat) (ρ:az) (d:D):VE i ρ d=.ok (.nx (ρ.set i (.shr d))):=id rfl
def Sf (i:Nat) (ρ:az):D->R Fl:=fun d=>.ok (.nx (ρ.set i (.own d)))
theorem NB (i:Nat) (g:az->R D):gQ i g (s::ρ)=(g (s::ρ)).bind (Sf i (s::ρ)):=id rfl
theorem Jb (i:Nat) (ρ:az) (d:D):Sf i ρ d=.ok (.nx (ρ.set i (.own d))):=id rfl
def MC (ρ:az):D->R Fl:=fun _=>.ok (.nx ρ)
theorem NC (g:az->R D):yS g (s::ρ)=(g (s::ρ)).bind (J.MC (s::ρ)):=id rfl
theorem Jc (ρ:az) (d:D):J.MC ρ d=.ok (.nx ρ):=id rfl
def Ym (gb:az->R D) (h:D->D->R D) (ρ:az):D->R D:=fun x=>(gb ρ).bind (h x)
theorem VF (ga gb:az->R D) (h:D->D->R D):g2 ga gb h (s::ρ)=(ga (s::ρ)).bind (Ym gb h (s::ρ)):=id rfl
theorem Sg (gb:az->R D) (h:D->D->R D) (ρ:az) (x:D):Ym gb h ρ x=(gb ρ).bind (h x):=id rfl
def QT:D->R Bool:=fun d=>match d with
 |.bool b=>.ok b
 |_=>.no
theorem Sh (g:az->R D):fZ g (s::ρ)=(g (s::ρ)).bind QT:=id rfl
theorem ND (b:Bool):QT (.bool b)=.ok b:=id rfl
def VG:Bool->R Bool:=fun b=>.ok (!b)
theorem Si (g:az->R Bool):le g (s::ρ)=(g (s::ρ)).bind VG:=id rfl
theorem NE (b:Bool):VG b=.ok (!b):=id rfl
def VH (h:az->R Bool) (ρ:az):Bool->R Bool:=fun b=>bif b then h ρ else .ok false
def Yn (h:az->R Bool) (ρ:az):Bool->R Bool:=fun b=>bif b then .ok true else h ρ
theorem Sj (g h:az->R Bool):CM g h (s::ρ)=(g (s::ρ)).bind (VH h (s::ρ)):=by
 show (g (s::ρ)).bind _=_;congr 1;funext b;cases b<;>rfl
theorem VI (g h:az->R Bool):IT g h (s::ρ)=(g (s::ρ)).bind (Yn h (s::ρ)):=by
 show (g (s::ρ)).bind _=_;congr 1;funext b;cases b<;>rfl
theorem NF (h:az->R Bool) (ρ:az) (b:Bool):VH h ρ b=bif b then h ρ else .ok false:=id rfl
theorem Sk (h:az->R Bool) (ρ:az) (b:Bool):Yn h ρ b=bif b then .ok true else h ρ:=id rfl
def Sm:Bool->R D:=fun b=>.ok (.bool (!b))
theorem NG (g:az->R D):Ev g (s::ρ)=((g (s::ρ)).bind QT).bind Sm:=id rfl
theorem Jd (b:Bool):Sm b=.ok (.bool (!b)):=id rfl
def Sn (h:az->R D) (ρ:az):Bool->R D:=fun b=>bif b then h ρ else .ok (.bool false)
theorem NH (g h:az->R D):yP g h (s::ρ)=((g (s::ρ)).bind QT).bind (Sn h (s::ρ)):=by
 show (fZ g (s::ρ)).bind _=(fZ g (s::ρ)).bind _;congr 1;funext b;cases b<;>rfl
theorem Je (h:az->R D) (ρ:az) (b:Bool):Sn h ρ b=bif b then h ρ else .ok (.bool false):=id rfl
def VJ (gb gc:az->R D) (h h':D->D->R D) (ρ:az):D->R D:=fun x=>(gb ρ).bind fun y=>(h x y).bind fun z=>match z with
 |.bool true=>(gc ρ).bind fun w=>h' y w
 |.bool false=>.ok (.bool false)
 |_=>.no
def VL (gc:az->R D) (h h':D->D->R D) (ρ:az) (x:D):D->R D:=fun y=>(h x y).bind fun z=>match z with
 |.bool true=>(gc ρ).bind fun w=>h' y w
 |.bool false=>.ok (.bool false)
 |_=>.no
def VM (gc:az->R D) (h':D->D->R D) (ρ:az) (y:D):D->R D:=fun z=>match z with
 |.bool true=>(gc ρ).bind (h' y)
 |.bool false=>.ok (.bool false)
 |_=>.no
theorem Jf (ga gb gc:az->R D) (h h':D->D->R D):rn ga gb gc h h' (s::ρ)=(ga (s::ρ)).bind (VJ gb gc h h' (s::ρ)):=id rfl
theorem NI (gb gc:az->R D) (h h':D->D->R D) (ρ:az) (x:D):VJ gb gc h h' ρ x=(gb ρ).bind (VL gc h h' ρ x):=id rfl
theorem NJ (gc:az->R D) (h h':D->D->R D) (ρ:az) (x y:D):VL gc h h' ρ x y=(h x y).bind (VM gc h' ρ y):=id rfl
theorem NK (gc:az->R D) (h':D->D->R D) (ρ:az) (y:D) (b:Bool):VM gc h' ρ y (.bool b)=bif b then (gc ρ).bind (h' y) else .ok (.bool false):=by cases b<;>rfl
def NL (gs:az->R (List D)) (ρ:az):D->R (List D):=fun d=>(gs ρ).bind fun ds=>.ok (d::ds)
def NN (d:D):List D->R (List D):=fun ds=>.ok (d::ds)
theorem NQ (g:az->R D) (gs:az->R (List D)):J.a9 g gs (s::ρ)=(g (s::ρ)).bind (NL gs (s::ρ)):=id rfl
theorem EU (gs:az->R (List D)) (ρ:az) (d:D):NL gs ρ d=(gs ρ).bind (NN d):=id rfl
theorem EV (d:D) (ds:List D):NN d ds=.ok (d::ds):=id rfl
theorem So (ρ:az):J.aC ρ=.ok []:=id rfl
def Sq (k:List D->D):List D->R D:=fun ds=>if ds.length<=1000 then .ok (k ds) else .no
theorem NS (gs:az->R (List D)) (k:List D->D):cP gs k (s::ρ)=(gs (s::ρ)).bind (Sq k):=id rfl
theorem Jg (k:List D->D) (ds:List D):Sq k ds=if ds.length<=1000 then .ok (k ds) else .no:=id rfl
theorem NT (gs:az->R (List D)) (h:List D->R D):bY gs h (s::ρ)=(gs (s::ρ)).bind h:=id rfl
def Yo (n:Nat) (F:List D->R D):List D->R D:=fun ds=>if ds.length=n then F ds else .no
theorem VN (n:Nat) (F:List D->R D) (gs:az->R (List D)):e6 n F gs (s::ρ)=(gs (s::ρ)).bind (Yo n F):=id rfl
theorem Sr (n:Nat) (F:List D->R D) (ds:List D):Yo n F ds=if ds.length=n then F ds else .no:=id rfl
theorem Ss (h:D->R D) (d:D):i5 h [d]=h d:=id rfl
theorem NU (d:D) (ρ:az):Gc (.shr d::ρ) 0=.ok d:=id rfl
theorem Su (s:Sl) (ρ:az) (n:Nat):Gc (s::ρ) (n+1)=Gc ρ n:=by simp [Gc]
theorem NV (d:D) (ρ:az):Eu (.shr d::ρ) 0=.ok d:=id rfl
theorem NW (d:D) (ρ:az):Eu (.own d::ρ) 0=.ok d:=id rfl
theorem NX (d:D) (ρ:az):Eu (.lck d::ρ) 0=.ok d:=id rfl
theorem Sv (s:Sl) (ρ:az) (n:Nat):Eu (s::ρ) (n+1)=Eu ρ n:=by simp [Eu]
def VO (T:String):D->R D:=fun d=>if pp d then .ok (.bool (rE T d)) else .no
theorem Sw (g:az->R D) (T:String):vd g T (s::ρ)=(g (s::ρ)).bind (VO T):=id rfl
theorem NY (T:String) (d:D):VO T d=if pp d then .ok (.bool (rE T d)) else .no:=id rfl
def VP (gl gh:az->R (Option Int)) (ρ:az):D->R D:=fun x=>(gl ρ).bind fun l=>(gh ρ).bind fun h=>xU x l h
def VQ (gh:az->R (Option Int)) (ρ:az) (x:D):Option Int->R D:=fun l=>(gh ρ).bind fun h=>xU x l h
theorem VR (g:az->R D) (gl gh:az->R (Option Int)):IY g gl gh (s::ρ)=(g (s::ρ)).bind (VP gl gh (s::ρ)):=id rfl
theorem NZ (gl gh:az->R (Option Int)) (ρ:az) (x:D):VP gl gh ρ x=(gl ρ).bind (VQ gh ρ x):=id rfl
theorem N_ (gh:az->R (Option Int)) (ρ:az) (x:D) (l:Option Int):VQ gh ρ x l=(gh ρ).bind (xU x l):=id rfl
theorem Sx (ρ:az):KM ρ=.ok none:=id rfl
def VS:D->R (Option Int):=fun d=>match d with
 |.int i=>.ok (some i)
 |_=>.no
theorem Sy (g:az->R D):Gd g (s::ρ)=(g (s::ρ)).bind VS:=id rfl
theorem O0 (i:Int):VS (.int i)=.ok (some i):=id rfl
theorem U5 (g:az->R D):kW g (s::ρ)=(g (s::ρ)).bind yT:=id rfl
theorem O1 (gs:az->R (List D)):yU gs (s::ρ)=(gs (s::ρ)).bind Hg:=id rfl
theorem Sz (gs:az->R (List D)):Hh gs (s::ρ)=(gs (s::ρ)).bind WG:=id rfl
theorem SA (gs:az->R (List D)):QI gs (s::ρ)=(gs (s::ρ)).bind zp:=id rfl
def SB (nt:Nat) (ix:List Nat) (gt:az->R Bool) (ge:az->R D) (ρ:az):List D->R D:=fun ds=>if ds.length<=1000 then (i9 (j4 nt (oO nt ix ρ) gt ge) ds).bind fun ys=>.ok (.list ys) else .no
def SC:List D->R D:=fun ys=>.ok (.list ys)
theorem O3 (nt:Nat) (ix:List Nat) (gi:az->R (List D)) (gt:az->R Bool) (ge:az->R D):eM nt ix gi gt ge (s::ρ)=(gi (s::ρ)).bind (SB nt ix gt ge (s::ρ)):=id rfl
theorem Jh (nt:Nat) (ix:List Nat) (gt:az->R Bool) (ge:az->R D) (ρ:az) (ds:List D):SB nt ix gt ge ρ ds=if ds.length<=1000 then (i9 (j4 nt (oO nt ix ρ) gt ge) ds).bind SC else .no:=id rfl
theorem Ji (ys:List D):SC ys=.ok (.list ys):=id rfl
theorem tK (gi:az->R (List D)) (kt:D->az->R az) (gb:az->R Fl) (ds:List D) (h:gi (s::ρ)=.ok ds):s_ gi kt gb (s::ρ)=iR kt gb ds (s::ρ):=by unfold s_;rw [h]
def O4 (k:D->az->R az) (ρ:az):D->R Fl:=fun d=>match k d ρ with
 |.ok ρ'=>.ok (.nx ρ')
 |_=>.no
theorem SD (g:az->R D) (k:D->az->R az):CZ g k (s::ρ)=(g (s::ρ)).bind (O4 k (s::ρ)):=id rfl
theorem Br (ds:List D):yT (.list ds)=.ok ds:=id rfl
theorem Bs (ds:List D):yT (.tuple ds)=.ok ds:=id rfl
theorem Bt (x:Str):yT (.str x)=.ok (o6 x):=id rfl
theorem O5 (ds:List D):WG [.tuple ds]=.ok (jh 0 ds):=id rfl
theorem VT (ds es:List D):zp [.tuple ds,.tuple es]=.ok (xD ds es):=id rfl
def Bu (ρ:az) (i:Nat):Sl:=Pq ((ρ[i]?).getD .no)
def O6 (ix:List Nat) (ρ:az):az:=ix.map (Bu ρ)
theorem O7 (ix:List Nat) (ρ:az):oO 1 ix ρ=.no::O6 ix ρ:=id rfl
theorem O8 (ix:List Nat) (ρ:az):oO 2 ix ρ=.no::.no::O6 ix ρ:=id rfl
theorem O9 (ρ:az):O6 [] ρ=[]:=id rfl
theorem Oa (i:Nat) (ix:List Nat) (ρ:az):O6 (i::ix) ρ=Bu ρ i::O6 ix ρ:=id rfl
theorem Ob (s:Sl) (ρ:az):Bu (s::ρ) 0=Pq s:=id rfl
theorem Oc (s:Sl) (ρ:az) (n:Nat):Bu (s::ρ) (n+1)=Bu ρ n:=by simp [Bu]
theorem Bv (d:D):Pq (.shr d)=.shr d:=id rfl
theorem Bw (d:D):Pq (.own d)=.lck d:=id rfl
theorem Od   (h:ρ[i]?=some (Sl.own d)):shareAt i ρ=ρ.set i (.shr d):=by unfold shareAt;rw [h]
theorem cj {α:Type} (f:D->R (Option D)) (c:α->D) (h:α->D):∀ (xs:List α),(∀ x∈xs,f (c x)=.ok (some (h x)))->i9 f (xs.map c)=.ok (xs.map h)
 |[],_=>rfl
 |x::r,e=>by
  rw [aS,aS];unfold i9;rw [e x al,bind_ok,cj f c h r fun y hy=>e y (ao _ hy),bind_ok]
theorem j_ {α:Type} (f:D->R (Option D)) (c:α->D) (h:α->D) (p:α->Bool):∀ (xs:List α),(∀ x∈xs,f (c x)=.ok (if p x then some (h x) else none))->i9 f (xs.map c)=.ok ((xs.filter p).map h)
 |[],_=>rfl
 |x::r,e=>by
  rw [aS];unfold i9;rw [e x al,bind_ok,j_ f c h p r fun y hy=>e y (ao _ hy),bind_ok];cases hp:p x<;>simp [hp]
theorem SE    : j4 1 ρ gt ge d=KR (((gt (ρ.set 0 (.shr d)))).bind fun b=>if b then (ge (ρ.set 0 (.shr d))).bind fun y=>.ok (some y) else .ok none):=id rfl
theorem dv    (h1:gt (ρ.set 0 (.shr d))=.ok true) (h2:ge (ρ.set 0 (.shr d))=.ok y):j4 1 ρ gt ge d=.ok (some y):=by
 rw [SE,h1,bind_ok,if_pos rfl,h2];rfl
theorem xW     (h1:gt (ρ.set 0 (.shr d))=.ok b) (h2:b=true->ge (ρ.set 0 (.shr d))=.ok y):j4 1 ρ gt ge d=.ok (if b then some y else none):=by
 rw [SE,h1,bind_ok];cases b with
 |true=>rw [if_pos rfl,h2 rfl];rfl
 |false=>rfl
theorem QU (h1:-(2 ^ 62)<=j) (h2:j<2 ^ 62):Hg [.int j]=.ok (rG 0 j.toNat):=by
 have h:-(2 ^ 62)<=j/\j<2 ^ 62:=⟨h1,h2⟩;unfold Hg;split
 ·rename_i j' e
  have e':j=j':=by injection e with e;injection e
  subst e';rw [if_pos h]
 ·rename_i hn
  exact (hn j rfl).elim
end
end
end J
section
namespace L2
open PySem PySem.Spec PyProof.Rows
end L2
namespace J
open PySem L2
open PyProof.Rows (envOfC)
section
variable {c:C}{e a b:bR}{g ga gb:az->R D}{pos rpos:Pos}{es:List bR}{gs:az->R (List D)}{x y:Str}{p q:Pos}
end
section
variable {c:C}{body:List cY}{x n:Str}{np np2 np3 hpos cpos rpos pos:Pos}{gb:az->R Fl}{names:List Str}{wh:Str->Option Nat}
end
theorem Yz {α:Type}{us:List α} (h:us.length=1):∃ a,us=[a]:=by
 rcases us with _|⟨a0,_|⟨z,r⟩⟩
 ·simp at h
 ·exact ⟨_,rfl⟩
 ·simp at h
theorem YA {α:Type}{us:List α} (h:us.length=2):∃ a b,us=[a,b]:=by
 rcases us with _|⟨a0,_|⟨a0,_|⟨z,r⟩⟩⟩
 ·simp at h
 ·simp at h
 ·exact ⟨_,_,rfl⟩
 ·simp at h
theorem YB {α:Type}{us:List α} (h:us.length=3):∃ a b c,us=[a,b,c]:=by
 rcases us with _|⟨a0,_|⟨a0,_|⟨a0,_|⟨z,r⟩⟩⟩⟩
 ·simp at h
 ·simp at h
 ·simp at h
 ·exact ⟨_,_,_,rfl⟩
 ·simp at h
theorem YC {α:Type}{us:List α} (h:us.length=4):∃ a b c d,us=[a,b,c,d]:=by
 rcases us with _|⟨a0,_|⟨a0,_|⟨a0,_|⟨a0,_|⟨z,r⟩⟩⟩⟩⟩
 ·simp at h
 ·simp at h
 ·simp at h
 ·simp at h
 ·exact ⟨_,_,_,_,rfl⟩
 ·simp at h
theorem YD {α:Type}{us:List α} (h:us.length=5):∃ a b c d e,us=[a,b,c,d,e]:=by
 rcases us with _|⟨a0,_|⟨a0,_|⟨a0,_|⟨a0,_|⟨a0,_|⟨z,r⟩⟩⟩⟩⟩⟩
 ·simp at h
 ·simp at h
 ·simp at h
 ·simp at h
 ·simp at h
 ·exact ⟨_,_,_,_,_,rfl⟩
 ·simp at h
end J
end
namespace J
open PySem L2
section
section
theorem RDs.rep    (h:RDs K H vs ds) (k:Nat):RDs K H (bc k vs).flatten (bc k ds).flatten:=by
 induction k with
 |zero=>exact .nil
 |succ k ih=>rw [cU,cU,gP,gP];exact h.append ih
def QV (k:Nat) (ds:List D):R D:=if ds.length<=10 then .ok (.list (bc k ds).flatten) else .no
def QW (k:Nat) (gs:az->R (List D)):az->R D:=fun ρ=>(gs ρ).bind (QV k)
theorem U6 (k:Nat)  (hk:k<=10) (h:Et c es gs):JE c (.BinOp (.List es p) .Mult (.Constant (.int k) j p2) pos) (QW k gs):=.of fun ρ=>rh (IG Mz (ms (h ρ)) yt) fun σ H Q h_0=>by
 obtain ⟨H0,Hs0,la,Hs,f,q⟩:=h_0;refine CL f q fun ds vs H1 Hs1 e1 s1 f1 r1=>?_;unfold QW at q;rw [e1,bind_ok] at q;unfold QV at q;by_cases hl:ds.length<=10
 ·rw [if_pos hl] at q;have hv:vs.length<=10:=by rw [r1.length];exact hl
  refine ⟨b9 (c8 (bD hv (by decide))),fun p hp=>?_⟩;have s2:cE H1 Hs1 (upd H1 p (.lst vs)) Hs1:=.mine s1.sub hp;refine ⟨p,k,vs,rfl,rfl,aR,by omega,by omega,?_,fun p2 hp2=>?_⟩
  ·have:vs.length*k<=10*10:=Nat.mul_le_mul hv hk
   exact b9 (c8 (bD this (by decide)))
  ·refine q _ _ _ (s1.trans (s2.trans (.new s2.sub hp2))) (.list (.of aR) ?_);exact (r1.rep k).same (cE.new s2.sub hp2).sh
 ·rw [if_neg hl] at q;exact q.elim
end
end
end J
section
namespace HT
open PySem PyProof.Rows
section
open PySem.SeqAt
open PySem.AutoSeq1 (wpAny_loadPart')
open PySem.MeetsSeq PySem.MeetsSeq2 PySem.MeetsSeq3
theorem wu {sl:ag}{t:Tok}{n:Nat}{Q:Int×Int×Nat->ah->Prop} (hs:s.heap.IsSliceOf sl .none .none (.int (-1) t))
  (h:Q ((n:Int)-1,-1,n) s):ak (aB prog w) A (i8 (.ref sl) (pure (n:Int))) Q E s:=by
 obtain ⟨os,hos,hcs,hds⟩:=id hs;unfold i8 vN;refine a6 (a6 (cO hos hds (x:=.none) rfl (a6 (cO hos hds (x:=.none) rfl (a6 (cO hos hds (x:=.int (-1) t) rfl (aa ?_)))))));refine a6 (slicePart_int ?_);show ak _ _ (if ((-1:Int)==0)=true then _ else _) _ _ s;rw [if_neg (by decide)];refine a6 (vT (a6 (vT (a6 (aa ?_)))));show ak _ _ (pure ((n:Int)-1,(-1:Int),da ((n:Int)-1) (-1) (-1))) _ _ s;have e:da ((n:Int)-1) (-1) (-1)=n:=by
  unfold da;rw [if_neg (by omega)];simp only [Int.neg_neg,Int.ediv_one];split<;>omega
 rw [e];exact aa h
theorem EW {α β:Type}{f g:α->Option β}:∀ {l:List α},(∀ x∈l,f x=g x)->l.filterMap f=l.filterMap g
 |[],_=>rfl
 |x::r,h=>by
  rw [jl,jl,h x al,EW fun y hy=>h y (ao _ hy)]
theorem Oe (xs:Array ae):((bq xs.size).filterMap fun (m:Nat)=>xs[((xs.size:Int)-1+(m:Int)*(-1)).toNat]?).toArray=xs.toList.reverse.toArray:=by
 congr 1;have e:(bq xs.size).filterMap (fun (m:Nat)=>xs[((xs.size:Int)-1+(m:Int)*(-1)).toNat]?)=(bq xs.size).filterMap (fun m=>some (xs.getD (xs.size-1-m) .none)):=by
  refine EW fun m hm=>?_;have hm:=List.mem_range.mp hm;have:((xs.size:Int)-1+(m:Int)*(-1)).toNat=xs.size-1-m:=by omega
  rw [this];have h2:xs.size-1-m<xs.size:=by omega
  rw [eC h2];simp [Array.getD,h2]
 rw [e];have e2:(fun m=>some (xs.getD (xs.size-1-m) dz))=some∘fun m=>xs.getD (xs.size-1-m) dz:=rfl;rw [e2,List.filterMap_eq_map];refine qw (by simp) fun i h1 h2=>?_;simp only [au,ef] at h1;have h3:xs.size-1-i<xs.size:=by omega
 rw [qx,vO,List.getElem_reverse];simp [Array.getD,h3]
theorem vi    (ht:DI s.heap t items) (hs:s.heap.IsSliceOf sl .none .none (.int (-1) tk))
  (h:Q (.ref s.heap.objs.size) { s with heap:=s.heap.push { cls:=.type "tuple",data:=.seq items.toList.reverse.toArray } })
  (hsz:items.size<=sizeLine):ak (aB prog w) A (mT (.ref t) (.ref sl)) Q E s:=by
 have htake:sizeOk (.seq items.toList.reverse.toArray):=by
  show items.toList.reverse.toArray.size<=sizeLine;rw [aG,uK,aq];exact hsz
 obtain ⟨os,hos,hcs,hds⟩:=id hs;have hTs:s.TypeIs (.ref sl) "slice":=⟨os,hos,hcs⟩;unfold mT;try with_reducible refine bW ?_
 first|refine a6 (aa ?_)|skip
 refine a6 (Ae ht.typeIs (by decide) ?_);refine a6 (cF (name:=ir "__getitem__") ht.typeIs cS
  (cx cS ht.typeIs xn ?_ (yf _ _)))
 show ak _ _ (l7 (.ref t) >>= _) _ _ s;refine a6 (K6 ht ?_);refine a6 (iI hTs ?_);rw [if_pos (by decide)];refine a6 (wu hs ?_);have hno:¬ ((((items.size:Int)-1)==0&&(-1:Int)==1&&items.size==items.size)=true):=by
  intro q;rw [aP,aP] at q;exact absurd q.1.2 (by decide)
 show ak _ _ (if ((((items.size:Int)-1)==0&&(-1:Int)==1&&items.size==items.size)=true) then _ else _) _ _ s;rw [if_neg hno,Oe];first
  |exact a6 (m:=cG _) (bL (aa ⟨_,rfl,aa h⟩) htake)
  |exact a6 (m:=cG _) (bL (a6 (aa (aa ⟨_,rfl,aa h⟩))) htake)
  |exact a6 (a6 (m:=cG _) (bL (aa (aa ⟨_,rfl,aa h⟩)) htake))
  |exact a6 (a6 (m:=cG _) (bL (aa ⟨_,rfl,aa h⟩) htake))
end
end HT
namespace L2
open PySem PySem.Spec PyProof.Rows
section
variable {X:Cx}{e st:bR}{te ts:TE}{pos p2:Pos}
theorem cV.rev  (h:cV xs us):cV xs.reverse us.reverse:=by
 induction h with
 |nil=>exact .nil
 |cons r t ih=>rw [oC,oC];exact ih.append (.cons r .nil)
theorem U7 (he:PE X e te) (hs:PE X st ts):PE X (.Subscript e (.Slice none none (some st) p2) pos) (fun σ H Q=>te σ H fun x H1=>ts σ H1 fun y H2=>y=.int (-1)/\∃ a xs,x=.ref a/\lz X.K H2 a xs/\∀ p,H2 p=none->Q (.ref p) (upd H2 p (.tup xs.reverse))):=by
 intro pins s σ H Q I h;refine Go (fY (he pins s σ H _ I h) fun v s1 h1=>?_);obtain ⟨x,H1,I1,r1,q1⟩:=h1;have nP:evalPart none X.env=pure .none:=K7 ..;refine wpAny_Slice ?_;rw [nP];refine aa ?_;refine aa ?_;rw [evalPart_some];refine fY (hs pins s1 σ H1 _ I1 q1) fun u s3 h3=>?_;obtain ⟨y,H3,I3,r3,hy,a,xs,hx,sq,q⟩:=h3;subst hy;subst hx;obtain ⟨tk,rfl⟩:=r3;cases r1;have I4:bG X pins σ H3 { s3 with heap:=s3.heap.push { cls:=.type "slice",data:=.fields #[.none,.none,.int (-1) tk] } }:=I3.kept (t':=s3.toks) fun b ob q=>ac _ q;obtain ⟨its,r,ht,hz⟩:=I4.tuple sq;have hlen:its.toArray.size=xs.length:=by rw [aG];exact r.length.symm
 show ak (aB X.prog X.w) X.A (xN e (.Slice none none (some st) p2) (.ref a) (.ref s3.heap.objs.size)) (EP X pins σ Q) X.xe { s3 with heap:=s3.heap.push { cls:=.type "slice",data:=.fields #[.none,.none,.int (-1) tk] } };refine tail_any (ops:=[.ref a,.ref s3.heap.objs.size]) ht.typeIs PyProof.Rows.slot_tuple_getitem.lookup ?_ (by with_unfolding_all rfl);refine HT.vi ht (Aa ..) ?_ (by rw [hlen];exact hz);refine ⟨.ref _,_,I4.laid (t':=s3.toks) (o:=.tup xs.reverse) (fun b ob q=>ac _ q) (ar _) ?_,rfl,q _ (I4.hok.fresh (ar _))⟩;exact ⟨by rw [uK];exact hz,_,r.rev,tj _ _⟩
end
end L2
namespace J
open PySem L2
section
variable {c:C}{e:bR}{g:az->R D}{pos p2 p3 p4:Pos}
def U8:D->R D
 |.tuple xs=>.ok (.tuple xs.reverse)
 |_=>.no
def QX (g:az->R D):az->R D:=fun ρ=>(g ρ).bind U8
theorem U9 (h:JB c e g):JE c (.Subscript e (.Slice none none (some (.UnaryOp .USub (.Constant (.int 1) j p3) p4)) p2) pos) (QX g):=.of fun ρ=>rh (U7 (h ρ) (RN Ms yt)) fun σ H Q h_0=>by
 obtain ⟨H0,Hs0,la,Hs,f,q⟩:=h_0;refine one f q fun d v H1 Hs1 e1 s1 f1 r1=>?_;unfold QX at q;rw [e1,bind_ok] at q;refine ⟨1,rfl,rfl,?_⟩;cases d with
 |tuple ds =>
  obtain ⟨a,vs,rfl,qa,ra,_⟩:=r1.tuple s1.sub;exact ⟨a,vs,rfl,qa,fun p hp=>q _ _ _ (s1.trans (.new s1.sub hp)) (.tuple aR (ra.reverse.same (cE.new s1.sub hp).sh))⟩
 |_=>exact q.elim
end
end J
end
section
namespace L2
open PySem
def LY (mask:Nat):Nat->Nat×Nat->Nat×Nat
 | 0,x=>x
 |n+1,x=>LY mask n (SetTable.leap mask x.1 x.2)
theorem Jj (mask:Nat):∀ (n m:Nat) (x:Nat×Nat),LY mask (n+m) x=LY mask m (LY mask n x)
 | 0,m,x=>by rw [Gz];rfl
 |n+1,m,x=>by
  rw [Nat.succ_add];exact Jj mask n m _
theorem Jk (mask:Nat):∀ (n:Nat) (x:Nat×Nat),(LY mask n x).2=x.2 / 32 ^ n
 | 0,x=>by simp [LY]
 |n+1,x=>by
  show (LY mask n _).2=_;rw [Jk mask n];show x.2 / 32 / 32 ^ n=_;rw [Nat.div_div_eq_div_mul,Nat.pow_succ,Nat.mul_comm]
theorem Jl (mask:Nat):∀ (n:Nat) (x:Nat×Nat),x.1<=mask->(LY mask n x).1<=mask
 | 0,x,h=>h
 |n+1,x,h=>Jl mask n _ (by
  show (x.1*5+1+x.2 / 32) % (mask+1)<=mask;exact xr (C4 _ (GA _)))
theorem Bx  : ∀ (fuel i p:Nat),dG mask owner fuel i p=none->∀ n,n<fuel->(owner.getD (LY mask n (i,p)).1 (some 0)).isSome=true
 | 0,_,_,_,n,h=>absurd h (Nat.not_lt_zero n)
 |fuel+1,i,p,e,n,h=>by
  unfold dG at e;split at e
  ·cases e
  ·rename_i hf
   cases n with
   |zero =>
    have h0:=List.find?_eq_none.mp hf 0 (List.mem_range.mpr (by unfold SetTable.runEnd;split<;>omega));simp only [Nat.add_zero] at h0;show (owner.getD i (some 0)).isSome=true;cases q:owner.getD i (some 0) with
    |none=>rw [q] at h0;exact absurd rfl h0
    |some _=>rfl
   |succ n=>exact Bx fuel _ _ e n (GB h)
theorem By  : ∀ (fuel i p k:Nat),dG mask owner fuel i p=some k->owner.getD k (some 0)=none
 | 0,_,_,_,e=>nomatch e
 |fuel+1,i,p,k,e=>by
  unfold dG at e;split at e
  ·rename_i k' hf
   cases e;have:=List.find?_some hf;cases q:owner.getD (i+k') (some 0) with
   |none=>rfl
   |some _=>rw [q] at this;cases this
  ·exact By fuel _ _ k e
def LZ (mask:Nat):Prop:=mask=7\/mask=15\/mask=31
def VU (mask:Nat):Bool:=(bq (mask+1)).all fun i=>(bq (mask+1)).all fun j=>(bq (mask+1)).any fun n=>decide ((LY mask n (i,0)).1=j)
theorem QY (h:LZ mask):VU mask=true:=by
 rcases h with h|h|h<;>subst h<;>decide +kernel
theorem getD_none {owner:Array (Option Nat)}{k:Nat} (h:owner.getD k (some 0)=none):owner.toList[k]?=some none:=by
 by_cases hk:k<owner.size
 ·rw [iF,eC hk] at h;rw [eI,eC hk];simpa using h
 ·rw [iF,Array.getElem?_eq_none (by omega)] at h;cases h
theorem KY {mask:Nat} (hm:LZ mask) {owner:Array (Option Nat)}{j:Nat} (hj:j<=mask) (hn:owner.toList[j]?=some none) {i p:Nat} (hi:i<=mask) (hp:p<2 ^ 64) :
  ∃ k,dG mask owner (qM mask) i p=some k/\owner.toList[k]?=some none:=by
 cases e:dG mask owner (qM mask) i p with
 |some k=>exact ⟨k,rfl,getD_none (By _ _ _ _ e)⟩
 |none =>
  exfalso;have hz:(LY mask 13 (i,p)).2=0:=by
   rw [Jk];exact Nat.div_eq_of_lt (aE hp (by decide))
  have h1:=Jl mask 13 (i,p) hi;have g:=QY hm;unfold VU at g;rw [cR] at g;have g:=g _ (List.mem_range.mpr (kH h1));rw [cR] at g;have g:=g j (List.mem_range.mpr (kH hj));rw [lv] at g;obtain ⟨n,hn1,hn2⟩:=g;have hn1:=List.mem_range.mp hn1;have hn2:=of_decide_eq_true hn2;have hs:(LY mask (13+n) (i,p)).1=j:=by
   rw [Jj,<- hn2,<- hz]
  have:=Bx _ _ _ e (13+n) (by unfold qM;omega);rw [hs] at this;have hq:owner.getD j (some 0)=none:=by
   rw [eI] at hn;rw [iF,hn];rfl
  rw [hq] at this;cases this
theorem QZ (h:Int):nc h<2 ^ 64:=by
 unfold nc;have:=nU h (show (0:Int)<2 ^ 64 by decide);have:=sg h (show (2 ^ 64:Int)≠0 by decide);omega
theorem EX:∀ {l:List (Option Nat)}{j:Nat},l[j]?=some none->((l.set j (some k)).filterMap id).Perm (k::l.filterMap id)
 |[],_,h=>nomatch h
 |x::r,0,h=>by
  cases h;exact .refl _
 |x::r,j+1,h=>by
  have ih:=EX (k:=k) (l:=r) (j:=j) h;cases x with
  |none=>exact ih
  |some y=>exact (ih.cons y).trans (.swap k y _)
theorem EY:∀ {l:List (Option Nat)},(l.filterMap id).length<l.length->∃ j,j<l.length/\l[j]?=some none
 |[],h=>absurd h (c6 0)
 |none::r,_=>⟨0,GA _,rfl⟩
 |some y::r,h=>by
  obtain ⟨j,h1,h2⟩:=EY (l:=r) (GB h);exact ⟨j+1,Nat.succ_lt_succ h1,h2⟩
def Jm (mask:Nat) (acc:Option (Array (Option Nat)×Nat)) (h:Int):Option (Array (Option Nat)×Nat):=acc.bind fun x=>(dG mask x.1 (qM mask) (nc h % (mask+1)) (nc h)).bind fun j=>some (x.1.setIfInBounds j (some x.2),x.2+1)
theorem EZ (mask:Nat) (hs:Array Int):uG mask hs=(hs.toList.foldl (Jm mask) (some (ym (mask+1) none,0))).map (·.1):=by
 rw [Array.foldl_toList];rfl
theorem Jn (hm:LZ mask):∀ (l:List Int) (owner:Array (Option Nat)) (k:Nat),owner.size=mask+1->(owner.toList.filterMap id).Perm (bq k)->k+l.length<=mask ->
  ∃ o',l.foldl (Jm mask) (some (owner,k))=some (o',k+l.length)/\o'.size=mask+1/\(o'.toList.filterMap id).Perm (bq (k+l.length))
 |[],owner,k,h1,h2,_=>⟨owner,rfl,h1,h2⟩
 |h::r,owner,k,h1,h2,h3=>by
  simp only [aM] at h3 ⊢;obtain ⟨j,j1,j2⟩:=EY (l:=owner.toList) (by rw [h2.length_eq,ef,aq,h1];omega);rw [aq,h1] at j1;obtain ⟨m,m1,m2⟩:=KY hm (xr j1) j2 (i:=nc h % (mask+1)) (xr (C4 _ (GA _))) (QZ h);have e:Jm mask (some (owner,k)) h=some (owner.setIfInBounds m (some k),k+1):=by
   unfold Jm;simp only [pi,m1]
  rw [m5,e];obtain ⟨o',a1,a2,a3⟩:=Jn hm r (owner.setIfInBounds m (some k)) (k+1) (by rw [Array.size_setIfInBounds];exact h1) (by
   rw [Array.toList_setIfInBounds];refine (EX m2).trans ?_;rw [List.range_succ];exact ((h2.cons k).trans (List.perm_append_singleton k _).symm)) (by omega)
  rw [show k+1+r.length=k+(r.length+1) by omega] at a1 a3;exact ⟨o',a1,a2,a3⟩
theorem Jo {n:Nat}{o:Array (Option Nat)} (h:o.size=n):(bq n).filterMap (fun j=>o.getD j none)=o.toList.filterMap id:=by
 have e:(bq n).map (fun j=>o.getD j none)=o.toList:=by
  refine qw (by simp [h]) fun i h1 h2=>?_;simp only [au,ef] at h1;rw [qx,vO,iF,eC (by omega)];simp
 rw [<- e,m_];rfl
theorem Jp {mask finger moves:Nat}{led plain:Bool}{hs:Array Int} (hm:LZ mask) (hl:hs.size<=mask):∃ place order,Ab mask finger moves led plain hs=some ({ mask,place,dummies:=#[],finger,led,moves,plain },order)/\place.size=hs.size/\order.toList.Perm (bq hs.size):=by
 obtain ⟨o,h1,h2,h3⟩:=Jn hm hs.toList (ym (mask+1) none) 0 (by simp) (by
  have:(ym (mask+1) (none:Option Nat)).toList.filterMap id=[]:=by
   rw [Array.toList_replicate,List.filterMap_eq_nil_iff];intro x hx;rw [(List.mem_replicate.mp hx).2];rfl
  rw [this];exact .refl _) (by rw [aq];omega)
 have hc:uG mask hs=some o:=by
  rw [EZ,h1];rfl
 rw [Gz,aq] at h3;refine ⟨_,_,by unfold Ab;rw [hc];rfl,?_,?_⟩
 ·have e:=congrArg tm (Jo h2);rw [h3.length_eq,ef] at e;rw [aG,au,<- e];rw [xt,xt];congr 1;funext j;cases o.getD j none<;>rfl
 ·rw [List.map_filterMap];refine .trans (.of_eq ?_) h3;rw [<- Jo h2];show List.filterMap _ _=List.filterMap _ _;congr 1;funext j;cases o.getD j none<;>rfl
end L2
namespace L2
open PySem
section
theorem Of:∀ n:_root_.Fin 31,n.val<cq n.val/\(cq n.val=8\/cq n.val=16\/cq n.val=32):=by decide +kernel
theorem Og (h:n<=30):n<=cq n-1/\LZ (cq n-1)/\cq n<=32:=by
 obtain ⟨h1,h2⟩:=Of ⟨n,by omega⟩;simp only at h1 h2;unfold LZ;omega
theorem zh {es:Array (Int×ae)}{order:Array Nat} (h:order.toList.Perm (bq es.size)):(order.filterMap (es[·]?)).toList.Perm es.toList:=by
 rw [Array.toList_filterMap];refine (h.filterMap _).trans (.of_eq ?_);have e:(bq es.size).map (fun i=>es[i]?)=es.toList.map some:=by
  refine qw (by simp) fun i h1 h2=>?_;simp only [au,ef] at h1;rw [qx,vO,qx,Array.getElem_toList];exact eC h1
 have e2:(bq es.size).filterMap (fun i=>es[i]?)=((bq es.size).map (fun i=>es[i]?)).filterMap id:=by rw [m_];rfl
 rw [e2,e,m_];simp
theorem cW.of     (I:cW w h a es ep t) (p:es'.toList.Perm es.toList) (f:t'.fits es'.size=true) (l:t'.led=t.led) (pl:t'.plain=t.plain):cW w (h.update a (qS es' t')) a es' (ep+1) t':=by
 have sz:es'.size=es.size:=by rw [<- aq,p.length_eq,aq]
 refine ⟨sr I,fun e he=>I.txt e (p.mem_iff.mp he),(p.map kn).nodup_iff.mpr I.nd,by rw [sz];exact I.few,f,l.trans I.led,?_⟩;rw [sz,pl];exact I.pl
theorem zi {t:lG}{n:Nat} (h:t.fits n=true):t.place.size=n/\t.fill<=t.mask:=by
 unfold n6 at h;rw [aP] at h;exact ⟨eq_of_beq h.1,of_decide_eq_true h.2⟩
theorem Jq {mask finger moves:Nat}{led plain:Bool}{place:Array Nat}{n:Nat} (h:place.size=n) (hm:n<=mask):n6 { mask,place,dummies:=#[],finger,led,moves,plain } n=true:=by
 unfold n6 Ma;subst h;simp only [beq_self_eq_true,uU,decide_eq_true_eq];exact hm
theorem Hr {a:ag}{es:Array (Int×ae)}{ep:Nat}{t:lG}{wanted:Nat}{Q:Unit->ah->Prop} (I:cW w s.heap a es ep t) (hw:wanted<=30) (hz:es.size<=wanted)
  (h:∀ h' es' ep' t',bI a s.heap h'->cW w h' a es' ep' t'->es'.toList.Perm es.toList->LZ t'.mask->wanted<=t'.mask->Q () { s with heap:=h' }):ak (aB P w) A (setRelay a wanted) Q E s:=by
 obtain ⟨w1,w2,w3⟩:=Og hw;obtain ⟨place,order,e,hp,ho⟩:=Jp (finger:=t.finger) (moves:=t.movedTo (cq wanted-1)) (led:=t.led) (plain:=t.plain) (hs:=es.map (·.1)) w2 (by rw [sW];omega);rw [sW] at hp ho;have pm:=zh ho;have sz:(order.filterMap (es[·]?)).size=es.size:=by rw [<- aq,pm.length_eq,aq]
 unfold setRelay;refine a6 (bu I.at_ rfl I.fits ?_);show ak _ _ (if cq wanted > sizeLine then _ else _) _ _ s;have h32:(32:Nat)<=sizeLine:=by decide
 rw [if_neg (by omega)];refine a6 ?_;unfold Kb;rw [e];show ak _ _ (if ((order.filterMap (es[·]?)).size != es.size)=true then _ else pure (order.filterMap (es[·]?),_)) _ _ s;rw [if_neg (by rw [sz];simp)];refine aa ?_;have fit:n6 { mask:=cq wanted-1,place,dummies:=#[],finger:=t.finger,led:=t.led,moves:=t.movedTo (cq wanted-1),plain:=t.plain } (order.filterMap (es[·]?)).size=true:=Jq (by rw [sz];exact hp) (by rw [sz];omega);refine j8 I.at_ rfl ?_ (by rw [sz];exact fJ I.few);exact h _ _ _ _ (bZ s.heap a _) (I.of pm fit rfl rfl) pm w2 w1
theorem D7 {a:ag}{es:Array (Int×ae)}{ep:Nat}{t:lG}{more:Nat}{Q:Unit->ah->Prop} (I:cW w s.heap a es ep t) (hz:es.size+more<=15) (hm:es.size≠0\/LZ t.mask)
  (h:∀ h' es' ep' t',bI a s.heap h'->cW w h' a es' ep' t'->es'.toList.Perm es.toList->(es.size≠0\/LZ t'.mask)->more<=t'.mask->Q () { s with heap:=h' }):ak (aB P w) A (setRoomFor a more) Q E s:=by
 obtain ⟨f1,f2⟩:=zi I.fits;unfold setRoomFor;refine a6 (bu I.at_ rfl I.fits ?_);dsimp only;unfold SetTable.roomFor;by_cases hc:(t.fill+more)*5 ≥ t.mask*3
 ·rw [if_pos hc];refine Hr I (by rw [f1];omega) (by rw [f1];omega) fun h' es' ep' t' a1 a2 a3 a4 a5=>?_;exact h h' es' ep' t' a1 a2 a3 (.inr a4) (by rw [f1] at a5;omega)
 ·rw [if_neg hc];exact aa (h s.heap es ep t (.refl ..) I (.refl _) hm (by omega))
end
end L2
namespace L2
open PySem
theorem xX {α σ:Type}{M:Gg}{A:bV}{E:ae->ah->Prop}{Q:σ->ah->Prop}{f:α->σ->Sem (ForInStep σ)}{b:σ} (I:List α->ah->Prop)
  (step:∀ x r s,I (x::r) s->ak M A (f x b) (fun st s'=>st=.yield b/\I r s') E s) (fin:∀ s,I [] s->Q b s):∀ (l:List α) (s:ah),I l s->ak M A (forIn l b f) Q E s
 |[],s,h=>by rw [tu];exact aa (fin s h)
 |x::r,s,h=>by
  rw [m6];refine a6 (aZ (step x r s h) (fun st s' q=>?_) fun _ _ e=>e);obtain ⟨rfl,q⟩:=q;exact xX I step fin r s' q
section
theorem E_  (h:∀ a∈l,∃ es ep t,cW w s.heap a es ep t) (q:Q true s):ak (aB P w) A (setsQuiet l) Q E s:=by
 unfold setsQuiet;refine a6 (xX (fun r s'=>s'=s/\∀ a∈r,∃ es ep t,cW w s.heap a es ep t) (fun a r s' hI=>?_) (fun s' hI=>?_) l s ⟨rfl,h⟩)
 ·obtain ⟨rfl,hI⟩:=hI;obtain ⟨es,ep,t,I⟩:=hI a al;unfold setEntries;refine a6 (a6 (bu I.at_ rfl I.fits (aa ?_)));dsimp only;rw [<- Ke];refine a6 (xX (fun r2 s2=>s2=s'/\∀ e∈r2,t_ w e) (fun e r2 s2 h2=>?_) (fun s2 h2=>?_) es.toList s' ⟨rfl,I.txt⟩)
  ·obtain ⟨rfl,h2⟩:=h2;obtain ⟨x,tk,rfl⟩:=h2 e al;exact aa ⟨rfl,rfl,fun e he=>h2 e (ao _ he)⟩
  ·obtain ⟨rfl,_⟩:=h2;exact aa ⟨rfl,rfl,fun b hb=>hI b (ao _ hb)⟩
 ·obtain ⟨rfl,_⟩:=hI;exact aa q
theorem KZ     (I:cW w s.heap o es ep t) (hb:w.params.followText "set-order"=true\/t.plain=true\/es.size<=1)
  (q:∀ es',es'.toList.Perm es.toList->Q es' s):ak (aB P w) A (setWalk o) Q E s:=by
 unfold setWalk;refine a6 (bu I.at_ rfl I.fits (a6 (fF ?_)));cases hw:w.params.followText "set-order" with
 |true =>
  simp only [if_true];exact a6 (iu (aa (q _ (we _ _))))
 |false =>
  simp only [cb,if_false];have hd:(!t.plain&&decide (es.size > 1))=false:=by
   rcases hb with h|h|h
   ·rw [hw] at h;cases h
   ·rw [h];rfl
   ·rw [decide_eq_false (by omega),iY]
  have hl:t.led=true:=by rw [I.led,hw];rfl
  show ak _ _ (if (!t.plain&&decide (es.size > 1))=true then _ else _) _ _ s;rw [hd,if_neg aL];refine a6 ?_;show ak _ _ (if (!t.led&&decide (es.size > 1))=true then _ else pure ()) _ _ s;rw [hl,if_neg (by simp)];exact aa (aa (q _ (.refl _)))
theorem xE     (I:cW w s.heap o eo epo to) (J:cW w s.heap a es ep t)
  (q:∀ h' es' ep' t',bI a s.heap h'->cW w h' a es ep' t'->es'.toList.Perm eo.toList->Q es' { s with heap:=h' }):ak (aB P w) A (setWalkUnseen o [a] (some a)) Q E s:=by
 unfold setWalkUnseen;refine a6 (bu I.at_ rfl I.fits (a6 (fF ?_)));cases hc:(w.params.followText "set-order" || to.led&&to.plain||decide (eo.size<=1)) with
 |true =>
  rw [if_pos rfl];refine KZ I ?_ fun es' p=>q s.heap es' ep t (.refl ..) J p;rw [jL,jL,aP,decide_eq_true_eq] at hc;rcases hc with (h|h)|h
  ·exact .inl h
  ·exact .inr (.inl h.2)
  ·exact .inr (.inr h)
 |false =>
  rw [if_neg aL];rw [IB,IB,decide_eq_false_iff_not] at hc;obtain ⟨⟨c1,_⟩,c3⟩:=hc;refine a6 (E_ (fun b hb=>?_) ?_)
  ·rcases List.mem_cons.mp hb with h|h
   ·rw [h];exact ⟨_,_,_,I⟩
   ·rw [List.mem_singleton.mp h];exact ⟨_,_,_,J⟩
  rw [if_neg (by simp)];refine a6 (gI ?_);dsimp only;refine a6 (bu J.at_ rfl J.fits ?_);dsimp only;have hpl:to.plain=false:=I.pl.resolve_left (by omega);have hled:(t.led&&to.led)=t.led:=by rw [I.led,J.led,lI]
  split
  ·refine a6 (j8 J.at_ rfl ?_ (fJ J.few));refine aa (q _ _ _ _ (bZ s.heap a _) (⟨sr J,J.txt,J.nd,J.few,?_,?_,?_⟩:cW w _ a es (ep+1) _) (.refl _))
   ·exact J.fits
   ·exact hled.trans J.led
   ·exact .inr (by show (t.plain&&to.plain)=false;rw [hpl,iY])
  ·exact aa (q s.heap eo ep t (.refl ..) J (.refl _))
end
end L2
namespace L2
open PySem
section
theorem cW.but     (I:cW w h o eo epo to) (ne:a≠o) (sb:bI a h h'):cW w h' o eo epo to:=I.keep fun _ e=>(sb.2 o (dq ne)).trans e
theorem zj {a o:ag}{es eo:Array (Int×ae)}{ep epo:Nat}{t to:lG}{each:Sem Unit}{Q:Unit->ah->Prop} (ne:a≠o) (J:cW w s.heap a es ep t) (I:cW w s.heap o eo epo to)
  (hz:es.size+eo.size<=15) (hm:es.size≠0\/LZ t.mask) (he:∀ (s':ah) (Q':Unit->ah->Prop),cW w s'.heap o eo epo to->Q' () s'->ak (aB P w) A each Q' E s')
  (q:∀ h' tk' es' ep' t',bI a s.heap h'->cW w h' a es' ep' t'->(∀ x,x∈es'.toList.map kn↔x∈es.toList.map kn\/x∈eo.toList.map kn)->(es'.size≠0\/LZ t'.mask)->Q () { s with heap:=h',toks:=tk' }) :
  ak (aB P w) A (setMerge a o each) Q E s:=by
 unfold setMerge;rw [if_neg (by simpa using ne)];refine a6 (bu I.at_ rfl I.fits ?_);dsimp only;by_cases h0:eo.size=0
 ·rw [if_pos (by simpa [Array.isEmpty] using h0)];have e0:eo=#[]:=l8 h0;exact aa (q s.heap s.toks es ep t (.refl ..) J (fun x=>by rw [e0];simp) hm)
 rw [if_neg (by simpa [Array.isEmpty] using h0)];refine a6 (D7 J hz hm fun h1 es1 ep1 t1 sb1 J1 p1 m1 r1=>?_);have I1:=I.but ne sb1;have sz1:es1.size=es.size:=by rw [<- aq,p1.length_eq,aq]
 refine a6 (bu (s:={ s with heap:=h1 }) J1.at_ rfl J1.fits ?_);dsimp only;obtain ⟨f1,f2⟩:=zi J1.fits;have hpl:to.plain=false:=I.pl.resolve_left h0;have hled:(t1.led&&to.led)=t1.led:=by rw [I.led,J1.led,lI]
 have kp:∀ x,x∈es1.toList.map kn↔x∈es.toList.map kn:=fun x=>(p1.map kn).mem_iff;by_cases hf:t1.fill=0
 ·have e1:es.size=0:=by
   unfold Ma at hf;omega
  have mk:LZ t1.mask:=m1.resolve_left (by omega);have ee:es=#[]:=l8 e1;unfold Mb;rw [if_neg (by rw [hf];decide)];split
  ·refine j8 (s:={ s with heap:=h1 }) J1.at_ rfl ?_ (fJ I.few);refine q _ s.toks _ _ _ (sb1.trans (bZ h1 a _)) (⟨sr J1,I.txt,I.nd,I.few,?_,?_,?_⟩:cW w _ a eo (ep1+1) _) (fun x=>by rw [ee];simp) (.inl h0)
   ·exact I.fits
   ·exact hled.trans J1.led
   ·exact .inr (by show (t1.plain&&to.plain)=false;rw [hpl,iY])
  ·obtain ⟨place,order,e,hp,ho⟩:=Jp (finger:=t1.finger) (moves:=t1.moves) (led:=t1.led&&to.led) (plain:=t1.plain&&to.plain) (hs:=eo.map (·.1)) mk (by rw [sW];exact r1);rw [sW] at hp ho;have pm:=zh ho;have sz:(order.filterMap (eo[·]?)).size=eo.size:=by rw [<- aq,pm.length_eq,aq]
   refine a6 ?_;rw [e];show ak _ _ (if ((order.filterMap (eo[·]?)).size != eo.size)=true then _ else pure (order.filterMap (eo[·]?),_)) _ _ _;rw [if_neg (by rw [sz];simp)];refine aa ?_;refine j8 (s:={ s with heap:=h1 }) J1.at_ rfl ?_ (by rw [sz];exact fJ I.few);refine q _ s.toks _ _ _ (sb1.trans (bZ h1 a _)) (⟨sr J1,fun x hx=>I.txt x (pm.mem_iff.mp hx),(pm.map kn).nodup_iff.mpr I.nd,by rw [sz];exact I.few,Jq (by rw [sz];exact hp) (by rw [sz];exact r1),hled.trans J1.led,.inr ?_⟩:cW w _ a (order.filterMap (eo[·]?)) (ep1+1) _) (fun x=>?_) (.inl (by rw [sz];exact h0))
   ·show (t1.plain&&to.plain)=false;rw [hpl,iY]
   ·rw [(pm.map kn).mem_iff,ee];simp
  ·rename_i hq
   split at hq<;>cases hq
 ·unfold Mb;rw [if_pos (by simpa using hf)];dsimp only;refine a6 (xE (s:={ s with heap:=h1 }) I1 J1 fun h2 es2 ep2 t2 sb2 J2 p2=>?_);rw [<- Ke];have hl:es2.toList.length=eo.size:=by rw [p2.length_eq,aq]
  refine a6 (xX (fun r s'=>∃ h' tk' e' p' t',s'={ s with heap:=h',toks:=tk' }/\bI a s.heap h'/\cW w h' a e' p' t'/\e'.size+r.length<=15/\(∀ e∈r,t_ w e)/\∀ x,(x∈e'.toList.map kn\/x∈r.map kn)↔x∈es.toList.map kn\/x∈eo.toList.map kn) ?_ ?_ es2.toList _ ⟨h2,s.toks,es1,ep2,t2,rfl,sb1.trans sb2,J2,by omega,fun e he=>I.txt e (p2.mem_iff.mp he),fun x=>by rw [kp,(p2.map kn).mem_iff]⟩)
  ·rintro e r s' ⟨h',tk',e',p',t',rfl,sb',J',z',tx',k'⟩;obtain ⟨x,tk,rfl⟩:=tx' e al;simp only [aM] at z';dsimp only;refine a6 (bW (Bf (s:={ s with heap:=h',toks:=tk' }) (⟨e',p',t',J',.refl _⟩:lK w h' a (e'.toList.map kn)) (by rw [au,aq];exact aE (show e'.size+1<100 by omega) (by decide)) fun h'' tk'' sb'' S''=>?_));obtain ⟨e'',p'',t'',J'',pm''⟩:=S'';have sb3:=sb'.trans sb'';have I3:=I.but ne sb3;refine a6 (he _ _ I3 ?_);refine a6 (bu (s:={ s with heap:=h'',toks:=tk'' }) I3.at_ rfl I3.fits ?_);dsimp only;rw [if_neg (by simp)];refine aa ⟨rfl,h'',tk'',e'',p'',t'',rfl,sb3,J'',?_,fun e he=>tx' e (ao _ he),fun y=>?_⟩
   ·have:=pm''.length_eq;rw [au,aq] at this;have l2:(if x∈e'.toList.map kn then e'.toList.map kn else e'.toList.map kn++[x]).length<=e'.size+1:=by
     split<;>simp
    omega
   ·rw [<- k' y,pm''.mem_iff];have ek:kn (hashStr w x,j5 x tk)=x:=rfl;rw [aS,aQ,ek];split
    ·rename_i hx
     constructor
     ·rintro (h|h)
      ·exact .inl h
      ·exact .inr (.inr h)
     ·rintro (h|h|h)
      ·exact .inl h
      ·rw [h];exact .inl hx
      ·exact .inr h
    ·rw [m7,bT];constructor
     ·rintro ((h|h)|h)
      ·exact .inl h
      ·exact .inr (.inl h)
      ·exact .inr (.inr h)
     ·rintro (h|h|h)
      ·exact .inl (.inl h)
      ·exact .inl (.inr h)
      ·exact .inr h
  ·rintro s' ⟨h',tk',e',p',t',rfl,sb',J',z',tx',k'⟩;refine aa (q h' tk' e' p' t' sb' J' (fun x=>?_) (.inl ?_))
   ·rw [<- k' x];simp
   ·intro e0;obtain ⟨e,hh⟩:∃ e,e∈eo.toList:=by
     cases hq:eo.toList with
     |nil=>rw [<- aq,hq] at h0;exact absurd rfl h0
     |cons e r=>exact ⟨e,al⟩
    have:=(k' (kn e)).mpr (.inr (jn hh));rw [l8 e0] at this;simp at this
end
end L2
namespace L2
open PySem PyProof.Rows
theorem D8:Gr table "set.__or__"=some fK.«frozenset.__or__»:=Gs (id':="frozenset.__or__") (by kernel_rfl) rfl (by decide +kernel) (by kernel_rfl)
section
variable {P:bf}{w:bE}{A:bV}{E:ae->ah->Prop}{s:ah}
theorem cW.ty    (I:cW w s.heap a es ep t):s.TypeIs (.ref a) "set":=⟨_,I.at_,rfl⟩
theorem ud     (I:cW w s.heap a es ep t) (q:Q true s):ak (aB P w) A (sX (.ref a)) Q E s:=by
 unfold sX;refine a6 (jK I.ty M4 ?_);exact aa q
theorem Oh  (e:h.get? a=some (fo w)):cW w h a #[] 0 (.fresh 0 0 (!w.params.followText "set-order")) :=
 ⟨e,(fun _ h=>nomatch h),i_,by decide,rfl,rfl,.inl rfl⟩
theorem Q_   (ha:lK w s.heap a xs) (hb:lK w s.heap b ys) (ne:a≠b) (hz:xs.length+ys.length<=15)
  (q:∀ h' tk',bI s.heap.objs.size (s.heap.push (fo w)) h'->lK w h' s.heap.objs.size (dh xs ys)->Q (.ref s.heap.objs.size) { s with heap:=h',toks:=tk' }) :
  ak (aB P w) A (eW .BitOr (.ref a) (.ref b)) Q E s:=by
 obtain ⟨ea,pa,ta,Ia,ma⟩:=ha;obtain ⟨eb,pb,tb,Ib,mb⟩:=hb;have sa:ea.size=xs.length:=by rw [<- ma.length_eq,au,aq]
 have sb:eb.size=ys.length:=by rw [<- mb.length_eq,au,aq]
 refine wpAny_binaryOp_same Ia.ty Ib.ty F.fills_set_or F.slot_set_or (cx F.slot_set_or Ia.ty D8 ?_ (F.args_set_or_2 _ _));have lt1:a<s.heap.objs.size:=am Ia.at_;have lt2:b<s.heap.objs.size:=am Ib.at_;show ak _ _ (PL "__or__" ⟨[.ref a,.ref b],[]⟩ >>= _) _ _ s;refine a6 (a6 (aa (aa ?_)));dsimp only;refine a6 (a6 (ud Ia (ud Ib ?_)));rw [if_neg (by simp)];refine a6 (aa (a6 ?_));show ak _ _ (tX a >>= _) _ _ s;refine a6 ?_;unfold tX PM;refine a6 (a6 (jK Ia.ty M4 (aa ?_)));rw [if_pos rfl];refine a6 (tH ?_);have g0:(s.heap.push (fo w)).get? s.heap.objs.size=some (fo w):=aF _ rfl;have J0:=Oh g0;have Ia1:cW w (s.heap.push (fo w)) a ea pa ta:=Ia.keep fun _ e=>ac _ e;have Ib1:cW w (s.heap.push (fo w)) b eb pb tb:=Ib.keep fun _ e=>ac _ e;have na:s.heap.objs.size≠a:=dq (aD lt1);have nb:s.heap.objs.size≠b:=dq (aD lt2);refine a6 (aa (a6 (zj (s:={ s with heap:=s.heap.push (fo w) }) na J0 Ia1 (by show 0+ea.size<=15;omega) (.inr (.inl rfl)) (fun _ _ _ q=>aa q) fun h1 tk1 e1 p1 t1 sb1 J1 k1 m1=>aa ?_)));have Ib2:=Ib1.but nb sb1;have n1:(e1.toList.map kn).length<=ea.size:=by
  have:=(ng J1.nd Ia.nd).mpr fun x=>by rw [k1];simp
  rw [this.length_eq,au,aq];exact ar _
 rw [au,aq] at n1;show ak _ _ (if (bg b != bg a)=true then _ else _) _ _ _;rw [if_pos (by simp;exact dq ne)];refine a6 (aa (a6 (bW ?_)));show ak _ _ (jJ _ s.heap.objs.size (bg b)) _ _ _;unfold jJ;refine a6 (ud (s:={ s with heap:=h1,toks:=tk1 }) Ib2 ?_);rw [if_pos rfl];refine a6 (aa ?_);unfold PN setEpoch;refine a6 (a6 (bu (s:={ s with heap:=h1,toks:=tk1 }) Ib2.at_ rfl Ib2.fits (aa ?_)));refine zj (s:={ s with heap:=h1,toks:=tk1 }) nb J1 Ib2 (by omega) m1 (fun s' Q' I' q'=>?_) fun h2 tk2 e2 p2 t2 sb2 J2 k2 m2=>?_
 ·unfold PP setEpoch;refine a6 (a6 (bu I'.at_ rfl I'.fits (aa ?_)));dsimp only;rw [if_neg (by simp)];exact aa q'
 ·refine aa (aa ⟨_,rfl,(fun z=>nomatch z),q h2 tk2 (sb1.trans sb2) ⟨e2,p2,t2,J2,?_⟩⟩);refine (ng J2.nd (iL _ _ (ma.nodup_iff.mp Ia.nd))).mpr fun x=>?_;rw [k2,iQ,k1,ma.mem_iff,mb.mem_iff];simp
end
end L2
namespace L2
open PySem PyProof.Rows
theorem Ua:oG X (eW .BitOr) (fun x y H Q=>∃ a b xs ys,x=.ref a/\y=.ref b/\a≠b/\H a=some (lU X.w a xs)/\H b=some (lU X.w b ys)/\xs.length+ys.length<=15/\∀ p,H p=none->Q (.ref p) (upd H p (lU X.w p (dh xs ys)))):=by
 intro pins s σ H x y v u Q I rx ry h;obtain ⟨a,b,xs,ys,rfl,rfl,ne,ha,hb,hz,q⟩:=h;cases rx;cases ry;have Sa:=(show de X.prog X.w H s.heap a (lU X.w a xs) from I.hok a _ ha).1;have Sb:=(show de X.prog X.w H s.heap b (lU X.w b ys) from I.hok b _ hb).1;refine Q_ Sa Sb ne hz fun h' tk' sb S=>?_;refine ⟨.ref s.heap.objs.size,_,I.laid (t':=tk') (fun b o e=>?_) (ar _) (CB S),rfl,q _ (I.hok.fresh (ar _))⟩;exact (sb.2 b (aD (am e))).trans (ac _ e)
end L2
namespace J
open PySem L2
section
def Ub (xs ys:List Str):R (List Str):=if xs.length+ys.length<=15 then .ok (dh xs ys) else .no
def Oi (ga gb:az->R (List Str)):az->R (List Str):=fun ρ=>(ga ρ).bind fun xs=>(gb ρ).bind (J.Ub xs)
theorem Uc (ha:QL c a ga) (hb:QL c b gb):QL c (.BinOp a .BitOr b pos) (Oi ga gb):=.of fun ρ=>rh (IG Ua (ha ρ) (hb ρ)) fun σ H Q h_0=>by
 obtain ⟨H0,Hs0,la,Hs,f,q⟩:=h_0;refine J8 (w:=c.X.w) f q fun xs p H1 Hs1 e1 s1 f1 n1=>?_;unfold Oi at q;rw [e1,bind_ok] at q;have s2:cE H1 Hs1 (upd H1 p (lU c.X.w p xs)) Hs1:=.mine f1.st.sub n1;refine J8 (w:=c.X.w) (f1.step s2) (q.on (s1.trans s2) (q':=fun _=>True) fun _ _=>trivial) fun ys p2 H2 Hs2 e2 s3 f2 n2=>?_;rw [e2,bind_ok] at q;unfold J.Ub at q;by_cases hz:xs.length+ys.length<=15
 ·rw [if_pos hz] at q;have k1:H2 p=some (lU c.X.w p xs):=s3.all p _ aR;have ne:p≠p2:=fun z=>by rw [z,n2] at k1;cases k1
  have s4:cE H2 Hs2 (upd H2 p2 (lU c.X.w p2 ys)) Hs2:=.mine f2.st.sub n2;exact ⟨p,p2,xs,ys,rfl,rfl,ne,by rw [aU ne];exact k1,aR,hz,fun l hl=>q l _ _ (s1.trans (s2.trans (s3.trans s4))) hl⟩
 ·rw [if_neg hz] at q;exact q.elim
end
end J
namespace J
open PySem L2
section
def Xy (i j:Nat) (ρ:az):List D->R Fl
 |[d,e]=>.ok (.nx ((ρ.set i (.shr d)).set j (.shr e)))
 |_=>.no
def Oj (i j:Nat) (gs:az->R (List D)):az->R Fl:=fun ρ=>(gs ρ).bind (Xy i j ρ)
theorem Ud (i j:Nat) (hc:c.X.calm=true) (hN:c.X.N.Nodup) (ha:Et c [a,b] gs) (hi:c.X.N[i]?=some x:=by rfl) (hj:c.X.N[j]?=some y:=by rfl) (hij:i≠j:=by decide)
  (hx:c.X.env.scope.names.lookup x=some .local:=by rfl) (hy:c.X.env.scope.names.lookup y=some .local:=by rfl) (hw:xM [.Tuple [.Name x px,.Name y py] kt pt] (.Tuple [a,b] k2 pt2) c.X.env=pure (some [x,y]):=by rfl)
  (hs:xL [.Tuple [.Name x px,.Name y py] kt pt] (.Tuple [a,b] k2 pt2) pos.line c.X.env=pure false:=by rfl):JS c (.Assign [.Tuple [.Name x px,.Name y py] kt pt] (.Tuple [a,b] k2 pt2) pos) (Oj i j gs):=.of fun ρ=>Ay (Tc hc hN hi hj hij hx hy (ha ρ) hw hs) fun D σ H h_0=>by
 obtain ⟨H0,Hs0,la,Hs,f,q⟩:=h_0;refine ⟨H0,Hs0,la,Hs,f,?_⟩;unfold Oj at q;cases hr:gs ρ with
 |ok ds =>
  rw [hr,bind_ok] at q;intro vs H' Hs' s r
  match ds,r,q with
  |[],_,q=>exact q.elim
  |[_],_,q=>exact q.elim
  |[d,e],.cons r1 (.cons r2 .nil),q=>exact ⟨_,_,rfl,q _ _ Hs' (((f.step s).set i r1).set j r2)⟩
  |_::_::_::_,_,q=>exact q.elim
 |ex z n =>
  rw [hr] at q;exact fun H' Hs' s=>q H' Hs' (f.st.trans s)
 |no=>rw [hr] at q;exact q.elim
end
end J
namespace J
open PySem L2
def R1:D->R D
 |.bool b=>.ok (.int (if b then 1 else 0))
 |_=>.no
theorem Ue:KN X (.type "int") (i5 R1):=by
 refine ⟨fun pins s σ H xs us Q I rv h=>?_,fun x c n=>?_⟩
 ·obtain ⟨Hs,ds,sub,rb,d,hd,q⟩:=h;cases rb with
  |nil=>cases hd
  |cons r t =>
   cases t with
   |cons _ _=>cases hd
   |nil =>
    rename_i v d0
    cases d0 with
    |bool b =>
     cases hd;exact Ko pins s σ H _ us Q I rv (.inr ⟨b,by rw [r.bool],q _ H Hs (.refl sub) (.int _)⟩)
    |_=>cases hd
 ·match x with
  |[]=>exact fun h=>by cases h
  |[d]=>cases d<;>exact fun h=>by cases h
  |_::_::_=>exact fun h=>by cases h
end J
end
section
namespace L2
open PySem PySem.Spec PyProof.Rows
theorem D9:fM (.type "list") "keys"=pure none:=by rw [uI,m9];kernel_rfl
theorem Bz:Gr table "dict.update.loop"=some fK.«dict.update.loop»:=entryFor_of_tree (by kernel_rfl)
theorem sy:plainId "dict.update.loop"=true:=by decide +kernel
section
theorem zk
  (hx:s.heap.get? a=some o) (hc:o.cls=.type "list") (hdat:o.data=.seq xs k) (hd:o.dict=none) (hA:A.handled=none)
  (h:∀ h' tk,(∀ b o,s.heap.get? b=some o->h'.get? b=some o)->Q none { s with heap:=h',toks:=tk }) :
  ak (aB prog w) A (PH (.ref a) "keys") Q E s:=by
 obtain ⟨c,dct,dat,sl⟩:=o;simp only at hc hdat hd;subst hc hdat hd;obtain ⟨hp,g,d,tk,os⟩:=s;have hT:∀ tk',(⟨hp,g,d,tk',os⟩:ah).TypeIs (.ref a) "list":=fun _=>⟨_,hx,rfl⟩;have f1:=sub_AttributeError;have f3:=F.slot_list_getattribute.lookup;have f4:=F.slot_list_getattribute.bind (.ref a);have f5:=am_list_getattr_none;have hname:(["__module__","__name__","__qualname__","__doc__","__annotations__"] : List Str).contains "keys"=false:=by decide +kernel
 unfold PH getAttrBy? getAttrBy;repeat (any_goals (first|assumption|exact hT _|((with_reducible show ak _ _ (call (Value.builtin "list.__getattribute__") _ _) _ _ _);refine mj F.slot_list_getattribute (hT _) am_entry_list_getattribute (F.args_list_getattribute_2 _ _) (meets_getattribute_miss_list a xs k sl "keys" _ D9 hname (by size_fits)) ⟨hx,hA,fun h' tk' e hx'=>?_⟩)|wp_step))
 have ha:=hx'.of;obtain ⟨ob,vs,he,hc,_⟩:=ha.there;have hTe:(⟨h',g,d,tk',os⟩:ah).TypeIs (.ref e) "AttributeError":=⟨_,he,hc⟩;show ak _ _ (getattributeRaised _ _ _ _ _ _ _) _ _ _;unfold getattributeRaised;repeat (any_goals (first|assumption|wp_step))
 exact h _ _ ha.keeps
end
end L2
namespace L2
open PySem PySem.Spec PyProof.Rows
def Jr (acc:List (gj×ae)) (l:List (gj×ae×ae)):List (gj×ae):=l.foldl (fun a t=>Gp a t.1 t.2.2) acc
theorem Ht (kvs:List (gj×ae)) (k:gj) (v:ae):(Gp kvs k v).length<=kvs.length+1:=by
 unfold Gp;split<;>simp
section
theorem AA {I:ag}{fp wr:List ag}{n:Nat}{Pv:Nat->ae->Prop}{St:Nat->bw->Prop} (W:LP prog w A.in1 I fp wr n Pv St) (D:ag) (hD:D∉fp) (xs:List (gj×ae×ae)) (pa:List ag) (hx:xs.length=n)
  (hv:∀ i v,Pv i v->∃ p x,pa[i]?=some p/\xs[i]?=some x/\v=.ref p) (hk:∀ x∈xs,(dU prog w).is x.1 x.2.1=true) (hp:∀ p∈pa,p∉D::wr) (hb:n<=1000) :
  ∀ (k i:Nat) (s:ah) (acc:List (gj×ae)) (j:Int),n-i=k->i<=n->acc.length<=i->St i s.heap->s.heap.DictOf (dU prog w) D acc->(∀ (i:Nat) (p:ag) (x:gj×ae×ae),pa[i]?=some p->xs[i]?=some x->DI s.heap p #[x.2.1,x.2.2]) ->
   (∀ h' tk,(∀ b o,b∉D::wr->s.heap.get? b=some o->h'.get? b=some o)->h'.DictOf (dU prog w) D (Jr acc (xs.drop i))->R (.ok (.ret .none)) { s with heap:=h',toks:=tk }) ->
   ij (aB prog w) A (.builtin "dict.update.loop" ⟨[.ref D,.ref I,cr j,.none],[]⟩) R s:=by
 have hDw:D∉wr:=fun z=>hD (W.sub _ z);intro k;induction k with
 |zero =>
  intro i s acc j hk' hi hl st hS hT hR;obtain rfl:i=n:=by omega
  refine fO Bz ?_;rw [eV sy _];show ak _ A.in1 (nL (.ref I) >>= _) _ _ s;refine a6 (W.done s _ _ st fun h' tk kp=>?_);show ak _ _ (Builtin.Dict.addKeywords D [] >>= _) _ _ _;refine a6 (aa (aa (hR h' tk (fun b o hb e=>kp b o (fun z=>hb (ao _ z)) e) ?_)));rw [qK (by omega)];obtain ⟨o,es,ep,e,r⟩:=hS;exact ⟨o,es,ep,kp D o hDw e,r⟩
 |succ k ih =>
  intro i s acc j hk' hi hl st hS hT hR;have hlt:i<n:=by omega
  refine fO Bz ?_;rw [eV sy _];show ak _ A.in1 (nL (.ref I) >>= _) _ _ s;refine a6 (W.item i s _ _ hlt st fun v h' tk hP st' kp=>?_);obtain ⟨p,x,hpi,hxi,rfl⟩:=hv i v hP;have hpm:=hp p (f9 hpi);have hS':h'.DictOf (dU prog w) D acc:=by
   obtain ⟨o,es,ep,e,r⟩:=hS;exact ⟨o,es,ep,kp D o hDw e,r⟩
  obtain ⟨ot,et,ct,nt,dt⟩:=hT i p x hpi hxi;have et':h'.get? p=some ot:=kp p ot (fun z=>hpm (ao _ z)) et;have hkx:=hk x (f9 hxi);refine a6 (bW (a6 (wpAny_tryCatch ?_)));unfold Builtin.Dict.pairItems;refine a6 (iI (T:="tuple") (s:={ s with heap:=h',toks:=tk }) ⟨_,et',ct⟩ ?_);rw [if_pos (by decide)];refine a6 (eG (s:={ s with heap:=h',toks:=tk }) et' dt (aa ?_));show ak _ _ (holding [x.2.1,x.2.2] (dictSet D x.2.1 x.2.2)) _ _ _;refine bW ?_;unfold dictSet;refine bW (a6 ((dU prog w).pyHash (k:=x.1) hkx ?_));refine wpAny_dictSetHashed_pairs (s:={ s with heap:=h',toks:=tk+1 }) hkx hS' (fun h2 hS2 sb=>?_) (bD hl (bD hi (bD hb (b9 (c8 (ar _))))));refine aa ⟨mU sy _,ih (i+1) _ (Gp acc x.1 x.2.2) _ (by omega) hlt ?_ (W.frame _ _ _ st' fun b hb o e=>?_) hS2 (fun i2 p2 x2 e1 e2=>?_) fun h3 tk3 k3 hS3=>?_⟩
  ·have:=Ht acc x.1 x.2.2;omega
  ·rw [sb.2 b fun z=>hD (z ▸ hb)];exact e
  ·obtain ⟨o2,g2,r2⟩:=hT i2 p2 x2 e1 e2;have hm:=hp p2 (f9 e1);exact ⟨o2,(sb.2 p2 fun z=>hm (by rw [z];exact al)).trans (kp p2 o2 (fun z=>hm (ao _ z)) g2),r2⟩
  ·refine hR h3 tk3 (fun b o hb e=>k3 b o hb ?_) ?_
   ·show h2.get? b=_;rw [sb.2 b fun z=>hb (by rw [z];exact al)];exact kp b o (fun z=>hb (ao _ z)) e
   ·have hd:xs.drop i=x::xs.drop (i+1):=by
     obtain ⟨h1,h2⟩:=List.getElem?_eq_some_iff.mp hxi;rw [C3 h1,h2]
    rw [hd];exact hS3
theorem AB {l:ag}{ol:Obj}{its:List ae}{n:Nat}{xs:List (gj×ae×ae)}{pa:List ag}{Q:ae->ah->Prop} (hh:A.handled=none)
  (hol:s.heap.get? l=some ol) (hc:ol.cls=.type "list") (hdd:ol.dict=none) (hdt:ol.data=.seq its.toArray n) (hi:∀ (i:Nat) (v:ae),its[i]?=some v->∃ p x,pa[i]?=some p/\xs[i]?=some x/\v=.ref p) (hx:xs.length=its.length) (hk:∀ x∈xs,(dU prog w).is x.1 x.2.1=true) (hb:its.length<=1000)
  (hT:∀ (i:Nat) (p:ag) (x:gj×ae×ae),pa[i]?=some p->xs[i]?=some x->DI s.heap p #[x.2.1,x.2.2]) (hpa:∀ p∈pa,p<s.heap.objs.size)
  (h:∀ (h':bw) (tk:Nat),h'.DictOf (dU prog w) s.heap.objs.size (Jr [] xs)->(∀ b o,s.heap.get? b=some o->h'.get? b=some o)->Q (.ref s.heap.objs.size) { s with heap:=h',toks:=tk }) :
  ak (aB prog w) A (call (.type "dict") [.ref l]) Q E s:=by
 refine callType_codes (Q₁:=fun obj s₁=>obj=.ref s.heap.objs.size/\s₁={ s with heap:=s.heap.push { cls:=.type "dict",data:=.dict #[] } }) F.kt_called_dict (F.kt_typeCall_dict_1 _) F.entry_dict_init (kt_code_dict_new _ ⟨rfl,rfl⟩) ?_;rintro obj s₁ ⟨rfl,rfl⟩;have hnew:(s.heap.push { cls:=.type "dict",data:=.dict #[] }).DictOf (dU prog w) s.heap.objs.size []:=G4 s.heap;have hol':(s.heap.push { cls:=.type "dict",data:=.dict #[] }).get? l=some ol:=ac _ hol;have hlS:l<s.heap.objs.size:=am hol;refine ⟨hnew.typeIs,F.args_dict_init_2 _ _,?_⟩;unfold fK.«dict.__init__»;refine a6 ?_;unfold Builtin.Dict.selfAndRest;refine a6 (wpAny_notOrdered_dict hnew.typeIs ?_);show ak _ _ (pure (s.heap.objs.size,[bg l])) _ _ _;refine aa ?_;show ak _ _ (xu "dict.__init__" s.heap.objs.size (.ref l) [] .none) _ _ _;unfold xu;refine a6 (iI (T:="list") ⟨_,hol',hc⟩ ?_);rw [if_pos (by decide)];refine a6 (zk (s:={ s with heap:=s.heap.push { cls:=.type "dict",data:=.dict #[] } }) hol' hc hdt hdd (by simpa using hh) fun h1 tk1 k1=>?_);rw [if_pos (by rfl)];refine a6 (gI ?_);have hol1:=k1 l ol hol';refine a6 (lB (s:={ s with heap:=h1,toks:=tk1 }) ⟨_,hol1,hc,⟨_,hdt⟩⟩ ?_);have hD1:∃ o,h1.get? s.heap.objs.size=some o:=by
  obtain ⟨o,es,ep,e,_⟩:=hnew;exact ⟨o,k1 _ _ e⟩
 obtain ⟨oD,eD⟩:=hD1;have lD:=am eD;have W:=Ag (prog:=prog) (w:=w) (A:=A.in1.in1) (by simpa using hh) h1.objs.size l (aD (am hol1)) its.toArray;have k2:∀ b o,h1.get? b=some o->(h1.push { cls:=.type "list_iterator",data:=.fields #[.ref l,.int 0 0] }).get? b=some o:=fun b o e=>ac _ e;have hD2:(h1.push { cls:=.type "list_iterator",data:=.fields #[.ref l,.int 0 0] }).DictOf (dU prog w) s.heap.objs.size []:=by
  obtain ⟨o,es,ep,e,r⟩:=hnew;exact ⟨o,es,ep,k2 _ _ (k1 _ _ e),r⟩
 refine aa ⟨mU sy _,AA (A:=A.in1) W s.heap.objs.size ?_ xs pa (by rw [hx,aG]) (fun i v e=>hi i v (by simpa using e)) hk (fun p hp=>?_) (by rw [aG];exact hb) its.length 0 _ [] 0 (by rw [aG];omega) (eB _) (ar _) ⟨⟨_,aF _ rfl,rfl,rfl⟩,⟨_,k2 _ _ hol1,hc,⟨_,hdt⟩⟩⟩ hD2 (fun i p x e1 e2=>?_) fun h' tk kp hS'=>?_⟩
 ·simp only [aQ,aH,or_false,not_or];exact ⟨aD lD,eh hlS⟩
 ·have:=hpa p hp;simp only [aQ,aH,or_false,not_or];exact ⟨aD this,aD (xp this lD)⟩
 ·obtain ⟨o,g,r⟩:=hT i p x e1 e2;exact ⟨o,k2 _ _ (k1 _ _ (ac _ g)),r⟩
 ·refine ⟨rfl,h h' tk hS' fun b o e=>kp b o ?_ (k2 _ _ (k1 _ _ (ac _ e)))⟩;have:=am e;simp only [aQ,aH,or_false,not_or];exact ⟨aD this,aD (xp this lD)⟩
end
end L2
namespace L2
open PySem PySem.Spec PyProof.Rows
theorem F4    (ok:qF P w H h):∀ (pa:List ag) (kvs:List (gj×V)),kvs.length=pa.length->(∀ (i:Nat) (a:ag) (kv:gj×V),pa[i]?=some a->kvs[i]?=some kv->H a=some (.tup [kV kv.1,kv.2])) ->
  ∃ xs:List (gj×ae×ae),xs.length=pa.length/\(∀ (i:Nat) (p:ag) (x:gj×ae×ae),pa[i]?=some p->xs[i]?=some x->DI h p #[x.2.1,x.2.2])/\(∀ x∈xs,(dU P w).is x.1 x.2.1=true)/\KV kvs (xs.map fun x=>(x.1,x.2.2))
 |[],[],_,_=>⟨[],rfl,fun i p x e=>by simp at e,fun _ e=>by simp at e,.nil⟩
 |a::pa,kv::kvs,hl,hH=>by
  obtain ⟨xs,h1,h2,h3,h4⟩:=F4 ok pa kvs (Nat.succ.inj hl) fun i b x e1 e2=>hH (i+1) b x e1 e2;have h0:=hH 0 a kv rfl rfl;obtain ⟨_,its,r,it⟩:=(show de P w H h a (.tup [kV kv.1,kv.2]) from ok a _ h0);cases r with
  |cons r1 r2 =>
   cases r2 with
   |cons r3 r4 =>
    cases r4;rename_i u1 u2
    refine ⟨(kv.1,u1,u2)::xs,by simp [h1],fun i p x e1 e2=>?_,fun x hx=>?_,.cons ⟨rfl,r3⟩ h4⟩
    ·cases i with
     |zero=>cases e1;cases e2;exact it
     |succ i=>exact h2 i p x e1 e2
    ·rcases List.mem_cons.mp hx with z|z
     ·rw [z];exact E5 r1
     ·exact h3 x z
 |[],_::_,hl,_=>by simp at hl
 |_::_,[],hl,_=>by simp at hl
theorem BA:∀ {pa:List ag}{us:List ae},cV (pa.map V.ref) us->us=pa.map bg
 |[],us,h=>by cases h;rfl
 |a::pa,us,h=>by
  cases h with
  |cons r t=>rw [BA t,show _=bg a from r];rfl
theorem Da {X:Cx} (hc:X.calm=true):ja X (.type "dict") (fun xs H Q=>∃ (l:ag) (pa:List ag) (kvs:List (gj×V)),xs=[.ref l]/\mV X.K H l (pa.map V.ref)/\kvs.length=pa.length/\pa.length<=1000/\(∀ (i:Nat) (a:ag) (kv:gj×V),pa[i]?=some a->kvs[i]?=some kv->H a=some (.tup [kV kv.1,kv.2]))/\∀ d,H d=none->Q (.ref d) (upd H d (.dK (yB [] kvs)))):=by
 intro pins s σ H xs us Q I r h;obtain ⟨l,pa,kvs,rfl,hq,hl,hz,hH,q⟩:=h;obtain ⟨u,rfl,rx⟩:=jU r;cases rx;have hh:=I.ok.hd hc;obtain ⟨its,r',⟨o,n,ho,h1,h2,h3⟩,_⟩:=I.list hq;obtain rfl:=BA r';obtain ⟨ys,y1,y2,y3,y4⟩:=F4 I.hok pa kvs hl hH;refine AB (by simpa using hh) ho h1 h2 h3 (xs:=ys) (pa:=pa) (fun i v e=>?_) (by rw [y1,au]) y3 (by rw [au];exact hz) y2 (fun p hp=>?_) fun h' tk dd kp=>?_
 ·rw [aO] at e;cases hp:pa[i]? with
  |none=>rw [hp] at e;cases e
  |some p =>
   rw [hp] at e;cases e;have hi:i<ys.length:=by rw [y1];exact (List.getElem?_eq_some_iff.mp hp).1
   exact ⟨p,ys[i],rfl,aW hi,rfl⟩
 ·obtain ⟨i,hi,e⟩:=jm hp;have hk:i<kvs.length:=by rw [hl];exact hi
  have:=hH i p kvs[i] (by rw [<- e];exact aW hi) (aW hk);obtain ⟨_,_,_,_,g,_⟩:=(show de X.prog X.w H s.heap p (.tup _) from I.hok p _ this);exact am g
 ·have e:Jr [] ys=merged [] (ys.map fun x=>(x.1,x.2.2)):=by unfold Jr merged;rw [nh]
  rw [e] at dd;have rel:=KV.merge y4 (Paired.nil:KV (κ:=gj) [] []);have ln:=tG kvs [];simp only [bi] at ln;refine ⟨.ref s.heap.objs.size,_,I.laid (t':=tk) kp (ar _) (ME (bD ln (by rw [Gz,hl];exact b9 (c8 hz))) ?_ rel dd),rfl,q _ (I.hok.fresh (ar _))⟩;have:=I.big;exact beq_false_of_ne (eh this)
end L2
namespace J
open PySem L2
def k7:List D->Option (List (gj×D))
 |[]=>some []
 |.tuple [k,v]::r=>(qy k).bind fun y=>(k7 r).map ((y,v)::·)
 |_::_=>none
def pR:D->R D
 |.list ds=>if ds.length<=1000 then (match k7 ds with
  |some ps=>.ok (.dict (ps.foldl (fun a p=>z3 a (kD p.1) p.2) []))
  |none=>.no) else .no
 |_=>.no
theorem BB  : ∀ {ds:List D}{vs:List V}{ps:List (gj×D)},RDs K H vs ds->k7 ds=some ps ->
  ∃ (pa:List ag) (kvs:List (gj×V)),vs=pa.map V.ref/\kvs.length=pa.length/\(∀ (i:Nat) (a:ag) (kv:gj×V),pa[i]?=some a->kvs[i]?=some kv->H a=some (.tup [kV kv.1,kv.2]))/\RDk K H kvs (ps.map fun p=>(kD p.1,p.2))
 |[],vs,ps,r,e=>by
  cases r;cases e;exact ⟨[],[],rfl,rfl,fun i a kv e=>by simp at e,.nil⟩
 |d::ds,vs,ps,r,e=>by
  unfold k7 at e;split at e
  ·rename_i h;cases h
  ·rename_i k v r0 h
   cases h;cases r with
   |cons r1 r2 =>
    rename_i x0 xs0
    cases hk:qy k with
    |none=>rw [hk] at e;cases e
    |some y =>
     rw [hk] at e;cases hr:k7 ds with
     |none=>rw [hr] at e;cases e
     |some qs =>
      rw [hr] at e;cases e;obtain ⟨pa,kvs,h1,h2,h3,h4⟩:=BB r2 hr;obtain ⟨a,vs0,rfl,ha,ra⟩:∃ a vs0,x0=V.ref a/\H a=some (.tup vs0)/\RDs K H vs0 [k,v]:=by
       cases r1 with
       |tuple ha ra=>exact ⟨_,_,rfl,ha,ra⟩
      ·obtain ⟨x1,x2,rfl,q1,q2⟩:=ra.two;have ek:=z0 hk;subst ek;have:=Hj q1;subst this;refine ⟨a::pa,(y,x2)::kvs,by rw [h1];rfl,by simp [h2],fun i b kv e1 e2=>?_,.cons q2 h4⟩;cases i with
       |zero=>cases e1;cases e2;exact ha
       |succ i=>exact h3 i b kv e1 e2
  ·cases e
theorem F5  : ∀ {kvs:List (gj×V)}{es:List (D×D)}{acc:List (gj×V)}{ds:List (D×D)},RDk K H kvs es->RDk K H acc ds->RDk K H (yB acc kvs) (es.foldl (fun a p=>z3 a p.1 p.2) ds)
 |[],es,acc,ds,r,r0=>by
  cases r;exact r0
 |kv::kvs,es,acc,ds,r,r0=>by
  cases r with
  |cons h t =>
   rename_i k0 x0 d0 ds0
   have:=F5 (kvs:=kvs) t (r0.put k0 h);exact this
section
def sA (g:az->R D):az->R D:=fun ρ=>(g ρ).bind pR
theorem BC (hc:c.X.calm=true) (h:JE c e g) (hg2:Gl c.X "dict") (hm2:c.X.mg "dict"=none) (he:aA [e] c.X.env=(false,cL e c.X.env)::aA [] c.X.env:=by rfl) :
  JN c (.Call (.Name "dict" p) [e] [] cpos) (sA g):=.of fun ρ=>by
 refine rh (wc (Da hc) hg2 hm2 PyProof.Rows.boot_dict (bX (h ρ) el he) (he:=he)) fun σ H Q h_1=>?_;obtain ⟨H0,Hs0,la,Hs,f,q⟩:=h_1;dsimp only [L2.Uz,L2.tE,L2.DY];refine CK f q fun d v H1 Hs1 e1 s1 f1 r1=>?_;unfold sA at q;rw [e1,bind_ok] at q;unfold pR at q;split at q
 ·rename_i ds
  by_cases hz:ds.length<=1000
  ·rw [if_pos hz] at q;split at q
   ·rename_i ps hs
    obtain ⟨a,vs0,rfl,qa,ra⟩:∃ a vs0,v=V.ref a/\mV c.X.K Hs1 a vs0/\RDs c.X.K Hs1 vs0 ds:=by
     cases r1 with
     |list qa ra=>exact ⟨_,_,rfl,qa,ra⟩
    ·obtain ⟨pa,kvs,rfl,h2,h3,h4⟩:=BB ra hs;have h5:=F5 h4 (RDk.nil (K:=c.X.K) (H:=Hs1));rw [nh] at h5;refine ⟨a,pa,kvs,rfl,?_,h2,?_,fun i b kv e1 e2=>f1.st.sub _ _ (h3 i b kv e1 e2),fun l hl=>q l _ H1 Hs1 s1 hl (.dK h5)⟩
     ·exact dD.seq f1.st.sub qa
     ·have:=ra.length;rw [au] at this;omega
   ·exact q.elim
  ·rw [if_neg hz] at q;exact q.elim
 ·exact q.elim
end
end J
namespace L2
open PySem PySem.Spec PyProof.Rows
def Uf (K:a7) (a:ag):It :=
 ⟨fun i H=>∃ xs x,mV K H a xs/\xs[i]?=some x,fun i H v H'=>∃ p,H p=none/\v=.ref p/\∀ xs,mV K H a xs->∃ x,xs[i]?=some x/\H'=upd H p (.tup [.int i,x]),fun i H=>∃ xs,mV K H a xs/\xs.length<=i⟩
theorem Hu {P:bf}{w:bE}{K:a7}{elts:List bR}{x1}{pos:Pos} (a e it:ag) (hei:e≠it):Aq P w K (.Tuple elts x1 pos) (Uf K a) [e,it] e (fun i h=>(∃ old,IsEnum h e it i old)/\h.IsListIter it a i) where
 mem:=by simp
 obj:=fun i h st b hb=>by
  simp only [aQ,aH,or_false] at hb;rcases hb with rfl|rfl
  ·obtain ⟨⟨old,q⟩,_⟩:=st;exact ⟨_,q,fun v z=>by cases z⟩
  ·obtain ⟨_,o,q,_,d⟩:=st;exact ⟨o,q,fun v z=>by rw [d] at z;cases z⟩
 keep:=fun i h h' st k=>⟨let ⟨old,q⟩:=st.1;⟨old,k e (by simp) _ q⟩,let ⟨o,q,r⟩:=st.2;⟨o,k it (by simp) o q,r⟩⟩
 item:=by
  intro X hP hw hK hc i pins s σ H E I hf st hg;subst hP hw hK;obtain ⟨xs,x,hq,hx⟩:=hg;obtain ⟨its,rv,p,hz⟩:=I.list hq;obtain ⟨u,hu,ru⟩:=rv.get hx;obtain ⟨⟨old,he⟩,hit⟩:=st;have hit0:=hit;obtain ⟨oi,ei,_⟩:=hit0;have he0:=am he;refine wpAny_pyNext_enum_item he hit p.isList (by simpa using hu) hei ?_;intro h1 eo st1 tup sz k1;refine ⟨_,rfl,Gx eo fun h2 e2 sb2=>?_⟩;have szn:s.heap.objs.size≠e:=eh he0;have I2:bG X pins σ H { s with heap:=h2,toks:=s.toks+1 }:=I.turnedL (ch:=[e,it]) (fun b o hb q=>by
   simp only [aQ,aH,or_false,not_or] at hb;exact (sb2.2 b hb.1).trans (k1 b o hb.1 hb.2 q)) hf
  have fT:=I.fpOk (H':=H) (ar _) (I.hok.fresh (ar _));have tup2:h2.get? s.heap.objs.size=some { cls:=.type "tuple",data:=.seq #[.int i s.toks,u] }:=(sb2.2 _ szn).trans tup;have I3:=I2.track (ho:=.tup [.int i,x]) fT ⟨by show 2<=sizeLine;decide,[.int i s.toks,u],.cons ⟨s.toks,rfl⟩ (.cons ru .nil),⟨_,tup2,rfl,0,rfl⟩⟩;refine ⟨.ref s.heap.objs.size,_,I3,rfl,⟨_,fT.1,rfl,fun ys hy=>?_⟩,⟨⟨u,?_⟩,?_⟩,fun b hb=>?_⟩
  ·rw [I.list_inj hy hq];exact ⟨x,hx,rfl⟩
  ·have:(((i+1:Nat):Int))=(i:Int)+1:=by omega
   rw [this];exact e2
  ·obtain ⟨o,q,r⟩:=st1;exact ⟨o,(sb2.2 it (dq hei)).trans q,r⟩
  ·rw [aU]
   ·exact (hf b hb).1
   ·simp only [aQ,aH,or_false] at hb;rcases hb with z|z
    ·rw [z];exact aD he0
    ·rw [z];exact aD (am ei)
 done:=by
  intro X hP hw hK hc i pins s σ H E I hf st hg;subst hP hw hK;obtain ⟨xs,hq,hx⟩:=hg;obtain ⟨its,rv,p,hz⟩:=I.list hq;obtain ⟨⟨old,he⟩,hit⟩:=st;have hl:=rv.length;refine wpAny_pyNext_enum_end (by simpa using I.ok.hd hc) he hit p.isList (by simp;omega) fun h' eb=>?_;exact ⟨rfl,I.turnedL (t':=s.toks) (ch:=[e,it]) (fun b o hb q=>eb b o (by
   simp only [aQ,aH,or_false,not_or] at hb;exact hb.2) q) hf⟩
 self:=fun _ _ _ _ _ st h=>let ⟨⟨_,q⟩,_⟩:=st;qL q h
def Ug (K:a7) (ta:TA):TI:=fun σ H R=>ta σ H fun vs H1=>∃ a xs,vs=[.ref a]/\mV K H1 a xs/\R (Uf K a) H1
theorem Ol {X:Cx}{elts:List bR}{x1}{tpos p pos:Pos}{a:bR}{ta:TA} (hg:Gl X "enumerate") (hm:X.mg "enumerate"=none) (ha:PA X [a] ta) (hs:aA [a] X.env=[(false,cL a X.env)]:=by rfl) :
  PI X (.Tuple elts x1 tpos) (.Call (.Name "enumerate" p) [a] [] pos) (Ug X.K ta):=by
 intro pins s σ H R I h;refine Call_ (tY I hg hm boot_enumerate (e_ (fY (ha pos pins s σ H _ I h) fun us s1 h1=>?_) hs rfl));obtain ⟨vs,H1,I1,r1,q1⟩:=h1;obtain ⟨ad,xs,rfl,hq,q⟩:=q1;obtain ⟨u,rfl,rx⟩:=jU r1;cases rx;obtain ⟨its,rv,tp,hz⟩:=I1.list hq;refine call_enumerate_list tp.isList fun h' e1 t1 sz kp=>?_;refine qL e1 ?_;have I2:bG X pins σ H1 { s1 with heap:=h' }:=I1.kept (t':=s1.toks) kp;refine ⟨s1.heap.objs.size+1,[s1.heap.objs.size+1,s1.heap.objs.size],_,_,H1,rfl,I2,Hu ad _ _ (eh (fW _)),⟨⟨.none,e1⟩,t1⟩,fun b hb=>?_,q⟩;simp only [aQ,aH,or_false] at hb;rcases hb with z|z
 ·rw [z];exact I1.fpOk (ik _) (I1.hok.fresh (ik _))
 ·rw [z];exact I1.fpOk (ar _) (I1.hok.fresh (ar _))
end L2
namespace J
open PySem L2
theorem Om     (h:mV K Hn a vs) (r:RDs K Hs vs ds):Pp K (Uf K a) (jh 0 ds) Hn Hs:=fun H2 Hs2 e1 e2 e3=>by
 have q:=e1.seq h;have hl:=wo ds 0;refine ⟨fun i hi=>?_,fun i hi=>⟨vs,q,by rw [r.length];omega⟩,fun i x H3 hi y=>?_⟩
 ·have hi':i<vs.length:=by rw [r.length];omega
  exact ⟨vs,vs[i],q,aW hi'⟩
 ·obtain ⟨p,hp,rfl,y⟩:=y;obtain ⟨x,k0,rfl⟩:=y vs q;obtain ⟨d,k1,k2⟩:=r.get k0;have st:=cE.new (o:=.tup [.int i,x]) e3 hp;refine ⟨.tuple [.int i,d],_,?_,st,.tuple aR (.cons (.int _) (.cons ((k2.same e2).same st.sh) .nil))⟩;rw [wn,k1];simp
section
def R4:List D->R (List D)
 |[.list ds]=>.ok (jh 0 ds)
 |_=>.no
def Js (gs:az->R (List D)):az->R (List D):=fun ρ=>(gs ρ).bind R4
theorem K_ {x1} (hg:Gl c.X "enumerate") (hm:c.X.mg "enumerate"=none) (ha:Et c [a] gs) (hs:aA [a] c.X.env=[(false,cL a c.X.env)]:=by rfl):LX c (.Tuple elts x1 tpos) (.Call (.Name "enumerate" p) [a] [] pos) (Js gs):=.of fun ρ=>KQ (Ol hg hm (ha ρ) hs) fun σ H Q h_20=>by
 obtain ⟨H0,Hs0,la,Hs,f,q⟩:=h_20;refine CL f q fun ds vs H1 Hs1 e1 s1 f1 r1=>?_;unfold Js at q;rw [e1,bind_ok] at q;unfold R4 at q;split at q
 ·obtain ⟨x,rfl,rx⟩:=r1.one;cases rx with
  |list qa ra=>exact ⟨_,_,rfl,dD.seq f1.st.sub qa,q _ H1 Hs1 s1 (Om qa ra)⟩
 ·exact q.elim
end
end J
namespace L2
open PySem PySem.Spec PyProof.Rows
end L2
namespace J
open PySem L2
section
end
end J
namespace J
open PySem L2
end J
end
namespace J
open PySem L2 PyProof.Rows
section
structure En where
 P:bf
 w:bE
 K:a7
 mg:Str->Option ae
 base:bw
 cls:Str->ag
abbrev FN (e:En):=Fn e.P e.w e.K e.mg e.base e.cls
abbrev ER (e:En):=Er e.mg e.base e.cls
abbrev Cn (mg:Str->Option ae) (x:Str) (n:Int):Prop:=∃ t,mg x=some (.int n t)
structure hX (K:a7) (mg:Str->Option ae) (x:Str) (st:cY):Prop where
 ex:∃ f fd,Gb K x x st f fd/\mg x=some (.ref f)
section
variable {K:a7}{h:bw}{mg:Str->Option ae}{x:Str}
theorem d_in {st:cY}{A:ag}{od an:Option ag}{sl:Array (Option ae)}{oc kV dc pm cv ct:ae} (X:K.In h) (G:h.Ns bt mg) (a:gE K bt x=some (some (.ref A)))
  (l:K.lookup A=some ⟨oc,od,.func (eO x x (kU st) (hJ st) (ax st) .none kV dc pm an cv ct),sl⟩) (c:jO K cv x=true) (k:d_ K (.ref A)=true):hX K mg x st :=
 ⟨_,_,MB l c k,il X G a⟩
theorem cn_in  (X:K.In h) (G:h.Ns bt mg) (t:gE K bt x=some (some (.int n tk))):Cn mg x n:=⟨_,il X G t⟩
inductive Zs (K:a7):List Str->Prop
 |nil:Zs K []
 |cons {x:Str}{r:List Str}:gE K bt x=some none->Zs K r->Zs K (x::r)
theorem Zs.get (z:Zs K r):∀ x∈r,gE K bt x=some none:=by
 induction z with
 |nil=>exact fun _ h=>nomatch h
 |cons a _ ih =>
  intro y hy
  rcases List.mem_cons.mp hy with e|e
  ·rw [e];exact a
  ·exact ih y e
abbrev zn:List Str:=["len","isinstance","all","any","zip","tuple","list","sorted","set","range","enumerate","dict","sum","max","min","reversed","str","int","bool","ValueError"]
theorem VV (X:K.In h) (G:h.Ns bt mg) (z:Zs K zn):Bi mg:=by
 have q:∀ x∈zn,mg x=none:=fun x hx=>GC X G (z.get x hx)
 exact ⟨q _ (by decide),q _ (by decide),q _ (by decide),q _ (by decide),q _ (by decide),q _ (by decide),q _ (by decide),q _ (by decide),q _ (by decide),q _ (by decide),q _ (by decide),q _ (by decide),q _ (by decide),q _ (by decide),q _ (by decide),q _ (by decide),q _ (by decide),q _ (by decide),q _ (by decide)⟩
theorem VW (X:K.In h) (G:h.Ns bt mg) (z:Zs K zn):mg "ValueError"=none:=GC X G (z.get _ (by decide))
end
section
variable {P:bf}{w:bE}{K:a7}{mg:Str->Option ae}{base:bw}{N:List Str}{qual:Str}{scope:gH}{f:ag}{cd:ae}{A:bV}{outer:List Env}{s:ah}{H:Hp}{E:XK}
theorem px:nV (jf P w) (eZ (jf P w) P w K mg base N qual scope f cd A outer s H E) E:=Ek fun _ _ _ h=>h
end
section
variable {c:C}{x y:Str}{e:bR}{es:List bR}{gs:az->R (List D)}{p q pos:Pos}
theorem jc  (G:Fn c.X.prog c.X.w c.X.K c.X.mg c.X.base c.cls x k n F) (hr:kj j c.X.A) (hx:nV (jf c.X.prog c.X.w) c.X c.E) (ha:Et c (e::es) gs)
  (hk:k<=j:=by decide) (hg:Gl c.X x:=by exact rfl) (hdb:(x==("__debug__" : Str))=false:=by decide) (he:aA (e::es) c.X.env=(false,cL e c.X.env)::aA es c.X.env:=by rfl) (hpl:(gm pos (aA es c.X.env)).any (·.1)=false:=by rfl) :
  JE c (.Call (.Name x p) (e::es) [] pos) (e6 n F gs):=QG G (hr.mono hk) hg hx ha hdb he hpl
end
abbrev Bq (x:Str) (st:cY) (us:List ae) (r:List (Str×ae)):Prop:=∀ (kV doc pm:ae) (an:Option ag) (cdv ct:ae),Pr (eO x x (kU st) (hJ st) (ax st) .none kV doc pm an cdv ct) ⟨us,[]⟩=pure r
section
variable {K:a7}{x:Str}{st:cY}{f:ag}{fd:eX}
theorem b1 (F:Gb K x x st f fd) (h:∀ u,Bq x st [u] [(a,u)]:=by exact fun _ _ _ _ _ _ _=>rfl):kC K fd [a] []:=F.binds fun _ _ _ _ _ _ us hl=>by obtain ⟨_,rfl⟩:=Yz hl;exact h ..
theorem b2 (F:Gb K x x st f fd) (h:∀ u v,Bq x st [u,v] [(a,u),(b,v)]:=by exact fun _ _ _ _ _ _ _ _=>rfl):kC K fd [a,b] []:=F.binds fun _ _ _ _ _ _ us hl=>by obtain ⟨_,_,rfl⟩:=YA hl;exact h ..
theorem b3 (F:Gb K x x st f fd) (h:∀ u v w,Bq x st [u,v,w] [(a,u),(b,v),(c,w)]:=by exact fun _ _ _ _ _ _ _ _ _=>rfl):kC K fd [a,b,c] []:=F.binds fun _ _ _ _ _ _ us hl=>by obtain ⟨_,_,_,rfl⟩:=YB hl;exact h ..
theorem b4 (F:Gb K x x st f fd) (h:∀ u v w z,Bq x st [u,v,w,z] [(a,u),(b,v),(c,w),(d,z)]:=by exact fun _ _ _ _ _ _ _ _ _ _=>rfl):kC K fd [a,b,c,d] []:=F.binds fun _ _ _ _ _ _ us hl=>by obtain ⟨_,_,_,_,rfl⟩:=YC hl;exact h ..
theorem b5 (F:Gb K x x st f fd) (h:∀ u v w z y,Bq x st [u,v,w,z,y] [(a,u),(b,v),(c,w),(d,z),(e,y)]:=by exact fun _ _ _ _ _ _ _ _ _ _ _=>rfl):kC K fd [a,b,c,d,e] []:=F.binds fun _ _ _ _ _ _ us hl=>by obtain ⟨_,_,_,_,_,rfl⟩:=YD hl;exact h ..
end
theorem qz {e:En}{x:Str}{st:cY}{N ps:List Str}{k:Nat}{g:az->R Fl} (D:hX e.K e.mg x st) (S:bA N ps (ax st)) (b:∀ {f:ag}{fd:eX},Gb e.K x x st f fd->kC e.K fd ps [])
  (h:∀ (f:ag) (cdv:ae) (A:bV) (outer:List Env) (s:ah) (H:Hp) (E:XK),kj k (A.deeper (jN x (ax st) s.heap.objs.size f cdv))->IZ ⟨eZ (jf e.P e.w) e.P e.w e.K e.mg e.base N x (ax st) f cdv A outer s H E,e.cls,E⟩ (hJ st) g) :
  FN e x (k+1) ps.length (fv N.length g):=by
 obtain ⟨f,fd,F,hm⟩:=D.ex
 exact Vw F S hm (b F) (h f)
def Yp (N P:List Str) (sc:gH):Bool:=decide (sc.kind=.function) && !sc.isCoroutine && !sc.isGenerator&&decide N.Nodup&&decide (N.take P.length=P)&&P.all (fun x=>decide (sc.names.lookup x=some .local)||decide (sc.names.lookup x=some .cell))&&sc.names.all fun y=>decide (y.2≠.free)
theorem dX  (h:Yp N P sc=true):bA N P sc:=by
 unfold Yp at h
 simp only [aP,decide_eq_true_eq,M8,cR,jL] at h
 obtain ⟨⟨⟨⟨⟨⟨a,b⟩,c⟩,d⟩,e⟩,f⟩,g⟩:=h
 exact ⟨a,b,c,d,e,f,g⟩
structure Cw (K:a7) (x:Str) (C:ag):Prop where
 ns:gE K bt x=some (some (.ref C))
 cl:∃ cd,fB K C=some cd
 ty:yk K (.ref C)=some (.type "type")
theorem cw_in {K:a7}{x:Str}{C:ag}{cd:ClassData} (a:gE K bt x=some (some (.ref C))) (i:fB K C=some cd) (y:yk K (.ref C)=some (.type "type")):Cw K x C:=⟨a,⟨_,i⟩,y⟩
inductive R5 (K:a7):List Str->List ag->Prop
 |nil:R5 K [] []
 |cons {x:Str}{C:ag}{ns:List Str}{Cs:List ag}:Cw K x C->R5 K ns Cs->R5 K (x::ns) (C::Cs)
inductive Sb (K:a7) (C:ag):List (ag×Bool)->Prop
 |nil:Sb K C []
 |cons {D:ag}{b:Bool}{l:List (ag×Bool)}:nR K (.ref C) (.ref D)=some b->(b=false->C≠D)->Sb K C l->Sb K C ((D,b)::l)
structure Wy (K:a7) (C CP:ag) (l:List (ag×Bool)):Prop where
 x1:fL K (.ref C) "__getattribute__"=some (some (.builtin "BaseException.__getattribute__"))
 x2:fL K (.ref C) "__getattr__"=some none
 x3:fL K (.ref C) "__class__"=some (some (.builtin "object.__class__"))
 x4:uO K (.builtin "object.__class__") "__get__"=some (some (.builtin "getset_descriptor.__get__"))
 x5:xm K (.builtin "object.__class__")=some true
 x6:bU K C (.type "object")=some true
 x7:bU K C (.ref CP)=some true
 x8:nR K (.ref C) (.type "ValueError")=some true
 x9:(bg CP==bg C)=false
 sb:Sb K C l
theorem R5.at {K:a7}{ns:List Str}{Cs:List ag} (N:R5 K ns Cs):∀ (i:Nat) (n:Str),ns[i]?=some n->∃ C,Cs[i]?=some C/\Cw K n C:=by
 induction N with
 |nil=>intro i n h;simp at h
 |cons a _ ih =>
  intro i n h
  cases i with
  |zero=>cases h;exact ⟨_,rfl,a⟩
  |succ i=>exact ih i n h
theorem Sb.at {K:a7}{C:ag}{l:List (ag×Bool)} (N:Sb K C l):∀ (i:Nat) (D:ag) (b:Bool),l[i]?=some (D,b)->nR K (.ref C) (.ref D)=some b/\(b=false->C≠D):=by
 induction N with
 |nil=>intro i D b h;simp at h
 |cons a c _ ih =>
  intro i D b h
  cases i with
  |zero=>cases h;exact ⟨a,c⟩
  |succ i=>exact ih i D b h
theorem VX {K:a7}{h:bw}{mg:Str->Option ae}{cls:Str->ag}{ns:List Str}{Cs:List ag} (X:K.In h) (G:h.Ns bt mg) (N:R5 K ns Cs) (hn:ns.map cls=Cs):∀ n∈ns,mg n=some (.ref (cls n)):=by
 intro n hm
 obtain ⟨i,hi,e⟩:=jm hm
 have e1:ns[i]?=some n:=by rw [aW hi,e]
 obtain ⟨C,h1,h2⟩:=N.at i n e1
 rw [<- hn,aO,e1] at h1
 cases h1
 exact il X G h2.ns
theorem Jt {K:a7}{base:bw}{cls:Str->ag}{x:Str}{C CP:ag}{ns:List Str}{Cs:List ag}{l:List (ag×Bool)}{j:Nat} (mb:bU K C (.type "BaseException")=some true) (Q:∃ bm,wl base C bm/\∀ v,(v==bg C)=false->bU K C v=some true->bm.contains v=true) (W:Wy K C CP l) (N:R5 K ns Cs)
  (hc:cls x=C) (hp:cls "PlanError"=CP) (hn:ns.map cls=Cs) (hl:l.map (·.1)=Cs) (hb:l.map (·.2)=bits j) (hj:j<11) (hx:x∈ns):Xf K base cls ns (cls x) j:=by
 obtain ⟨bm,o,mm⟩:=Q
 subst hc hp
 have hcl:(fB K (cls x)).isSome=true:=by
  obtain ⟨i,hi,e⟩:=jm hx
  have e1:ns[i]?=some x:=by rw [aW hi,e]
  obtain ⟨C,h1,h2⟩:=N.at i x e1
  rw [<- hn,aO,e1] at h1
  cases h1
  obtain ⟨cd,h3⟩:=h2.cl
  rw [h3];rfl
 refine ⟨⟨W.x1,W.x2,W.x3,W.x4,W.x5,W.x6,mb,hcl⟩,fun i n e=>?_,U1 W.x8,⟨bm,o,mm _ W.x9 W.x7⟩,hj⟩
 obtain ⟨D,h1,h2⟩:=N.at i n e
 have h3:Cs[i]?=some (cls n):=by rw [<- hn,aO,e];rfl
 rw [h1] at h3
 cases h3
 obtain ⟨cd,h4⟩:=h2.cl
 have hi:l[i]?≠none:=fun z=>by
  rw [<- hl,aO,z] at h1
  cases h1
 cases hq:l[i]? with
 |none=>exact (hi hq).elim
 |some q =>
  obtain ⟨D,b⟩:=q
  have e1:D=cls n:=by rw [<- hl,aO,hq] at h1;cases h1;rfl
  have e2:(bits j)[i]?=some b:=by rw [<- hb,aO,hq];rfl
  subst e1
  obtain ⟨s1,s2⟩:=W.sb.at i _ b hq
  have e3:b=decide (i=j):=by
   unfold bits at e2
   match i,e2 with
   | 0,e|1,e|2,e|3,e|4,e|5,e|6,e|7,e|8,e|9,e|10,e=>simpa using e.symm
   |(i+11),e=>simp at e
  rw [<- e3]
  exact QS h4 h2.ty s1 s2
theorem SG {K:a7}{base:bw}{mg:Str->Option ae}{cls:Str->ag}{x:Str}{C CP:ag}{ns:List Str}{Cs:List ag}{l:List (ag×Bool)}{j:Nat} (X:K.In base) (G:base.Ns bt mg) (T:TopC K x C) (W:Wy K C CP l) (N:R5 K ns Cs)
  (hc:cls x=C) (hp:cls "PlanError"=CP) (hn:ns.map cls=Cs) (hl:l.map (·.1)=Cs) (hb:l.map (·.2)=bits j) (hj:j<11) (hx:x∈ns):Xf K base cls ns (cls x) j:=Jt T.mb (Ho X G T.ns T.ex T.mb).2 W N hc hp hn hl hb hj hx
end
end J
section
namespace L2
open PySem PySem.Spec PyProof.Rows
section
end
end L2
namespace J
open PySem L2
def keysOf:List D->Option (List gj)
 |[]=>some []
 |d::r=>(qy d).bind fun k=>(keysOf r).map (k::·)
def SH:D->Option (List gj)
 |.tuple ds=>keysOf ds
 |_=>none
def Xz:List (D×D)->List (D×D)
 |(.none,_)::r=>r
 |l=>l
def R6 (ds:List (D×D)):Bool:=!ds.isEmpty&&ds.all fun kv=>(SH kv.1).isSome
section
variable {c:C}{a b e k:bR}{ga gb g gk:az->R D}{pos p apos:Pos}{x:Str}
def inT (neg:Bool):D->D->R D
 |k,.dict ds=>match SH k with
  |some _=>if R6 (Xz ds)=true then .ok (.bool (if neg then !(vg (Xz ds) k).isSome else (vg (Xz ds) k).isSome)) else .no
  |none=>.no
 |_,_=>.no
end
end J
namespace J
open PySem L2
section
end
end J
namespace L2
open PySem PySem.Spec PyProof.Rows
end L2
namespace J
open PySem L2
def ue:List D->Option (List Int)
 |[]=>some []
 |.int b::r=>(ue r).map (b::·)
 |_::_=>none
theorem F6:∀ {bs:List Int},ue ds=some bs->ds=bs.map bC:=by
 induction ds with
 |nil=>intro bs h;cases h;rfl
 |cons d r ih =>
  intro bs h;cases d with
  |int b =>
   have h:(ue r).map (b::·)=some bs:=h;cases hr:ue r with
   |none=>rw [hr] at h;cases h
   |some z=>rw [hr] at h;cases h;rw [ih hr];rfl
  |_=>cases h
theorem zm:∀ bs:List Int,ue (bs.map bC)=some bs
 |[]=>rfl
 |b::r=>by show (ue (r.map bC)).map (b::·)=_;rw [zm r];rfl
end J
namespace J
open PySem L2
end J
namespace J
open PySem L2
end J
namespace J
open PySem L2
def rS (i:Nat) (ρ:az):R D:=Gc ρ i
def rB (i:Nat) (ρ:az):R D:=Eu ρ i
def kI (n:Int) (_:az):R D:=.ok (.int n)
def kB (b:Bool) (_:az):R D:=.ok (.bool b)
def kN (_:az):R D:=.ok .none
def kT (_:az):R Bool:=.ok true
theorem VY (i:Nat) (ρ:az):rS i ρ=Gc ρ i:=id rfl
theorem Uh (i:Nat) (ρ:az):rB i ρ=Eu ρ i:=id rfl
theorem VZ (n:Int) (ρ:az):kI n ρ=.ok (.int n):=id rfl
theorem V_ (b:Bool) (ρ:az):kB b ρ=.ok (.bool b):=id rfl
theorem W0 (ρ:az):kN ρ=.ok .none:=id rfl
end J
end
section
namespace L2
open PySem PySem.Spec PyProof.Rows
section
end
end L2
namespace J
open PySem L2
section
end
end J
end
namespace L2
open PySem PySem.Spec PyProof.Rows
section
open Builtin Builtin.ObjectAttr
inductive jA (h:bw) (bmB:List ae) (nms:List Str):List ae->Prop
 |base:jA h bmB nms bmB
 |own {A:ag}{c0:ae}{dd:Option ag}{cd:ClassData}{sl:Array (Option ae)}{mA:Str->Option ae}{tl:List ae} :
   h.get? A=some { cls:=c0,dict:=dd,data:=.cls cd,slots:=sl }->h.Ns cd.ns mA->(∀ n∈nms,mA n=none)->jA h bmB nms tl->jA h bmB nms (.ref A::tl)
theorem jA.ownTail   (hi:("__init__" : Str)∈nms) (T:jA h bmB nms tl):OwnTail h bmB tl:=by
 induction T with
 |base=>exact .base
 |own a b c _ ih=>exact .own a b (c _ hi) ih
theorem jA.keeps   (T:jA h bmB nms tl) (hk:∀ b o,h.get? b=some o->h'.get? b=some o):jA h' bmB nms tl:=by
 induction T with
 |base=>exact .base
 |own a b c _ ih=>exact .own (hk _ _ a) (b.keeps hk) c ih
theorem jA.hasType   (T:jA h bmB nms tl)  (hb:bmB.contains (.type X)=b):tl.contains (.type X)=b:=by
 induction T with
 |base=>exact hb
 |own _ _ _ _ ih=>rw [gf,ih];rfl
theorem jA.refuse     (T:jA h bmB nms tl) (hp:refuseLoop self what bmB=pure ()):refuseLoop self what tl=pure ():=by
 induction T with
 |base=>exact hp
 |own _ _ _ _ ih=>rw [refuseLoop_ref];exact ih
section
variable {M:Gg}{A:bV}{E:ae->ah->Prop}{h:bw}{g:Array Gf}{d:LK}{t:Nat}{os:OsState}
theorem vj     (hm:name∈nms) (T:jA h bmB nms tl) (hrest:PQ bmB name=pure y) (hq:Q y ⟨h,g,d,t,os⟩) :
  ak M A (PQ tl name) Q E ⟨h,g,d,t,os⟩:=by
 induction T with
 |base=>rw [hrest];exact aa hq
 |own hA hN hni _ ih =>
  rw [lookupAlong_cons];refine a6 (wpAny_classOwn_cls hA hN ?_);rw [hni _ hm];exact ih
variable {nm q:Str}{C N x:ag}{bs bm bmB:List ae}{hdct:Bool}{sn:List Str}{sub:List ae}{ab:Bool}{col:Option Bool}{dd:Option ag}{k0 k1 k2 k3 k5:Option ae}{B newId initId sa owner:String}{nms:List Str}{name:Str}{v:ae}{mN:Str->Option ae}
theorem oR
  (hC:h.get? C=some (fm nm q C N bs bm hdct sn sub ab col dd k0 k1 k2 k3 k5 newId)) (hn:h.Ns N mN) (hm:name∈nms) (T:jA h bmB nms bm) (hbm:mroOf (.type B)=pure bmB) (hB:fM (.type B) name=pure y)
  (hq:Q (match mN name with|some v=>some v|none=>y) ⟨h,g,d,t,os⟩):ak M A (fM (.ref C) name) Q E ⟨h,g,d,t,os⟩:=by
 have hrest:PQ bmB name=pure y:=by rw [typeLookup_eq,hbm] at hB;exact hB
 rw [typeLookup_eq];refine a6 (wpAny_mroOf_exc hC ?_);rw [lookupAlong_cons];refine a6 (wpAny_classOwn_exc hC hn ?_);cases hv:mN name with
 |some v=>rw [hv] at hq;exact aa hq
 |none=>rw [hv] at hq;exact vj hm T hrest hq
theorem L5   (SF:yn B bmB sa owner) (T:jA h bmB nms bm)
  (hC:h.get? C=some (fm nm q C N bs bm hdct sn sub ab col dd k0 k1 k2 k3 k5 newId)) (hx:h.get? x=some o) (hc:o.cls=.ref C) (hq:Q () ⟨h,g,d,t,os⟩) :
  ak M A (ml sa ⟨[.ref x,nameV,v],[]⟩) Q E ⟨h,g,d,t,os⟩:=by
 have hcB:(bg C::bm).contains (.type owner)=true:=by rw [gf,T.hasType SF.hasOwner,wS]
 have ha:=SF.args (.ref x) nameV v;simp only [ml,SF.kind,SF.split];refine a6 ?_
 ·unfold pA;repeat (first|(with_reducible refine dO hx ?_;rw [hc])|(with_reducible refine jS hC ?_;rw [hcB])|wp_step)
  cases hsig:Manifest.signature? sa with
  |none=>exact aa hq
  |some sig =>
   simp only [Gv,hsig] at ha;have h2:Bind.checkArgs sa sig ⟨[.ref x,nameV,v],[]⟩=pure ():=ha;show ak M A (Bind.checkArgs sa sig ⟨[.ref x,nameV,v],[]⟩) Q E _;rw [h2];exact aa hq
end
section
variable {prog:bf}{w:bE}{A:bV}{E:ae->ah->Prop}{h:bw}{g:Array Gf}{d:LK}{t:Nat}{os:OsState}
variable {nm q:Str}{C N x:ag}{bs bm bmB:List ae}{sn:List Str}{sub:List ae}{ab:Bool}{col:Option Bool}{dd:Option ag}{k0 k1 k2 k3 k5:Option ae}{B newId initId sa owner:String}{nms:List Str}{name:Str}{v:ae}{mN:Str->Option ae}
theorem Db   (SF:yn B bmB sa owner) (T:jA h bmB nms bm)
  (hC:h.get? C=some (fm nm q C N bs bm true sn sub ab col dd k0 k1 k2 k3 k5 newId)) (hn:h.Ns N mN) (hm:name∈nms) (hna:mN name=none)
  (hB:fM (.type B) name=pure none) (hx:h.get? x=some o) (hc:o.cls=.ref C) (hnc:∀ c,o.data≠.cls c) (hdn:o.dict=none)
  (hq:∀ h' tk',h'.get? x=some { cls:=o.cls,dict:=some h.objs.size,data:=o.data,slots:=o.slots }->(∀ b ob,b≠x->h.get? b=some ob->h'.get? b=some ob)->h'.Ns1 h.objs.size (fun y=>if y=name then some v else none)->Q (.done (.ret .none)) ⟨h',g,d,tk',os⟩) :
  ak (aB prog w) A (fK.«object.__setattr__» ⟨[.ref x,.str name tk,v],[]⟩) Q E ⟨h,g,d,t,os⟩:=by
 have hpass:=T.refuse (SF.passes (.ref x));unfold fK.«object.__setattr__»;repeat (first|rw [refuse_eq]|(rw [refuseLoop_ref,hpass])|(with_reducible refine dO hx ?_;rw [hc])|with_reducible refine wpAny_mroOf_exc hC ?_|(with_reducible refine oR hC hn hm T SF.mro hB ?_;rw [hna])|wp_step)
 rw [hdn,if_neg (by simp [typeHasDict])];split
 ·rename_i hcd
  cases hcd
 split
 ·rename_i c hcd
  exact absurd hcd (hnc c)
 ·have hx₁:(h.push { cls:=.type "dict",data:=.dict #[] }).get? x=some o:=ac _ hx;have hxs:x≠h.objs.size:=aD (am hx);refine a6 (wpAny_alloc' ?_);refine a6 (wpAny_update' hx₁ ?_);refine aa ?_;have hgd:((h.push { cls:=.type "dict",data:=.dict #[] }).update x fun o=>{ cls:=o.cls,dict:=some h.objs.size,data:=o.data,slots:=o.slots }).get? h.objs.size
    = some { cls:=.type "dict",data:=.dict #[] } :=
   (Kf _ _ _ _ hxs.symm).trans (Mc rfl rfl)
  have hnd:((h.push { cls:=.type "dict",data:=.dict #[] }).update x fun o=>{ cls:=o.cls,dict:=some h.objs.size,data:=o.data,slots:=o.slots }).Ns h.objs.size (fun _=>none) :=
   ⟨_,#[],_,hgd,rfl,fun e he=>absurd he (by simp),fun _=>rfl⟩
  show ak _ _ (storeInDict h.objs.size (.str name tk) name v) _ _ _;unfold storeInDict newKeyGuard;refine a6 (aa (a6 (wpAny_nsSet1 (Heap.Ns1.of_empty hnd) fun h' hn' hs=>?_)));obtain ⟨oD,esD,epD,hoD,hdD,hcD⟩:=hn'.count (Within.cons name v Within.nil);refine a6 (wpAny_lookBehind hoD (by rw [hdD];exact pastItsLine_dict (bD hcD (by rw [aM,bi,vR];omega))) ?_);wp_walk;refine hq h' _ ?_ (fun b ob hbx hb=>?_) hn'
  ·refine (hs.2 x hxs).trans (gq _ hx₁ ?_);have hfr:=(Heap.get?_some_iff.mp hx).2;obtain ⟨oc,od,odt,osl⟩:=o;cases odt<;>first|rfl|exact hfr
  ·exact (hs.2 b (aD (am hb))).trans ((Kf _ _ _ _ hbx).trans (ac _ hb))
theorem wX  (SF:yn B bmB sa owner) (T:jA h bmB nms bm)
  (hC:h.get? C=some (fm nm q C N bs bm true sn sub ab col dd k0 k1 k2 k3 k5 newId)) (hn:h.Ns N mN) (hs:("__setattr__" : Str)∈nms) (hns:mN "__setattr__"=none) (hm:name∈nms) (hna:mN name=none)
  (hB:fM (.type B) name=pure none) (hx:h.get? x=some o) (hc:o.cls=.ref C) (hnc:∀ c,o.data≠.cls c) (hdn:o.dict=none)
  (hq:∀ h' tk',h'.get? x=some { cls:=o.cls,dict:=some h.objs.size,data:=o.data,slots:=o.slots }->(∀ b ob,b≠x->h.get? b=some ob->h'.get? b=some ob)->h'.Ns1 h.objs.size (fun y=>if y=name then some v else none)->Q () ⟨h',g,d,tk',os⟩) :
  ak (aB prog w) A (setAttr (.ref x) name v) Q E ⟨h,g,d,t,os⟩:=by
 have f3:=SF.slot.bind (.ref x);unfold setAttr callSpecial? specialOf;repeat (any_goals (first|assumption|(with_reducible refine dO hx ?_;rw [hc])|(with_reducible refine oR hC hn hs T SF.mro SF.slot.lookup ?_;rw [hns])|wp_step))
 refine js SF.slot.plain SF.entry (L5 SF T hC hx hc (Db SF T hC hn hm hna hB hx hc hnc hdn fun h' tk' a1 a2 a3=>?_));repeat (any_goals (first|assumption|wp_step))
 exact hq h' tk' a1 a2 a3
end
end
section
section
variable {prog:bf}{w:bE}{A:bV}{E:ae->ah->Prop}{h:bw}{g:Array Gf}{d:LK}{t:Nat}{os:OsState}
variable {nm q:Str}{C N:ag}{bs bm bmB:List ae}{hdct:Bool}{sn:List Str}{sub:List ae}{ab:Bool}{col:Option Bool}{dd:Option ag}{k0 k1 k2 k3 k5:Option ae}{B newId initId:String}
theorem xF (F:tW B newId initId bmB) (T:OwnTail h bmB bm) {mN:Str->Option ae}{bK:List ae}{fI:ag}{oI:Obj}{Q:Fin->ah->Prop}
  (hC:h.get? C=some (fm nm q C N bs bm hdct sn sub ab col dd k0 k1 k2 k3 k5 newId)) (hn:h.Ns N mN) (hi:mN "__init__"=some (.ref fI))
  (hfI:h.get? fI=some oI) (hfc:oI.cls=.type "function")
  (hq:∀ h' e,tx h h' e (.ref C) bK ->
   ak (aB prog w) A (call (.ref fI) (.ref e::bK)) (fun r s'=>r=.none/\Q (.done (.ret (.ref e))) s') E ⟨h',g,d,t,os⟩) (hrest:bK.length<=sizeLine:=by size_fits) :
  ak (aB prog w) A (fK.«type.__call__» ⟨.ref C::bK,[]⟩) Q E ⟨h,g,d,t,os⟩:=by
 repeat (first|with_reducible refine dO hC ?_|with_reducible refine wpAny_madeBy_exc hC ?_|wp_step)
 refine codeAny_call_builtin_code (n5 _ F.quiet) (wpAny_check_new_subT F T hC ?_);refine codeAny_exc_new_subT F T hC ?_ hrest;show ak _ _ _ _ _ _;have hC₁:=ac { cls:=.ref C,data:=.fields #[.ref h.objs.size,.none,.none,.none,.bool false,.none] }
  (ac { cls:=.type "tuple",data:=.seq bK.toArray } hC)
 have hfI₁:=ac { cls:=.ref C,data:=.fields #[.ref h.objs.size,.none,.none,.none,.bool false,.none] }
  (ac { cls:=.type "tuple",data:=.seq bK.toArray } hfI)
 have hn₁:((h.push { cls:=.type "tuple",data:=.seq bK.toArray }).push { cls:=.ref C,data:=.fields #[.ref h.objs.size,.none,.none,.none,.bool false,.none] }).Ns N mN :=
  let ⟨o,es,ep,e,r⟩:=hn;⟨o,es,ep,ac _ (ac _ e),r⟩
 have hget:((h.push { cls:=.type "tuple",data:=.seq bK.toArray }).push
   { cls:=.ref C,data:=.fields #[.ref h.objs.size,.none,.none,.none,.bool false,.none] }).get? (h.objs.size+1)=some
   { cls:=.ref C,data:=.fields #[.ref h.objs.size,.none,.none,.none,.bool false,.none] }:=by heap_get
 have hcC:(bg C::bm).contains (.ref C)=true:=by simp
 have T₁:=T.keeps (h':=(h.push { cls:=.type "tuple",data:=.seq bK.toArray }).push { cls:=.ref C,data:=.fields #[.ref h.objs.size,.none,.none,.none,.bool false,.none] })
  fun b o e=>ac _ (ac _ e)
 unfold pA;repeat (first|with_reducible refine dO hget ?_|(with_reducible refine jS hC₁ ?_;rw [hcC])|wp_step)
 show ak _ _ (fM (.ref C) _) _ _ _;refine wpAny_typeLookup_tail hC₁ hn₁ T₁ F.mroIs F.init.lookup ?_;rw [hi];refine bW (a6 ?_);unfold bindSpecial;refine a6 (iI (T:="function") ⟨_,hfI₁,hfc⟩ ?_);rw [if_pos (by decide)];refine aa (a6 (aZ (hq _ (h.objs.size+1) ⟨fun b o hb=>ac _ (ac _ hb),tf (ik _),h.objs.size,hget,tf (ar _),?_⟩) (fun r s' hr=>?_) fun _ _ x=>x))
 ·exact ac _ (Mc rfl rfl)
 ·obtain ⟨rfl,hQ⟩:=hr;wp_walk;exact hQ
theorem Hv (F:tW B newId initId bmB) (T:OwnTail h bmB bm) {mN:Str->Option ae}{bK:List ae}{fI:ag}{oI:Obj}{Q:ae->ah->Prop}
  (hC:h.get? C=some (fm nm q C N bs bm hdct sn sub ab col dd k0 k1 k2 k3 k5 newId)) (hn:h.Ns N mN) (hi:mN "__init__"=some (.ref fI))
  (hfI:h.get? fI=some oI) (hfc:oI.cls=.type "function")
  (hq:∀ h' e,tx h h' e (.ref C) bK ->
   ak (aB prog w) (A.under (.builtin "type.__call__" ⟨.ref C::bK,[]⟩)) (call (.ref fI) (.ref e::bK)) (fun r s'=>r=.none/\Q (.ref e) s') E ⟨h',g,d,t,os⟩) (hrest:bK.length<=sizeLine:=by size_fits) :
  ak (aB prog w) A (call (.ref C) bK) Q E ⟨h,g,d,t,os⟩:=by
 have f1:=tc_lookup;have f2:=tc_bind (.ref C);have hT:(⟨h,g,d,t,os⟩:ah).TypeIs (.ref C) "type":=⟨_,hC,rfl⟩;refine kF (uH ?_);show ak _ _ (callAny (.ref C) _) _ _ _;repeat (any_goals (first|assumption|with_reducible refine dO hC ?_|wp_step))
 refine ⟨rfl,?_⟩;refine codeAny_call_builtin_at (n5 _ (by decide +kernel)) entry_typeCall (wpAny_check_type_call_sub hC (xF (hrest:=hrest) F T hC hn hi hfI hfc fun h' e hm=>?_));exact hq h' e hm
end
section
theorem o8   (hbase:bm.contains (.type "BaseException")=true) (hh:A.handled=none)
  (h:ak M A x (fun v s₁=>∃ e dx tt sl,v=.ref e/\s₁.heap.get? C=some (fm nm q C N bs bm hdct sn sub ab col dd k0 k1 k2 k3 k5 newId) /\
   s₁.heap.get? e=some { cls:=.ref C,dict:=dx,data:=.fields #[.ref tt,.none,.none,.none,.bool false,.none],slots:=sl }/\E (.ref e) s₁) E s) :
  ak M A (raiseStmt env (some x) none) Q E s:=by
 have hcB:(bg C::bm).contains (.type "BaseException")=true:=by rw [gf,hbase,wS]
 unfold raiseStmt;refine a6 (aZ h (fun v s₁ h₁=>?_) fun _ _ x=>x);obtain ⟨e,dx,vs,sl,rfl,hC,he,hE⟩:=h₁;obtain ⟨hp,g,d,tk,os⟩:=s₁;repeat (first|with_reducible refine dO he ?_|with_reducible refine dO hC ?_|(with_reducible refine jS hC ?_;rw [hcB])|wp_step)
 exact wpAny_raiseNew_none hh hE
end
section
theorem wY (F:tW B newId initId bmB)
  (hbase:bm.contains (.type "BaseException")=true) (hh:A.handled=none) (hplain:(gm cpos (aA args env)).any (·.1)=false) (hi:mN "__init__"=some (.ref fI)) (hfc:oI.cls=.type "function")
  (h:ak (aB prog w) A (cL (.Name x np) env) (fun f s₁=>f=.ref C/\ak (aB prog w) A (evalArgs (.ref C) true (gm cpos (aA args env)) [])
   (fun a s₂=>a.kw=[]/\a.pos.length<=sizeLine/\s₂.heap.get? C=some (fm nm q C N bs bm hdct sn sub ab col dd k0 k1 k2 k3 k5 newId)/\s₂.heap.Ns N mN/\OwnTail s₂.heap bmB bm/\s₂.heap.get? fI=some oI /\
    ∀ h' e,tx s₂.heap h' e (.ref C) a.pos->ak (aB prog w) (A.under (.builtin "type.__call__" ⟨.ref C::a.pos,[]⟩)) (call (.ref fI) (.ref e::a.pos)) (fun r s'=>r=.none/\s'.heap.get? C=some (fm nm q C N bs bm hdct sn sub ab col dd k0 k1 k2 k3 k5 newId)/\(∃ dx tt sl,s'.heap.get? e=some { cls:=.ref C,dict:=dx,data:=.fields #[.ref tt,.none,.none,.none,.bool false,.none],slots:=sl })/\E (.ref e) s') E { s₂ with heap:=h' }) E s₁) E s) :
  ak (aB prog w) A (exec (.Raise (some (.Call (.Name x np) args [] cpos)) none pos) env) Q E s:=by
 rw [arm_exec_Raise];first
  |refine a6 (du (o8 (C:=C) (nm:=nm) (q:=q) (N:=N) (bs:=bs) (bm:=bm) (hdct:=hdct) (sn:=sn) (sub:=sub) (ab:=ab) (col:=col) (dd:=dd) (k0:=k0) (k1:=k1) (k2:=k2) (k3:=k3) (k5:=k5) (newId:=newId) hbase hh (a6 (aZ (Ao (aZ h (fun f s₁ h₁=>?_) fun _ _ x=>x)) (fun v s₃ h₃=>a6 (du (aa h₃))) fun _ _ x=>x))))
  |(simp only [evalOpt,Option.map];refine a6 (du (o8 (C:=C) (nm:=nm) (q:=q) (N:=N) (bs:=bs) (bm:=bm) (hdct:=hdct) (sn:=sn) (sub:=sub) (ab:=ab) (col:=col) (dd:=dd) (k0:=k0) (k1:=k1) (k2:=k2) (k3:=k3) (k5:=k5) (newId:=newId) hbase hh (a6 (aZ (Ao (aZ h (fun f s₁ h₁=>?_) fun _ _ x=>x)) (fun v s₃ h₃=>a6 (du (aa h₃))) fun _ _ x=>x)))))
  |(refine a6 (du (o8 (C:=C) (nm:=nm) (q:=q) (N:=N) (bs:=bs) (bm:=bm) (hdct:=hdct) (sn:=sn) (sub:=sub) (ab:=ab) (col:=col) (dd:=dd) (k0:=k0) (k1:=k1) (k2:=k2) (k3:=k3) (k5:=k5) (newId:=newId) hbase hh ?_));refine a6 (aZ (Ao (aZ h (fun f s₁ h₁=>?_) fun _ _ x=>x)) (fun v s₃ h₃=>a6 (du (aa h₃))) fun _ _ x=>x))
 obtain ⟨rfl,h₁⟩:=h₁;unfold callWith;refine a6 (bW (aZ h₁ (fun a s₂ h₂=>a6 (du ?_)) fun _ _ x=>x));obtain ⟨apos,akw⟩:=a;obtain ⟨hkw,hlen,hC,hn,T,hfI,h₂⟩:=h₂;obtain rfl:akw=[]:=hkw;obtain ⟨hp,g,d,tk,os⟩:=s₂;simp only [hplain];refine a6 (wpAny_keeperOf_exc hC ?_);refine a6 (Hv (hrest:=hlen) F T hC hn hi hfI hfc fun h' e hm=>aZ (h₂ h' e hm) (fun r s' hr=>?_) fun _ _ x=>x);obtain ⟨rfl,hC',⟨dx,vs,sl,he⟩,hE⟩:=hr;refine ⟨rfl,a6 (bW (wpAny_point (aa ?_)))⟩;exact ⟨e,dx,vs,sl,rfl,hC',he,hE⟩
end
end
section
structure Hw (h:bw) (fI:ag):Prop where
 ex:∃ (oI:Obj) (fd:eX) (p1 p2 p3 p4:Pos),h.get? fI=some oI/\oI.cls=.type "function"/\oI.data=.func fd/\h.CodeRec fd.code fd.qualname/\fd.scope.isCoroutine=false/\fd.scope.isGenerator=false/\fd.scope.kind=.function /\
  fd.scope.names=[(("self" : Str),qN),(("number" : Str),qN)]/\fd.body=.stmts [.Assign [.Attribute (.Name "self" p1) "number" p2] (.Name "number" p3) p4]/\∀ (s:ah) (e v:ae),(∀ b o,h.get? b=some o->s.heap.get? b=some o)->wN s fd ⟨[e,v],[]⟩ [("self",e),("number",v)]
section
variable {prog:bf}{w:bE}{A:bV}{E:ae->ah->Prop}{s:ah}
variable {nm q:Str}{C N e fI:ag}{bs bm bmB:List ae}{sn:List Str}{sub:List ae}{ab:Bool}{col:Option Bool}{dd:Option ag}{k0 k1 k2 k3 k5:Option ae}{B newId initId sa owner:String}{nms:List Str}{v:ae}{mN:Str->Option ae}
theorem L6   (I:Hw base fI) (kb:∀ b o,base.get? b=some o->s.heap.get? b=some o) (hroom:A.depth<gK) (hlim:s.heap.NoLimit) (SF:yn B bmB sa owner) (T:jA s.heap bmB nms bm)
  (hC:s.heap.get? C=some (fm nm q C N bs bm true sn sub ab col dd k0 k1 k2 k3 k5 newId)) (hn:s.heap.Ns N mN) (hs:("__setattr__" : Str)∈nms) (hns:mN "__setattr__"=none) (hm:("number" : Str)∈nms) (hna:mN "number"=none)
  (hB:fM (.type B) "number"=pure none) (hx:s.heap.get? e=some oe) (hc:oe.cls=.ref C) (hnc:∀ c,oe.data≠.cls c) (hdn:oe.dict=none)
  (hq:∀ h' tk' D,h'.get? e=some { cls:=oe.cls,dict:=some D,data:=oe.data,slots:=oe.slots }->(∀ b ob,b≠e->s.heap.get? b=some ob->h'.get? b=some ob)->Q .none { s with heap:=h',toks:=tk' }) :
  ak (aB prog w) A (call (.ref fI) [.ref e,v]) Q E s:=by
 obtain ⟨oI,fd,p1,p2,p3,p4,ho,_,hd,hcd,hco,hgen,hk,hsc,hbody,hbind⟩:=I.ex
 have cd':s.heap.CodeRec fd.code fd.qualname:=by
  obtain ⟨c,oc,vs,tq,a1,a2,a3⟩:=hcd
  exact ⟨c,oc,vs,tq,a1,kb _ _ a2,a3⟩
 refine kF (codeAny_call_def hroom (kb _ _ ho) hd hlim cd' hbody (hbind s (.ref e) v kb) (by rw [hsc];decide) (by
  intro y hy
  rw [hsc]
  rcases List.mem_cons.mp hy with z|z
  ·rw [z];rfl
  ·rw [List.mem_singleton.mp z];rfl) (fun h₀ hns₀ keep=>?_) hco hgen hk)
 have l1:(callEnv fd s.heap.objs.size fI).kindOf "number"=some .local:=show fd.scope.names.lookup ("number" : Str)=_ by rw [hsc];rfl
 have l2:(callEnv fd s.heap.objs.size fI).kindOf "self"=some .local:=show fd.scope.names.lookup ("self" : Str)=_ by rw [hsc];rfl
 refine sS (B0 (pq (jr hk l1 hns₀ (v:=v) rfl (pq (jr hk l2 hns₀ (v:=.ref e) rfl ?_)))))
 refine wX SF (T.keeps keep) (keep _ _ hC) (hn.keeps keep) hs hns hm hna hB (keep _ _ hx) hc hnc hdn fun h' tk' a1 a2 _=>?_
 exact kq (hq h' tk' _ a1 fun b ob hb eb=>a2 b ob hb (keep b ob eb))
theorem Hx   (I:Hw base fI) (kb:∀ b o,base.get? b=some o->s.heap.get? b=some o) (hroom:A.depth<gK) (hlim:s.heap.NoLimit) (SF:yn B bmB sa owner) (T:jA s.heap bmB nms bm)
  (hC:s.heap.get? C=some (fm nm q C N bs bm true sn sub ab col dd k0 k1 k2 k3 k5 newId)) (hn:s.heap.Ns N mN) (hs:("__setattr__" : Str)∈nms) (hns:mN "__setattr__"=none) (hm:("number" : Str)∈nms) (hna:mN "number"=none)
  (hB:fM (.type B) "number"=pure none) (hx:s.heap.get? e=some oe) (hc:oe.cls=.ref C) (hnc:∀ c,oe.data≠.cls c) (hdn:oe.dict=none)
  (hq:∀ h' tk' D,h'.get? e=some { cls:=oe.cls,dict:=some D,data:=oe.data,slots:=oe.slots }->(∀ b ob,b≠e->s.heap.get? b=some ob->h'.get? b=some ob)->s.heap.objs.size<=D->h'.Ns1 D (fun y=>if y="number" then some v else none)->Q .none { s with heap:=h',toks:=tk' }) :
  ak (aB prog w) A (call (.ref fI) [.ref e,v]) Q E s:=by
 obtain ⟨oI,fd,p1,p2,p3,p4,ho,_,hd,hcd,hco,hgen,hk,hsc,hbody,hbind⟩:=I.ex
 have cd':s.heap.CodeRec fd.code fd.qualname:=by
  obtain ⟨c,oc,vs,tq,a1,a2,a3⟩:=hcd
  exact ⟨c,oc,vs,tq,a1,kb _ _ a2,a3⟩
 refine kF (codeAny_call_def hroom (kb _ _ ho) hd hlim cd' hbody (hbind s (.ref e) v kb) (by rw [hsc];decide) (by
  intro y hy
  rw [hsc]
  rcases List.mem_cons.mp hy with z|z
  ·rw [z];rfl
  ·rw [List.mem_singleton.mp z];rfl) (fun h₀ hns₀ keep=>?_) hco hgen hk)
 have l1:(callEnv fd s.heap.objs.size fI).kindOf "number"=some .local:=show fd.scope.names.lookup ("number" : Str)=_ by rw [hsc];rfl
 have l2:(callEnv fd s.heap.objs.size fI).kindOf "self"=some .local:=show fd.scope.names.lookup ("self" : Str)=_ by rw [hsc];rfl
 refine sS (B0 (pq (jr hk l1 hns₀ (v:=v) rfl (pq (jr hk l2 hns₀ (v:=.ref e) rfl ?_)))))
 refine wX SF (T.keeps keep) (keep _ _ hC) (hn.keeps keep) hs hns hm hna hB (keep _ _ hx) hc hnc hdn fun h' tk' a1 a2 a3=>?_
 exact kq (hq h' tk' _ a1 (fun b ob hb eb=>a2 b ob hb (keep b ob eb)) (b9 hns₀.lt) a3)
end
section
variable {M:Gg}{A:bV}{E:ae->ah->Prop}{s:ah}
theorem zo
  (hfr:A.frames=some (env::outer)) (hf:env.frame=some L) (hkb:base.StaysIn h) (hl:h.FunFrames base (env::outer)) (kp:∀ b o,h.get? b=some o->s.heap.get? b=some o) (new:h.get? e=none) (he:s.heap.get? e=some { cls:=C,dict:=dx,data:=.fields #[.ref t,.none,.none,.none,.bool false,.none],slots:=sl })
  (hQ:∀ h',ku base outer e C (.ref t) h'->s.heap.UpToSlots h'->Q () { s with heap:=h' }):ak M A (Ac env (.ref e)) Q E s:=by
 have fresh:∀ b,h.get? b=none->base.get? b=none:=fun b hb=>by
  cases hq:base.get? b with
  |none=>rfl
  |some o'=>have:=hkb b o' hq;rw [hb] at this;cases this
 refine wpAny_leaving_firstW (a0:=.ref t) hfr (hl.of_keeps fun b o hb _=>⟨o,kp b o hb,rfl⟩) hf he (fun b o hb=>kp b o (hkb b o hb)) (fresh e new) rfl rfl rfl fun h' hL=>?_
 obtain ⟨k1,⟨_,_,k2⟩,k3,k4⟩:=hL
 exact hQ h' ⟨k1,fresh e new,k2,k3⟩ k4
end
end
section
structure Hy (x:Str) (C:ag) (mg:Str->Option ae) (base:bw):Prop where
 bound:mg x=some (.ref C)
 obj:∃ nm q N bs bm sn sub ab col dd k0 k1 k2 k3 k5 mN fI,base.get? C=some (fm nm q C N bs bm true sn sub ab col dd k0 k1 k2 k3 k5 "ValueError.__new__")/\base.Ns N mN/\mN "__init__"=some (.ref fI)/\mN "__setattr__"=none/\mN "number"=none /\
  jA base [.type "ValueError",.type "Exception",.type "BaseException",.type "object"] ["__init__","__setattr__","number"] bm/\Hw base fI
section
variable {P:bf}{w:bE}{K:a7}{mg:Str->Option ae}{base:bw}{N:List Str}{qual:Str}{scope:gH}{f:ag}{cd:ae}{A:bV}{outer:List Env}{s:ah}{H:Hp}{E:XK}
theorem AC         (I:bG (eZ (jf P w) P w K mg base N qual scope f cd A outer s H E) pins σ H1 s1)
  (kp:∀ b o,s1.heap.get? b=some o->h'.get? b=some o) (new:s1.heap.get? ea=none) (he:h'.get? ea=some { cls:=.ref C,dict:=dx,data:=.fields #[.ref t,.none,.none,.none,.bool false,.none],slots:=sl }) (q:E (.ref C) none H1):(eZ (jf P w) P w K mg base N qual scope f cd A outer s H E).xe (.ref ea) { s1 with heap:=h',toks:=tk' }:=by
 let X:=eZ (jf P w) P w K mg base N qual scope f cd A outer s H E
 let B:=lA s1.heap (lJ X.stack)
 have hin:∀ env∈X.stack,∀ a,env.frame=some a->a∈lJ X.stack:=fun env he a hf=>xS he hf
 have stB:B.StaysIn s1.heap:=fun b o e=>jq _ e
 have nS:∀ b,b∉lJ X.stack->∀ o,s1.heap.get? b=some o->B.get? b=some o:=fun b n o e=>fi _ e n
 show ak _ X.A (Ac X.env (.ref ea)) _ _ _
 refine zo (s:={ s1 with heap:=h',toks:=tk' }) (base:=B) (outer:=outer) (L:=X.env.locals) I.ok.frames rfl stB (pB I.stack hin) kp new he fun h2 fl up=>?_
 have st2:=fl.1
 have bl:∀ b o,s.heap.get? b=some o->b∉lJ outer->b∉lJ X.stack:=fun b o e n z=>by
  rcases List.mem_cons.mp (I.stkSub b z) with y|y
  ·exact absurd (am e) (by rw [y];exact Nat.not_lt.mpr I.ok.above)
  ·exact n y
 have noex:∀ b:ag,b∉X.ex:=fun b z=>absurd (show b∈([] : List ag) from z) (by simp)
 have cov:∀ b u,H1 b=some u->∃ o,B.get? b=some o:=fun b u e=>by
  have hb:b∉lJ X.stack:=fun z=>by have:=I.stkFree b z;rw [e] at this;cases this
  obtain ⟨o,k⟩:=rg I.hok e
  exact ⟨o,nS b hb o k⟩
 refine ⟨ea,C,t,H1,B,none,rfl,I.os,I.bare,⟨fl,cov,fun b o e n hb=>?_,fun b o e hb=>?_,⟨fun b o e n hb hx'=>?_,fun b o e n hb hx'=>?_,fun b o e n _=>I.base.free b o e n (noex b),fun b o e _=>?_,I.base.tups,I.base.frzs,I.base.tbls⟩,fun b u e=>?_⟩,Lk.no _ _,q⟩
 ·exact nS b (bl b o e hb) o (I.base.keep b o e n hb (noex b))
 ·obtain ⟨o',k⟩:=I.base.there b o e (noex b)
  exact ⟨o',nS b (bl b o e hb) o' k⟩
 ·exact st2 b o (nS b (bl b o e hb) o (I.base.keep b o e n hb (noex b)))
 ·obtain ⟨sl,k⟩:=I.base.slot b o e n hb (noex b)
  obtain ⟨_,o',k1,k2⟩:=cc I.funs hb
  rw [k] at k1;cases k1
  obtain ⟨sl',k3⟩:=up b _ (kp _ _ k) k2
  exact ⟨sl',k3⟩
 ·obtain ⟨o',k⟩:=I.base.there b o e (noex b)
  by_cases hb:b∈lJ outer
  ·obtain ⟨_,o2,k1,_⟩:=cc fl.2.2.1 hb
   exact ⟨o2,k1⟩
  ·exact ⟨o',st2 b o' (nS b (bl b o e hb) o' k)⟩
 ·refine (I.hok b u e).stay (fun c o hc k=>?_) (fun _ q=>q) fun _ _ q=>q
  have hcs:c∉lJ X.stack:=fun z=>by
   have:=I.stkFree c z
   rcases hc with y|y
   ·rw [y,e] at this;cases this
   ·rw [y] at this;cases this
  exact st2 c o (nS c hcs o k)
theorem AD (I:bG (eZ (jf P w) P w K mg base N qual scope f cd A outer s H E) pins σ H1 s1)
  (kp:∀ b o,s1.heap.get? b=some o->h'.get? b=some o) (new:s1.heap.get? ea=none) (he:h'.get? ea=some { cls:=.ref C,dict:=some D,data:=.fields #[.ref t,.none,.none,.none,.bool false,.none],slots:=sl })
  (nD:s1.heap.get? D=none) (ns:h'.Ns1 D mA) (rl:∀ y,w6 (([("number",v)] : List (Str×V)).lookup y) (mA y)) (q:E (.ref C) (some D) (upd H1 D (.xd [("number",v)]))):(eZ (jf P w) P w K mg base N qual scope f cd A outer s H E).xe (.ref ea) { s1 with heap:=h',toks:=tk' }:=by
 let X:=eZ (jf P w) P w K mg base N qual scope f cd A outer s H E
 obtain ⟨oD,esD,epD,hoD,hdD⟩:=id ns
 have nea:D≠ea:=fun z=>by
  rw [z,he] at hoD;cases hoD
  cases hdD.1
 let hx:=lA h' [ea]
 let B:=lA hx (lJ X.stack)
 have hin:∀ env∈X.stack,∀ a,env.frame=some a->a∈lJ X.stack:=fun env he a hf=>xS he hf
 have stB:B.StaysIn hx:=fun b o e=>jq _ e
 have kx:∀ b o,s1.heap.get? b=some o->hx.get? b=some o:=fun b o e=>fi _ (kp b o e) fun z=>by rw [bT.1 z,new] at e;cases e
 have nS:∀ b,b∉lJ X.stack->∀ o,s1.heap.get? b=some o->B.get? b=some o:=fun b n o e=>fi _ (kx b o e) n
 have fD:D∉lJ X.stack:=fun z=>by
  obtain ⟨_,o',k1,_⟩:=cc I.stack z
  rw [nD] at k1;cases k1
 have BD:B.get? D=some oD:=fi _ (fi _ hoD fun z=>nea (bT.1 z)) fD
 have hD1:H1 D=none:=by
  cases z:H1 D with
  |none=>rfl
  |some u=>obtain ⟨o,k⟩:=rg I.hok z;rw [nD] at k;cases k
 show ak _ X.A (Ac X.env (.ref ea)) _ _ _
 refine aZ (re (yK _ _) (zo (s:={ s1 with heap:=h',toks:=tk' }) (base:=B) (outer:=outer) (L:=X.env.locals) (h:=hx) (Q:=fun _ s2=>∃ h2,s2={ s1 with heap:=h2,toks:=tk' }/\ku B outer ea (.ref C) (.ref t) h2/\h'.UpToSlots h2) (E:=fun _ _=>False) I.ok.frames rfl stB
  (pB (I.stack.of_keeps fun b o e _=>⟨o,kx b o e,rfl⟩) hin) (fun b o e=>jq _ e) (DR _ (bT.2 rfl)) he fun h2 fl up=>⟨h2,rfl,fl,up⟩)) (fun _ s2 h2=>?_) fun _ _ z=>z.1.elim
 obtain ⟨⟨h2,rfl,fl,up⟩,dk⟩:=h2
 have st2:=fl.1
 have bl:∀ b o,s.heap.get? b=some o->b∉lJ outer->b∉lJ X.stack:=fun b o e n z=>by
  rcases List.mem_cons.mp (I.stkSub b z) with y|y
  ·exact absurd (am e) (by rw [y];exact Nat.not_lt.mpr I.ok.above)
  ·exact n y
 have noex:∀ b:ag,b∉X.ex:=fun b z=>absurd (show b∈([] : List ag) from z) (by simp)
 have nDs:∀ b o,s.heap.get? b=some o->b≠D:=fun b o e z=>by
  obtain ⟨o',k⟩:=I.base.there b o e (noex b)
  rw [z,nD] at k;cases k
 have cov:∀ b u,upd H1 D (.xd [("number",v)]) b=some u->∃ o,B.get? b=some o:=fun b u e=>by
  by_cases z:b=D
  ·rw [z];exact ⟨_,BD⟩
  ·rw [aU z] at e
   have hb:b∉lJ X.stack:=fun z=>by have:=I.stkFree b z;rw [e] at this;cases this
   obtain ⟨o,k⟩:=rg I.hok e
   exact ⟨o,nS b hb o k⟩
 refine ⟨ea,C,t,upd H1 D (.xd [("number",v)]),B,some D,rfl,I.os,I.bare,⟨fl,cov,fun b o e n hb=>?_,fun b o e hb=>?_,⟨fun b o e n hb hx'=>?_,fun b o e n hb hx'=>?_,fun b o e n _=>?_,fun b o e _=>?_,fun b xs e=>?_,fun b o xs e=>?_,fun b ps e=>?_⟩,fun b u e=>?_⟩,?_,q⟩
 ·exact nS b (bl b o e hb) o (I.base.keep b o e n hb (noex b))
 ·obtain ⟨o',k⟩:=I.base.there b o e (noex b)
  exact ⟨o',nS b (bl b o e hb) o' k⟩
 ·exact st2 b o (nS b (bl b o e hb) o (I.base.keep b o e n hb (noex b)))
 ·obtain ⟨sl,k⟩:=I.base.slot b o e n hb (noex b)
  obtain ⟨_,o',k1,k2⟩:=cc I.funs hb
  rw [k] at k1;cases k1
  obtain ⟨sl',k3⟩:=up b _ (kp _ _ k) k2
  exact ⟨sl',k3⟩
 ·rw [aU (nDs b o e)];exact I.base.free b o e n (noex b)
 ·obtain ⟨o',k⟩:=I.base.there b o e (noex b)
  by_cases hb:b∈lJ outer
  ·obtain ⟨_,o2,k1,_⟩:=cc fl.2.2.1 hb
   exact ⟨o2,k1⟩
  ·exact ⟨o',st2 b o' (nS b (bl b o e hb) o' k)⟩
 ·have z:=I.base.tups b xs e;rw [aU (b6 z hD1)];exact z
 ·have z:=I.base.frzs b o xs e;rw [aU (b6 z hD1)];exact z
 ·obtain ⟨m,z⟩:=I.base.tbls b ps e
  exact ⟨m,by rw [aU (b6 z hD1)];exact z⟩
 ·by_cases z:b=D
  ·subst z
   rw [aR] at e;cases e
   exact ⟨mA,⟨oD,esD,epD,st2 _ _ BD,hdD⟩,rl⟩
  ·rw [aU z] at e
   refine (I.hok b u e).stay (fun c o hc k=>?_) (fun c q=>by rw [aU (b6 q hD1)];exact q) fun c xs q=>by rw [aU (b6 q hD1)];exact q
   have hcs:c∉lJ X.stack:=fun z=>by
    have:=I.stkFree c z
    rcases hc with y|y
    ·rw [y,e] at this;cases this
    ·rw [y] at this;cases this
   exact st2 c o (nS c hcs o k)
 ·intro d z
  cases z
  obtain ⟨oe,k,_⟩:=fl.there
  exact ⟨oe,k,dk.at he k⟩
theorem BE:fM (.type "ValueError") "number"=pure none:=by rw [uI,m9];kernel_rfl
theorem UC     (O:Hy x C mg base) (hr:(eZ (jf P w) P w K mg base N qual scope f cd A outer s H E).A.depth+5<gK)
  (hg:Gl (eZ (jf P w) P w K mg base N qual scope f cd A outer s H E) x) (ha:PA (eZ (jf P w) P w K mg base N qual scope f cd A outer s H E) [e0] ta)
  (he:aA [e0] (eZ (jf P w) P w K mg base N qual scope f cd A outer s H E).env=[(false,cL e0 (eZ (jf P w) P w K mg base N qual scope f cd A outer s H E).env)]:=by rfl)
  (hdb:(x==("__debug__" : Str))=false:=by decide) :
  PS (eZ (jf P w) P w K mg base N qual scope f cd A outer s H E) (.Raise (some (.Call (.Name x np) [e0] [] cpos)) none pos) (fun D σ H1=>ta σ H1 fun vs H2=>vs.length=1/\E (.ref C) none H2):=by
 intro pins s1 σ H1 D I h
 obtain ⟨nm,q,Nn,bs,bm,sn,sub,ab,col,dd,k0,k1,k2,k3,k5,mN,fI,hC,hN,hi,hsa,hnu,T,IF⟩:=O.obj
 obtain ⟨oI,_,_,_,_,_,hoI,hfc,_⟩:=id IF.ex
 refine wY (C:=C) (nm:=nm) (q:=q) (N:=Nn) (bs:=bs) (bm:=bm) (hdct:=true) (sn:=sn) (sub:=sub) (ab:=ab) (col:=col) (dd:=dd) (k0:=k0) (k1:=k1) (k2:=k2) (k3:=k3) (k5:=k5) (fI:=fI) (oI:=oI)
  mq (mN:=mN) (T.hasType PySem.F.excBase_ValueError.hasBase) (I.ok.hd rfl) (by rw [he];rfl) hi hfc (si I hg O.bound ⟨rfl,?_⟩ hdb)
 have hx:=ha cpos pins s1 σ H1 _ I h
 rw [he] at hx ⊢
 refine lF (fY hx fun us s2 ⟨vs,H2,I2,r2,z,qE⟩=>?_)
 have kb:∀ b o,base.get? b=some o->s2.heap.get? b=some o:=I2.bk
 have hl:=r2.length
 rw [z] at hl
 match us,hl with
 |[u],_ =>
  refine ⟨rfl,by show 1<=sizeLine;rw [vR];omega,kb _ _ hC,hN.keeps kb,(T.ownTail (by simp)).keeps kb,kb _ _ hoI,fun h' ea hm=>?_⟩
  obtain ⟨t,ht,_,_⟩:=hm.there
  have kh:∀ b o,base.get? b=some o->h'.get? b=some o:=fun b o e=>hm.keeps b o (kb b o e)
  refine L6 (s:={ s2 with heap:=h' }) IF kh ?_ (I2.nolimit.keeps hm.keeps) Ap (T.keeps kh) (kh _ _ hC) (hN.keeps kh) (by simp) hsa (by simp) hnu BE ht rfl (fun c z=>nomatch z) rfl fun h2 tk2 Dx e1 e2=>?_
  ·have hw:∀ r,oE (.builtin "type.__call__" ⟨.ref C::r,[]⟩)<=5:=fun r=>by
    have e:oE (.builtin "type.__call__" ⟨.ref C::r,[]⟩)=oE (.builtin "type.__call__" ⟨[.ref 0],[]⟩):=rfl
    rw [e]
    decide +kernel
   exact jQ (uR (hw [u]) _) hr
  ·have kp:∀ b o,s2.heap.get? b=some o->h2.get? b=some o:=fun b o e=>e2 b o (fun z=>by rw [z,hm.new] at e;cases e) (hm.keeps b o e)
   exact ⟨rfl,kp _ _ (kb _ _ hC),⟨some Dx,t,#[],e1⟩,AC (s1:=s2) (tk':=tk2) I2 kp hm.new e1 qE⟩
theorem L7     (O:Hy x C mg base) (hr:(eZ (jf P w) P w K mg base N qual scope f cd A outer s H E).A.depth+5<gK)
  (hg:Gl (eZ (jf P w) P w K mg base N qual scope f cd A outer s H E) x) (ha:PA (eZ (jf P w) P w K mg base N qual scope f cd A outer s H E) [e0] ta)
  (he:aA [e0] (eZ (jf P w) P w K mg base N qual scope f cd A outer s H E).env=[(false,cL e0 (eZ (jf P w) P w K mg base N qual scope f cd A outer s H E).env)]:=by rfl)
  (hdb:(x==("__debug__" : Str))=false:=by decide) :
  PS (eZ (jf P w) P w K mg base N qual scope f cd A outer s H E) (.Raise (some (.Call (.Name x np) [e0] [] cpos)) none pos) (fun D σ H1=>ta σ H1 fun vs H2=>∃ v,vs=[v]/\∀ dx,H2 dx=none->E (.ref C) (some dx) (upd H2 dx (.xd [("number",v)]))):=by
 intro pins s1 σ H1 D I h
 obtain ⟨nm,q,Nn,bs,bm,sn,sub,ab,col,dd,k0,k1,k2,k3,k5,mN,fI,hC,hN,hi,hsa,hnu,T,IF⟩:=O.obj
 obtain ⟨oI,_,_,_,_,_,hoI,hfc,_⟩:=id IF.ex
 refine wY (C:=C) (nm:=nm) (q:=q) (N:=Nn) (bs:=bs) (bm:=bm) (hdct:=true) (sn:=sn) (sub:=sub) (ab:=ab) (col:=col) (dd:=dd) (k0:=k0) (k1:=k1) (k2:=k2) (k3:=k3) (k5:=k5) (fI:=fI) (oI:=oI)
  mq (mN:=mN) (T.hasType PySem.F.excBase_ValueError.hasBase) (I.ok.hd rfl) (by rw [he];rfl) hi hfc (si I hg O.bound ⟨rfl,?_⟩ hdb)
 have hx:=ha cpos pins s1 σ H1 _ I h
 rw [he] at hx ⊢
 refine lF (fY hx fun us s2 ⟨vs,H2,I2,r2,v,z,qE⟩=>?_)
 have kb:∀ b o,base.get? b=some o->s2.heap.get? b=some o:=I2.bk
 subst z
 obtain ⟨u,rfl,ru⟩:=r2.one
 ·refine ⟨rfl,by show 1<=sizeLine;rw [vR];omega,kb _ _ hC,hN.keeps kb,(T.ownTail (by simp)).keeps kb,kb _ _ hoI,fun h' ea hm=>?_⟩
  obtain ⟨t,ht,_,_⟩:=hm.there
  have kh:∀ b o,base.get? b=some o->h'.get? b=some o:=fun b o e=>hm.keeps b o (kb b o e)
  refine Hx (s:={ s2 with heap:=h' }) IF kh ?_ (I2.nolimit.keeps hm.keeps) Ap (T.keeps kh) (kh _ _ hC) (hN.keeps kh) (by simp) hsa (by simp) hnu BE ht rfl (fun c z=>nomatch z) rfl fun h2 tk2 Dx e1 e2 e3 e4=>?_
  ·have hw:∀ r,oE (.builtin "type.__call__" ⟨.ref C::r,[]⟩)<=5:=fun r=>by
    have e:oE (.builtin "type.__call__" ⟨.ref C::r,[]⟩)=oE (.builtin "type.__call__" ⟨[.ref 0],[]⟩):=rfl
    rw [e]
    decide +kernel
   exact jQ (uR (hw [u]) _) hr
  ·have kp:∀ b o,s2.heap.get? b=some o->h2.get? b=some o:=fun b o e=>e2 b o (fun z=>by rw [z,hm.new] at e;cases e) (hm.keeps b o e)
   have nD:s2.heap.get? Dx=none:=by
    cases z:s2.heap.get? Dx with
    |none=>rfl
    |some o=>exact absurd (am (hm.keeps _ _ z)) (Nat.not_lt.2 e3)
   have hD:H2 Dx=none:=by
    cases z:H2 Dx with
    |none=>rfl
    |some o=>obtain ⟨o',k⟩:=rg I2.hok z;rw [nD] at k;cases k
   refine ⟨rfl,kp _ _ (kb _ _ hC),⟨some Dx,t,#[],e1⟩,AD (s1:=s2) (tk':=tk2) I2 kp hm.new e1 nD e4 (fun y=>?_) (qE Dx hD)⟩
   by_cases hy:y="number"
   ·subst hy;exact ru
   ·have:(([("number",v)] : List (Str×V)).lookup y)=none:=by rw [cD,beq_eq_false_iff_ne.mpr hy];rfl
    rw [this,if_neg hy];exact trivial
end
end
end L2
namespace J
open PySem L2
section
open PySem.W (nsIn nsOkIn codeIn fnOf)
def W2:cY->Nat->cY
 |.ClassDef (body:=b) ..,j=>b.getD j (.Pass ⟨0,0,0,0⟩)
 |_,_=>.Pass ⟨0,0,0,0⟩
theorem W3      (X:K.In h) (G:h.Ns N mg) (e:nsIn K N n=some (some v)):mg n=some v:=by
 obtain ⟨o,es,ep,ho,hd,_,hf⟩:=G
 unfold gE at e
 split at e
 ·rename_i c d es' n' sl q
  have:=X _ _ q
  rw [ho] at this
  cases this
  cases hd
  split at e
  ·rename_i he
   rw [<- hf]
   unfold nsFind findBy
   rw [<- K2,he]
   cases e
   rfl
  ·split at e<;>cases e
 ·cases e
structure W4 (K:a7) (x:Str) (C:ag) (st:cY):Prop where
 ns:nsIn K bt x=some (some (.ref C))
 own:∀ {h:bw}{mg:Str->Option ae},K.In h->h.Ns bt mg->Hy x C mg h
 mb:bU K C (.type "BaseException")=some true
 ox:∀ {h:bw},K.In h->∃ bm,wl h C bm/\∀ v,(v==bg C)=false->bU K C v=some true->bm.contains v=true
theorem topN {K:a7}{x:Str}{C CP fI T0 Nn NP:ag}{st:cY}{nm qn nmP qnP fq:Str}{bs bsP mroP subP sub:List ae}{sn snP:List Str}{ab abP hdP delP:Bool}{col colP:Option Bool}{dd dP od dT an:Option ag}{k0 k1 k2 k3 k5:Option ae}{c0 kV doc pm cdv ct cT:ae}{slP slF slT:Array (Option ae)}{nT:Nat}{p1 p2 p3 p4:Pos}{cN cM:ae}{dN dM:Option ag}{esN esM:Array DictEntry}{epN epM:Nat}{slN slM:Array (Option ae)}
  (a1:nsIn K bt x=some (some (.ref C))) (a4:bU K C (.type "BaseException")=some true)
  (a2:K.lookup C=some ⟨.type "type",dd,.cls ⟨nm,bs,[.ref C,.ref CP,.type "ValueError",.type "Exception",.type "BaseException",.type "object"],Nn,qn,true,sn,sub,ab,col,false⟩,#[k0,k1,k2,k3,some (.builtin "ValueError.__new__"),k5]⟩)
  (a3:K.lookup CP=some ⟨c0,dP,.cls ⟨nmP,bsP,mroP,NP,qnP,hdP,snP,subP,abP,colP,delP⟩,slP⟩)
  (b1:nsIn K Nn "__init__"=some (some (.ref fI))) (b2:nsIn K Nn "__setattr__"=some none) (b3:nsIn K Nn "number"=some none)
  (c1:nsIn K NP "__init__"=some none) (c2:nsIn K NP "__setattr__"=some none) (c3:nsIn K NP "number"=some none)
  (d1:K.lookup fI=some ⟨.type "function",od,.func (fnOf "__init__" fq (kU st) (hJ st) (ax st) (.ref T0) kV doc pm an cdv ct),slF⟩)
  (d2:K.lookup T0=some ⟨cT,dT,.seq #[.none] nT,slT⟩) (d3:codeIn K cdv fq=true)
  (g1:K.lookup Nn=some ⟨cN,dN,.dict esN epN,slN⟩) (g2:K.lookup NP=some ⟨cM,dM,.dict esM epM,slM⟩) (g3:(esN.toList.all fun e=>match e.key with | .str _ _=>true|_=>false)=true) (g4:(esM.toList.all fun e=>match e.key with | .str _ _=>true|_=>false)=true)
  (f1:hJ st=[.Assign [.Attribute (.Name "self" p1) "number" p2] (.Name "number" p3) p4]) (f2:(ax st).names=[(("self" : Str),qN),(("number" : Str),qN)])
  (f3:(ax st).isCoroutine=false) (f4:(ax st).isGenerator=false) (f5:(ax st).kind=.function)
  (f6:∀ e v,∃ k,Pr (fnOf "__init__" fq (kU st) (hJ st) (ax st) (.ref T0) kV doc pm an cdv ct) ⟨[e,v],[]⟩=LQ (.ref T0) >>= k/\k (some #[.none])=pure [(("self" : Str),e),(("number" : Str),v)]):W4 K x C st:=by
 have e1:nsOkIn K Nn=true:=by unfold Md;rw [g1];show esN.all _=true;rw [<- xv];exact g3
 have e2:nsOkIn K NP=true:=by unfold Md;rw [g2];show esM.all _=true;rw [<- xv];exact g4
 refine ⟨a1,fun {h mg} X G=>⟨il X G a1,nm,qn,Nn,bs,_,sn,sub,ab,col,dd,k0,k1,k2,k3,k5,h.nsMap Nn,fI,X _ _ a2,.of_isNs (mn X e1),?_,eQ X e1 b2,eQ X e1 b3,?_,⟨_,_,p1,p2,p3,p4,X _ _ d1,rfl,rfl,tT X d3,f3,f4,f5,f2,congrArg FuncBody.stmts f1,fun s e v kb=>?_⟩⟩,a4,fun {h} X=>⟨_,⟨⟨nm,qn,Nn,bs,true,sn,sub,ab,col,dd,k0,k1,k2,k3,k5,_,X _ _ a2⟩,rfl⟩,fun v nv hv=>?_⟩⟩
 ·exact W3 X (.of_isNs (mn X e1)) b1
 ·refine .own (X _ _ a3) (.of_isNs (mn X e2)) (fun n hn=>?_) .base
  rcases List.mem_cons.mp hn with z|hn
  ·rw [z];exact eQ X e2 c1
  rcases List.mem_cons.mp hn with z|hn
  ·rw [z];exact eQ X e2 c2
  ·rw [List.mem_singleton.mp hn];exact eQ X e2 c3
 ·obtain ⟨k,k1,k2⟩:=f6 e v
  exact BindsTo.of_defaults rfl (kb _ _ (X _ _ d2)) rfl k1 k2
 ·unfold bU fB at hv
  rw [a2] at hv
  have:(bg C::[bg CP,.type "ValueError",.type "Exception",.type "BaseException",.type "object"]).contains v=true:=by simpa using hv
  rw [gf,nv,uS] at this
  exact this
def pS (x:Str) (gs:az->R (List D)):az->R Fl:=fun ρ=>(gs ρ).bind fun ds=>match ds with
 |[d]=>.ex x (some d)
 |_=>.no
theorem Yq  (hr:kj k A):A.depth+5<gK:=by have:=hr.dp;omega
section
variable {P:bf}{w:bE}{K:a7}{mg:Str->Option ae}{base:bw}{N:List Str}{qual:Str}{scope:gH}{f:ag}{cd:ae}{A:bV}{outer:List Env}{s:ah}{H:Hp}{E:XK}{cls:Str->ag}
theorem BF    (R0:Hy x (cls x) mg base) (hr:(eZ (jf P w) P w K mg base N qual scope f cd A outer s H E).A.depth+5<gK)
  (hg:Gl (eZ (jf P w) P w K mg base N qual scope f cd A outer s H E) x) (ha:Et ⟨eZ (jf P w) P w K mg base N qual scope f cd A outer s H E,cls,E⟩ [e0] gs)
  (he:aA [e0] (eZ (jf P w) P w K mg base N qual scope f cd A outer s H E).env=[(false,cL e0 (eZ (jf P w) P w K mg base N qual scope f cd A outer s H E).env)]:=by rfl)
  (hdb:(x==("__debug__" : Str))=false:=by decide) :
  JS ⟨eZ (jf P w) P w K mg base N qual scope f cd A outer s H E,cls,E⟩ (.Raise (some (.Call (.Name x np) [e0] [] cpos)) none pos) (pS x gs):=.of fun ρ=>by
 refine Ay (L7 R0 hr hg (ha ρ) he hdb) fun D σ H1 h_1=>?_
 obtain ⟨H0,Hs0,la,Hs,f,q⟩:=h_1
 replace q:oN K cls E H0 Hs0 la D (pS x gs ρ):=q
 refine ⟨H0,Hs0,la,Hs,f,?_⟩
 unfold pS at q
 cases hr:gs ρ with
 |no=>rw [hr] at q;exact q
 |ex y n=>rw [hr] at q;exact fun H' Hs' s=>q H' Hs' (f.st.trans s)
 |ok ds =>
  rw [hr,bind_ok] at q
  intro vs H2 Hs2 s2 r2
  rcases ds with _|⟨d,_|⟨d2,r⟩⟩
  ·exact q.elim
  ·cases r2 with
   |cons r2 z =>
    cases z
    exact ⟨_,rfl,fun dx hdx=>q _ _ ((f.st.trans s2).trans (.new s2.sub hdx)) dx _ aR (r2.same (gS (s2.sub.free hdx)))⟩
  ·exact q.elim
end
end
section
section
def R7 (k:Nat):D->R D
 |.list ds=>QV k ds
 |_=>.no
def zq (k:Nat) (g:az->R D) (gl gh:az->R (Option Int)):az->R D:=fun ρ=>(g ρ).bind fun x=>(gl ρ).bind fun l=>(gh ρ).bind fun h=>(xU x l h).bind (R7 k)
theorem On (k:Nat)    (hk:k<=100) (he:JB c e g) (hl:JO c lo gl) (hh:JO c hi gh):JE c (.BinOp (.Subscript e (.Slice lo hi none p2) p) .Mult (.Constant (.int k) j p3) pos) (zq k g gl gh):=.of fun ρ=>rh (IG Mz (D_ IJ (he ρ) (hl ρ) (hh ρ)) yt) fun σ H Q h_2=>by
 obtain ⟨H0,Hs0,la,Hs,f,q⟩:=h_2;refine one f q fun d v H1 Hs1 e1 s1 f1 r1=>?_;unfold zq at q;rw [e1,bind_ok] at q;refine QD f1 (q.on s1 (q':=fun _=>True) fun _ _=>trivial) fun l H2 Hs2 e2 s2 f2=>?_;rw [e2,bind_ok] at q;refine QD f2 (q.on (s1.trans s2) (q':=fun _=>True) fun _ _=>trivial) fun h H3 Hs3 e3 s3 f3=>?_;rw [e3,bind_ok] at q;have r3:=(r1.step s2).step s3;cases d with
 |list ds =>
  obtain ⟨a,vs,rfl,qa,ra⟩:=r3.list f3.st.sub;rw [show xU (.list ds) l h=.ok (.list (oM ds l h)) from rfl,bind_ok] at q;rw [show R7 k (.list (oM ds l h))=if (oM ds l h).length<=10 then .ok (.list (bc k (oM ds l h)).flatten) else .no from rfl] at q;by_cases hlen:(oM ds l h).length<=10
  ·rw [if_pos hlen] at q;have rc:=CW ra l h;have hv:(xw vs l h).length<=10:=by rw [rc.length];exact hlen
   refine ⟨a,vs,rfl,qa,fun p hp=>?_⟩;have s4:cE H3 Hs3 (upd H3 p (.lst (xw vs l h))) Hs3:=.mine f3.st.sub hp;refine ⟨p,k,xw vs l h,rfl,rfl,aR,by omega,by omega,?_,fun p2 hp2=>?_⟩
   ·have:(xw vs l h).length*k<=10*100:=Nat.mul_le_mul hv hk
    exact b9 (c8 (bD this (by decide)))
   ·refine q _ _ _ (s1.trans (s2.trans (s3.trans (s4.trans (.new s4.sub hp2))))) (.list (.of aR) ?_);exact (rc.rep k).same (cE.new s4.sub hp2).sh
  ·rw [if_neg hlen] at q;exact q.elim
 |tuple ds=>exact q.elim
 |none=>exact q.elim
 |bool _=>exact q.elim
 |int _=>exact q.elim
 |str _=>exact q.elim
 |dict _=>exact q.elim
end
end
end J
section
namespace L2
open PySem PySem.Spec PyProof.Rows
theorem R8  (h:cV (ns.map V.int) its):AllInts its.toArray/\numsOf its=ns:=by
 induction ns generalizing its with
 |nil=>cases h;exact ⟨fun v hv=>absurd hv (by simp),rfl⟩
 |cons n r ih =>
  cases h with
  |cons a b =>
   obtain ⟨t,rfl⟩:=a;obtain ⟨h1,h2⟩:=ih b;refine ⟨fun v hv=>?_,?_⟩
   ·rcases (by simpa using hv:v=.int n t\/_) with z|z
    ·exact ⟨n,t,z⟩
    ·exact h1 v (by simpa using z)
   ·show n::numsOf _=_;rw [h2]
theorem AE (hc:X.calm=true):ja X (.builtin "sum") (fun xs H Q=>∃ p,∃ ns:List Int,xs=[.ref p]/\mV X.K H p (ns.map V.int)/\Q (.int ns.sum) H):=by
 intro pins s σ H xs us Q I r h;obtain ⟨p,ns,rfl,hq,q⟩:=h;obtain ⟨u,rfl,rx⟩:=jU r;cases rx;obtain ⟨its,r',pl,hl⟩:=I.list hq;obtain ⟨ha,hn⟩:=R8 r';obtain ⟨xs,hx⟩:=ha.items;have hl:=pl.isList;rw [hx] at hl;have hs:preSum (numAt xs) xs.size=ns.sum:=by
  rw [<- hn,show its=its.toArray.toList from rfl,hx,nums_intItems,preSum_eq,G9 (by simp)]
 refine sum_intListG (I.ok.hd hc) hl fun h' tk t' hk=>?_;rw [hs];exact ⟨.int ns.sum,H,I.kept (t':=tk) hk,⟨t',rfl⟩,q⟩
end L2
namespace L2
open PySem PySem.Spec PyProof.Rows
end L2
namespace J
open PySem L2
def F7:D->R D
 |.list ds=>match ue ds with
  |some ns=>.ok (.int ns.sum)
  |none=>.no
 |_=>.no
theorem Oo (hc:X.calm=true):KN X (.builtin "sum") (i5 F7):=by
 refine u5 (fun d c n=>?_) fun pins s σ H x u Q Hs d d' I ru sub rx hd q=>?_
 ·unfold F7;split<;>(try split)<;>exact fun h=>by cases h
 ·unfold F7 at hd;split at hd
  ·split at hd
   ·rename_i ns hs
    cases hd;obtain ⟨a,vs,rfl,qa,ra⟩:=rx.list sub;rw [F6 hs] at ra;rw [CJ ra] at qa;exact AE hc pins s σ H _ _ Q I (.cons ru .nil) ⟨a,ns,rfl,qa,q _ H Hs (.refl sub) (.int _)⟩
   ·cases hd
  ·cases hd
end J
end
namespace J
open PySem L2
section
end
end J
namespace L2
open PySem PySem.Spec PyProof.Rows
section
section
end
end
end L2
namespace J
open PySem L2
section
section
variable {c:C}{pos:Pos}{x:Str}{kx vx iter tg:bR}{ifs:List bR}{scope:gH}{N':List Str}{nt:Nat}{ix:List Nat}{gi:az->R (List D)}{gt:az->R Bool}{gk gv:az->R D}
end
end
end J
section
namespace L2
open PySem PySem.Spec PyProof.Rows
end L2
namespace J
open PySem L2
section
end
end J
end
namespace J
open PySem L2
section
end
section
end
section
def XA (p:HO->Bool) (H Hs:Hp):Hp:=fun b=>match Hs b,H b with
 |some o,_=>some o
 |none,some o=>if p o then some o else none
 |none,none=>none
def YE (p:HO->Bool) (H Hs Hs1:Hp):Hp:=fun b=>match Hs b,H b with
 |none,some o=>if p o then none else Hs1 b
 |_,_=>Hs1 b
section
end
inductive W5 (p:HO->Bool) (K:a7) (cls:Str->ag) (E:XK) (ρ:az) (r:R (List D)) (σ:St) (H:Hp) (Q:List V->Hp->Prop):Prop
 |mk (H0 Hs0:Hp) (la:Nat->Option ag) (Hs:Hp) (f:Fr K H0 Hs0 la ρ σ H Hs) (q:Fin K cls E H Hs r fun d=>∀ v H' Hs',cE H Hs H' Hs'->RDs K (XA p H' Hs') v d->Q v H'):W5 p K cls E ρ r σ H Q
structure JL (p:HO->Bool) (c:C) (es:List bR) (g:az->R (List D)):Prop where of ::
 run:∀ ρ,PA c.X es (W5 p c.X.K c.cls c.E ρ (g ρ))
section
end
end
section
section
end
end
end J
section
namespace L2
open PySem PySem.Spec PyProof.Rows
end L2
namespace J
open PySem L2
end J
end
namespace J
open PySem L2
section
section
end
end
end J
section
namespace L2
open PySem PySem.Spec PyProof.Rows
inductive W6 (X:Cx) (CX:LV) (E:XK) (t:TA) (σ:St) (Q:VK) (v:V) (H1:Hp):Prop
 |mk (k:Nat) (f:ag) (fd:eX) (ps:List Str) (sp:Sp) (h0:v=.ref f) (F:sY X.prog X.w X.K X.mg X.base CX k f fd ps sp) (hr:kj k X.A) (hk:d_ X.K (.ref f)=true) (hb:kC X.K fd ps []) (q:B4 sp [] E t σ H1 Q):W6 X CX E t σ Q v H1
end L2
namespace J
open PySem L2
inductive F8 (c:C) (n j:Nat):List bR->List (List D->R D)->List ag->Prop
 |nil:F8 c n j [] [] []
 |cons {x:Str}{p:Pos}{F:List D->R D}{k:Nat}{f:ag}{fd:eX}{ps:List Str}{es:List bR}{Fs:List (List D->R D)}{as:List ag} (hf:sY c.X.prog c.X.w c.X.K c.X.mg c.X.base (jf c.X.prog c.X.w) k f fd ps (S6 c.X.K c.cls n F)) (hm:c.X.mg x=some (.ref f)) (hk:d_ c.X.K (.ref f)=true) (hb:kC c.X.K fd ps []) (hj:k<=j) (hg:Gl c.X x) (hdb:(x==("__debug__" : Str))=false) (r:F8 c n j es Fs as):F8 c n j (.Name x p::es) (F::Fs) (f::as)
section
inductive Op (c:C) (n j:Nat) (F:List D->R D) (f:ag):Prop
 |mk (k:Nat) (fd:eX) (ps:List Str) (hf:sY c.X.prog c.X.w c.X.K c.X.mg c.X.base (jf c.X.prog c.X.w) k f fd ps (S6 c.X.K c.cls n F)) (hk:d_ c.X.K (.ref f)=true) (hb:kC c.X.K fd ps []) (hj:k<=j):Op c n j F f
theorem L8 (h:F8 c n j es Fs as):∀ {i:Nat}{F:List D->R D},Fs[i]?=some F->∃ f,as[i]?=some f/\Op c n j F f:=by
 induction h with
 |nil=>intro i F e;simp at e
 | @cons x p F k f fd ps es Fs as hf hm hk hb hj hg hdb r ih =>
  intro i F e;cases i with
  |zero=>cases e;exact ⟨f,rfl,k,fd,ps,hf,hk,hb,hj⟩
  |succ i=>have q:=ih (i:=i) e;exact q
def SJ (Fs:List (List D->R D)) (n:Nat) (gi:az->R D) (gs:az->R (List D)) (ρ:az):R Fl:=(gi ρ).bind fun d=>match d with
 |.int k=>if 0<=k then (match Fs[k.toNat]? with
  |some F=>(gs ρ).bind fun ds=>if ds.length=n then (F ds).bind fun d=>.ok (.rt d) else .no
  |none=>.no) else .no
 |_=>.no
theorem Ct       (P:F8 c n j es Fs as) (hr:kj j c.X.A) (f:Fr c.X.K H0 Hs0 la ρ σ H Hs) (ha:H a=some (.lst (as.map V.ref))) (q:oN c.X.K c.cls c.E H0 Hs0 la D' (SJ Fs n gi gs ρ)) :
  TR c.X.K c.cls c.E ρ (gi ρ) σ H fun y H2=>UZ c.X.K (.ref a) y H2 (W6 c.X (jf c.X.prog c.X.w) c.E (WB c.X.K c.cls c.E ρ (gs ρ)) σ D'.rt):=by
 refine sE f q fun d v H2 Hs2 e1 s1 f2 r1=>?_;unfold SJ at q;rw [e1,bind_ok] at q;cases r1 with
 |int k =>
  simp only at q;by_cases hk:0<=k
  ·rw [if_pos hk] at q;split at q
   ·rename_i F hF
    obtain ⟨g,h1,k',fd,ps,hf,hkp,hb,hj⟩:=L8 P hF;have hix:DP (as.map V.ref) k=some (.ref g):=by
     have:=pC (xs:=as.map V.ref) (j:=k.toNat) (v:=V.ref g) (by rw [aO,h1];rfl)
     rwa [eu hk] at this
    refine ⟨a,as.map V.ref,k,.ref g,rfl,rfl,.of (s1.all _ _ ha),hix,k',g,fd,ps,_,rfl,hf,hr.mono hj,hkp,hb,H0,Hs0,la,Hs2,f2,?_⟩;cases hg:gs ρ with
    |no=>rw [hg] at q;exact q.elim
    |ex y m=>rw [hg] at q;exact fun H3 Hs3 s3=>q H3 Hs3 (f2.st.trans s3)
    |ok ds =>
     rw [hg,bind_ok] at q;intro vs H3 Hs3 s3 r3;have f3:=f2.step s3;by_cases hn:ds.length=n
     ·rw [if_pos hn] at q;show S6 _ _ _ _ (vs++[]) _ _ _;rw [cB];refine ⟨Hs3,ds,f3.st.sub,hn,r3,?_⟩;cases hFd:F ds with
      |no=>rw [hFd] at q;exact q.elim
      |ex y m=>rw [hFd] at q;exact fun H4 Hs4 s4=>q H4 Hs4 (f3.st.trans s4)
      |ok d=>rw [hFd] at q;exact fun v H4 Hs4 s4 r4=>q v H4 Hs4 (f3.st.trans s4) r4
     ·rw [if_neg hn] at q;exact q.elim
   ·exact q.elim
  ·rw [if_neg hk] at q;exact q.elim
 |list _ _=>exact q.elim
 |none=>exact q.elim
 |bool _=>exact q.elim
 |str _=>exact q.elim
 |tuple _ _=>exact q.elim
 |dictK _ _=>exact q.elim
 |dictT _ _ _=>exact q.elim
 |dictF _ _ _=>exact q.elim
end
end J
namespace J
open PySem L2
end J
end
namespace TS
open PySem PyProof.Rows
section
section
variable {prog:bf}{w:bE}{A:bV}{E:ae->ah->Prop}{s:ah}{kd:w5}{rk:ae->Nat}{L:List ki}
def Cp (prog:bf) (w:bE) (A:bV) (s:ah) (kd:w5) (rk:ae->Nat) (L:List ki):Prop :=
 ∀ x∈L,∀ y∈L,∀ (Q:Bool->ah->Prop) (E:ae->ah->Prop),Q (decide (rk x.1<rk y.1)) s->ak (aB prog w) A (keyLt' kd x.1 y.1) Q E s
variable {l:Bool}{k:ki}{a:Array ki}{b n h i:Nat}{g:Nat->Nat}{st:Me}
end
end
section
structure Mg {α:Type} (lt:α->α->Prop) (T out ra rb:List α):Prop where
 perm:(out++ra++rb).Perm T
 so:out.Pairwise lt
 sa:ra.Pairwise lt
 sb:rb.Pairwise lt
 oa:∀ x∈out,∀ y∈ra,lt x y
 ob:∀ x∈out,∀ y∈rb,lt x y
section
variable {α:Type}{lt:α->α->Prop}{T out ra rb p:List α}
end
section
variable {a:Array ki}{i k:Nat}{x:ki}
end
section
variable {rk:ae->Nat}{a:Array ki}{L:List ki}
end
end
section
section
variable {prog:bf}{w:bE}{A:bV}{E:ae->ah->Prop}{s:ah}{kd:w5}{rk:ae->Nat}{L:List ki}{st st':Me}
def Yr (rk:ae->Nat) (x y:ki):Prop:=rk x.1<rk y.1
def V (rk:ae->Nat) (a b out:Array ki) (ia ib:Nat):Prop:=Mg (Yr rk) (a.toList++b.toList) out.toList (a.toList.drop ia) (b.toList.drop ib)
variable {a b out:Array ki}{ia ib k:Nat}{p q:ki}
end
end
section
section
variable {prog:bf}{w:bE}{A:bV}{E:ae->ah->Prop}{s:ah}{kd:w5}{rk:ae->Nat}{L:List ki}{st st':Me}
def W (rk:ae->Nat) (a b out:Array ki) (na nb:Nat):Prop:=Mg (fun x y=>Yr rk y x) (a.toList++b.toList) out.toList (a.toList.take na).reverse (b.toList.take nb).reverse
variable {a b out:Array ki}{n m k:Nat}{p q:ki}
end
end
section
section
variable {prog:bf}{w:bE}{A:bV}{E:ae->ah->Prop}{s:ah}{kd:w5}{rk:ae->Nat}{L:List ki}{st:Me}{a:Array ki}
end
end
section
section
variable {prog:bf}{w:bE}{A:bV}{E:ae->ah->Prop}{s:ah}{kd:w5}{rk:ae->Nat}{L:List ki}{st:Me}{a:Array ki}
end
end
section
section
variable {prog:bf}{w:bE}{A:bV}{E:ae->ah->Prop}{s:ah}{kd:w5}{rk:ae->Nat}{L:List ki}{st:Me}{a:Array ki}
end
end
end TS
namespace TS
open PySem PyProof.Rows PySem.W
section
def tl:List Str->List Str->Bool
 |[],[]=>false
 |[],_::_=>true
 |_::_,[]=>false
 |x::xs,y::ys=>if x=y then tl xs ys else decide (x.cps.toList<y.cps.toList)
section
variable {prog:bf}{w:bE}{A:bV}{E:ae->ah->Prop}{s:ah}
end
end
section
section
end
end
section
section
end
end
end TS
namespace L2
open PySem PySem.Spec PyProof.Rows PySem.W
section
section
end
end
section
section
end
section
end
end
end L2
namespace J
open PySem L2
section
end
end J
section
namespace L2
open PySem PySem.Spec PyProof.Rows PySem.W
end L2
namespace J
open PySem L2
end J
end
namespace J
open PySem PySem.Spec PyProof.Rows L2
section
section
end
end
end J
section
namespace L2
open PySem PySem.Spec PyProof.Rows
end L2
namespace J
open PySem L2
end J
end
namespace L2
open PySem PySem.Spec PyProof.Rows
section
theorem vk {b:Bool} (kb:∀ b o,base.get? b=some o->s.heap.get? b=some o) (x:wl base C bm) (y:wl base Cp bp)
  (hm:(bg C::bm).contains (.ref Cp)=b) (he:s.heap.get? ea=some oe) (hcls:oe.cls=.ref C) (h:Q b s):ak M A (excMatches (.ref ea) (.ref Cp)) Q E s:=by
 obtain ⟨⟨nm,q,Nn,bs,hdct,sn,sub,ab,col,dd,k0,k1,k2,k3,k5,newId,o1⟩,x2⟩:=x
 obtain ⟨⟨nm',q',Nn',bs',hdct',sn',sub',ab',col',dd',k0',k1',k2',k3',k5',newId',o2⟩,y2⟩:=y
 have hC:=kb _ _ o1
 have hP:=kb _ _ o2
 have c2:(bg Cp::bp).contains (.type "BaseException")=true:=by rw [gf,y2,wS]
 have f:=tc_notTuple
 obtain ⟨hp,g,d,tk,os⟩:=s
 unfold excMatches
 cases b
 all_goals
  repeat (first
   |(with_reducible refine dO he ?_;rw [hcls])
   |with_reducible refine dO hP ?_
   |(with_reducible refine jS hC ?_;rw [hm])
   |(with_reducible refine jS hP ?_;rw [c2])
   |wp_step)
  exact h
structure Hd where
 x:Str
 np:Pos
 n:Str
 i:Nat
 Cp:ag
 b0:cY
 suite:List cY
 hpos:Pos
 ts:TS
def Hd.h (d:Hd):ExceptHandler:=.ExceptHandler (some (.Name d.x d.np)) (some d.n) (d.b0::d.suite) d.hpos
structure XB (X:Cx) (d:Hd):Prop where
 hg:Gl X d.x
 hm:X.mg d.x=some (.ref d.Cp)
 y:∃ bp,wl X.base d.Cp bp
 hi:X.N[d.i]?=some d.n
 hn:X.env.scope.names.lookup d.n=some .local
 hs:∀ ea,Cb (N0 X ea) (d.b0::d.suite) d.ts
 hdb:(d.x==("__debug__" : Str))=false
def Oq (X:Cx) (D:Ca):List Hd->XK
 |[],_,_,_=>False
 |d::r,c,dx,H'=>∃ C bm,c=.ref C/\wl X.base C bm/\(((bg C::bm).contains (.ref d.Cp)=true/\∀ ea,H' ea=none->d.ts { nx:=fun _ H=>D.nx (xz X) H,rt:=D.rt } ((xz X).set d.i (some (.ref ea))) (upd H' ea (u3 dx ea C))) \/
  ((bg C::bm).contains (.ref d.Cp)=false/\Oq X D r c dx H'))
theorem R9 {X:Cx}{body:List cY}{tb:XK->TS}{pos:Pos} (d0:Hd) (hs:List Hd) (hok:∀ d∈d0::hs,XB X d) (hN:X.N.Nodup) (hst:∃ l,X.stack=X.env::l/\X.env.frame=some X.env.locals) (hex:X.ex=[])
  (hb:∀ (E:XK) (xe:ae->ah->Prop) (pn:List (ag×Obj)),nV (jf X.prog X.w) (TL X xe pn) E->Cb (TL X xe pn) body (tb E)) :
  PS X (.Try body (d0.h::hs.map Hd.h) [] [] pos) (fun D σ H=>tb (Oq X D (d0::hs)) D σ H):=by
 intro pins s σ H D I h0
 obtain ⟨l,hl,hfr⟩:=hst
 have ok:=I.ok
 refine wpAny_Try_except ?_
 let xe:ae->ah->Prop:=fun e s₁=>ak (aB X.prog X.w) X.A (sV e X.env) (fun _ s₂=>ak (aB X.prog X.w) X.A (setFlight e none) (fun _ s₃ =>
  ak (aB X.prog X.w) X.A (handleBy e X.env ((d0::hs).map Hd.h)) (SP X pins D) X.xe s₃) X.xe s₂) X.xe s₁
 have hp:nV (jf X.prog X.w) (TL X xe (X.pn++pins)) (Oq X D (d0::hs)):=by
  intro pins' σ' H1 s1 e s' I' hx
  have I1:bG X pins σ' H1 s1:=I'.outT ok
  have hp':=iX
  obtain ⟨ea,C,t,H',B,dx,rfl,os,bare,air,lk,wish⟩:=hx
  have air:R_ X.prog X.w X.stack H1 H' s1.heap s'.heap B ea C t:=air
  have land:∀ h2,R_ X.prog X.w X.stack H1 H' s1.heap h2 B ea C t->bG X pins σ' H' { s' with heap:=h2 }:=fun h2 a =>
   I1.call' (s':={ s' with heap:=h2 }) (ch:=[]) os a.un a.hok bare (fun b z=>absurd z (by simp))
  have fly:=air.fly
  rw [hl] at fly
  show ak _ X.A (sV (.ref ea) X.env) _ _ s'
  refine aZ (re (IR _ _) (wpAny_looks_onW (base:=B) (outer:=l) (L:=X.env.locals) (Q:=fun _ s2=>∃ h2,s2={ s' with heap:=h2 }/\Heap.HeldW B (X.env::l) ea (.ref C) (.ref t) X.env.locals h2/\s'.heap.UpToSlots h2) (E:=fun _ _=>False) (by rw [ok.frames,hl]) hfr fly fun h2 hd2 up2=>⟨h2,rfl,hd2,up2⟩)) (fun _ s2 h2=>?_) fun _ _ z=>z.1.elim
  obtain ⟨⟨h2,rfl,hd2,up2⟩,dk2⟩:=h2
  refine aZ (re (pH _ _) (wpAny_landsW (s:={ s' with heap:=h2 }) (Q:=fun _ s3=>∃ h3,s3={ s' with heap:=h3 }/\ku B (X.env::l) ea (.ref C) (.ref t) h3/\h2.UpToSlots h3) (E:=fun _ _=>False) hd2 fun h3 fl3 up3=>⟨h3,rfl,fl3,up3⟩)) (fun _ s3 h3=>?_) fun _ _ z=>z.1.elim
  obtain ⟨⟨h3,rfl,fl3,up3⟩,dk3⟩:=h3
  have up3':=up2.trans up3
  have a3:=air.on (by rw [hl];exact fl3) up3'
  have I3:=land h3 a3
  obtain ⟨oe,he,hcl⟩:=fl3.there
  show ak (aB X.prog X.w) X.A (handleBy (.ref ea) X.env ((d0::hs).map Hd.h)) (SP X pins D) X.xe { s' with heap:=h3 }
  generalize d0::hs=ds at hok wish
  clear hp'
  induction ds with
  |nil=>exact wish.elim
  |cons d r ih =>
  obtain ⟨C',bm,hCe,ox,wish⟩:=wish
  cases hCe
  have dok:=hok d al
  obtain ⟨bp,y⟩:=dok.y
  refine wpAny_handleBy_cons (codeAny_handlers_test (N1 I3 dok.hg dok.hm ?_ dok.hdb)) (by intro q;cases q)
  rcases wish with ⟨hcp,hts⟩|⟨hcp,wish⟩
  case inr =>
   exact vk (base:=X.base) (s:={ s' with heap:=h3 }) I3.bk ox y hcp he hcl (ih (fun d hd=>hok d (ao _ hd)) wish)
  refine vk (base:=X.base) (s:={ s' with heap:=h3 }) I3.bk ox y hcp he hcl (codeAny_handlers_suite_as ?_)
  refine aZ (re (pH _ _) (lands_againW (s:={ s' with heap:=h3 }) (Q:=fun _ s4=>∃ h4,s4={ s' with heap:=h4 }/\ku B (X.env::l) ea (.ref C) (.ref t) h4/\h3.UpToSlots h4) (E:=fun _ _=>False) fl3 fun h4 fl4 up4=>⟨h4,rfl,fl4,up4⟩)) (fun _ s4 h4=>?_) fun _ _ z=>z.1.elim
  obtain ⟨⟨h4,rfl,fl4,up4⟩,dk4⟩:=h4
  have a4:=air.on (by rw [hl];exact fl4) (up3'.trans up4)
  have I4:=land h4 a4
  obtain ⟨oe4,ws,he4,hcl4,hd4,_⟩:=fl4.first
  have lk4:∀ d,dx=some d->oe4.dict=some d/\qT oe4=true:=fun d z=>by
   obtain ⟨o,e1,e2⟩:=lk.on ((dk2.trans dk3).trans dk4) ⟨oe4,he4⟩ d z
   rw [he4] at e1;cases e1
   exact ⟨e2,by unfold qT;rw [hd4]⟩
  have nB:B.get? ea=none:=fl4.2.1
  have nfr:ea∉lJ X.stack:=fun z=>by
   obtain ⟨_,o',k1,k2⟩:=cc fl4.2.2.1 (by rw [<- hl];exact z)
   rw [he4] at k1;cases k1
   exact k2 _ hd4
  have n1:s1.heap.get? ea=none:=by
   cases q:s1.heap.get? ea with
   |none=>rfl
   |some o =>
    obtain ⟨o',k⟩:=air.all ea o q nfr
    rw [nB] at k;cases k
  have nH:H' ea=none:=by
   cases q:H' ea with
   |none=>rfl
   |some u =>
    obtain ⟨o',k⟩:=air.cov ea u q
    rw [nB] at k;cases k
  have nloc:ea≠X.env.locals:=fun z=>by
   obtain ⟨m,⟨o,_,_,k,_⟩,_⟩:=I1.loc
   rw [<- z,n1] at k;cases k
  have ncell:∀ x c,X.env.cells.lookup x=some c->c≠ea:=fun x c e z=>by
   obtain ⟨v,o,k,_⟩:=I1.cell x c e
   rw [z,n1] at k;cases k
  have npin:∀ p∈X.pn++pins,p.1≠ea:=fun p hp z=>by
   have k:=(I1.pin p hp).1
   rw [z,n1] at k;cases k
  have n0:X.s₀.heap.get? ea=none:=by
   cases q:X.s₀.heap.get? ea with
   |none=>rfl
   |some o =>
    by_cases hx:ea∈X.ex
    ·rw [hex] at hx;cases hx
    ·obtain ⟨o',k⟩:=I1.base.there ea o q hx
     rw [n1] at k;cases k
  have I5:=(I4.weak (σ':=xz X) (by rw [I4.len];simp [xz]) (fun j v z=>by
   unfold xz at z
   rw [bP] at z
   split at z<;>cases z)).track0 (ho:=u3 dx ea C) n0 nH nloc ncell npin (Qu he4 hcl4 lk4)
  refine qV I5 hN dok.hi (.inl dok.hn) (v:=.ref ea) rfl (fun s6 I6=>?_) (.inr dok.hn)
  refine aZ (dok.hs ea pins s6 _ _ _ (I6.inH ea) (hts ea nH)) (fun f s7 q7=>?_) fun _ _ z=>z.elim
  have fin:∀ {σ7:St}{H7:Hp}{Q':St->Hp->Prop},bG (N0 X ea) pins σ7 H7 s7->(∀ s8,bG X pins (xz X) H7 s8->SP X pins D f s8)->ak (aB X.prog X.w) X.A (do Gh X.env d.n .none;unbindBehindTheSuite X.env d.n d.hpos) (fun _ s8=>SP X pins D f s8) X.xe s7:=fun {σ7 H7 Q'} J k=>by
   have J:=J.outH ok
   obtain ⟨m,hm7,_⟩:=J.loc
   exact wpAny_nameGoes dok.hn hm7 (by rw [ok.kind];rfl) fun h8 m8 hn8 sb8=>k _ (J.forget hn8 sb8)
  cases f with
  |next=>obtain ⟨σ7,H7,J,q⟩:=q7;exact fin (Q':=fun _ _=>True) J fun s8 I8=>⟨_,_,I8,q⟩
  |brk=>obtain ⟨σ7,H7,J,q⟩:=q7;exact q.elim
  |cont=>obtain ⟨σ7,H7,J,q⟩:=q7;exact q.elim
  |ret v=>obtain ⟨z,σ7,H7,J,r,q⟩:=q7;exact fin (Q':=fun _ _=>True) J fun s8 I8=>⟨z,_,_,I8,r,q⟩
 refine aZ (hb _ xe (X.pn++pins) hp [] s σ H D (I.inT xe) h0) (fun f s1 q=>?_) fun e s1 q=>q
 have q:SP X pins D f s1:=by
  cases f with
  |next=>obtain ⟨σ',H',J,q⟩:=q;exact ⟨σ',H',J.outT ok,q⟩
  |brk=>obtain ⟨σ',H',J,q⟩:=q;exact ⟨σ',H',J.outT ok,q⟩
  |cont=>obtain ⟨σ',H',J,q⟩:=q;exact ⟨σ',H',J.outT ok,q⟩
  |ret v=>obtain ⟨z,σ',H',J,r,q⟩:=q;exact ⟨z,σ',H',J.outT ok,r,q⟩
 cases f with
 |next=>exact kq q
 |brk=>exact q
 |cont=>exact q
 |ret v=>exact q
end
end L2
section
namespace L2
open PySem PySem.Spec PyProof.Rows
section
variable {prog:bf}{w:bE}{A:bV}{E:ae->ah->Prop}{s:ah}{K:a7}{x C:ag}{Q:ae->ah->Prop}{b:Bool}
theorem Os (Z:El K C) (X:K.In s.heap) (J:ye s.heap x ox C (some od)) (hf:PySem.W.findObj K C (some od) name=some (.value u)) (hu:K3 u=true) (h:Q u { s with toks:=s.toks+1 }):ak (aB prog w) A (getAttr (.ref x) name b) Q E s:=by
 obtain ⟨hh,g,d,t,os⟩:=s
 have L0:=J.type (M:=aB prog w)
 have L1:=iK (M:=aB prog w) X Z.ga
 have L2:=iK (M:=aB prog w) X Z.gn
 have L3:=PySem.W.looks_find (M:=aB prog w) X J hf
 have L4:=G8 (M:=aB prog w) X Z.be
 unfold getAttr getAttrBy
 refine a6 (wpAny_mkText (bW (a6 (L0.at (a6 (L1.at ?_))))))
 show ak _ _ (uJ (.ref x) (.str name t) (.ref C) (.builtin "BaseException.__getattribute__") true b) _ _ _
 unfold uJ
 show ak _ _ (fM (.ref C) "__getattr__" >>= _) _ _ _
 refine a6 (L2.at (a6 (kg (bW ?_))))
 have e:callGetattribute (.ref x) (.str name t) (.builtin "BaseException.__getattribute__") b=v_ (.builtin "BaseException.__getattribute__") (.ref x) (.str name t):=by
  unfold callGetattribute
  cases b<;>rfl
 rw [e]
 unfold v_
 refine a6 (mY (F.excAttr_ValueError.ga.bind (.ref x)) ?_)
 show ak _ _ (call (.builtin "BaseException.__getattribute__") [.ref x,.str name t]) _ _ _
 refine kF (js F.excAttr_ValueError.ga.plain F.entry_bexc_ga ?_)
 have hk:builtinKind "BaseException.__getattribute__"=some .slot:=by decide +kernel
 have hsp:splitId "BaseException.__getattribute__"=some ("BaseException","__getattribute__"):=by decide +kernel
 have hao:=F.args_bexc_ga (.ref x) (.str name t)
 simp only [ml,hk,hsp]
 have LI:Ak (aB prog w) hh (pA (.ref x) (.type "BaseException")) true:=L0.andThen L4
 refine a6 (LI.at ?_)
 rw [if_neg (by decide)]
 refine mY (a:=()) (by unfold Gv at hao;exact hao) ?_
 unfold fK.«object.__getattribute__»
 refine a6 (m:=slotArgs "__getattribute__" 1 _) (aa ?_)
 refine a6 (m:=qU _) (aa ?_)
 refine a6 (L0.at (a6 (L3.at ?_)))
 refine aa ?_
 show ak _ _ (handedOut u) _ _ _
 rw [PySem.W.handedOut_of hu];exact aa h
end
structure NRk (K:a7) (C:ag):Prop where
 hd:Ix K C=true
 fn:fL K (.ref C) "number"=some none
theorem L9 {X:Cx}{e:bR}{ta:TE}{pos:Pos} (he:PE X e ta) (hb:kf e "number" X.env (cL e X.env)=cL e X.env):PE X (.Attribute e "number" pos) (fun σ H Q=>ta σ H fun x H1=>∃ dx ea C v,x=.ref ea/\H1 ea=some (u3 (some dx) ea C)/\H1 dx=some (.xd [("number",v)])/\El X.K C/\NRk X.K C/\Q v H1):=by
 intro pins s σ H Q I h
 refine Q8 hb (fY (he pins s σ H _ I h) fun u s1 h1=>?_)
 obtain ⟨x,H1,I1,rx,dx,ea,C,v,rfl,h1,h2,Z,N,q⟩:=h1
 obtain rfl:u=bg ea:=rx
 obtain ⟨o,g1,g2,g3⟩:=(show de X.prog X.w H1 s1.heap ea (u3 (some dx) ea C) from I1.hok ea _ h1).1
 obtain ⟨mA,ns,rl⟩:=(show de X.prog X.w H1 s1.heap dx (.xd [("number",v)]) from I1.hok dx _ h2)
 obtain ⟨od,ho,hl⟩:=B3 ns
 obtain ⟨z,hz,rz⟩:=w6.some_of (v:=v) (o:=mA "number") (rl "number")
 have J:ye s1.heap ea o C (some od):=⟨g1,g2,(g3 dx rfl).2,by rw [(g3 dx rfl).1];exact ho⟩
 exact Os Z I1.kIn J (PySem.W.findObj_own N.hd N.fn rfl (by rw [hl,hz])) (Kp rz) ⟨v,H1,I1.tok _,rz,q⟩
end L2
namespace J
open PySem L2
def SK (K:a7) (base:bw) (cls:Str->ag) (names:List Str) (i:Nat):TS:=PZ (UT (tE (tC (.str "row")) (tE (fun σ H Q=>Cc i σ H fun x H1=>∃ dx ea C v,x=.ref ea/\H1 ea=some (u3 (some dx) ea C)/\H1 dx=some (.xd [("number",v)])/\El K C/\NRk K C/\Q v H1)
 (tE (B4 (Nv K base cls names) [] E0 (tE (Cc i) DY)) DY))))
section
variable {c:C}{body:List cY}{x n:Str}{np p1 p2 p3 p4 p5 p6 p7 hpos rpos pos:Pos}{gb:az->R Fl}{names:List Str}{wh:Str->Option Nat}
end
end J
end
namespace J
open PySem L2
section
section
variable {c:C}{body:List cY}{x n:Str}{np np' p1 p2 p3 p4 p5 p6 p7 q2 q3 q4 q5 hpos hpos' rpos pos:Pos}{gb:az->R Fl}{names:List Str}{wh:Str->Option Nat}
def zr (wh:Str->Option Nat) (gb:az->R Fl):az->R Fl:=fun ρ=>match gb ρ with
 |.ok fl=>.ok fl
 |.ex y (some d)=>if y="NoRow" then match wh y with
  |some j=>.ok (.rt (.tuple [.str "row",d,.tuple [.str "refused",.int (j:Nat)]]))
  |none=>.no
  else .no
 |.ex y none=>if y="NoRow" then .no else match wh y with
  |some j=>.ok (.rt (.tuple [.str "refused",.int (j:Nat)]))
  |none=>.no
 |.no=>.no
theorem Ot {K:a7}{base:bw}{C:ag}{bm:List ae}{v:ae} (X:K.In base) (o:wl base C bm) (h:bU K C v=some false):(bg C::bm).contains v=false:=by
 obtain ⟨⟨nm,q,Nn,bs,hdct,sn,sub,ab,col,dd,k0,k1,k2,k3,k5,newId,o1⟩,_⟩:=o
 unfold bU fB at h
 split at h
 ·rename_i look
  have e:=X _ _ look
  rw [o1] at e
  cases e
  simp only [pi] at h
  split at h
  ·cases h
  ·exact bx h
 ·cases h
theorem Ou (i:Nat) (W:Wh c.X.prog c.X.w c.X.K c.X.mg c.X.base c.cls x names wh) (hN':c.X.mg "NoRow"=some (.ref (c.cls "NoRow"))) (N:NRk c.X.K (c.cls "NoRow"))
  (NO:∀ y j,wh y=some j->y≠"NoRow"->∃ bm,wl c.X.base (c.cls y) bm/\bm.contains (.ref (c.cls "PlanError"))=true/\(bg (c.cls y)::bm).contains (.ref (c.cls "NoRow"))=false)
  (hb:∀ (E:XK) (xe:ae->ah->Prop) (pn:List (ag×Obj)),nV (jf c.X.prog c.X.w) (TL c.X xe pn) E->IZ ⟨TL c.X xe pn,c.cls,E⟩ body gb)
  (hr:my 1 c.X.A) (hgx:Gl c.X x) (hg:Gl c.X "NoRow") (hg2:Gl c.X "PlanError") (hN:c.X.N.Nodup) (hw0:(wh "NoRow").isSome=true) (hi:c.X.N[i]?=some n:=by rfl) (hn:c.X.env.scope.names.lookup n=some .local:=by rfl)
  (hst:∃ l,c.X.stack=c.X.env::l/\c.X.env.frame=some c.X.env.locals:=by exact ⟨_,rfl,rfl⟩) (hex:c.X.ex=[]:=by rfl) (hdb:(x==("__debug__" : Str))=false:=by decide) (hd:(n==("__debug__" : Str))=false:=by decide) (hcd:(n==("__classdict__" : Str))=false:=by decide)
  (hab:∀ ea,kf (.Name n p2) "number" (N0 c.X ea).env (cL (.Name n p2) (N0 c.X ea).env)=cL (.Name n p2) (N0 c.X ea).env:=by intro _;rfl) :
  JS c (.Try body [.ExceptHandler (some (.Name "NoRow" np)) (some n) [.Return (some (.Tuple [.Constant (.str "row") k1 p1,.Attribute (.Name n p2) "number" p3,.Call (.Name x p4) [.Name n p5] [] p6] k2 p7)) rpos] hpos,.ExceptHandler (some (.Name "PlanError" np')) (some n) [.Return (some (.Call (.Name x q2) [.Name n q3] [] q4)) q5] hpos'] [] [] pos) (zr wh gb):=.of fun ρ=>by
 obtain ⟨j,hj⟩:=Option.isSome_iff_exists.mp hw0
 obtain ⟨f,fd,ps,F,hm,hk,hbn⟩:=W.fn
 have X0:=W.xf "NoRow" j hj
 obtain ⟨bm,o1,o2⟩:=X0.ox
 have hs:∀ ea,Cb (N0 c.X ea) [.Return (some (.Tuple [.Constant (.str "row") k1 p1,.Attribute (.Name n p2) "number" p3,.Call (.Name x p4) [.Name n p5] [] p6] k2 p7)) rpos] (SK c.X.K c.X.base c.cls names i):=fun ea =>
  xP (Cd (GM (bX GF (bX (L9 (mr hi (.inl hn) hd hcd) (hab ea)) (bX (Eo (X:=N0 c.X ea) F (hr.mark _) hgx hm hk hbn (bX (mr hi (.inl hn) hd hcd) el) hdb) el)))))
 have hs2:∀ ea,Cb (N0 c.X ea) [.Return (some (.Call (.Name x q2) [.Name n q3] [] q4)) q5] (PZ (B4 (Nv c.X.K c.X.base c.cls names) [] E0 (tE (Cc i) DY))):=fun ea =>
  xP (Cd (Eo (X:=N0 c.X ea) F (hr.mark _) hgx hm hk hbn (bX (mr hi (.inl hn) hd hcd) el) hdb))
 refine Ay (R9 ⟨"NoRow",np,n,i,c.cls "NoRow",_,[],hpos,SK c.X.K c.X.base c.cls names i⟩ [⟨"PlanError",np',n,i,c.cls "PlanError",_,[],hpos',PZ (B4 (Nv c.X.K c.X.base c.cls names) [] E0 (tE (Cc i) DY))⟩] (fun d hd'=>?_) hN hst hex (tb:=fun E D σ H=>SR c.X.K c.cls E ρ (gb ρ) D σ H) (fun E xe pn hp=>hb E xe pn hp ρ)) fun D σ H h_0=>?_
 ·rcases aQ.1 hd' with z|z
  ·rw [z]
   exact ⟨hg,hN',⟨_,o1⟩,hi,hn,hs,show ((("NoRow" : Str))==("__debug__" : Str))=false by decide⟩
  ·rw [bT.1 z]
   exact ⟨hg2,W.pe,W.ox,hi,hn,hs2,show ((("PlanError" : Str))==("__debug__" : Str))=false by decide⟩
 obtain ⟨H0,Hs0,la,Hs,fr,q⟩:=h_0
 replace q:oN c.X.K c.cls c.E H0 Hs0 la D (zr wh gb ρ):=q
 refine ⟨H0,Hs0,la,Hs,fr,?_⟩
 have hl:i<c.X.N.length:=(List.getElem?_eq_some_iff.mp hi).1
 have var:∀ ea,((xz c.X).set i (some (V.ref ea)))[i]?=some (some (V.ref ea)):=fun ea=>aI (by simpa [xz] using hl)
 unfold zr at q
 cases hr':gb ρ with
 |no=>rw [hr'] at q;exact q
 |ok fl =>
  rw [hr'] at q
  cases fl<;>exact q
 |ex z m =>
  rw [hr'] at q
  cases m with
  |none =>
   simp only at q
   by_cases hz:z="NoRow"
   ·rw [if_pos hz] at q;exact q.elim
   rw [if_neg hz] at q
   cases hw:wh z with
   |none=>rw [hw] at q;exact q.elim
   |some j =>
    rw [hw] at q
    have X1:=W.xf z j hw
    obtain ⟨bm1,a1,a2,a3⟩:=NO z j hw hz
    intro H' Hs' st
    refine ⟨c.cls z,bm1,rfl,a1,.inr ⟨a3,c.cls z,bm1,rfl,a1,.inl ⟨by rw [gf,a2,wS],fun ea hea=>?_⟩⟩⟩
    refine ⟨.ref ea,var ea,ea,c.cls z,j,rfl,⟨_,aR⟩,X1,fun t H2 sm ht hT=>?_⟩
    have s1:dD H' (upd H' ea (u3 none ea (c.cls z))):=gS hea
    have ht':H' t=none:=s1.free ht
    refine q (.ref t) H2 (upd Hs' t (.tup [.str "refused",.int (j:Nat)])) ?_ (.tuple aR (.cons (.str _) (.cons (.int _) .nil)))
    refine st.trans ⟨s1.trans sm,gS (st.sub.free ht'),fun b u e=>?_,fun a o e _ z=>by rw [aU (b6 e ht')];exact z⟩
    by_cases hb':b=t
    ·subst hb';rw [aR] at e;cases e;exact hT
    ·rw [aU hb'] at e;exact sm b u (s1 b u (st.sub b u e))
  |some d =>
   simp only at q
   by_cases hz:z="NoRow"
   ·subst hz
    rw [if_pos rfl,hj] at q
    intro H' Hs' st dx v hdx rv
    refine ⟨c.cls "NoRow",bm,rfl,o1,.inl ⟨by simp,fun ea hea=>?_⟩⟩
    have s1:dD H' (upd H' ea (u3 (some dx) ea (c.cls "NoRow"))):=gS hea
    refine ⟨.ref ea,var ea,dx,ea,c.cls "NoRow",v,rfl,aR,s1 _ _ hdx,X0.ek,N,.ref ea,var ea,ea,c.cls "NoRow",j,rfl,⟨_,aR⟩,X0,fun t H2 sm ht hT=>⟨b9 (c8 (show 3<=1000 by decide)),fun p hp=>?_⟩⟩
    have ht':H' t=none:=s1.free ht
    have hp':H2 p=none:=hp
    have st2:cE H' Hs' H2 (upd Hs' t (.tup [.str "refused",.int (j:Nat)])):=by
     refine ⟨s1.trans sm,gS (st.sub.free ht'),fun b u e=>?_,fun a o e _ z=>by rw [aU (b6 e ht')];exact z⟩
     by_cases hb':b=t
     ·subst hb';rw [aR] at e;cases e;exact hT
     ·rw [aU hb'] at e;exact sm b u (s1 b u (st.sub b u e))
    have st3:cE H2 (upd Hs' t (.tup [.str "refused",.int (j:Nat)])) (upd H2 p (.tup [.str "row",v,.ref t])) (upd (upd Hs' t (.tup [.str "refused",.int (j:Nat)])) p (.tup [.str "row",v,.ref t])):=.new st2.sub hp'
    exact q (.ref p) _ _ (st.trans (st2.trans st3)) (.tuple aR (.cons (.str _) (.cons ((rv.same st2.sh).same st3.sh) (.cons (.tuple (st3.sh _ _ aR) (.cons (.str _) (.cons (.int _) .nil))) .nil))))
   ·rw [if_neg hz] at q;exact q.elim
end
end
end J
namespace Z
open PySem L2 J
section
def Ov (y:Str):Option Nat:=if y="NoState" then some 1 else if y="NoBook" then some 0 else if y="NoRow" then some 4 else none
def k8:az->R Fl:=(cC (Ev (bY (a9 (eM 1 [1] (kW (rB 0)) kT (g2 (rB 0) (rB 1) (Ey false))) aC) (i5 (gU fun bs=>bs.any id)))))
def gG:List D->R D:=fv 2 k8
def sB:az->R Fl:=(cC (bY (a9 (eM 1 [1] (kW (rB 0)) (fZ (g2 (rB 0) (rB 1) (Ey true))) (rS 0)) aC) (i5 hW)))
def sC:List D->R D:=fv 2 sB
def vm:az->R Fl:=(cC (bY (a9 (lf (Oi (pQ (rB 0)) (pQ (rB 1)))) aC) (i5 hW)))
def vn:List D->R D:=fv 2 vm
def oS:az->R Fl:=(aX (dZ (IT (le (fZ (vd (rB 0) "str"))) (le (fZ (rn (kI 1) (bY (a9 (rB 0) aC) (i5 jg)) (kI 6) QC QC)))) (cC (kB false)) (fun ρ=>.ok (.nx ρ))) (cC (bY (a9 (eM 1 [] (kW (rB 0)) kT (rn (fun _=>.ok (.str "a")) (rB 0) (fun _=>.ok (.str "z")) QC QC)) aC) (i5 (gU fun bs=>bs.all id)))))
def fH:List D->R D:=fv 1 oS
def dJ:az->R Fl:=(aX (dZ (IT (le (fZ (vd (rB 0) "tuple"))) (le (fZ (bY (a9 (eM 1 [] (kW (rB 0)) kT (e6 1 fH (a9 (rS 0) aC))) aC) (i5 (gU fun bs=>bs.all id)))))) (cC (kB false)) (fun ρ=>.ok (.nx ρ))) (cC (bY (a9 (eM 2 [] (QI (a9 (rS 0) (a9 (IY (rB 0) (Gd (kI 1)) KM) aC))) kT (g2 (rB 0) (rB 1) Hc)) aC) (i5 (gU fun bs=>bs.all id)))))
def cw:List D->R D:=fv 1 dJ
def jB:az->R Fl:=(cC (yP (e6 1 cw (a9 (rS 1) aC)) (bY (a9 (eM 1 [0] (kW (rB 1)) kT (g2 (rB 0) (rB 1) (Ey false))) aC) (i5 (gU fun bs=>bs.all id)))))
def fG:List D->R D:=fv 2 jB
def pT:az->R Fl:=(aX (dZ (IT (le (fZ (vd (rB 0) "int"))) (fZ (vd (rB 0) "bool"))) (cC (kB false)) (fun ρ=>.ok (.nx ρ))) (cC (rn (rB 1) (rB 0) (rB 2) QC QC)))
def pU:List D->R D:=fv 3 pT
def nj:az->R Fl:=(aX (dZ (IT (le (fZ (vd (rB 1) "tuple"))) (fZ (g2 (bY (a9 (rB 1) aC) (i5 jg)) (kI 6) (ko true)))) (cC (kB false)) (fun ρ=>.ok (.nx ρ))) (aX (CZ (rS 1) (o7 6 (c_ (cg 2) (c_ (cg 3) (c_ (cg 4) (c_ (cg 5) (c_ (cg 6) (c_ (cg 7) pK)))))))) (aX (dZ (IT (le (fZ (e6 1 fH (a9 (rS 2) aC)))) (le (fZ (e6 3 pU (a9 (rS 7) (a9 (kI 0) (a9 (kI 9) aC))))))) (cC (kB false)) (fun ρ=>.ok (.nx ρ))) (aX (dZ (le (fZ (bY (a9 (eM 1 [0] (kW (cP (a9 (rS 3) (a9 (rS 4) (a9 (rS 5) (a9 (rS 6) aC)))) .tuple)) kT (e6 2 fG (a9 (rS 1) (a9 (rS 0) aC)))) aC) (i5 (gU fun bs=>bs.all id))))) (cC (kB false)) (fun ρ=>.ok (.nx ρ))) (cC (yP (e6 2 gG (a9 (rS 3) (a9 (rS 4) aC))) (e6 2 gG (a9 (rS 5) (a9 (rS 6) aC)))))))))
def nl:List D->R D:=fv 8 nj
def sD:az->R Fl:=(aX (dZ (IT (le (fZ (vd (rB 0) "tuple"))) (fZ (g2 (bY (a9 (rB 0) aC) (i5 jg)) (kI 2) (ko true)))) (cC (kB false)) (fun ρ=>.ok (.nx ρ))) (aX (CZ (rS 0) (o7 2 (c_ (cg 1) (c_ (cg 2) pK)))) (aX (dZ (IT (le (fZ (e6 1 cw (a9 (rS 1) aC)))) (fZ (g2 (bY (a9 (rB 1) aC) (i5 jg)) (kI 6) S3))) (cC (kB false)) (fun ρ=>.ok (.nx ρ))) (aX (dZ (IT (le (fZ (vd (rB 2) "tuple"))) (fZ (g2 (bY (a9 (rB 2) aC) (i5 jg)) (kI 6) S3))) (cC (kB false)) (fun ρ=>.ok (.nx ρ))) (aX (dZ (le (fZ (bY (a9 (eM 1 [1] (kW (rB 2)) kT (e6 2 nl (a9 (rS 1) (a9 (rS 0) aC)))) aC) (i5 (gU fun bs=>bs.all id))))) (cC (kB false)) (fun ρ=>.ok (.nx ρ))) (cC (g2 (vh (wq 1 [] (kW (rB 2)) kT (g2 (rB 0) (kI 0) aT))) (bY (a9 (rB 2) aC) (i5 jg)) (ko false))))))))
def sF:List D->R D:=fv 3 sD
def ji:az->R Fl:=(dZ (le (fZ (e6 2 fG (a9 (g2 (rB 0) (kI 0) aT) (a9 (rS 1) aC))))) (uc "NoState" (a9 (fun _=>.ok (.str "a state is a rising tuple of the book's facts, none twice")) aC)) (fun ρ=>.ok (.nx ρ)))
def im:List D->R D:=fv 2 ji
def gC:az->R Fl:=(aX (dZ (le (fZ (vd (rB 1) "str"))) (cC kN) (fun ρ=>.ok (.nx ρ))) (aX (s_ (kW (g2 (rB 0) (kI 1) aT)) (cg 2) (dZ (fZ (g2 (g2 (rB 2) (kI 0) aT) (rB 1) (ko false))) (cC (rS 2)) (fun ρ=>.ok (.nx ρ)))) (cC kN)))
def cK:List D->R D:=fv 3 gC
def sG:az->R Fl:=(aX (CZ (rS 1) (o7 2 (c_ (cg 2) (c_ (cg 3) pK)))) (cC (yP (bY (a9 (eM 1 [0] (kW (rB 2)) kT (g2 (rB 0) (rB 1) (Ey false))) aC) (i5 (gU fun bs=>bs.all id))) (e6 2 gG (a9 (rS 3) (a9 (rS 0) aC))))))
def sH:List D->R D:=fv 4 sG
def nq:az->R Fl:=(cC (e6 2 sH (a9 (rS 1) (a9 (cP (a9 (g2 (rB 0) (kI 1) aT) (a9 (g2 (rB 0) (kI 2) aT) aC)) .tuple) aC))))
def iO:List D->R D:=fv 2 nq
def k9:az->R Fl:=(aX (Oj 2 3 (a9 (g2 (rB 0) (kI 3) aT) (a9 (g2 (rB 0) (kI 4) aT) aC))) (cC (e6 2 vn (a9 (e6 2 sC (a9 (rS 1) (a9 (rS 3) aC))) (a9 (rS 2) aC)))))
def fR:List D->R D:=fv 4 k9
def sI:az->R Fl:=(aX (dZ (le (fZ (e6 1 sF (a9 (rS 0) aC)))) (uc "NoBook" (a9 (fun _=>.ok (.str "a book is a tuple of facts and errands, each as the document tells")) aC)) (fun ρ=>.ok (.nx ρ))) (cC (rS 0)))
def oT:List D->R D:=fv 1 sI
def jj:az->R Fl:=(aX (yS (e6 1 oT (a9 (rS 0) aC))) (yS (e6 2 im (a9 (rS 0) (a9 (rS 1) aC)))))
def io:List D->R D:=fv 2 jj
def mD:az->R Fl:=(aX (dZ (IT (le (fZ (vd (rB 1) "list"))) (fZ (g2 (bY (a9 (rB 1) aC) (i5 jg)) (kI 64) S3))) (cC (kB false)) (fun ρ=>.ok (.nx ρ))) (cC (bY (a9 (eM 1 [0] (kW (rB 1)) kT (g2 (e6 2 cK (a9 (rS 1) (a9 (rS 0) aC))) kN (Bo true))) aC) (i5 (gU fun bs=>bs.all id)))))
def li:List D->R D:=fv 2 mD
def ka:az->R Fl:=(aX (dZ (le (fZ (e6 2 li (a9 (rS 0) (a9 (rS 1) aC))))) (pS "NoRow" (a9 kN aC)) (fun ρ=>.ok (.nx ρ))) (cC (eM 1 [0] (kW (rB 1)) kT (e6 2 cK (a9 (rS 1) (a9 (rS 0) aC))))))
def hZ:List D->R D:=fv 2 ka
def iS:az->R Fl:=(aX (gQ 2 (cP (a9 (rS 1) aC) .list)) (aX (yZ 0 (cg 3) (aX (dZ (le (fZ (e6 2 iO (a9 (rS 3) (a9 (g2 (rB 2) (u9 (kI 1)) aT) aC))))) (cC (rS 2)) (fun ρ=>.ok (.nx ρ))) (pP 2 (e6 2 fR (a9 (rS 3) (a9 (g2 (rB 2) (u9 (kI 1)) aT) aC)))))) (cC (rS 2))))
def iT:List D->R D:=fv 4 iS
def pV:az->R Fl:=(aX (yS (e6 2 io (a9 (rS 0) (a9 (rS 1) aC)))) (aX (f_ 3 (e6 2 hZ (a9 (rS 0) (a9 (rS 2) aC)))) (aX (f_ 4 (e6 2 iT (a9 (rS 3) (a9 (rS 1) aC)))) (aX (dZ (fZ (g2 (bY (a9 (rB 4) aC) (i5 jg)) (bY (a9 (rB 3) aC) (i5 jg)) QC)) (pS "NoRow" (a9 (g2 (bY (a9 (rB 4) aC) (i5 jg)) (kI 1) TQ) aC)) (fun ρ=>.ok (.nx ρ))) (cC (rS 4))))))
def iA:List D->R D:=fv 5 pV
def xY:az->R Fl:=(aX (yS (e6 1 oT (a9 (rS 0) aC))) (cC (bY (a9 (eM 1 [] (kW (e6 2 hZ (a9 (rS 0) (a9 (rS 1) aC)))) kT (g2 (rB 0) (kI 5) aT)) aC) (i5 F7))))
def vo:List D->R D:=fv 2 xY
def kX:az->R Fl:=(aX (dZ (fZ (g2 (rB 1) (bY (a9 (rB 0) aC) (i5 jg)) Hc)) (cC (g2 (rB 0) (rB 1) aT)) (fun ρ=>.ok (.nx ρ))) (aX (dZ (fZ (g2 (rB 0) (cP aC .list) (ko false))) (cC (kI 0)) (fun ρ=>.ok (.nx ρ))) (cC (g2 (g2 (g2 (rB 0) (g2 (rB 1) (bY (a9 (rB 0) aC) (i5 jg)) KJ) aT) (kI 31) xC) (rB 1) dB))))
def kY:List D->R D:=fv 2 kX
def nu:az->R Fl:=(aX (f_ 3 (g2 (g2 (g2 (g2 (e6 2 kY (a9 (rS 0) (a9 (rS 1) aC))) (g2 (kI 7919) (rB 1) xC) dB) (kI 1) dB) (kI 48271) xC) (kI 2147483647) KJ)) (cC (g2 (g2 (g2 (g2 (g2 (rB 3) (rB 3) xC) (g2 (kI 7) (rB 3) xC) dB) (rB 1) dB) (kI 2147483629) KJ) (rB 2) KJ)))
def aV:List D->R D:=fv 4 nu
def pW:az->R Fl:=(aX (f_ 2 (fun _=>.ok (.str ""))) (aX (s_ (yU (a9 (g2 (cP (a9 (kI 1) (a9 (kI 2) (a9 (kI 3) (a9 (kI 6) (a9 (kI 1) (a9 (kI 4) aC)))))) .list) (e6 3 aV (a9 (rS 0) (a9 (rS 1) (a9 (kI 6) aC)))) aT) aC)) (cg 3) (f_ 2 (g2 (rB 2) (g2 (fun _=>.ok (.str "abcdefghijklmnopqrstuvwxyz")) (e6 3 aV (a9 (rS 0) (a9 (g2 (g2 (rB 1) (kI 1) dB) (rB 3) dB) (a9 (kI 26) aC)))) aT) dB))) (cC (rS 2))))
def kM:List D->R D:=fv 4 pW
def nw:az->R Fl:=(aX (gQ 3 (fun _=>.ok (.dict []))) (aX (s_ (yU (a9 (e6 3 aV (a9 (rS 0) (a9 (rS 1) (a9 (g2 (rB 2) (kI 1) dB) aC)))) aC)) (cg 4) (D4 3 (e6 2 kM (a9 (rS 0) (a9 (g2 (g2 (rB 1) (kI 1) dB) (g2 (kI 8) (rB 4) xC) dB) aC))) (kB true))) (cC (bY (a9 (bY (a9 (bY (a9 (rB 3) aC) (i5 iz)) aC) (i5 sw)) aC) (i5 hW)))))
def ny:List D->R D:=fv 5 nw
def pX:az->R Fl:=(cC (bY (a9 (eM 2 [0,1,3] (Hh (a9 (rS 2) aC)) (fZ (g2 (e6 3 aV (a9 (rS 2) (a9 (g2 (rB 3) (rB 0) dB) (a9 (kI 12) aC)))) (rB 4) Hc)) (rS 1)) aC) (i5 hW)))
def pY:List D->R D:=fv 4 pX
def pZ:az->R Fl:=(aX (f_ 4 (g2 (rB 2) (e6 3 aV (a9 (rS 0) (a9 (g2 (rB 1) (kI 10) dB) (a9 (bY (a9 (rB 2) aC) (i5 jg)) aC)))) aT)) (aX (f_ 5 (g2 (rB 2) (e6 3 aV (a9 (rS 0) (a9 (g2 (rB 1) (kI 11) dB) (a9 (bY (a9 (rB 2) aC) (i5 jg)) aC)))) aT)) (aX (f_ 6 (g2 (rB 2) (e6 3 aV (a9 (rS 0) (a9 (g2 (rB 1) (kI 12) dB) (a9 (bY (a9 (rB 2) aC) (i5 jg)) aC)))) aT)) (aX (f_ 7 (IY (cP (a9 (rS 4) (a9 (rS 5) aC)) .list) KM (Gd (g2 (kI 1) (g2 (e6 3 aV (a9 (rS 0) (a9 (g2 (rB 1) (kI 13) dB) (a9 (kI 3) aC)))) (kI 2) Nf) dB)))) (aX (gQ 8 (eM 1 [7,0,1] (kW (cP (a9 (rS 6) aC) .list)) (CM (fZ (g2 (rB 0) (rB 1) (Ey true))) (fZ (g2 (e6 3 aV (a9 (rS 2) (a9 (g2 (rB 3) (kI 14) dB) (a9 (kI 4) aC)))) (kI 0) (ko false)))) (rS 0))) (aX (gQ 9 (eM 1 [6,0,1] (kW (cP (a9 (rS 4) aC) .list)) (CM (fZ (g2 (rB 0) (rB 1) (ko true))) (fZ (g2 (e6 3 aV (a9 (rS 2) (a9 (g2 (rB 3) (kI 15) dB) (a9 (kI 3) aC)))) (kI 0) (ko false)))) (rS 0))) (aX (WI 8 (WI 9 (gQ 10 (eM 1 [] (kW (cP (a9 (rS 7) (a9 (rS 8) (a9 (cP (a9 (rS 6) aC) .list) (a9 (rS 9) aC)))) .tuple)) kT (bY (a9 (lf (pQ (rB 0))) aC) (i5 hW)))))) (cC (cP (a9 (rS 3) (a9 (g2 (rB 10) (kI 0) aT) (a9 (g2 (rB 10) (kI 1) aT) (a9 (g2 (rB 10) (kI 2) aT) (a9 (g2 (rB 10) (kI 3) aT) (a9 (e6 3 aV (a9 (rS 0) (a9 (rS 1) (a9 (kI 5) aC)))) aC)))))) .tuple)))))))))
def p_:List D->R D:=fv 11 pZ
def iU:az->R Fl:=(aX (dZ (CM (fZ (g2 (rB 2) (cP aC .tuple) (ko true))) (fZ (g2 (e6 3 aV (a9 (rS 0) (a9 (kI 97) (a9 (kI 2) aC)))) (kI 0) (ko false)))) (cC (e6 4 p_ (a9 (rS 0) (a9 (rS 1) (a9 (rS 2) (a9 (rS 3) aC)))))) (fun ρ=>.ok (.nx ρ))) (aX (QN 4) (aX (s_ (Hh (a9 (rS 2) aC)) (o7 2 (c_ (cg 5) (c_ (cg 6) pK))) (aX (f_ 7 (e6 3 aV (a9 (rS 0) (a9 (g2 (g2 (rB 1) (kI 10) dB) (rB 5) dB) (a9 (kI 8) aC))))) (aX (dZ (fZ (g2 (rB 7) (kI 3) Hc)) (oQ 4 (g2 (cP (a9 (kI 0) (a9 (kI 0) (a9 (kI 1) aC))) .list) (rB 7) aT) (rS 6)) (fun ρ=>.ok (.nx ρ))) (aX (f_ 7 (e6 3 aV (a9 (rS 0) (a9 (g2 (g2 (rB 1) (kI 20) dB) (rB 5) dB) (a9 (kI 8) aC))))) (dZ (fZ (g2 (rB 7) (kI 4) Hc)) (oQ 4 (g2 (cP (a9 (kI 2) (a9 (kI 2) (a9 (kI 3) (a9 (kI 3) aC)))) .list) (rB 7) aT) (rS 6)) (fun ρ=>.ok (.nx ρ))))))) (aX (fun ρ=>(gQ 8 (eM 1 [] (kW (rB 4)) kT (bY (a9 (rB 0) aC) (i5 hW)))) (fQ ρ)) (cC (cP (a9 (rS 3) (a9 (g2 (rB 8) (kI 0) aT) (a9 (g2 (rB 8) (kI 1) aT) (a9 (g2 (rB 8) (kI 2) aT) (a9 (g2 (rB 8) (kI 3) aT) (a9 (e6 3 aV (a9 (rS 0) (a9 (rS 1) (a9 (kI 5) aC)))) aC)))))) .tuple))))))
def iV:List D->R D:=fv 9 iU
def mE:az->R Fl:=(aX (f_ 4 (e6 3 ny (a9 (rS 0) (a9 (rS 1) (a9 (rS 2) aC))))) (aX (gQ 5 (fun _=>.ok (.dict []))) (aX (s_ (yU (a9 (e6 3 aV (a9 (rS 0) (a9 (g2 (rB 1) (kI 60) dB) (a9 (g2 (rB 3) (kI 1) dB) aC)))) aC)) (cg 6) (aX (f_ 7 (e6 2 kM (a9 (rS 0) (a9 (g2 (g2 (rB 1) (kI 70) dB) (g2 (kI 40) (rB 6) xC) dB) aC)))) (D4 5 (rS 7) (e6 4 iV (a9 (rS 0) (a9 (g2 (g2 (rB 1) (kI 80) dB) (g2 (kI 40) (rB 6) xC) dB) (a9 (rS 4) (a9 (rS 7) aC)))))))) (aX (f_ 8 (bY (a9 (rB 5) aC) (i5 iz))) (aX (f_ 9 (e6 3 aV (a9 (rS 0) (a9 (g2 (rB 1) (kI 61) dB) (a9 (g2 (bY (a9 (rB 8) aC) (i5 jg)) (kI 1) dB) aC))))) (cC (cP (a9 (rS 4) (a9 (bY (a9 (eM 1 [5] (kW (g2 (IY (rB 8) (Gd (rS 9)) KM) (IY (rB 8) KM (Gd (rS 9))) dB)) kT (g2 (rB 1) (rB 0) aT)) aC) (i5 hW)) aC)) .tuple)))))))
def mF:List D->R D:=fv 10 mE
def mG:az->R Fl:=(aX (gQ 3 (cP aC .list)) (aX (gQ 4 (cP aC .list)) (aX (s_ (Hh (a9 (rS 2) aC)) (o7 2 (c_ (cg 5) (c_ (cg 6) pK))) (aX (f_ 7 (e6 3 aV (a9 (rS 0) (a9 (g2 (rB 1) (rB 5) dB) (a9 (kI 8) aC))))) (dZ (fZ (g2 (rB 7) (kI 2) Hc)) (pP 3 (rS 6)) (dZ (fZ (g2 (rB 7) (kI 2) (ko false))) (pP 4 (rS 6)) (fun ρ=>.ok (.nx ρ)))))) (cC (cP (a9 (bY (a9 (rB 3) aC) (i5 hW)) (a9 (bY (a9 (rB 4) aC) (i5 hW)) aC)) .tuple)))))
def uf:List D->R D:=fv 8 mG
def q0:az->R Fl:=(aX (f_ 3 (e6 4 mF (a9 (rS 0) (a9 (kI 100) (a9 (rS 1) (a9 (rS 2) aC)))))) (aX (f_ 4 (e6 4 pY (a9 (rS 0) (a9 (kI 20) (a9 (g2 (rB 3) (kI 0) aT) (a9 (g2 (cP (a9 (kI 2) (a9 (kI 4) aC)) .list) (e6 3 aV (a9 (rS 0) (a9 (kI 97) (a9 (kI 2) aC)))) aT) aC)))))) (cC (cP (a9 (rS 3) (a9 (rS 4) (a9 (e6 3 uf (a9 (rS 0) (a9 (kI 30) (a9 (g2 (rB 3) (kI 0) aT) aC)))) aC))) .tuple))))
def q8:List D->R D:=fv 5 q0
def q9:az->R Fl:=(cC (yP (bY (a9 (eM 1 [0] (kW (g2 (rB 1) (kI 0) aT)) kT (g2 (rB 0) (rB 1) (Ey false))) aC) (i5 (gU fun bs=>bs.all id))) (Ev (bY (a9 (eM 1 [0] (kW (g2 (rB 1) (kI 1) aT)) kT (g2 (rB 0) (rB 1) (Ey false))) aC) (i5 (gU fun bs=>bs.any id))))))
def qc:List D->R D:=fv 2 q9
def qd:az->R Fl:=(aX (dZ (le (fZ (e6 2 qc (a9 (rS 1) (a9 (IY (rB 0) (Gd (kI 1)) (Gd (kI 3))) aC))))) (cC kN) (fun ρ=>.ok (.nx ρ))) (aX (gQ 2 (eM 1 [0] (kW (rB 1)) (fZ (g2 (rB 0) (g2 (rB 1) (kI 4) aT) (Ey true))) (rS 0))) (cC (bY (a9 (lf (pQ (g2 (rB 2) (bY (a9 (g2 (rB 0) (kI 3) aT) aC) (i5 iz)) dB))) aC) (i5 hW)))))
def fh:List D->R D:=fv 3 qd
def qe:az->R Fl:=(aX (gQ 5 (cP aC .list)) (aX (s_ (yU (a9 (rB 4) aC)) (cg 6) (aX (gQ 7 (eM 1 [3] (kW (g2 (rB 2) (kI 1) aT)) (fZ (g2 (e6 2 fh (a9 (rS 0) (a9 (rS 1) aC))) kN (Bo true))) (rS 0))) (aX (dZ (fZ (g2 (rB 7) (cP aC .list) (ko false))) (cC (rS 5)) (fun ρ=>.ok (.nx ρ))) (aX (f_ 8 (g2 (rB 7) (e6 3 aV (a9 (rS 0) (a9 (g2 (rB 1) (rB 6) dB) (a9 (bY (a9 (rB 7) aC) (i5 jg)) aC)))) aT)) (aX (pP 5 (g2 (rB 8) (kI 0) aT)) (f_ 3 (e6 2 fh (a9 (rS 8) (a9 (rS 3) aC))))))))) (cC (rS 5))))
def mH:List D->R D:=fv 9 qe
def lW:az->R Fl:=(aX (gQ 3 (sA (eM 1 [] (kW (g2 (rB 0) (kI 1) aT)) kT (cP (a9 (g2 (rB 0) (kI 0) aT) (a9 (rS 0) aC)) .tuple)))) (aX (gQ 4 (cP (a9 (rS 1) aC) .list)) (aX (s_ (Js (a9 (rS 2) aC)) (o7 2 (c_ (cg 5) (c_ (cg 6) pK))) (aX (f_ 7 (e6 2 fh (a9 (g2 (rB 3) (rB 6) aT) (a9 (g2 (rB 4) (u9 (kI 1)) aT) aC)))) (aX (dZ (fZ (g2 (rB 7) kN (Bo false))) (cC (rS 5)) (fun ρ=>.ok (.nx ρ))) (pP 4 (rS 7))))) (cC (rS 4)))))
def fA:List D->R D:=fv 8 lW
def ig:az->R Fl:=(aX (gQ 3 (cP (a9 kN (a9 (bY (a9 (rB 2) aC) (i5 iz)) (a9 (cP (a9 (fun _=>.ok (.str "zzzzz")) aC) .tuple) (a9 (g2 (rB 2) (cP (a9 (fun _=>.ok (.str "zzzzz")) aC) .tuple) dB) (a9 (cP (a9 (kI 1) aC) .tuple) (a9 (kI 0) (a9 (fun _=>.ok (.str "a")) (a9 (cP (a9 (fun _=>.ok (.str "")) aC) .tuple) (a9 (cP (a9 kN aC) .tuple) aC))))))))) .list)) (aX (dZ (fZ (g2 (rB 2) (cP aC .tuple) (ko true))) (EL 3 (cP (a9 (g2 (rB 2) (rB 2) dB) (a9 (g2 (IY (rB 2) KM (Gd (kI 1))) (IY (rB 2) KM (Gd (kI 1))) dB) (a9 (cP (a9 (g2 (rB 2) (kI 0) aT) (a9 (kI 0) aC)) .tuple) aC))) .list)) (fun ρ=>.ok (.nx ρ))) (aX (dZ (fZ (g2 (bY (a9 (rB 2) aC) (i5 jg)) (kI 1) S3)) (EL 3 (QW 3 (a9 (QX (rB 2)) aC))) (fun ρ=>.ok (.nx ρ))) (cC (g2 (rB 3) (e6 3 aV (a9 (rS 0) (a9 (rS 1) (a9 (bY (a9 (rB 3) aC) (i5 jg)) aC)))) aT)))))
def jo:List D->R D:=fv 4 ig
def jk:az->R Fl:=(aX (gQ 3 (eM 1 [] (kW (g2 (rB 2) (kI 1) aT)) kT (g2 (rB 0) (kI 0) aT))) (aX (gQ 4 (cP (a9 kN (a9 (bY (a9 (rB 3) aC) (i5 hW)) (a9 (g2 (rB 3) (cP (a9 (fun _=>.ok (.str "zzzzz")) aC) .list) dB) (a9 (cP (a9 (fun _=>.ok (.str "zzzzz")) aC) .list) (a9 (cP (a9 kN aC) .list) (a9 (cP (a9 (cP (a9 (fun _=>.ok (.str "a")) aC) .list) aC) .list) (a9 (fun _=>.ok (.str "a")) (a9 (kI 0) (a9 (cP (a9 (kI 1) aC) .list) aC))))))))) .list)) (aX (dZ (fZ (g2 (rB 3) (cP aC .list) (ko true))) (EL 4 (cP (a9 (zq 65 (rB 3) KM (Gd (kI 1))) (a9 (cP (a9 (g2 (rB 3) (kI 0) aT) aC) .tuple) aC)) .list)) (fun ρ=>.ok (.nx ρ))) (cC (g2 (rB 4) (e6 3 aV (a9 (rS 0) (a9 (rS 1) (a9 (bY (a9 (rB 4) aC) (i5 jg)) aC)))) aT)))))
def kZ:List D->R D:=fv 5 jk
def nz:az->R Fl:=(zr Ov (cC (e6 3 iA (a9 (rS 0) (a9 (rS 1) (a9 (rS 2) aC))))))
def eg:List D->R D:=fv 4 nz
def Ju:az->R Fl:=(aX (CZ (e6 3 q8 (a9 (rS 0) (a9 (kI 5) (a9 (kI 6) aC)))) (o7 3 (c_ (cg 1) (c_ (cg 2) (c_ (cg 3) pK))))) (aX (gQ 4 (eM 1 [] (kW (g2 (rB 1) (kI 1) aT)) kT (g2 (rB 0) (kI 0) aT))) (aX (f_ 5 (e6 5 mH (a9 (rS 0) (a9 (kI 300) (a9 (rS 1) (a9 (rS 2) (a9 (e6 3 aV (a9 (rS 0) (a9 (kI 0) (a9 (g2 (cP (a9 (kI 9) (a9 (kI 60) aC)) .list) (bY (a9 (g2 (e6 3 aV (a9 (rS 0) (a9 (kI 90007) (a9 (kI 8) aC)))) (kI 0) (ko false)) aC) (i5 R1)) aT) aC)))) aC))))))) (aX (dZ (CM (fZ (g2 (rB 4) (cP aC .list) (ko true))) (fZ (g2 (e6 3 aV (a9 (rS 0) (a9 (kI 1) (a9 (kI 2) aC)))) (kI 0) (ko false)))) (aX (f_ 6 (e6 3 aV (a9 (rS 0) (a9 (kI 2) (a9 (g2 (bY (a9 (rB 5) aC) (i5 jg)) (kI 1) dB) aC))))) (f_ 5 (g2 (g2 (IY (rB 5) KM (Gd (rS 6))) (cP (a9 (g2 (rB 4) (e6 3 aV (a9 (rS 0) (a9 (kI 3) (a9 (bY (a9 (rB 4) aC) (i5 jg)) aC)))) aT) aC) .list) dB) (IY (rB 5) (Gd (g2 (rB 6) (e6 3 aV (a9 (rS 0) (a9 (kI 4) (a9 (kI 2) aC)))) dB)) KM) dB))) (fun ρ=>.ok (.nx ρ))) (aX (f_ 7 (bY (a9 (rB 5) aC) (i5 iz))) (aX (f_ 8 (e6 3 fA (a9 (rS 1) (a9 (rS 2) (a9 (rS 5) aC))))) (aX (dZ (fZ (vd (rB 8) "int")) (f_ 8 (cP (a9 (fun _=>.ok (.str "row")) (a9 (rS 8) (a9 (cP (a9 (fun _=>.ok (.str "refused")) (a9 (kI 4) aC)) .tuple) aC))) .tuple)) (fun ρ=>.ok (.nx ρ))) (aX (dZ (IT (fZ (g2 (e6 3 eg (a9 (rS 1) (a9 (rS 2) (a9 (rS 7) aC)))) (rB 8) (ko true))) (fZ (g2 (rB 7) (rB 5) (ko true)))) (cC (kB false)) (fun ρ=>.ok (.nx ρ))) (aX (gQ 9 (sA (eM 1 [] (kW (g2 (rB 1) (kI 1) aT)) kT (cP (a9 (g2 (rB 0) (kI 0) aT) (a9 (g2 (rB 0) (kI 5) aT) aC)) .tuple)))) (aX (dZ (fZ (g2 (e6 2 vo (a9 (rS 1) (a9 (rS 5) aC))) (bY (a9 (eM 1 [9] (kW (rB 5)) kT (g2 (rB 1) (rB 0) aT)) aC) (i5 F7)) (ko true))) (cC (kB false)) (fun ρ=>.ok (.nx ρ))) (aX (dZ (fZ (g2 (e6 3 eg (a9 (rS 1) (a9 (rS 2) (a9 (e6 3 kZ (a9 (rS 0) (a9 (kI 5) (a9 (rS 1) aC)))) aC)))) (cP (a9 (fun _=>.ok (.str "row")) (a9 kN (a9 (cP (a9 (fun _=>.ok (.str "refused")) (a9 (kI 4) aC)) .tuple) aC))) .tuple) (ko true))) (cC (kB false)) (fun ρ=>.ok (.nx ρ))) (cC (g2 (e6 3 eg (a9 (rS 1) (a9 (e6 3 jo (a9 (rS 0) (a9 (kI 8) (a9 (g2 (rB 1) (kI 0) aT) aC)))) (a9 kN aC)))) (cP (a9 (fun _=>.ok (.str "refused")) (a9 (kI 1) aC)) .tuple) (ko false))))))))))))))
def F_law:List D->R D:=fv 10 Ju
end
end Z
section
set_option hygiene false
namespace Z
open PySem L2 J
local macro_rules | `(tactic| walk_at "zz") => `(tactic| simp only [VY, Uh, VZ, V_, W0, zf, rK, EN, VC, Nx, Ny, Se, VD, J9, EO, Ja, EQ, ES, ET, Nz, NA, NB, Jb, NC, Jc, VF, Sg, Sh, ND, Si, NE, Sj, VI, NF, Sk, NG, Jd, NH, Je, Jf, NI, NJ, NK, NQ, EU, EV, So, NS, Jg, NT, VN, Sr, Ss, NU, Su, NV, NW, NX, Sv, Sw, NY, VR, NZ, N_, Sx, Sy, O0, U5, O1, Sz, SA, O3, Jh, Ji, SD, Br, Bs, Bt, O5, VT, O7, O8, O9, Oa, Ob, Oc, Bv, Bw, D6, VA, VB, dB, TQ, xC, KJ, Nf, Ew, Hc, QC, S3, KL, jg, aS, ed, aM, bi, au, Pl, df, cU, Kg, vP, vQ, Nat.reduceSub, Nat.reduceAdd, PR, PU, Nat.sub_self, if_true, if_false, ite_true, ite_false, cb, decide_true, decide_false, cond_true, cond_false, pj, j0, ar, eB, GD, Int.reduceLE, Int.reduceAdd, Int.reduceMul, Nat.reduceLT, Int.reduceNeg, reduceIte])
local macro_rules | `(tactic| walk_at "yy") => `(tactic| simp only [VY, Uh, VZ, V_, W0, zf, rK, EN, Se, VD, J9, EO, Ja, EQ, ES, ET, Nz, NA, NB, Jb, NC, Jc, VF, Sg, Sh, ND, Si, NE, Sj, VI, NF, Sk, NG, Jd, NH, Je, Jf, NI, NJ, NK, NQ, EU, EV, So, NS, Jg, NT, VN, Sr, Ss, NU, Su, NV, NW, NX, Sv, Sw, NY, VR, NZ, N_, Sx, Sy, O0, U5, O1, Sz, SA, O3, Jh, Ji, SD, Br, Bs, Bt, O5, VT, O7, O8, O9, Oa, Ob, Oc, Bv, Bw, D6, VA, VB, dB, jg, aS, ed, aM, bi, au, Pl, df, cU, Kg, vP, vQ, Nat.reduceSub, Nat.reduceAdd, PR, PU, Nat.sub_self, if_true, if_false, ite_true, ite_false, cb, decide_true, decide_false, cond_true, cond_false, pj, j0, ar, eB, GD, Int.reduceLE, Int.reduceAdd, Int.reduceMul, Nat.reduceLT, Int.reduceNeg, reduceIte])
theorem c7 {n:Nat}{g:az->R Fl}{ds:List D}{d:D} (h:g (bn n ds)=.ok (.rt d)):fv n g ds=.ok d:=by unfold fv;rw [h]
theorem wv {n:Nat}{g:az->R Fl}{ds:List D}{c:Str}{m:Option D} (h:g (bn n ds)=.ex c m):fv n g ds=.ex c m:=by unfold fv;rw [h]
def Jv (ns:List Int) (k:Int):Int:=if k<ns.length then ns.getD k.toNat 0 else if ns=[] then 0 else ns.getD (k % ns.length).toNat 0*31+k
theorem Ow (ns:List Int):bH (ns.map .int)=true:=by
 induction ns with
 |nil=>rfl
 |cons x r ih=>simp [bH,db,ih]
theorem Ra (ns:List Int):bB (.list (ns.map .int)) (.list [])=decide (ns=[]):=by
 cases ns with
 |nil=>rfl
 |cons x r=>simp [bB,l9]
theorem Ui (ns:List Int):ko false (.list (ns.map .int)) (.list [])=.ok (.bool (decide (ns=[]))):=by
 unfold ko
 have h1:(ej (ns.map .int)).canLay0=true:=by simp only [db];exact Ow ns
 have h2:(ej []).canLay0=true:=rfl
 have h3:min (ej (ns.map .int)).depth (ej []).depth<=60:=bD (qC _ _) (by decide)
 rw [h1,h2,decide_eq_true h3,Ra]
 rfl
theorem Uj (ns:List Int) (k:Int) (h0:0<=k) (h1:k<ns.length):DP (ns.map bC) k=some (.int (ns.getD k.toNat 0)):=by
 have hk:k.toNat<ns.length:=by omega
 have:=pC (xs:=ns.map bC) (j:=k.toNat) (v:=.int (ns.getD k.toNat 0)) (by rw [aO,aW hk];simp [hk])
 rwa [eu h0] at this
theorem Ox (ns:List Int) (k:Int) (h0:0<=k) (h1:k<ns.length):aT (.list (ns.map .int)) (.int k)=.ok (.int (ns.getD k.toNat 0)):=by
 have e:∀ xs k,aT (.list xs) k=CV (.list xs) k:=fun _ _=>rfl
 rw [e]
 unfold CV
 simp only [Uj ns k h0 h1]
theorem Jw {i j:Int} (h1:-(2 ^ 64)<j) (h2:j<2 ^ 64):Bl i j=true:=by
 unfold Bl
 simp only [jL,aP,decide_eq_true_eq]
 exact .inr ⟨h1,h2⟩
theorem sJ {i j:Int} (h1:-(2 ^ 64)<i) (h2:i<2 ^ 64):Bl i j=true:=by
 unfold Bl
 simp only [jL,aP,decide_eq_true_eq]
 exact .inl ⟨h1,h2⟩
theorem Rb (ns:List Int) (k:Int) (hk:0<=k):kY [.list (ns.map .int),.int k]=.ok (.int (Jv ns k)):=by
 unfold kY
 refine c7 ?_
 unfold kX bn Jv
 walk_at "zz"
 by_cases h:k<ns.length
 ·simp only [h,decide_true,cond_true,if_true,Ox ns k hk h,bind_ok]
  walk_at "zz"
 ·simp only [h,decide_false,cond_false,if_false]
  walk_at "zz"
  rw [Ui]
  walk_at "zz"
  by_cases h2:ns=[]
  ·simp only [h2,decide_true,cond_true,if_true]
   walk_at "zz"
  ·have hl:(0:Int)<ns.length:=by have:0<ns.length:=List.length_pos_iff.mpr h2;omega
   simp only [h2,decide_false,cond_false,if_false,hl,decide_true]
   walk_at "zz"
   simp only [h2,decide_false,cond_false,if_false,hl,decide_true,if_true]
   walk_at "zz"
   rw [Ox ns _ (sg _ (by omega)) (nU _ hl)]
   walk_at "zz"
   rw [Jw (by decide) (by decide)]
   walk_at "zz"
def zt (ns:List Int) (k:Int):Int:=(Jv ns k+7919*k+1)*48271 % 2147483647
def eA (ns:List Int) (k m:Int):Int:=(zt ns k*zt ns k+7*zt ns k+k) % 2147483629 % m
theorem dW (ns:List Int) (k m:Int) (h:0<m):0<=eA ns k m:=sg _ (by omega)
theorem eS (ns:List Int) (k m:Int) (h:0<m):eA ns k m<m:=nU _ h
theorem dE (ns:List Int) (k m:Int) (hk:0<=k) (hm:0<m):aV [.list (ns.map .int),.int k,.int m]=.ok (.int (eA ns k m)):=by
 have d0:0<=zt ns k:=sg _ (by decide)
 have d1:zt ns k<2147483647:=nU _ (by decide)
 unfold aV
 refine c7 ?_
 unfold nu bn
 walk_at "zz"
 rw [Rb ns k hk]
 walk_at "zz"
 rw [sJ (by decide) (by decide)]
 walk_at "zz"
 rw [Jw (by decide) (by decide)]
 walk_at "zz"
 rw [show (Jv ns k+7919*k+1)*48271 % 2147483647=zt ns k from rfl,sJ (i:=zt ns k) (by omega) (by omega)]
 walk_at "zz"
 rw [sJ (i:=7) (by decide) (by decide)]
 walk_at "zz"
 rw [decide_eq_true hm]
 walk_at "zz"
 rfl
theorem rL {α β:Type}{kt:D->az->R az}{gb:az->R Fl} (c:α->D) (f:β->α->β) (P:List α->β->az->Prop) (h:∀ x bK b ρ,P (x::bK) b ρ->∃ ρ1 ρ',kt (c x) ρ=.ok ρ1/\gb ρ1=.ok (.nx ρ')/\P bK (f b x) ρ') :
  ∀ (xs:List α) (b:β) (ρ:az),P xs b ρ->∃ ρ',iR kt gb (xs.map c) ρ=.ok (.nx ρ')/\P [] (xs.foldl f b) ρ'
 |[],b,ρ,p=>⟨ρ,rfl,p⟩
 |x::r,b,ρ,p=>by
  obtain ⟨ρ1,ρ2,h1,h2,h3⟩:=h x r b ρ p
  obtain ⟨ρ3,h4,h5⟩:=rL c f P h r (f b x) ρ2 h3
  refine ⟨ρ3,?_,h5⟩
  rw [aS]
  unfold iR
  rw [h1]
  simp only [h2]
  exact h4
theorem Jx {α β:Type}{kt:D->az->R az}{gb hh:az->R Fl}{r:R Fl} (c:α->D) (f:β->α->β) (P:List α->β->az->Prop) {xs:List α} (b:β) {ρ:az}
  (h:∀ x bK b ρ,P (x::bK) b ρ->∃ ρ1 ρ',kt (c x) ρ=.ok ρ1/\gb ρ1=.ok (.nx ρ')/\P bK (f b x) ρ') (p0:P xs b ρ) (k:∀ ρ',P [] (xs.foldl f b) ρ'->hh ρ'=r):(iR kt gb (xs.map c) ρ).bind (Hq hh)=r:=by
 obtain ⟨ρ',e,p⟩:=rL c f P h xs b ρ p0
 rw [e,bind_ok,rK]
 exact k ρ' p
theorem xZ (n:Nat) (h:n<=1000):Hg [.int (n:Int)]=.ok ((bq n).map fun (i:Nat)=>bC (i:Int)):=by
 have e:Hg [.int (n:Int)]=.ok (rG 0 (n:Int).toNat):=QU (by omega) (by omega)
 rw [e]
 unfold rG
 rw [kG]
 exact congrArg R.ok (uL fun a _=>congrArg bC (Int.zero_add _))
def uM (x:Str):Bool:=decide (1<=x.cps.size)&&decide (x.cps.size<=6/\x.cps.size≠5)&&x.cps.toList.all fun c=>decide (97<=c)&&decide (c<=122)
def tL (ns:List Int) (k:Int):Nat:=[1,2,3,6,1,4].getD (eA ns k 6).toNat 0
def Dc (ns:List Int) (k:Int) (i:Nat):Nat:=97+(eA ns (k+1+i) 26).toNat
def lj (ns:List Int) (k:Int):Str:=⟨((bq (tL ns k)).map (Dc ns k)).toArray⟩
theorem Jy (ns:List Int) (k:Int):1<=tL ns k/\(tL ns k<=6/\tL ns k≠5):=by
 have h0:=dW ns k 6 (by decide)
 have h1:=eS ns k 6 (by decide)
 unfold tL
 have:∀ j:_root_.Fin 6,1<=[1,2,3,6,1,4].getD j.val 0/\([1,2,3,6,1,4].getD j.val 0<=6/\[1,2,3,6,1,4].getD j.val 0≠5):=by decide
 exact this ⟨(eA ns k 6).toNat,by omega⟩
theorem Rc (ns:List Int) (k:Int) (i:Nat):97<=Dc ns k i/\Dc ns k i<=122:=by
 have h0:=dW ns (k+1+i) 26 (by decide)
 have h1:=eS ns (k+1+i) 26 (by decide)
 unfold Dc
 omega
theorem F9 (ns:List Int) (k:Int):uM (lj ns k)=true:=by
 have ⟨h1,h2⟩:=Jy ns k
 unfold uM lj
 simp only [aG,au,ef,aP,decide_eq_true_eq,cR]
 refine ⟨⟨h1,h2⟩,fun c hc=>?_⟩
 obtain ⟨i,_,rfl⟩:=List.mem_map.mp hc
 exact Rc ns k i
theorem Oy (j:Int) (h0:0<=j) (h1:j<26):aT (.str "abcdefghijklmnopqrstuvwxyz") (.int j)=.ok (.str ⟨#[97+j.toNat]⟩):=by
 have e:∀ x k,aT (.str x) k=CV (.str x) k:=fun _ _=>rfl
 rw [e]
 unfold CV
 have hc:("abcdefghijklmnopqrstuvwxyz" : Str).cps.toList=(bq 26).map (97 + ·):=by decide +kernel
 have hl:("abcdefghijklmnopqrstuvwxyz" : Str).length<=1000:=by decide +kernel
 have hj:j.toNat<26:=by omega
 have hx:=pC (xs:=(bq 26).map (97 + ·)) (j:=j.toNat) (v:=97+j.toNat) (by rw [aO,Kc hj];rfl)
 rw [eu h0] at hx
 simp only [hl,if_true,hc,hx]
theorem Re (j:Int) (h0:0<=j) (h1:j<6):aT (.list [.int 1,.int 2,.int 3,.int 6,.int 1,.int 4]) (.int j)=.ok (.int (([1,2,3,6,1,4].getD j.toNat 0:Nat):Int)):=by
 obtain ⟨n,rfl⟩:=gZ h0
 have hn:n<6:=by omega
 match n,hn with
 | 0,_=>rfl
 | 1,_=>rfl
 | 2,_=>rfl
 | 3,_=>rfl
 | 4,_=>rfl
 | 5,_=>rfl
theorem Dd (l:List Nat):∀ (acc:Str),l.foldl (fun (a:Str) c=>a++⟨#[c]⟩) acc=⟨(acc.cps.toList++l).toArray⟩:=by
 induction l with
 |nil=>intro acc;simp
 |cons c r ih =>
  intro acc
  rw [m5,ih]
  show (⟨((acc.cps++#[c]).toList++r).toArray⟩:Str)=_
  simp
theorem La:("" : Str).cps.toList=[]:=by decide +kernel
theorem Jz (ns:List Int) (k:Int) (hk:0<=k):kM [.list (ns.map .int),.int k]=.ok (.str (lj ns k)):=by
 have h0:=dW ns k 6 (by decide)
 have h1:=eS ns k 6 (by decide)
 have ⟨w1,w2⟩:=Jy ns k
 unfold kM
 refine c7 ?_
 unfold pW bn
 walk_at "zz"
 rw [tK (ds:=(bq (tL ns k)).map fun (i:Nat)=>bC i)]
 ·refine Jx (fun (i:Nat)=>bC i) (fun (a:Str) i=>a++⟨#[Dc ns k i]⟩) (fun bK a ρ=>a.length+bK.length<=900/\∃ z,ρ=[.shr (.list (ns.map .int)),.shr (.int k),.shr (.str a),z]) "" ?_ ⟨by rw [ef,show ("" : Str).length=0 by decide];omega,_,rfl⟩ ?_
  ·rintro i bK a ρ ⟨hl,z,rfl⟩
   simp only [aM] at hl
   refine ⟨_,[.shr (.list (ns.map .int)),.shr (.int k),.shr (.str (a++⟨#[Dc ns k i]⟩)),.shr (.int i)],rfl,?_,?_,_,rfl⟩
   ·walk_at "zz"
    rw [dE ns _ 26 (by omega) (by decide)]
    walk_at "zz"
    rw [Oy _ (dW _ _ _ (by decide)) (eS _ _ _ (by decide))]
    walk_at "zz"
    have hz:a.length+(⟨#[97+(eA ns (k+1+i) 26).toNat]⟩:Str).length<=1000:=by
     show a.length+1<=1000
     omega
    rw [if_pos hz]
    walk_at "zz"
    rw [show 97+(eA ns (k+1+i) 26).toNat=Dc ns k i from rfl]
   ·show (a.cps++#[_]).size+bK.length<=900
    rw [LU]
    show a.cps.size+1+bK.length<=900
    have:a.length=a.cps.size:=rfl
    omega
  ·rintro ρ' ⟨_,z,rfl⟩
   walk_at "zz"
   have:(bq (tL ns k)).foldl (fun (a:Str) i=>a++⟨#[Dc ns k i]⟩) ""=lj ns k:=by
    have:=Dd ((bq (tL ns k)).map (Dc ns k)) ""
    rw [nh] at this
    rw [this,La]
    unfold lj
    rw [df]
   rw [this]
 ·walk_at "zz"
  rw [dE ns k 6 hk (by decide)]
  walk_at "zz"
  have et:=Re (eA ns k 6) h0 h1
  have ew:[1,2,3,6,1,4].getD (eA ns k 6).toNat 0=tL ns k:=rfl
  rw [ew] at et
  rw [et]
  walk_at "zz"
  rw [xZ (tL ns k) (by omega)]
def ii (l:List (Str×D)):List (D×D):=l.map fun p=>(.str p.1,p.2)
def t4 (l:List (Str×D)) (x:Str) (d:D):List (Str×D):=if l.any (fun p=>decide (p.1=x)) then l.map (fun p=>if p.1=x then (p.1,d) else p) else l++[(x,d)]
theorem sK (x y:Str):bB (.str x) (.str y)=decide (x=y):=by
 show (x==y)=_
 rw [sf]
theorem JA (l:List (Str×D)) (x:Str) (d:D):z3 (ii l) (.str x) d=ii (t4 l x d):=by
 unfold z3 t4 ii
 rw [Ga]
 have e:((fun kv:D×D=>bB kv.1 (.str x))∘fun p:Str×D=>(ap p.1,p.2))=fun p=>decide (p.1=x):=by
  funext p
  exact sK p.1 x
 rw [e]
 split
 ·rw [dm,dm]
  apply uL
  intro p _
  simp only [Function.comp,sK]
  by_cases h:p.1=x
  ·simp [h]
  ·simp [h]
 ·simp
theorem zu (l:List (Str×D)):ic (ii l)=true:=by
 unfold ic ii
 rw [kA,cR]
 intro p _
 rfl
theorem Fa (l:List (Str×D)) (x:Str) (d:D):(t4 l x d).length<=l.length+1:=by
 unfold t4
 split<;>simp
theorem BG (l:List (Str×D)) (x:Str) (d:D):(t4 l x d).map (·.1)=if x∈l.map (·.1) then l.map (·.1) else l.map (·.1)++[x]:=by
 unfold t4
 have e:(l.any fun p=>decide (p.1=x))=decide (x∈l.map (·.1)):=by
  rw [iw]
  simp only [lv,decide_eq_true_eq,List.mem_map]
 rw [e]
 by_cases h:x∈l.map (·.1)
 ·rw [decide_eq_true h,if_pos rfl,if_pos h,dm]
  apply uL
  intro p _
  by_cases hp:p.1=x<;>simp [hp]
 ·rw [decide_eq_false h,if_neg aL,if_neg h,cm]
  rfl
theorem Oz {Q:Str->D->Prop}{l:List (Str×D)}{x:Str}{d:D} (h:∀ p∈l,Q p.1 p.2) (hx:Q x d):∀ p∈t4 l x d,Q p.1 p.2:=by
 unfold t4
 split
 ·intro p hp
  obtain ⟨p',hp',rfl⟩:=List.mem_map.mp hp
  by_cases e:p'.1=x
  ·rw [if_pos e];rw [e];exact hx
  ·rw [if_neg e];exact h p' hp'
 ·intro p hp
  rcases List.mem_append.mp hp with hp|hp
  ·exact h p hp
  ·rw [List.mem_singleton.mp hp];exact hx
theorem Lb {l:List Str}{x:Str} (h:l.Nodup):(if x∈l then l else l++[x]).Nodup:=by
 by_cases hx:x∈l
 ·rw [if_pos hx];exact h
 ·rw [if_neg hx];exact IN h hx
theorem SL {i:Nat}{gk g:az->R D}{ρ:az}{l:List (Str×D)}{x:Str}{d:D} (hi:ρ[i]?=some (Sl.own (.dict (ii l)))) (hg:g ρ=.ok d) (hk:gk ρ=.ok (.str x)) (hl:l.length<1000):D4 i gk g ρ=.ok (.nx (ρ.set i (.own (.dict (ii (t4 l x d)))))):=by
 have hl':(ii l).length<1000:=by unfold ii;rw [au];exact hl
 have e:D4 i gk g ρ=(g ρ).bind fun d=>(gk ρ).bind fun k=>match qy k with
  |some _=>if (ii l).length<1000/\ic (ii l)=true then .ok (.nx (ρ.set i (.own (.dict (z3 (ii l) k d))))) else .no
  |none=>.no:=by
  unfold D4
  simp only [hi]
  try rfl
 rw [e,hg,D6,hk,D6]
 simp only [qy,if_pos (yj hl' (zu l)),JA]
theorem Fb (l:List (Str×D)):iz (.dict (ii l))=.ok (.list ((l.map (·.1)).map .str)):=by
 have e:∀ kvs,iz (.dict kvs)=if ic kvs=true then .ok (.list (kvs.map (·.1))) else .no:=fun _=>rfl
 rw [e,if_pos (zu l)]
 unfold ii
 rw [dm,dm]
 rfl
theorem sorted_strs (ss:List Str) (h:ss.length<64):sw (.list (ss.map .str))=.ok (.list ((jV ss).map .str)):=by
 have e:∀ ds,sw (.list ds)=match gM ds with
  |some ss=>if ss.length<64 then .ok (.list ((jV ss).map .str)) else .no
  |none=>.no:=fun _=>rfl
 rw [e,strsOf_map]
 simp only [if_pos h]
theorem fS (ds:List D):hW (.list ds)=.ok (.tuple ds):=id rfl
def De (ns:List Int) (k:Int) (n:Nat):List Str:=(bq n).map fun (i:Nat)=>lj ns (k+1+8*(i:Int))
def Df (ns:List Int) (k m:Int):List Str:=jV (dh [] (De ns k (eA ns k (m+1)).toNat))
structure OA (fs:List Str) (n:Nat):Prop where
 ok:∀ x∈fs,uM x=true
 up:fs.Pairwise fun a b=>lS a b=true
 len:fs.length<=n
theorem OB {α:Type}{a b:List α} (h:a.Perm b):a.length=b.length:=h.length_eq
theorem Hz (ns:List Int) (k m:Int) (hm:0<=m):OA (Df ns k m) m.toNat:=by
 have h0:=dW ns k (m+1) (by omega)
 have h1:=eS ns k (m+1) (by omega)
 have hp:=hU (dh [] (De ns k (eA ns k (m+1)).toNat))
 refine ⟨fun x hx=>?_,?_,?_⟩
 ·have hx:=hp.mem_iff.mp hx
  rw [iQ] at hx
  rcases hx with hx|hx
  ·cases hx
  ·obtain ⟨i,_,rfl⟩:=List.mem_map.mp hx
   exact F9 _ _
 ·exact wj (r9 _) (hp.nodup_iff.mpr (iL _ [] i_))
 ·unfold Df
  rw [OB hp]
  have:=gF (De ns k (eA ns k (m+1)).toNat) []
  unfold De at this ⊢
  simp at this
  omega
theorem Lc (f:Nat->Str) (l:List Nat):∀ acc:List (Str×D),((l.foldl (fun (a:List (Str×D)) i=>t4 a (f i) (.bool true)) acc).map (·.1))=dh (acc.map (·.1)) (l.map f):=by
 induction l with
 |nil=>intro acc;rfl
 |cons i r ih =>
  intro acc
  rw [m5,ih,aS,BG]
  rfl
theorem OC (ns:List Int) (k m:Int) (hk:0<=k) (hm:0<=m) (hm2:m<=20):ny [.list (ns.map .int),.int k,.int m]=.ok (.tuple ((Df ns k m).map .str)):=by
 have h0:=dW ns k (m+1) (by omega)
 have h1:=eS ns k (m+1) (by omega)
 unfold ny
 refine c7 ?_
 unfold nw bn
 walk_at "zz"
 rw [tK (ds:=(bq (eA ns k (m+1)).toNat).map fun (i:Nat)=>bC i)]
 ·refine Jx (fun (i:Nat)=>bC i) (fun (a:List (Str×D)) i=>t4 a (lj ns (k+1+8*(i:Int))) (.bool true)) (fun bK a ρ=>a.length+bK.length<=60/\∃ z,ρ=[.shr (.list (ns.map .int)),.shr (.int k),.shr (.int m),.own (.dict (ii a)),z]) [] ?_ ⟨by simp;omega,_,rfl⟩ ?_
  ·rintro i bK a ρ ⟨hl,z,rfl⟩
   simp only [aM] at hl
   refine ⟨_,[.shr (.list (ns.map .int)),.shr (.int k),.shr (.int m),.own (.dict (ii (t4 a (lj ns (k+1+8*(i:Int))) (.bool true)))),.shr (.int i)],rfl,?_,?_,_,rfl⟩
   ·refine (SL (l:=a) (x:=lj ns (k+1+8*(i:Int))) (d:=.bool true) rfl rfl ?_ (by omega)).trans rfl
    walk_at "zz"
    rw [sJ (by decide) (by decide)]
    walk_at "zz"
    rw [Jz ns _ (by omega)]
   ·have:=Fa a (lj ns (k+1+8*(i:Int))) (.bool true)
    omega
  ·rintro ρ' ⟨hl,z,rfl⟩
   simp only [bi] at hl
   walk_at "zz"
   rw [Fb]
   walk_at "zz"
   have ek:=Lc (fun i=>lj ns (k+1+8*(i:Int))) (bq (eA ns k (m+1)).toNat) []
   rw [ek,sorted_strs]
   ·walk_at "zz"
    rw [fS]
    walk_at "zz"
    rfl
   ·rw [<- ek,au];omega
 ·walk_at "zz"
  rw [dE ns k (m+1) hk (by omega)]
  walk_at "zz"
  have:=xZ (eA ns k (m+1)).toNat (by omega)
  rw [eu h0] at this
  exact this
structure fg where
 name:Str
 needs:List Str
 bars:List Str
 makes:List Str
 ends:List Str
 price:Int
abbrev a_ (xs:List Str):D:=.tuple (xs.map .str)
def ck (e:fg):D:=.tuple [.str e.name,a_ e.needs,a_ e.bars,a_ e.makes,a_ e.ends,.int e.price]
structure Sub (fs xs:List Str):Prop where
 up:xs.Pairwise fun a b=>lS a b=true
 mem:∀ x∈xs,x∈fs
structure rM (fs:List Str) (e:fg):Prop where
 name:uM e.name=true
 needs:Sub fs e.needs
 bars:Sub fs e.bars
 makes:Sub fs e.makes
 ends:Sub fs e.ends
 nb:∀ x∈e.needs,x∉e.bars
 me:∀ x∈e.makes,x∉e.ends
 p0:0<=e.price
 p9:e.price<=9
def DQ (xs:List Str):List Str:=jV (dh [] xs)
theorem nA {xs:List Str}{x:Str}:x∈DQ xs↔x∈xs:=by
 unfold DQ
 rw [(hU _).mem_iff,iQ]
 simp
theorem HA (xs:List Str):(DQ xs).Pairwise fun a b=>lS a b=true:=wj (r9 _) ((hU _).nodup_iff.mpr (iL _ [] i_))
theorem x_ {fs xs:List Str} (h:∀ x∈xs,x∈fs):Sub fs (DQ xs):=⟨HA xs,fun x hx=>h x (nA.mp hx)⟩
theorem Dg (fs:List Str) (j:Int) (h0:0<=j) (h1:j<fs.length):∃ x,x∈fs/\aT (a_ fs) (.int j)=.ok (.str x):=by
 have hj:j.toNat<fs.length:=by omega
 refine ⟨fs[j.toNat],fV hj,?_⟩
 have e:∀ xs k,aT (.tuple xs) k=CV (.tuple xs) k:=fun _ _=>rfl
 rw [e]
 have hx:=pC (xs:=fs.map ap) (j:=j.toNat) (v:=.str fs[j.toNat]) (by rw [aO,aW hj];rfl)
 rw [eu h0] at hx
 unfold CV
 simp only [hx]
theorem zv (x:Str):∀ ys:List Str,((ys.map ap).any fun y=>bB y (.str x))=decide (x∈ys)
 |[]=>rfl
 |y::r=>by
  rw [aS,fN,zv x r,sK]
  by_cases h:y=x
  ·subst h;simp
  ·simp [h,dq h]
theorem zw (ys:List Str):(ys.map ap).all lR=true:=by
 rw [kA,cR];intro _ _;rfl
theorem Rf (neg:Bool) (x:Str) (ys:List Str):Ey neg (.str x) (.list (ys.map .str))=.ok (.bool (if neg then !decide (x∈ys) else decide (x∈ys))):=by
 have e:Ey neg (.str x) (.list (ys.map .str))=if lR (.str x)&&(ys.map ap).all lR then .ok (.bool (if neg then !((ys.map ap).any fun y=>bB y (.str x)) else (ys.map ap).any fun y=>bB y (.str x))) else .no:=rfl
 rw [e,zw,zv]
 rfl
theorem qf (neg:Bool) (x:Str) (ys:List Str):Ey neg (.str x) (a_ ys)=.ok (.bool (if neg then !decide (x∈ys) else decide (x∈ys))):=by
 have e:Ey neg (.str x) (a_ ys)=if lR (.str x)&&(ys.map ap).all lR then .ok (.bool (if neg then !((ys.map ap).any fun y=>bB y (.str x)) else (ys.map ap).any fun y=>bB y (.str x))) else .no:=rfl
 rw [e,zw,zv]
 rfl
theorem lL (neg:Bool) (a b:Int):ko neg (.int a) (.int b)=.ok (.bool (if neg then !decide (a=b) else decide (a=b))):=by
 have e:ko neg (.int a) (.int b)=.ok (.bool (if neg then !(a==b) else (a==b))):=rfl
 rw [e,sf]
theorem nC {x:Str} (h:uM x=true):(ap x).canLay0=true:=by
 unfold uM at h
 simp only [aP,cR,decide_eq_true_eq] at h
 show PyData.strOk x=true
 unfold PyData.strOk
 rw [<- xv,cR]
 intro c hc
 have:=h.2 c hc
 exact decide_eq_true (by omega)
theorem Dh (neg:Bool) {x y:Str} (hx:uM x=true) (hy:uM y=true):ko neg (.str x) (.str y)=.ok (.bool (if neg then !decide (x=y) else decide (x=y))):=by
 unfold ko
 rw [nC hx,nC hy,sK]
 rfl
theorem zx (ss:List Str) (h:ss.length<60):ua (.list (ss.map .str))=.ok (dh [] ss):=by
 have e:∀ ds,ua (.list ds)=match gM ds with
  |some ss=>if ss.length<60 then .ok (dh [] ss) else .no
  |none=>.no:=fun _=>rfl
 rw [e,strsOf_map]
 simp only [if_pos h]
theorem JC (g:az->R D) (s:Sl) (ρ:az):pQ g (s::ρ)=(g (s::ρ)).bind ua:=id rfl
def SM:List Str->R D:=fun ss=>if ss.length<64 then .ok (.list ((jV ss).map .str)) else .no
theorem ww (g:az->R (List Str)) (s:Sl) (ρ:az):lf g (s::ρ)=(g (s::ρ)).bind SM:=id rfl
theorem zy (ss:List Str) (h:ss.length<64):SM ss=.ok (.list ((jV ss).map .str)):=if_pos h
theorem Ld (ss:List Str) (h:ss.length<60) (ρ:az):(bY (J.a9 (lf (pQ (rB 0))) J.aC) (i5 hW)) (.shr (.list (ss.map .str))::ρ)=.ok (a_ (DQ ss)):=by
 walk_at "zz"
 rw [ww,JC]
 walk_at "zz"
 rw [zx ss h]
 walk_at "zz"
 rw [zy _ (by have:=gF ss [];simp at this;omega)]
 walk_at "zz"
 rw [fS]
 rfl
theorem Fc {ρ:az}{gt:az->R Bool}{x:Str}{b:Bool}{s:Sl}{r:az} (hρ:ρ=s::r) (h:gt (.shr (.str x)::r)=.ok b):i9 (j4 1 ρ gt (rS 0)) [.str x]=.ok ((if b then [x] else []).map .str):=by
 subst hρ
 have e:=xW (ρ:=s::r) (gt:=gt) (ge:=(rS 0)) (d:=.str x) (y:=.str x) (b:=b) h fun _=>rfl
 unfold i9
 rw [e,D6]
 unfold i9
 rw [D6]
 cases b<;>rfl
theorem Uk (p q r t:List Str) (hp:p.length<60) (hq:q.length<60) (hr:r.length<60) (ht:t.length<60):i9 (j4 1 [Sl.no] kT (bY (J.a9 (lf (pQ (rB 0))) J.aC) (i5 hW))) [.list (p.map .str),.list (q.map .str),.list (r.map .str),.list (t.map .str)]=.ok [a_ (DQ p),a_ (DQ q),a_ (DQ r),a_ (DQ t)] :=
 cj _ (fun ss:List Str=>ej (ss.map .str)) (fun ss=>a_ (DQ ss)) [p,q,r,t] fun ss hs=>dv rfl (Ld ss (by simp at hs;rcases hs with h|h|h|h<;>(rw [h];assumption)) _)
theorem SO (a b c d:D):aT (.list [a,b,c,d]) (.int 0)=.ok a:=id rfl
theorem SQ (a b c d:D):aT (.list [a,b,c,d]) (.int 1)=.ok b:=id rfl
theorem SS (a b c d:D):aT (.list [a,b,c,d]) (.int 2)=.ok c:=id rfl
theorem SU (a b c d:D):aT (.list [a,b,c,d]) (.int 3)=.ok d:=id rfl
theorem Rg (ns:List Int) (k:Int) (hk:0<=k) (fs:List Str) (hf:∀ x∈fs,uM x=true) (h0:0<fs.length) (nm:Str) (hn:uM nm=true) :
  ∃ e,p_ [.list (ns.map .int),.int k,a_ fs,.str nm]=.ok (ck e)/\rM fs e/\e.name=nm:=by
 have hl:(0:Int)<(fs.length:Int):=by omega
 obtain ⟨a,ha,ea⟩:=Dg fs (eA ns (k+10) fs.length) (dW _ _ _ hl) (eS _ _ _ hl)
 obtain ⟨b,hb,eb⟩:=Dg fs (eA ns (k+11) fs.length) (dW _ _ _ hl) (eS _ _ _ hl)
 obtain ⟨c,hc,ec⟩:=Dg fs (eA ns (k+12) fs.length) (dW _ _ _ hl) (eS _ _ _ hl)
 have m13a:=dW ns (k+13) 3 (by decide)
 have m13b:=eS ns (k+13) 3 (by decide)
 obtain ⟨nd,hnd,hnl,end_⟩:∃ nd:List Str,(∀ x∈nd,x∈fs)/\nd.length<60/\xU (.list [.str a,.str b]) none (some (1+eA ns (k+13) 3 / 2))=.ok (.list (nd.map .str)):=by
  by_cases h2:eA ns (k+13) 3=2
  ·exact ⟨[a,b],by simp [ha,hb],by simp,by rw [h2];rfl⟩
  ·have:eA ns (k+13) 3 / 2=0:=by omega
   exact ⟨[a],by simp [ha],by simp,by rw [this];rfl⟩
 let bb:Bool:=!decide (c∈nd)&&decide (eA ns (k+14) 4=0)
 let be:Bool:=!decide (a=c)&&decide (eA ns (k+15) 3=0)
 have p0:=dW ns k 5 (by decide)
 have p1:=eS ns k 5 (by decide)
 refine ⟨⟨nm,DQ nd,DQ (if bb then [c] else []),DQ [c],DQ (if be then [a] else []),eA ns k 5⟩,?_,⟨hn,x_ hnd,x_ ?_,x_ (by simp [hc]),x_ ?_,fun x h1 h2=>?_,fun x h1 h2=>?_,p0,by show eA ns k 5<=9;omega⟩,rfl⟩
 ·unfold p_
  refine c7 ?_
  unfold pZ bn
  walk_at "zz"
  rw [dE ns _ _ (by omega) hl]
  walk_at "zz"
  rw [ea]
  walk_at "zz"
  rw [dE ns (k+11) _ (by omega) hl]
  walk_at "zz"
  rw [eb]
  walk_at "zz"
  rw [dE ns (k+12) _ (by omega) hl]
  walk_at "zz"
  rw [ec]
  walk_at "zz"
  rw [dE ns (k+13) 3 (by omega) (by decide)]
  walk_at "zz"
  simp only [GD,decide_true,lI,if_true]
  walk_at "zz"
  rw [end_]
  walk_at "zz"
  rw [Fc (b:=bb) rfl]
  ·walk_at "zz"
   rw [Fc (b:=be) rfl]
   ·walk_at "zz"
    simp only [WI]
    rw [Od rfl,Od rfl]
    walk_at "zz"
    have pk:=Uk nd (if bb then [c] else []) [c] (if be then [a] else []) hnl (by cases bb<;>simp) (by simp) (by cases be<;>simp)
    rw [show ([c].map ap)=[ap c] from rfl] at pk
    rw [pk]
    walk_at "zz"
    rw [SO]
    walk_at "zz"
    rw [SQ]
    walk_at "zz"
    rw [SS]
    walk_at "zz"
    rw [SU]
    walk_at "zz"
    rw [dE ns k 5 hk (by decide)]
    walk_at "zz"
    rfl
   ·walk_at "zz"
    rw [Dh true (hf a ha) (hf c hc)]
    walk_at "zz"
    by_cases hac:a=c
    ·simp only [be,hac,decide_true,pj,AU,if_true,cond_false]
    ·simp only [be,hac,decide_false,j0,uU,if_true,cond_true]
     rw [dE ns (k+15) 3 (by omega) (by decide)]
     walk_at "zz"
     rw [lL]
     walk_at "zz"
  ·walk_at "zz"
   rw [Rf]
   walk_at "zz"
   by_cases hcn:c∈nd
   ·simp only [bb,hcn,decide_true,pj,AU,if_true,cond_false]
   ·simp only [bb,hcn,decide_false,j0,uU,if_true,cond_true]
    rw [dE ns (k+14) 4 (by omega) (by decide)]
    walk_at "zz"
    rw [lL]
    walk_at "zz"
 ·intro x hx
  cases hbb:bb
  ·simp [hbb] at hx
  ·simp [hbb] at hx;rw [hx];exact hc
 ·intro x hx
  cases hbe:be
  ·simp [hbe] at hx
  ·simp [hbe] at hx;rw [hx];exact ha
 ·have h2:x∈(if bb then [c] else []):=nA.mp h2
  cases hbb:bb
  ·simp [hbb] at h2
  ·simp [hbb] at h2
   subst h2
   have:(!decide (x∈nd))=true:=by
    have:(!decide (x∈nd)&&decide (eA ns (k+14) 4=0))=true:=hbb
    simp only [aP] at this
    exact this.1
   simp at this
   exact this (nA.mp h1)
 ·cases hbe:be
  ·have h2:x∈(if be then [a] else []):=nA.mp h2
   simp [hbe] at h2
  ·skip
   have h4:x∈[c]:=nA.mp h1
   have h5:x∈(if be then [a] else []):=nA.mp h2
   simp only [bT] at h4
   simp only [hbe,if_true,bT] at h5
   have:(!decide (a=c)&&decide (eA ns (k+15) 3=0))=true:=hbe
   simp only [aP] at this
   have h3:=this.1
   simp at h3
   exact h3 (h5.symm.trans h4)
theorem Di {i:Nat}{gi g:az->R D}{ρ:az}{dss:List (List D)}{ds:List D}{d:D}{j:Int} (hi:ρ[i]?=some (Sl.ow2 dss)) (hj:gi ρ=.ok (.int j)) (h0:0<=j) (hd:dss[j.toNat]?=some ds) (hg:g ρ=.ok d) (hl:ds.length<1000):oQ i gi g ρ=.ok (.nx (ρ.set i (.ow2 (dss.set j.toNat (ds++[d]))))):=by
 unfold oQ
 simp only [hi,hj,bind_ok,if_pos h0,hd,hg,if_pos hl]
def nE (n:Nat):List Str->List (Nat×Str)
 |[]=>[]
 |x::r=>(n,x)::nE (n+1) r
abbrev cI (p:Nat×Str):D:=.tuple [.int (p.1:Nat),.str p.2]
theorem y0:∀ (xs:List Str) (n:Nat),jh n (xs.map .str)=(nE n xs).map cI
 |[],_=>rfl
 |x::r,n=>by
  show br [.int n,.str x]::jh (n+1) (r.map .str)=cI (n,x)::(nE (n+1) r).map cI
  rw [y0 r (n+1)]
theorem sL:∀ (xs:List Str) (n:Nat),(nE n xs).map (·.2)=xs
 |[],_=>rfl
 |x::r,n=>by
  show x::(nE (n+1) r).map (·.2)=x::r
  rw [sL r]
theorem zz:∀ (fs:List Str),(∀ x∈fs,uM x=true)->bH (fs.map .str)=true
 |[],_=>rfl
 |x::r,h=>by
  have h1:=nC (h x al)
  have h2:=zz r fun y hy=>h y (ao _ hy)
  simp only [aS,bH,h1,h2,lI]
theorem Dj (fs:List Str) (hf:∀ x∈fs,uM x=true):ko true (a_ fs) (.tuple [])=.ok (.bool (!decide (fs=[]))):=by
 unfold ko
 have h1:(a_ fs).canLay0=true:=by simp only [db];exact zz fs hf
 have h2:(br []).canLay0=true:=rfl
 have h3:min (a_ fs).depth (br []).depth<=60:=bD (qC _ _) (by decide)
 have h4:bB (a_ fs) (.tuple [])=decide (fs=[]):=by
  cases fs with
  |nil=>rfl
  |cons x r=>simp [bB,l9]
 rw [h1,h2,decide_eq_true h3,h4]
 rfl
structure o9 (pre p q:List Str):Prop where
 sp:p.Sublist pre
 sq:q.Sublist pre
 d:∀ x∈p,x∉q
theorem o9.skip {pre p q:List Str} (h:o9 pre p q) (x:Str):o9 (pre++[x]) p q:=⟨h.sp.trans (jy _ _),h.sq.trans (jy _ _),h.d⟩
theorem o9.left {pre p q:List Str} (h:o9 pre p q) (x:Str) (hx:x∉pre):o9 (pre++[x]) (p++[x]) q:=⟨h.sp.append (eR _),h.sq.trans (jy _ _),fun y hy hq=>by
 rcases List.mem_append.mp hy with h1|h1
 ·exact h.d y h1 hq
 ·rw [List.mem_singleton.mp h1] at hq
  exact hx (h.sq.subset hq)⟩
theorem o9.right {pre p q:List Str} (h:o9 pre p q) (x:Str) (hx:x∉pre):o9 (pre++[x]) p (q++[x]):=⟨h.sp.trans (jy _ _),h.sq.append (eR _),fun y hy hq=>by
 rcases List.mem_append.mp hq with h1|h1
 ·exact h.d y hy h1
 ·rw [List.mem_singleton.mp h1] at hy
  exact hx (h.sp.subset hy)⟩
abbrev o4 (p q r t:List Str):Sl:=.ow2 [p.map .str,q.map .str,r.map .str,t.map .str]
theorem W7 (j:Int) (h0:0<=j) (h1:j<3):∃ b:Bool,aT (.list [.int 0,.int 0,.int 1]) (.int j)=.ok (.int (if b then 0 else 1)):=by
 have:j=0\/j=1\/j=2:=by omega
 rcases this with h|h|h<;>subst h
 ·exact ⟨true,rfl⟩
 ·exact ⟨true,rfl⟩
 ·exact ⟨false,rfl⟩
theorem W8 (j:Int) (h0:0<=j) (h1:j<4):∃ b:Bool,aT (.list [.int 2,.int 2,.int 3,.int 3]) (.int j)=.ok (.int (if b then 2 else 3)):=by
 have:j=0\/j=1\/j=2\/j=3:=by omega
 rcases this with h|h|h|h<;>subst h
 ·exact ⟨true,rfl⟩
 ·exact ⟨true,rfl⟩
 ·exact ⟨false,rfl⟩
 ·exact ⟨false,rfl⟩
theorem vp (p:List Str) (x:Str):(p++[x]).map ap=p.map .str++[.str x]:=by simp
theorem OD {a b c d e f:Sl}{pre p q r t:List Str}{x:Str}{j:Int} (hp:o9 pre p q) (hx:x∉pre) (hl:pre.length<900) (h0:0<=j) :
  ∃ p' q',o9 (pre++[x]) p' q'/\dZ (fZ (g2 (rB 7) (kI 3) Hc)) (oQ 4 (g2 (cP (J.a9 (kI 0) (J.a9 (kI 0) (J.a9 (kI 1) J.aC))) .list) (rB 7) aT) (rS 6)) (fun ρ=>.ok (.nx ρ)) [a,b,c,d,o4 p q r t,e,.shr (.str x),.shr (.int j),f]=.ok (.nx [a,b,c,d,o4 p' q' r t,e,.shr (.str x),.shr (.int j),f]):=by
 by_cases h3:j<3
 ·obtain ⟨bo,e3⟩:=W7 j h0 h3
  have lp:p.length<1000:=by have:=hp.sp.length_le;omega
  have lq:q.length<1000:=by have:=hp.sq.length_le;omega
  cases bo
  ·refine ⟨p,q++[x],hp.right x hx,?_⟩
   walk_at "zz"
   rw [decide_eq_true h3]
   walk_at "zz"
   simp only [o4,vp]
   refine (Di (j:=1) (ds:=q.map .str) (d:=.str x) rfl ?_ (by decide) rfl rfl (by rw [au];exact lq)).trans rfl
   walk_at "zz"
   rw [e3]
   rfl
  ·refine ⟨p++[x],q,hp.left x hx,?_⟩
   walk_at "zz"
   rw [decide_eq_true h3]
   walk_at "zz"
   simp only [o4,vp]
   refine (Di (j:=0) (ds:=p.map .str) (d:=.str x) rfl ?_ (by decide) rfl rfl (by rw [au];exact lp)).trans rfl
   walk_at "zz"
   rw [e3]
   rfl
 ·refine ⟨p,q,hp.skip x,?_⟩
  walk_at "zz"
  rw [decide_eq_false h3]
  walk_at "zz"
theorem OE {a b c d e f:Sl}{pre p q r t:List Str}{x:Str}{j:Int} (hp:o9 pre r t) (hx:x∉pre) (hl:pre.length<900) (h0:0<=j) :
  ∃ r' t',o9 (pre++[x]) r' t'/\dZ (fZ (g2 (rB 7) (kI 4) Hc)) (oQ 4 (g2 (cP (J.a9 (kI 2) (J.a9 (kI 2) (J.a9 (kI 3) (J.a9 (kI 3) J.aC)))) .list) (rB 7) aT) (rS 6)) (fun ρ=>.ok (.nx ρ)) [a,b,c,d,o4 p q r t,e,.shr (.str x),.shr (.int j),f]=.ok (.nx [a,b,c,d,o4 p q r' t',e,.shr (.str x),.shr (.int j),f]):=by
 by_cases h3:j<4
 ·obtain ⟨bo,e3⟩:=W8 j h0 h3
  have lp:r.length<1000:=by have:=hp.sp.length_le;omega
  have lq:t.length<1000:=by have:=hp.sq.length_le;omega
  cases bo
  ·refine ⟨r,t++[x],hp.right x hx,?_⟩
   walk_at "zz"
   rw [decide_eq_true h3]
   walk_at "zz"
   simp only [o4,vp]
   refine (Di (j:=3) (ds:=t.map .str) (d:=.str x) rfl ?_ (by decide) rfl rfl (by rw [au];exact lq)).trans rfl
   walk_at "zz"
   rw [e3]
   rfl
  ·refine ⟨r++[x],t,hp.left x hx,?_⟩
   walk_at "zz"
   rw [decide_eq_true h3]
   walk_at "zz"
   simp only [o4,vp]
   refine (Di (j:=2) (ds:=r.map .str) (d:=.str x) rfl ?_ (by decide) rfl rfl (by rw [au];exact lp)).trans rfl
   walk_at "zz"
   rw [e3]
   rfl
 ·refine ⟨r,t,hp.skip x,?_⟩
  walk_at "zz"
  rw [decide_eq_false h3]
  walk_at "zz"
theorem W9 (i:Nat) (ρ:az):QN i ρ=.ok (.nx ((clear2 ρ).set i (.ow2 [[],[],[],[]]))):=id rfl
theorem o9.sub {fs p q:List Str} (up:fs.Pairwise fun a b=>lS a b=true) (h:o9 fs p q):Sub fs p/\Sub fs q:=⟨⟨up.sublist h.sp,fun x hx=>h.sp.subset hx⟩,⟨up.sublist h.sq,fun x hx=>h.sq.subset hx⟩⟩
theorem OF (p:List Str) (ρ:az):(bY (J.a9 (rB 0) J.aC) (i5 hW)) (.shr (.list (p.map .str))::ρ)=.ok (a_ p):=by
 walk_at "zz"
 rw [fS]
theorem Wa (p q r t:List Str):i9 (j4 1 [Sl.no] kT (bY (J.a9 (rB 0) J.aC) (i5 hW))) [.list (p.map .str),.list (q.map .str),.list (r.map .str),.list (t.map .str)]=.ok [a_ p,a_ q,a_ r,a_ t] :=
 cj _ (fun ss:List Str=>ej (ss.map .str)) (fun ss=>a_ ss) [p,q,r,t] fun ss hs=>dv rfl (OF ss _)
theorem Le (ns:List Int) (k:Int) (hk:0<=k) (fs:List Str) (hf:∀ x∈fs,uM x=true) (up:fs.Pairwise fun a b=>lS a b=true) (nd:fs.Nodup) (hl:fs.length<=6) (nm:Str) (hn:uM nm=true) :
  ∃ e,iV [.list (ns.map .int),.int k,a_ fs,.str nm]=.ok (ck e)/\rM fs e/\e.name=nm:=by
 have p0:=dW ns k 5 (by decide)
 have p1:=eS ns k 5 (by decide)
 have go:∀ ρ:az,ρ=[.shr (.list (ns.map .int)),.shr (.int k),.shr (a_ fs),.shr (.str nm),.no,.no,.no,.no,.no]->(!decide (fs=[])&&decide (eA ns 97 2=0))=false->∃ e,iU ρ=.ok (.rt (ck e))/\rM fs e/\e.name=nm:=by
  rintro ρ rfl hc
  obtain ⟨ρ',h1,p,q,r,t,h2,h3,h4⟩:∃ ρ',(s_ (Hh (J.a9 (rS 2) J.aC)) (o7 2 (c_ (cg 5) (c_ (cg 6) pK))) (aX (f_ 7 (e6 3 aV (J.a9 (rS 0) (J.a9 (g2 (g2 (rB 1) (kI 10) dB) (rB 5) dB) (J.a9 (kI 8) J.aC))))) (aX (dZ (fZ (g2 (rB 7) (kI 3) Hc)) (oQ 4 (g2 (cP (J.a9 (kI 0) (J.a9 (kI 0) (J.a9 (kI 1) J.aC))) .list) (rB 7) aT) (rS 6)) (fun ρ=>.ok (.nx ρ))) (aX (f_ 7 (e6 3 aV (J.a9 (rS 0) (J.a9 (g2 (g2 (rB 1) (kI 20) dB) (rB 5) dB) (J.a9 (kI 8) J.aC))))) (dZ (fZ (g2 (rB 7) (kI 4) Hc)) (oQ 4 (g2 (cP (J.a9 (kI 2) (J.a9 (kI 2) (J.a9 (kI 3) (J.a9 (kI 3) J.aC)))) .list) (rB 7) aT) (rS 6)) (fun ρ=>.ok (.nx ρ))))))) [.shr (.list (ns.map .int)),.shr (.int k),.shr (a_ fs),.shr (.str nm),o4 [] [] [] [],.no,.no,.no,.no]=.ok (.nx ρ')/\∃ p q r t,o9 fs p q/\o9 fs r t/\∃ z5 z6 z7,ρ'=[.shr (.list (ns.map .int)),.shr (.int k),.shr (a_ fs),.shr (.str nm),o4 p q r t,z5,z6,z7,.no]:=by
   rw [tK (ds:=(nE 0 fs).map cI)]
   ·have H:=rL cI (fun (a:Unit) (_:Nat×Str)=>a) (fun bK _ ρ=>∃ pre,pre++bK.map (·.2)=fs/\∃ p q r t,o9 pre p q/\o9 pre r t/\∃ z5 z6 z7,ρ=[.shr (.list (ns.map .int)),.shr (.int k),.shr (a_ fs),.shr (.str nm),o4 p q r t,z5,z6,z7,.no]) (kt:=o7 2 (c_ (cg 5) (c_ (cg 6) pK))) (gb:=(aX (f_ 7 (e6 3 aV (J.a9 (rS 0) (J.a9 (g2 (g2 (rB 1) (kI 10) dB) (rB 5) dB) (J.a9 (kI 8) J.aC))))) (aX (dZ (fZ (g2 (rB 7) (kI 3) Hc)) (oQ 4 (g2 (cP (J.a9 (kI 0) (J.a9 (kI 0) (J.a9 (kI 1) J.aC))) .list) (rB 7) aT) (rS 6)) (fun ρ=>.ok (.nx ρ))) (aX (f_ 7 (e6 3 aV (J.a9 (rS 0) (J.a9 (g2 (g2 (rB 1) (kI 20) dB) (rB 5) dB) (J.a9 (kI 8) J.aC))))) (dZ (fZ (g2 (rB 7) (kI 4) Hc)) (oQ 4 (g2 (cP (J.a9 (kI 2) (J.a9 (kI 2) (J.a9 (kI 3) (J.a9 (kI 3) J.aC)))) .list) (rB 7) aT) (rS 6)) (fun ρ=>.ok (.nx ρ)))))))
    obtain ⟨ρ',h1,pre,h2,p,q,r,t,h3,h4,h5⟩:=H (by
     rintro ⟨i,x⟩ bK _ ρ ⟨pre,h2,p,q,r,t,h3,h4,z5,z6,z7,rfl⟩
     have hx:x∉pre:=by
      rw [<- h2,aS] at nd
      have:=(List.nodup_append.mp nd).2.2
      intro hx
      exact this x hx x al rfl
     have hpl:pre.length<900:=by
      have:=congrArg tm h2
      rw [aJ] at this
      omega
     obtain ⟨p',q',k1,k2⟩:=OD (a:=.shr (.list (ns.map .int))) (b:=.shr (.int k)) (c:=.shr (a_ fs)) (d:=.shr (.str nm)) (e:=.shr (.int (i:Nat))) (f:=.no) (r:=r) (t:=t) (j:=eA ns (k+10+i) 8) h3 hx hpl (dW _ _ _ (by decide))
     obtain ⟨r',t',k3,k4⟩:=OE (a:=.shr (.list (ns.map .int))) (b:=.shr (.int k)) (c:=.shr (a_ fs)) (d:=.shr (.str nm)) (e:=.shr (.int (i:Nat))) (f:=.no) (p:=p') (q:=q') (j:=eA ns (k+20+i) 8) h4 hx hpl (dW _ _ _ (by decide))
     refine ⟨[.shr (.list (ns.map .int)),.shr (.int k),.shr (a_ fs),.shr (.str nm),o4 p q r t,.shr (.int (i:Nat)),.shr (.str x),z7,.no],[.shr (.list (ns.map .int)),.shr (.int k),.shr (a_ fs),.shr (.str nm),o4 p' q' r' t',.shr (.int (i:Nat)),.shr (.str x),.shr (.int (eA ns (k+20+i) 8)),.no],rfl,?_,pre++[x],?_,p',q',r',t',k1,k3,_,_,_,rfl⟩
     ·rw [zf,Nz]
      walk_at "yy"
      rw [dE ns _ 8 (by omega) (by decide)]
      walk_at "yy"
      rw [k2]
      walk_at "yy"
      rw [dE ns _ 8 (by omega) (by decide)]
      walk_at "yy"
      rw [k4]
     ·rw [<- h2];simp) (nE 0 fs) () [.shr (.list (ns.map .int)),.shr (.int k),.shr (a_ fs),.shr (.str nm),o4 [] [] [] [],.no,.no,.no,.no] ⟨[],by rw [sL];rfl,[],[],[],[],⟨eR _,eR _,fun _ h=>nomatch h⟩,⟨eR _,eR _,fun _ h=>nomatch h⟩,_,_,_,rfl⟩
    refine ⟨ρ',h1,p,q,r,t,?_,?_,h5⟩
    ·simp only [ed,cB] at h2
     rw [<- h2];exact h3
    ·simp only [ed,cB] at h2
     rw [<- h2];exact h4
   ·walk_at "zz"
    rw [y0]
  obtain ⟨s1,s2⟩:=h2.sub up
  obtain ⟨s3,s4⟩:=h3.sub up
  obtain ⟨z5,z6,z7,rfl⟩:=h4
  refine ⟨⟨nm,p,q,r,t,eA ns k 5⟩,?_,⟨hn,s1,s2,s3,s4,h2.d,h3.d,p0,by show eA ns k 5<=9;omega⟩,rfl⟩
  unfold iU
  have hand:CM (fZ (g2 (rB 2) (cP J.aC .tuple) (ko true))) (fZ (g2 (e6 3 aV (J.a9 (rS 0) (J.a9 (kI 97) (J.a9 (kI 2) J.aC)))) (kI 0) (ko false))) [.shr (.list (ns.map .int)),.shr (.int k),.shr (a_ fs),.shr (.str nm),.no,.no,.no,.no,.no]=.ok false:=by
   walk_at "zz"
   rw [Dj fs hf]
   walk_at "zz"
   by_cases h:fs=[]
   ·simp only [h,decide_true,pj,cond_false]
   ·simp only [h,decide_false,j0,cond_true,uU] at hc ⊢
    rw [dE ns 97 2 (by decide) (by decide)]
    walk_at "zz"
    rw [lL]
    walk_at "zz"
    rw [hc]
  rw [zf,VC,hand]
  simp only [D6,Nx,W9,clear2,aS,ed,vQ,vP,D6,rK,zf]
  rw [show Sl.ow2 [[],[],[],[]]=o4 [] [] [] [] from rfl,h1]
  walk_at "zz"
  rw [Wa]
  walk_at "zz"
  rw [SO]
  walk_at "zz"
  rw [SQ]
  walk_at "zz"
  rw [SS]
  walk_at "zz"
  rw [SU]
  walk_at "zz"
  rw [dE ns k 5 hk (by decide)]
  walk_at "zz"
  rfl
 by_cases hc:(!decide (fs=[])&&decide (eA ns 97 2=0))=true
 ·have h0:0<fs.length:=by
   rcases fs with _|⟨x,r⟩
   ·simp at hc
   ·simp
  obtain ⟨e,h1,h2⟩:=Rg ns k hk fs hf h0 nm hn
  refine ⟨e,?_,h2⟩
  unfold iV
  refine c7 ?_
  unfold iU bn
  walk_at "zz"
  rw [Dj fs hf]
  walk_at "zz"
  simp only [aP] at hc
  rw [hc.1]
  walk_at "zz"
  rw [dE ns 97 2 (by decide) (by decide)]
  walk_at "zz"
  rw [lL]
  walk_at "zz"
  rw [hc.2]
  walk_at "zz"
  rw [h1]
  walk_at "zz"
 ·obtain ⟨e,h1,h2⟩:=go _ rfl (Bool.eq_false_iff.mpr hc)
  exact ⟨e,by unfold iV;exact c7 h1,h2⟩
theorem HB (ds:List D) (t:Nat) (h:t<=ds.length):oM ds (some (t:Int)) none=ds.drop t:=by
 unfold oM
 rw [HT.Cg,HT.yv,Nat.min_eq_left h,G9 (by rw [lu];exact ar _)]
theorem HC (ds:List D) (t:Nat) (h:t<=ds.length):oM ds none (some (t:Int))=ds.take t:=by
 unfold oM
 rw [HT.Cg,HT.yv,Nat.min_eq_left h,List.drop_zero,Nat.sub_zero]
theorem Wb (ds:List D) (t:Nat) (h:t<=ds.length):xU (.list ds) (some (t:Int)) none=.ok (.list (ds.drop t)):=by
 rw [<- HB ds t h];rfl
theorem SW (ds:List D) (t:Nat) (h:t<=ds.length):xU (.list ds) none (some (t:Int))=.ok (.list (ds.take t)):=by
 rw [<- HC ds t h];rfl
theorem HD {l:List (Str×D)} (nd:(l.map (·.1)).Nodup) {p:Str×D} (hp:p∈l):aT (.dict (ii l)) (.str p.1)=.ok p.2:=by
 have e:∀ kvs x,aT (.dict kvs) (.str x)=if ic kvs=true then (match vg kvs (.str x) with
   |some d=>.ok d
   |none=>.no) else .no:=fun _ _=>rfl
 rw [e,if_pos (zu l)]
 have:vg (ii l) (.str p.1)=some p.2:=by
  unfold vg ii
  clear e
  induction l with
  |nil=>cases hp
  |cons q r ih =>
   rw [aS] at nd
   obtain ⟨n1,n2⟩:=List.nodup_cons.mp nd
   rw [aS,dL,sK]
   rcases List.mem_cons.mp hp with h|h
   ·subst h;simp
   ·have:q.1≠p.1:=fun z=>n1 (z ▸ jn h)
    rw [decide_eq_false this]
    exact ih n2 h
 rw [this]
structure fj (fs:List Str) (es:List fg):Prop where
 rise:OA fs 6
 len:es.length<=6
 nd:(es.map (·.name)).Nodup
 ok:∀ e∈es,rM fs e
def e8 (fs:List Str) (es:List fg):D:=.tuple [a_ fs,.tuple (es.map ck)]
theorem Wc (fs:List Str):∀ (l:List (Str×D)),(∀ p∈l,∃ e,p.2=ck e/\rM fs e/\e.name=p.1)->∃ es:List fg,l.map (·.2)=es.map ck/\es.map (·.name)=l.map (·.1)/\∀ e∈es,rM fs e
 |[],_=>⟨[],rfl,rfl,fun _ h=>nomatch h⟩
 |p::r,h=>by
  obtain ⟨e,h1,h2,h3⟩:=h p al
  obtain ⟨es,k1,k2,k3⟩:=Wc fs r fun q hq=>h q (ao _ hq)
  refine ⟨e::es,by rw [aS,aS,h1,k1],by rw [aS,aS,h3,k2],fun x hx=>?_⟩
  rcases List.mem_cons.mp hx with z|z
  ·rw [z];exact h2
  ·exact k3 x z
theorem Lf {α:Type} (l:List α) (t:Nat):(l.drop t++l.take t).Perm l:=by
 refine List.perm_append_comm.trans ?_
 rw [List.take_append_drop]
theorem jC {l:List Str} (h:l.Pairwise fun a b=>lS a b=true):l.Nodup:=h.imp fun hab z=>by
 rw [z,mx] at hab
 cases hab
theorem Rh (ns:List Int) (k:Int) (hk:0<=k) (m n:Int) (hm0:0<=m) (hm:m<=6) (hn0:0<=n) (hn:n<=6):∃ fs es,mF [.list (ns.map .int),.int k,.int m,.int n]=.ok (e8 fs es)/\fj fs es/\fs.length<=m.toNat/\es.length<=n.toNat:=by
 have hr:=Hz ns k m hm0
 generalize hfs:Df ns k m=fs at hr
 have hrl:=hr.len
 have hr:OA fs 6:=⟨hr.ok,hr.up,by have:=hr.len;omega⟩
 have nd:=jC hr.up
 have m0:=dW ns (k+60) (n+1) (by omega)
 have m1:=eS ns (k+60) (n+1) (by omega)
 suffices H:∃ es,mF [.list (ns.map .int),.int k,.int m,.int n]=.ok (e8 fs es)/\fj fs es/\es.length<=n.toNat from H.elim fun es h=>⟨fs,es,h.1,h.2.1,hrl,h.2.2⟩
 unfold mF
 suffices H:∃ es,mE (bn 10 [.list (ns.map .int),.int k,.int m,.int n])=.ok (.rt (e8 fs es))/\fj fs es/\es.length<=n.toNat from H.elim fun es h=>⟨es,c7 h.1,h.2⟩
 have H:=rL (fun (i:Nat)=>bC i) (fun (a:Unit) (_:Nat)=>a) (fun bK _ ρ=>∃ l,l.length+bK.length<=n.toNat/\(l.map (·.1)).Nodup/\(∀ p∈l,∃ e,p.2=ck e/\rM fs e/\e.name=p.1)/\∃ z6 z7,ρ=[.shr (.list (ns.map .int)),.shr (.int k),.shr (.int m),.shr (.int n),.shr (a_ fs),.own (.dict (ii l)),z6,z7,.no,.no]) (kt:=cg 6) (gb:=aX (f_ 7 (e6 2 kM (J.a9 (rS 0) (J.a9 (g2 (g2 (rB 1) (kI 70) dB) (g2 (kI 40) (rB 6) xC) dB) J.aC)))) (D4 5 (rS 7) (e6 4 iV (J.a9 (rS 0) (J.a9 (g2 (g2 (rB 1) (kI 80) dB) (g2 (kI 40) (rB 6) xC) dB) (J.a9 (rS 4) (J.a9 (rS 7) J.aC)))))))
 obtain ⟨ρ',h1,l,h2,h3,h4,z6,z7,h5⟩:=H (by
  rintro i bK _ ρ ⟨l,h2,h3,h4,z6,z7,rfl⟩
  simp only [aM] at h2
  have hw:=F9 ns (k+70+40*(i:Int))
  obtain ⟨e,e1,e2,e3⟩:=Le ns (k+80+40*(i:Int)) (by omega) fs hr.ok hr.up nd hr.len (lj ns (k+70+40*(i:Int))) hw
  have pl:=Fa l (lj ns (k+70+40*(i:Int))) (ck e)
  refine ⟨[.shr (.list (ns.map .int)),.shr (.int k),.shr (.int m),.shr (.int n),.shr (a_ fs),.own (.dict (ii l)),.shr (.int i),z7,.no,.no],[.shr (.list (ns.map .int)),.shr (.int k),.shr (.int m),.shr (.int n),.shr (a_ fs),.own (.dict (ii (t4 l (lj ns (k+70+40*(i:Int))) (ck e)))),.shr (.int i),.shr (.str (lj ns (k+70+40*(i:Int)))),.no,.no],rfl,?_,t4 l (lj ns (k+70+40*(i:Int))) (ck e),by omega,?_,?_,_,_,rfl⟩
  ·walk_at "zz"
   rw [sJ (by decide) (by decide)]
   walk_at "zz"
   rw [Jz ns _ (by omega)]
   walk_at "zz"
   refine (SL (l:=l) (x:=lj ns (k+70+40*(i:Int))) (d:=ck e) rfl ?_ rfl (by omega)).trans rfl
   walk_at "zz"
   rw [sJ (by decide) (by decide)]
   walk_at "zz"
   exact e1
  ·rw [BG];exact Lb h3
  ·exact Oz (Q:=fun x d=>∃ e,d=ck e/\rM fs e/\e.name=x) h4 ⟨e,rfl,e2,e3⟩) (bq (eA ns (k+60) (n+1)).toNat) () [.shr (.list (ns.map .int)),.shr (.int k),.shr (.int m),.shr (.int n),.shr (a_ fs),.own (.dict (ii [])),.no,.no,.no,.no] ⟨[],by rw [ef];simp only [bi];omega,i_,fun _ h=>(nomatch h),_,_,rfl⟩
 simp only [bi,Nat.add_zero] at h2
 have t0:=dW ns (k+61) ((l.length:Int)+1) (by omega)
 have t1:=eS ns (k+61) ((l.length:Int)+1) (by omega)
 obtain ⟨t,ht⟩:∃ t:Nat,eA ns (k+61) ((l.length:Int)+1)=t:=⟨_,(eu t0).symm⟩
 have tl:t<=l.length:=by omega
 have pm:=Lf l t
 obtain ⟨es,k1,k2,k3⟩:=Wc fs (l.drop t++l.take t) fun p hp=>h4 p (pm.mem_iff.mp hp)
 have kl:es.length=l.length:=by
  have:=congrArg tm k1
  rw [au,au,pm.length_eq] at this
  exact this.symm
 refine ⟨es,?_,⟨hr,by omega,?_,k3⟩,by omega⟩
 ·unfold mE bn
  walk_at "yy"
  rw [OC ns k m hk hm0 (by omega),hfs]
  walk_at "yy"
  rw [tK (ds:=(bq (eA ns (k+60) (n+1)).toNat).map fun (i:Nat)=>bC i)]
  ·rw [show PyData.dict []=PyData.dict (ii []) from rfl,h1,h5]
   walk_at "yy"
   rw [Fb]
   walk_at "yy"
   rw [dE ns _ _ (by omega) (by omega),ht]
   walk_at "yy"
   clear H h1
   rw [Wb _ t (by simpa using tl)]
   walk_at "yy"
   rw [SW _ t (by simpa using tl)]
   walk_at "yy"
   have e1:(List.drop t (B1 ap (B1 (fun x=>x.fst) l))++List.take t (B1 ap (B1 (fun x=>x.fst) l)))=(l.drop t++l.take t).map fun p=>ap p.1:=by
    rw [cm,List.map_drop,List.map_take,dm];rfl
   rw [e1,if_pos (by rw [<- aJ,e1,au,pm.length_eq];omega)]
   have pl:=pm.length_eq
   have px:∀ p∈l.drop t++l.take t,p∈l:=fun p hp=>pm.mem_iff.mp hp
   clear e1 pm k2
   generalize l.drop t++l.take t=L at pl px k1 ⊢
   walk_at "yy"
   rw [if_pos (by omega)]
   rw [cj _ (fun p:Str×D=>ap p.1) (fun p=>p.2) L fun p hp=>dv rfl (by
    walk_at "yy"
    exact HD h3 (px p hp))]
   walk_at "yy"
   rw [fS]
   walk_at "yy"
   rw [k1]
   rfl
  ·walk_at "yy"
   rw [dE ns (k+60) (n+1) (by omega) (by omega)]
   walk_at "yy"
   have:=xZ (eA ns (k+60) (n+1)).toNat (by omega)
   rw [eu m0] at this
   exact this
 ·rw [k2]
  exact ((pm.map _).nodup_iff).mpr h3
theorem BH {α:Type} (b:α->Bool):∀ xs:List α,ni (xs.map fun x=>b_ (b x))=some (xs.map b)
 |[]=>rfl
 |x::r=>by
  show (ni (r.map fun x=>b_ (b x))).map (b x::·)=_
  rw [BH b r]
  rfl
theorem h_ {α:Type} (k:List Bool->Bool) (b:α->Bool) (xs:List α):gU k (.list (xs.map fun x=>b_ (b x)))=.ok (.bool (k (xs.map b))):=by
 have e:∀ ds,gU k (.list ds)=match ni ds with
  |some bs=>.ok (.bool (k bs))
  |none=>.no:=fun _=>rfl
 rw [e,BH]
theorem Fd {s s':Sl}{ρ:az}{gt:az->R Bool}{ge:az->R D}{d d' y:D} (h1:gt (.shr d::.shr d'::ρ)=.ok true) (h2:ge (.shr d::.shr d'::ρ)=.ok y):j4 2 (s::s'::ρ) gt ge (.tuple [d,d'])=.ok (some y):=by
 have e:j4 2 (s::s'::ρ) gt ge (.tuple [d,d'])=KR ((gt (.shr d::.shr d'::ρ)).bind fun b=>if b then (ge (.shr d::.shr d'::ρ)).bind fun y=>.ok (some y) else .ok none):=id rfl
 rw [e,h1,bind_ok,if_pos rfl,h2];rfl
theorem HE (x:Str):pp (.str x)=true:=id rfl
theorem HF (i:Int):pp (.int i)=true:=id rfl
theorem nF {α:Type} (c:α->D) (h:∀ x,pp (c x)=true):∀ xs:List α,noDs (xs.map c)=true
 |[]=>rfl
 |x::r=>by
  show (pp (c x)&&noDs (r.map c))=true
  rw [h x,nF c h r];rfl
theorem OG (xs:List D):pp (.tuple xs)=noDs xs:=id rfl
theorem kc (xs:List Str):pp (a_ xs)=true:=by
 rw [OG]
 exact nF _ (fun _=>rfl) xs
theorem JD (e:fg):pp (ck e)=true:=by
 have:pp (ck e)=(true&&(pp (a_ e.needs)&&(pp (a_ e.bars)&&(pp (a_ e.makes)&&(pp (a_ e.ends)&&(true&&true)))))):=rfl
 rw [this,kc,kc,kc,kc];rfl
theorem SX (es:List fg):pp (.tuple (es.map ck))=true:=by
 rw [OG]
 exact nF _ JD es
theorem Ri (fs:List Str) (es:List fg):pp (e8 fs es)=true:=by
 have:pp (e8 fs es)=(pp (a_ fs)&&(pp (.tuple (es.map ck))&&true)):=rfl
 rw [this,kc,SX];rfl
theorem HG (x:Str):rE "str" (.str x)=true:=id rfl
theorem wx (x:List D):rE "tuple" (.tuple x)=true:=id rfl
theorem Ul (x:Int):rE "int" (.int x)=true:=id rfl
theorem Um (x:Int):rE "bool" (.int x)=false:=id rfl
theorem Rj:∀ c:_root_.Fin 123,97<=c.val->(!lS ⟨#[c.val]⟩ "a")=true/\(!lS "z" ⟨#[c.val]⟩)=true:=by decide +kernel
theorem jD {x:Str} (h:uM x=true):fH [.str x]=.ok (.bool true):=by
 have hw:=h
 unfold uM at h
 simp only [aP,decide_eq_true_eq,cR] at h
 obtain ⟨⟨h1,h2⟩,h3⟩:=h
 have hl:x.length=x.cps.size:=rfl
 unfold fH
 refine c7 ?_
 unfold oS bn
 walk_at "zz"
 rw [HE,HG]
 walk_at "zz"
 rw [if_pos (by omega)]
 walk_at "zz"
 rw [decide_eq_true (by omega)]
 walk_at "zz"
 rw [decide_eq_true (by omega)]
 walk_at "zz"
 unfold o6
 walk_at "zz"
 rw [if_pos (by rw [aq];omega)]
 rw [cj _ (fun c:Nat=>ap ⟨#[c]⟩) (fun _=>b_ true) x.cps.toList fun c hc=>dv rfl (by
  obtain ⟨a1,a2⟩:=h3 c hc
  obtain ⟨b1,b2⟩:=Rj ⟨c,by omega⟩ a1
  walk_at "zz"
  simp only at b1 b2
  rw [b1]
  walk_at "zz"
  rw [b2])]
 walk_at "zz"
 rw [h_ _ (fun _=>true)]
 walk_at "zz"
 simp
theorem zA:∀ (xs ys:List Str),xD (xs.map .str) (ys.map .str)=(xs.zip ys).map fun p=>br [.str p.1,.str p.2]
 |[],_=>rfl
 |_::_,[]=>rfl
 |x::r,y::r'=>by
  show br [.str x,.str y]::xD (r.map .str) (r'.map .str)=_
  rw [zA r r']
  rfl
theorem OH:∀ {l:List Str},(l.Pairwise fun a b=>lS a b=true)->∀ p∈l.zip (l.drop 1),lS p.1 p.2=true
 |[],_,p,hp=>by cases hp
 |[_],_,p,hp=>by cases hp
 |a::b::r,h,p,hp=>by
  obtain ⟨h1,h2⟩:=List.pairwise_cons.mp h
  rcases List.mem_cons.mp hp with z|z
  ·rw [z];exact h1 b al
  ·exact OH h2 p z
theorem JF (xs:List Str):xU (a_ xs) (some 1) none=.ok (a_ (xs.drop 1)):=by
 have e:xU (a_ xs) (some 1) none=.ok (.tuple (oM (xs.map .str) (some 1) none)):=rfl
 rw [e]
 cases xs with
 |nil=>rfl
 |cons x r =>
  rw [show (1:Int)=((1:Nat):Int) from rfl,HB _ 1 (by simp)]
  rfl
theorem wZ {xs:List Str} (hw:∀ x∈xs,uM x=true) (up:xs.Pairwise fun a b=>lS a b=true) (hl:xs.length<=6):cw [a_ xs]=.ok (.bool true):=by
 unfold cw
 refine c7 ?_
 unfold dJ bn
 walk_at "zz"
 rw [kc,wx]
 walk_at "zz"
 rw [if_pos (by omega)]
 rw [cj _ (fun x:Str=>ap x) (fun _=>b_ true) xs fun x hx=>dv rfl (by
  walk_at "zz"
  rw [jD (hw x hx)])]
 walk_at "zz"
 rw [h_ _ (fun _=>true)]
 walk_at "zz"
 rw [show ((xs.map fun _=>true).all id)=true by simp]
 walk_at "zz"
 rw [JF]
 walk_at "zz"
 rw [zA]
 walk_at "zz"
 rw [if_pos (by simp;omega)]
 rw [cj _ (fun p:Str×Str=>br [.str p.1,.str p.2]) (fun _=>b_ true) (xs.zip (xs.drop 1)) fun p hp=>Fd rfl (by
  walk_at "zz"
  rw [OH up p hp])]
 walk_at "zz"
 rw [h_ _ (fun _=>true)]
 walk_at "zz"
 simp
theorem mI {fs xs:List Str} (hw:∀ x∈fs,uM x=true) (h:Sub fs xs) (hl:xs.length<=6):fG [a_ fs,a_ xs]=.ok (.bool true):=by
 unfold fG
 refine c7 ?_
 unfold jB bn
 walk_at "zz"
 rw [wZ (fun x hx=>hw x (h.mem x hx)) h.up hl]
 walk_at "zz"
 rw [if_pos (by omega)]
 rw [cj _ (fun x:Str=>ap x) (fun _=>b_ true) xs fun x hx=>dv rfl (by
  walk_at "zz"
  rw [qf,decide_eq_true (h.mem x hx)]
  rfl)]
 walk_at "zz"
 rw [h_ _ (fun _=>true)]
 walk_at "zz"
 simp
theorem BI {xs ys:List Str} (h:∀ x∈xs,x∉ys) (hl:xs.length<=6):gG [a_ xs,a_ ys]=.ok (.bool true):=by
 unfold gG
 refine c7 ?_
 unfold k8 bn
 walk_at "zz"
 rw [if_pos (by omega)]
 rw [cj _ (fun x:Str=>ap x) (fun _=>b_ false) xs fun x hx=>dv rfl (by
  walk_at "zz"
  rw [qf,decide_eq_false (h x hx)]
  rfl)]
 walk_at "zz"
 rw [h_ _ (fun _=>false)]
 walk_at "zz"
 simp
theorem HH {l i m:Int} (h0:l<=i) (h1:i<=m):pU [.int i,.int l,.int m]=.ok (.bool true):=by
 unfold pU
 refine c7 ?_
 unfold pT bn
 walk_at "zz"
 rw [HF,Ul]
 walk_at "zz"
 rw [HF,Um]
 walk_at "zz"
 rw [decide_eq_true h0]
 walk_at "zz"
 rw [decide_eq_true h1]
theorem Dk:∀ (xs fs:List Str),xs.Nodup->(∀ x∈xs,x∈fs)->xs.length<=fs.length
 |[],_,_,_=>eB _
 |x::r,fs,nd,h=>by
  obtain ⟨n1,n2⟩:=List.nodup_cons.mp nd
  have hx:=h x al
  have:=Dk r (fs.erase x) n2 fun y hy=>(List.mem_erase_of_ne fun (z:y=x)=>n1 (z ▸ hy)).mpr (h y (ao _ hy))
  rw [List.length_erase_of_mem hx] at this
  have:0<fs.length:=List.length_pos_of_mem hx
  rw [aM]
  omega
theorem jp {fs xs:List Str} (h:Sub fs xs) (hl:fs.length<=6):xs.length<=6:=by
 exact bD (Dk xs fs (jC h.up) h.mem) hl
theorem XC (a b c d e f g:D):O4 (o7 6 (c_ (cg 2) (c_ (cg 3) (c_ (cg 4) (c_ (cg 5) (c_ (cg 6) (c_ (cg 7) pK))))))) [Sl.shr a,Sl.shr (.tuple [b,c,d,e,f,g]),.no,.no,.no,.no,.no,.no] (.tuple [b,c,d,e,f,g])=.ok (.nx [Sl.shr a,Sl.shr (.tuple [b,c,d,e,f,g]),.shr b,.shr c,.shr d,.shr e,.shr f,.shr g]):=id rfl
theorem Fe {fs:List Str} (hr:OA fs 6) {e:fg} (g:rM fs e):nl [a_ fs,ck e]=.ok (.bool true):=by
 have l1:=jp g.needs hr.len
 have l2:=jp g.bars hr.len
 have l3:=jp g.makes hr.len
 have l4:=jp g.ends hr.len
 unfold nl
 refine c7 ?_
 unfold nj bn
 walk_at "zz"
 rw [JD]
 unfold ck
 walk_at "zz"
 rw [wx]
 walk_at "zz"
 rw [lL]
 walk_at "zz"
 rw [show decide (((6:Nat):Int)=6)=true from rfl]
 walk_at "zz"
 rw [XC]
 ·walk_at "zz"
  rw [jD g.name]
  walk_at "zz"
  rw [HH g.p0 g.p9]
  walk_at "zz"
  have pk:=cj (j4 1 [Sl.no,Sl.shr (a_ fs)] kT (e6 2 fG (J.a9 (rS 1) (J.a9 (rS 0) J.aC)))) (fun x:List Str=>a_ x) (fun _=>b_ true) [e.needs,e.bars,e.makes,e.ends] fun x hx=>dv rfl (by
   walk_at "zz"
   simp only [aQ,aH,or_false] at hx
   rcases hx with z|z|z|z<;>rw [z]
   ·rw [mI hr.ok g.needs l1]
   ·rw [mI hr.ok g.bars l2]
   ·rw [mI hr.ok g.makes l3]
   ·rw [mI hr.ok g.ends l4])
  simp only [aS,ed] at pk
  rw [pk]
  walk_at "zz"
  rw [show gU (fun bs=>bs.all id) (.list [.bool true,.bool true,.bool true,.bool true])=.ok (.bool true) from rfl]
  walk_at "zz"
  rw [BI g.nb l1]
  walk_at "zz"
  rw [BI g.me l3]
  walk_at "zz"
theorem OI (l:List Str) (nd:l.Nodup):(dh [] l).length=l.length:=by
 have h1:=Dk (dh [] l) l (iL l [] i_) fun x hx=>((iQ l [] x).mp hx).elim (fun h=>nomatch h) id
 have h2:=Dk l (dh [] l) nd fun x hx=>(iQ l [] x).mpr (.inr hx)
 omega
theorem Lg (es:List fg) (hl:es.length<=6) (nd:(es.map (·.name)).Nodup) (s:Sl) (ρ:az) (h:(s::ρ)[2]?=some (.shr (.tuple (es.map ck)))):vh (wq 1 [] (kW (rB 2)) kT (g2 (rB 0) (kI 0) aT)) (s::ρ)=.ok (.int (es.length:Nat)):=by
 have hr:Eu (s::ρ) 2=.ok (.tuple (es.map ck)):=by unfold Eu;rw [h]
 unfold vh wq
 rw [U5,Uh,hr]
 walk_at "zz"
 rw [if_pos (by omega)]
 rw [cj _ ck (fun e=>ap e.name) es fun e he=>dv rfl (by
  walk_at "zz"
  rfl)]
 walk_at "zz"
 have:(es.map fun e=>ap e.name)=(es.map (·.name)).map .str:=by rw [dm];rfl
 rw [this,strsOf_map]
 simp only [D6,OI _ nd,au]
theorem XD (b c:D):O4 (o7 2 (c_ (cg 1) (c_ (cg 2) pK))) [Sl.shr (.tuple [b,c]),.no,.no] (.tuple [b,c])=.ok (.nx [Sl.shr (.tuple [b,c]),.shr b,.shr c]):=id rfl
theorem Lh {fs:List Str}{es:List fg} (g:fj fs es):sF [e8 fs es]=.ok (.bool true):=by
 have l1:=g.rise.len
 have l2:=g.len
 unfold sF
 refine c7 ?_
 unfold sD bn
 walk_at "zz"
 rw [Ri]
 unfold e8
 walk_at "zz"
 rw [wx]
 walk_at "zz"
 rw [lL]
 walk_at "zz"
 rw [show decide (((2:Nat):Int)=2)=true from rfl]
 walk_at "zz"
 rw [XD]
 walk_at "zz"
 rw [wZ g.rise.ok g.rise.up l1]
 walk_at "zz"
 rw [decide_eq_false (by omega)]
 walk_at "zz"
 rw [SX,wx]
 walk_at "zz"
 rw [decide_eq_false (by omega)]
 walk_at "zz"
 rw [if_pos (by omega)]
 rw [cj _ ck (fun _=>b_ true) es fun e he=>dv rfl (by
  walk_at "zz"
  rw [Fe g.rise (g.ok e he)])]
 walk_at "zz"
 rw [h_ _ (fun _=>true)]
 walk_at "zz"
 rw [show ((es.map fun _=>true).all id)=true by simp]
 walk_at "zz"
 rw [Lg es l2 g.nd _ _ rfl]
 walk_at "zz"
 rw [lL,decide_eq_true rfl]
 rfl
theorem ug {fs:List Str}{es:List fg} (g:fj fs es):oT [e8 fs es]=.ok (e8 fs es):=by
 unfold oT
 refine c7 ?_
 unfold sI bn
 walk_at "zz"
 rw [Lh g]
 walk_at "zz"
theorem Li {α:Type} (c:α->D) (h:∀ x,bB (c x) (c x)=true):∀ xs:List α,l9 (xs.map c) (xs.map c)=true
 |[]=>by simp [l9]
 |x::r=>by simp [l9,h x,Li c h r]
theorem oU {α:Type} (c:α->D):∀ xs:List α,(∀ x∈xs,(c x).canLay0=true)->bH (xs.map c)=true
 |[],_=>rfl
 |x::r,h=>by
  have h1:=h x al
  have h2:=oU c r fun y hy=>h y (ao _ hy)
  simp only [aS,bH,h1,h2,lI]
theorem sM {α:Type} (c:α->D) (n:Nat) (h:∀ x,(c x).depth<=n):∀ xs:List α,qD (xs.map c)<=n
 |[]=>by simp [qD]
 |x::r=>by
  simp only [aS,qD]
  exact Nat.max_le.mpr ⟨h x,sM c n h r⟩
theorem rN {fs xs:List Str} (hf:∀ x∈fs,uM x=true) (h:Sub fs xs):bH (xs.map .str)=true:=zz xs fun x hx=>hf x (h.mem x hx)
theorem OJ {fs:List Str} (hf:∀ x∈fs,uM x=true) {e:fg} (g:rM fs e):(ck e).canLay0=true:=by
 unfold ck
 simp only [db,bH]
 have:=nC g.name
 simp only [db] at this
 rw [rN hf g.needs,rN hf g.bars,rN hf g.makes,rN hf g.ends,this]
 rfl
theorem Ff {i:Nat}{g:az->R D}{ρ:az}{ds:List D}{d:D} (hi:ρ[i]?=some (Sl.own (.list ds))) (hg:g ρ=.ok d) (hl:ds.length<1000):pP i g ρ=.ok (.nx (ρ.set i (.own (.list (ds++[d]))))):=by
 unfold pP
 simp only [hi,hg,bind_ok,if_pos hl]
theorem OK {s s':Sl}{ρ:az}{gt:az->R Bool}{ge:az->R D}{d d' y:D}{b:Bool} (h1:gt (.shr d::.shr d'::ρ)=.ok b) (h2:b=true->ge (.shr d::.shr d'::ρ)=.ok y):j4 2 (s::s'::ρ) gt ge (.tuple [d,d'])=.ok (if b then some y else none):=by
 have e:j4 2 (s::s'::ρ) gt ge (.tuple [d,d'])=KR ((gt (.shr d::.shr d'::ρ)).bind fun b=>if b then (ge (.shr d::.shr d'::ρ)).bind fun y=>.ok (some y) else .ok none):=id rfl
 rw [e,h1,bind_ok]
 cases b with
 |true=>rw [if_pos rfl,h2 rfl];rfl
 |false=>rfl
theorem BJ:∀ (xs:List Str) (n:Nat),(nE n xs).length=xs.length
 |[],_=>rfl
 |x::r,n=>by
  show (nE (n+1) r).length+1=r.length+1
  rw [BJ r]
theorem Rk (ns:List Int) (k:Int) (hk:0<=k) (fs:List Str) (hl:fs.length<=6) (m:Int):∃ ss:List Str,pY [.list (ns.map .int),.int k,a_ fs,.int m]=.ok (a_ ss)/\ss.Sublist fs:=by
 refine ⟨((nE 0 fs).filter fun q=>decide (eA ns (k+(q.1:Int)) 12<m)).map (·.2),?_,?_⟩
 ·unfold pY
  refine c7 ?_
  unfold pX bn
  walk_at "zz"
  rw [y0]
  walk_at "zz"
  rw [if_pos (by rw [BJ];omega)]
  rw [j_ _ cI (fun q=>ap q.2) (fun q=>decide (eA ns (k+(q.1:Int)) 12<m)) (nE 0 fs) fun q hq=>OK (by
   walk_at "zz"
   rw [dE ns _ 12 (by omega) (by decide)]
   walk_at "zz") fun _=>rfl]
  walk_at "zz"
  rw [fS]
  walk_at "zz"
  unfold a_
  rw [dm]
  rfl
 ·have:=(List.filter_sublist (l:=nE 0 fs) (p:=fun q=>decide (eA ns (k+(q.1:Int)) 12<m))).map (·.2)
  rw [sL] at this
  exact this
theorem HI {fs xs:List Str} (up:fs.Pairwise fun a b=>lS a b=true) (h:xs.Sublist fs):Sub fs xs:=⟨up.sublist h,fun x hx=>h.subset hx⟩
def Fg (P:az->Prop) (r:R Fl):Prop:=∃ ρ',r=.ok (.nx ρ')/\P ρ'
theorem Lj {P:az->Prop}{r:R Fl}{hh:az->R Fl}{o:R Fl} (h:Fg P r) (k:∀ ρ,P ρ->hh ρ=o):r.bind (Hq hh)=o:=by
 obtain ⟨ρ',h1,p⟩:=h
 rw [h1,bind_ok,rK]
 exact k ρ' p
theorem BK {α:Type}{kt:D->az->R az}{gb:az->R Fl} (c:α->D) (P:az->Prop):∀ (xs:List α) (ρ:az),(∀ x∈xs,∀ ρ,P ρ->∃ ρ1,kt (c x) ρ=.ok ρ1/\Fg P (gb ρ1))->P ρ->Fg P (iR kt gb (xs.map c) ρ)
 |[],ρ,_,p=>⟨ρ,rfl,p⟩
 |x::r,ρ,h,p=>by
  obtain ⟨ρ1,h1,ρ2,h2,h3⟩:=h x al ρ p
  rw [aS]
  unfold iR
  rw [h1]
  simp only [h2]
  exact BK c P r ρ2 (fun y hy=>h y (ao _ hy)) h3
theorem Fh {α:Type}{kt:D->az->R az}{gb:az->R Fl} (c:α->D) (p:α->Bool) (out:α->D) (P:az->Prop):∀ (xs:List α) (ρ:az),(∀ x∈xs,∀ ρ,P ρ->∃ ρ1,kt (c x) ρ=.ok ρ1/\(p x=true->gb ρ1=.ok (.rt (out x)))/\(p x=false->Fg P (gb ρ1)))->P ρ ->
  (∀ x,xs.find? p=some x->iR kt gb (xs.map c) ρ=.ok (.rt (out x)))/\(xs.find? p=none->Fg P (iR kt gb (xs.map c) ρ))
 |[],ρ,_,q=>⟨fun x h=>(nomatch h),fun _=>⟨ρ,rfl,q⟩⟩
 |x::r,ρ,h,q=>by
  obtain ⟨ρ1,h1,h2,h3⟩:=h x al ρ q
  rw [aS,dL]
  unfold iR
  rw [h1]
  cases hp:p x with
  |true =>
   refine ⟨fun y hy=>?_,fun hn=>nomatch hn⟩
   cases hy
   simp only [h2 hp]
  |false =>
   obtain ⟨ρ2,h4,h5⟩:=h3 hp
   simp only [h4]
   exact Fh c p out P r ρ2 (fun y hy=>h y (ao _ hy)) h5
structure SY (fs m b:List Str):Prop where
 must:Sub fs m
 bars:Sub fs b
 mb:∀ x∈m,x∉b
abbrev zB (m b:List Str):D:=.tuple [a_ m,a_ b]
theorem JH (p:List Str) (x:Str):p.map ap++[ap x]=(p++[x]).map .str:=by simp
theorem Rl (ns:List Int) (k:Int) (hk:0<=k) (fs:List Str) (up:fs.Pairwise fun a b=>lS a b=true) (hl:fs.length<=6):∃ m b,uf [.list (ns.map .int),.int k,a_ fs]=.ok (zB m b)/\SY fs m b:=by
 have nd:=jC up
 suffices H:∃ p q,mG (bn 8 [.list (ns.map .int),.int k,a_ fs])=.ok (.rt (zB p q))/\o9 fs p q by
  obtain ⟨p,q,h1,h2⟩:=H
  exact ⟨p,q,c7 h1,HI up h2.sp,HI up h2.sq,h2.d⟩
 unfold mG bn
 walk_at "yy"
 rw [tK (ds:=(nE 0 fs).map cI)]
 ·have H:=rL cI (fun (a:Unit) (_:Nat×Str)=>a) (fun bK _ ρ=>∃ pre,pre++bK.map (·.2)=fs/\∃ p q,o9 pre p q/\∃ z5 z6 z7,ρ=[.shr (.list (ns.map .int)),.shr (.int k),.shr (a_ fs),.own (.list (p.map .str)),.own (.list (q.map .str)),z5,z6,z7]) (kt:=o7 2 (c_ (cg 5) (c_ (cg 6) pK))) (gb:=aX (f_ 7 (e6 3 aV (J.a9 (rS 0) (J.a9 (g2 (rB 1) (rB 5) dB) (J.a9 (kI 8) J.aC))))) (dZ (fZ (g2 (rB 7) (kI 2) Hc)) (pP 3 (rS 6)) (dZ (fZ (g2 (rB 7) (kI 2) (ko false))) (pP 4 (rS 6)) (fun ρ=>.ok (.nx ρ)))))
  obtain ⟨ρ',h1,pre,h2,p,q,h3,z5,z6,z7,h4⟩:=H (by
   rintro ⟨i,x⟩ bK _ ρ ⟨pre,h2,p,q,h3,z5,z6,z7,rfl⟩
   have hx:x∉pre:=by
    rw [<- h2,aS] at nd
    have:=(List.nodup_append.mp nd).2.2
    intro hx
    exact this x hx x al rfl
   have hpl:pre.length<900:=by
    have:=congrArg tm h2
    rw [aJ] at this
    omega
   have lp:=h3.sp.length_le
   have lq:=h3.sq.length_le
   refine ⟨[.shr (.list (ns.map .int)),.shr (.int k),.shr (a_ fs),.own (.list (p.map .str)),.own (.list (q.map .str)),.shr (.int (i:Nat)),.shr (.str x),z7],?_⟩
   by_cases c1:eA ns (k+(i:Nat)) 8<2
   ·refine ⟨[.shr (.list (ns.map .int)),.shr (.int k),.shr (a_ fs),.own (.list ((p++[x]).map .str)),.own (.list (q.map .str)),.shr (.int (i:Nat)),.shr (.str x),.shr (.int (eA ns (k+(i:Nat)) 8))],rfl,?_,pre++[x],by rw [<- h2];simp,_,_,h3.left x hx,_,_,_,rfl⟩
    walk_at "zz"
    rw [dE ns _ 8 (by omega) (by decide)]
    walk_at "zz"
    rw [decide_eq_true c1]
    walk_at "zz"
    rw [<- JH]
    exact Ff (ds:=p.map .str) rfl rfl (by rw [au];omega)
   ·by_cases c2:eA ns (k+(i:Nat)) 8=2
    ·refine ⟨[.shr (.list (ns.map .int)),.shr (.int k),.shr (a_ fs),.own (.list (p.map .str)),.own (.list ((q++[x]).map .str)),.shr (.int (i:Nat)),.shr (.str x),.shr (.int (eA ns (k+(i:Nat)) 8))],rfl,?_,pre++[x],by rw [<- h2];simp,_,_,h3.right x hx,_,_,_,rfl⟩
     walk_at "zz"
     rw [dE ns _ 8 (by omega) (by decide)]
     walk_at "zz"
     rw [decide_eq_false c1]
     walk_at "zz"
     rw [lL]
     walk_at "zz"
     rw [decide_eq_true c2]
     walk_at "zz"
     rw [<- JH]
     exact Ff (ds:=q.map .str) rfl rfl (by rw [au];omega)
    ·refine ⟨[.shr (.list (ns.map .int)),.shr (.int k),.shr (a_ fs),.own (.list (p.map .str)),.own (.list (q.map .str)),.shr (.int (i:Nat)),.shr (.str x),.shr (.int (eA ns (k+(i:Nat)) 8))],rfl,?_,pre++[x],by rw [<- h2];simp,_,_,h3.skip x,_,_,_,rfl⟩
     walk_at "zz"
     rw [dE ns _ 8 (by omega) (by decide)]
     walk_at "zz"
     rw [decide_eq_false c1]
     walk_at "zz"
     rw [lL]
     walk_at "zz"
     rw [decide_eq_false c2]
     walk_at "zz") (nE 0 fs) () [.shr (.list (ns.map .int)),.shr (.int k),.shr (a_ fs),.own (.list []),.own (.list []),.no,.no,.no] ⟨[],by rw [sL];rfl,[],[],⟨eR _,eR _,fun _ h=>nomatch h⟩,_,_,_,rfl⟩
  refine ⟨p,q,?_,?_⟩
  ·rw [h1,h4]
   walk_at "zz"
   rw [fS]
   walk_at "zz"
   rw [fS]
   walk_at "zz"
  ·simp only [ed,cB] at h2
   rw [<- h2];exact h3
 ·walk_at "zz"
  rw [y0]
theorem Uo (j:Int) (h0:0<=j) (h1:j<2):∃ m:Int,aT (.list [.int 2,.int 4]) (.int j)=.ok (.int m):=by
 have:j=0\/j=1:=by omega
 rcases this with h|h<;>subst h
 ·exact ⟨2,rfl⟩
 ·exact ⟨4,rfl⟩
theorem OL (fs:List Str) (es:List fg):aT (e8 fs es) (.int 0)=.ok (a_ fs):=id rfl
theorem HJ (fs:List Str) (es:List fg):aT (e8 fs es) (.int 1)=.ok (.tuple (es.map ck)):=id rfl
theorem Rm (ns:List Int) (m n:Int) (hm0:0<=m) (hm:m<=6) (hn0:0<=n) (hn:n<=6):∃ fs es ss wm wb,q8 [.list (ns.map .int),.int m,.int n]=.ok (.tuple [e8 fs es,a_ ss,zB wm wb])/\fj fs es/\Sub fs ss/\SY fs wm wb/\fs.length<=m.toNat/\es.length<=n.toNat:=by
 obtain ⟨fs,es,hb,gb,fl⟩:=Rh ns 100 (by decide) m n hm0 hm hn0 hn
 obtain ⟨pt,hp⟩:=Uo (eA ns 97 2) (dW _ _ _ (by decide)) (eS _ _ _ (by decide))
 obtain ⟨ss,hs,gs⟩:=Rk ns 20 (by decide) fs gb.rise.len pt
 obtain ⟨wm,wb,hw,gw⟩:=Rl ns 30 (by decide) fs gb.rise.up gb.rise.len
 refine ⟨fs,es,ss,wm,wb,?_,gb,HI gb.rise.up gs,gw,fl⟩
 unfold q8
 refine c7 ?_
 unfold q0 bn
 walk_at "zz"
 rw [hb]
 walk_at "zz"
 rw [OL]
 walk_at "zz"
 rw [dE ns 97 2 (by decide) (by decide)]
 walk_at "zz"
 rw [hp]
 walk_at "zz"
 rw [hs]
 walk_at "zz"
 rw [OL]
 walk_at "zz"
 rw [hw]
 walk_at "zz"
theorem OM {xs ys:List Str} (hl:xs.length<=60):gG [a_ xs,a_ ys]=.ok (.bool (!xs.any fun x=>decide (x∈ys))):=by
 unfold gG
 refine c7 ?_
 unfold k8 bn
 walk_at "zz"
 rw [if_pos (by omega)]
 rw [cj _ (fun x:Str=>ap x) (fun x=>b_ (decide (x∈ys))) xs fun x hx=>dv rfl (by
  walk_at "zz"
  rw [qf]
  rfl)]
 walk_at "zz"
 rw [h_ _ (fun x=>decide (x∈ys))]
 walk_at "zz"
 rw [Ga]
 rfl
theorem SZ (neg:Bool) (e:fg):Bo neg (ck e) .none=.ok (.bool neg):=by cases neg<;>rfl
theorem Wd (neg:Bool) (xs:List Str):Bo neg (a_ xs) .none=.ok (.bool neg):=by cases neg<;>rfl
theorem We (neg:Bool):Bo neg .none .none=.ok (.bool (!neg)):=by cases neg<;>rfl
theorem Fi (e:fg):aT (ck e) (.int 0)=.ok (.str e.name):=id rfl
theorem XE (e:fg):aT (ck e) (.int 3)=.ok (a_ e.makes):=id rfl
theorem XF (e:fg):aT (ck e) (.int 4)=.ok (a_ e.ends):=id rfl
theorem Wf (e:fg):xU (ck e) (some 1) (some 3)=.ok (zB e.needs e.bars):=id rfl
theorem Rn (x:Str) (gs:az->R (List D)) (s:Sl) (ρ:az) {ds:List D} (h:gs (s::ρ)=.ok ds) (hl:ds.length<=1000):uc x gs (s::ρ)=.ex x none:=by unfold uc;rw [h,bind_ok,if_pos hl]
theorem Wg (k:Nat) (gs:az->R (List D)) (s:Sl) (ρ:az):QW k gs (s::ρ)=(gs (s::ρ)).bind (QV k):=id rfl
theorem HK {x:Str} (h:uM x=true):x≠"zzzzz":=by
 intro e
 rw [e] at h
 have:uM "zzzzz"=false:=by decide +kernel
 rw [this] at h
 cases h
theorem XG {x:Str} (h:uM x=true):ko false (.str x) (.str "zzzzz")=.ok (.bool false):=by
 unfold ko
 rw [nC h,show (ap "zzzzz").canLay0=true by decide +kernel,sK,decide_eq_false (HK h)]
 rfl
theorem pE {xs:List D}{j:Nat}{v:D} (h:xs[j]?=some v):aT (.list xs) (.int (j:Nat))=.ok v:=by
 have e:aT (.list xs) (.int (j:Nat))=CV (.list xs) (.int (j:Nat)):=rfl
 rw [e]
 unfold CV
 simp only [pC h]
def Wi:R D->Bool
 |.ok (.bool b)=>b
 |_=>false
theorem JJ {r:R D} (h:Wi r=true):r=.ok (.bool true):=by
 unfold Wi at h
 split at h
 ·rw [h]
 ·cases h
theorem XH (a x y z:D) (r:az):O4 (o7 3 (c_ (cg 1) (c_ (cg 2) (c_ (cg 3) pK)))) (Sl.shr a::.no::.no::.no::r) (.tuple [x,y,z])=.ok (.nx (.shr a::.shr x::.shr y::.shr z::r)):=id rfl
def jE (st a b:List Str):Bool:=(a.all fun x=>decide (x∈st)) && !b.any fun x=>decide (x∈st)
theorem XI (m b:List Str):aT (zB m b) (.int 0)=.ok (a_ m):=id rfl
theorem XJ (m b:List Str):aT (zB m b) (.int 1)=.ok (a_ b):=id rfl
theorem Ro {st a b:List Str} (ha:a.length<=60) (hb:b.length<=60):qc [a_ st,zB a b]=.ok (.bool (jE st a b)):=by
 unfold qc
 refine c7 ?_
 unfold q9 bn
 walk_at "zz"
 rw [XI]
 walk_at "zz"
 rw [if_pos (by omega)]
 rw [cj _ (fun x:Str=>ap x) (fun x=>b_ (decide (x∈st))) a fun x hx=>dv rfl (by
  walk_at "zz"
  rw [qf]
  rfl)]
 walk_at "zz"
 rw [h_ _ (fun x=>decide (x∈st))]
 walk_at "zz"
 rw [XJ]
 walk_at "zz"
 rw [if_pos (by omega)]
 rw [cj _ (fun x:Str=>ap x) (fun x=>b_ (decide (x∈st))) b fun x hx=>dv rfl (by
  walk_at "zz"
  rw [qf]
  rfl)]
 walk_at "zz"
 rw [h_ _ (fun x=>decide (x∈st))]
 walk_at "zz"
 unfold jE
 rw [kA,Ga]
 have e:(id∘fun x=>decide (x∈st))=fun x=>decide (x∈st):=rfl
 rw [e]
 cases (a.all fun x=>decide (x∈st))<;>rfl
theorem ON {n:Nat}{g:az->R Fl}{ds:List D}{ρ:az} (h:g (bn n ds)=.ok (.nx ρ)):fv n g ds=.ok .none:=by unfold fv;rw [h]
def Wj:R D->Bool
 |.ok (.bool b)=>!b
 |_=>false
theorem y6 {r:R D} (h:Wj r=true):r=.ok (.bool false):=by
 unfold Wj at h
 split at h
 ·rename_i b;cases b
  ·rfl
  ·cases h
 ·cases h
theorem JK:fH [.str "zzzzz"]=.ok (.bool true):=JJ (by decide +kernel)
theorem OO (i:Int):fH [.int i]=.ok (.bool false):=by
 unfold fH
 refine c7 ?_
 unfold oS bn
 walk_at "zz"
 rw [HF,show rE "str" (.int i)=false from rfl]
 walk_at "zz"
theorem OP {xs:List Str} (hw:∀ x∈xs,fH [.str x]=.ok (.bool true)) (hl:xs.length<=20):cw [a_ xs]=.ok (.bool ((xs.zip (xs.drop 1)).all fun p=>lS p.1 p.2)):=by
 unfold cw
 refine c7 ?_
 unfold dJ bn
 walk_at "zz"
 rw [kc,wx]
 walk_at "zz"
 rw [if_pos (by omega)]
 rw [cj _ (fun x:Str=>ap x) (fun _=>b_ true) xs fun x hx=>dv rfl (by
  walk_at "zz"
  rw [hw x hx])]
 walk_at "zz"
 rw [h_ _ (fun _=>true)]
 walk_at "zz"
 rw [show ((xs.map fun _=>true).all id)=true by simp]
 walk_at "zz"
 rw [JF]
 walk_at "zz"
 rw [zA]
 walk_at "zz"
 rw [if_pos (by simp;omega)]
 rw [cj _ (fun p:Str×Str=>br [.str p.1,.str p.2]) (fun p=>b_ (lS p.1 p.2)) (xs.zip (xs.drop 1)) fun p hp=>Fd rfl (by
  walk_at "zz")]
 walk_at "zz"
 rw [h_ _ (fun p:Str×Str=>lS p.1 p.2)]
 walk_at "zz"
 rw [kA]
 rfl
theorem BL {fs xs:List Str} (hw:∀ x∈xs,fH [.str x]=.ok (.bool true)) (hl:xs.length<=20):fG [a_ fs,a_ xs]=.ok (.bool (((xs.zip (xs.drop 1)).all fun p=>lS p.1 p.2)&&xs.all fun x=>decide (x∈fs))):=by
 unfold fG
 refine c7 ?_
 unfold jB bn
 walk_at "zz"
 rw [OP hw hl]
 cases ((xs.zip (xs.drop 1)).all fun p=>lS p.1 p.2) with
 |false=>rfl
 |true =>
  walk_at "zz"
  rw [if_pos (by omega)]
  rw [cj _ (fun x:Str=>ap x) (fun x=>b_ (decide (x∈fs))) xs fun x hx=>dv rfl (by
   walk_at "zz"
   rw [qf]
   rfl)]
  walk_at "zz"
  rw [h_ _ (fun x:Str=>decide (x∈fs))]
  walk_at "zz"
  rw [kA]
  rfl
theorem zC:∀ {l:List Str},((l.zip (l.drop 1)).all fun p=>lS p.1 p.2)=true->l.Pairwise fun a b=>lS a b=true
 |[],_=>.nil
 |[_],_=>List.pairwise_singleton _ _
 |a::b::r,h=>by
  have h':(lS a b&&(((b::r).zip ((b::r).drop 1)).all fun p=>lS p.1 p.2))=true:=h
  rw [aP] at h'
  have ih:=zC h'.2
  refine List.pairwise_cons.mpr ⟨fun x hx=>?_,ih⟩
  rcases List.mem_cons.mp hx with z|z
  ·rw [z];exact h'.1
  ·exact mf h'.1 ((List.pairwise_cons.mp ih).1 x z)
structure vq (fs:List Str) (d:D):Prop where
 nd:pp d=true
 no:fG [a_ fs,d]=.ok (.bool false)
theorem Fj {fs:List Str}{d:D} (h0:pp d=true) (h:cw [d]=.ok (.bool false)):vq fs d:=by
 refine ⟨h0,?_⟩
 unfold fG
 refine c7 ?_
 unfold jB bn
 walk_at "zz"
 rw [h]
 walk_at "zz"
theorem JM {fs:List Str}{d:D} (h0:pp d=true) (h1:rE "tuple" d=false):vq fs d:=by
 refine Fj h0 ?_
 unfold cw
 refine c7 ?_
 unfold dJ bn
 walk_at "zz"
 rw [h0,h1]
 walk_at "zz"
theorem Wk {fs xs:List Str} (hf:∀ x∈fs,uM x=true) (hw:∀ x∈xs,fH [.str x]=.ok (.bool true)) (hl:xs.length<=20) (hz:("zzzzz" : Str)∈xs):vq fs (a_ xs):=by
 refine ⟨kc xs,?_⟩
 rw [BL hw hl]
 have:(xs.all fun x=>decide (x∈fs))=false:=by
  rw [List.all_eq_false]
  exact ⟨_,hz,by rw [decide_eq_true_eq];exact fun h=>HK (hf _ h) rfl⟩
 rw [this,iY]
theorem OQ {fs xs:List Str} (hw:∀ x∈xs,fH [.str x]=.ok (.bool true)) (hl:xs.length<=20) (hz:¬ xs.Pairwise fun a b=>lS a b=true):vq fs (a_ xs):=by
 refine ⟨kc xs,?_⟩
 rw [BL hw hl]
 cases h:((xs.zip (xs.drop 1)).all fun p=>lS p.1 p.2) with
 |true=>exact (hz (zC h)).elim
 |false=>rfl
theorem Wl {fs:List Str}{x:Str} (hx:uM x=true):vq fs (.tuple [.str x,.int 0]):=by
 refine Fj rfl ?_
 unfold cw
 refine c7 ?_
 unfold dJ bn
 walk_at "zz"
 rw [show pp (.tuple [.str x,.int 0])=true from rfl,wx]
 walk_at "zz"
 have pk:=cj (j4 1 [Sl.no] kT (e6 1 fH (J.a9 (rS 0) J.aC))) (fun p:D×Bool=>p.1) (fun p=>b_ p.2) [(.str x,true),(.int 0,false)] fun p hp=>dv rfl (by
  walk_at "zz"
  simp only [aQ,aH,or_false] at hp
  rcases hp with z|z<;>rw [z]
  ·rw [jD hx]
  ·rw [OO])
 simp only [aS,ed] at pk
 rw [pk]
 walk_at "zz"
 rw [show gU (fun bs=>bs.all id) (.list [.bool true,.bool false])=.ok (.bool false) from rfl]
 walk_at "zz"
theorem OR {L:List D}{j:Int} (h0:0<=j) (h1:j<L.length):∃ d∈L,aT (.list L) (.int j)=.ok d:=by
 obtain ⟨n,rfl⟩:=gZ h0
 have hn:n<L.length:=by omega
 exact ⟨L[n],fV hn,pE (aW hn)⟩
def tM (fs:List Str):List D:=[.none,.list (fs.map .str),.tuple [.str "zzzzz"],.tuple (fs.map .str++[.str "zzzzz"]),.tuple [.int 1],.int 0,.str "a",.tuple [.str ""],.tuple [.none]]
def zD (x:Str) (fs:List Str):List D:=[.tuple (fs.map .str++fs.map .str),.tuple [.str x,.str x],.tuple [.str x,.int 0]]
theorem XM {fs:List Str} (hf:∀ x∈fs,uM x=true) (hl:fs.length<=6):∀ d∈tM fs,vq fs d:=by
 intro d hd
 unfold tM at hd
 simp only [aQ,aH,or_false] at hd
 rcases hd with h|h|h|h|h|h|h|h|h<;>rw [h]
 ·exact JM rfl rfl
 ·exact JM (by show noDs (fs.map ap)=true;exact nF _ (fun _=>rfl) fs) rfl
 ·exact Wk (xs:=[("zzzzz" : Str)]) hf (fun x hx=>by rw [List.mem_singleton.mp hx];exact JK) (by decide) (List.mem_singleton.mpr rfl)
 ·have:=Wk (xs:=fs++[("zzzzz" : Str)]) hf (fun x hx=>by
   rcases List.mem_append.mp hx with h|h
   ·exact jD (hf x h)
   ·rw [List.mem_singleton.mp h];exact JK) (by rw [aJ];simp;omega) (aY _ (List.mem_singleton.mpr rfl))
  unfold a_ at this
  rwa [cm] at this
 ·exact Fj rfl (y6 (by decide +kernel))
 ·exact JM rfl rfl
 ·exact JM rfl rfl
 ·exact Fj rfl (y6 (by decide +kernel))
 ·exact Fj rfl (y6 (by decide +kernel))
theorem XN {x:Str}{r:List Str} (hf:∀ y∈x::r,uM y=true) (up:(x::r).Pairwise fun a b=>lS a b=true) (hl:(x::r).length<=6):∀ d∈zD x (x::r),vq (x::r) d:=by
 intro d hd
 have hx:=hf x al
 unfold zD at hd
 simp only [aQ,aH,or_false] at hd
 rcases hd with h|h|h<;>rw [h]
 ·have:=OQ (fs:=x::r) (xs:=(x::r)++(x::r)) (fun y hy=>by
   rcases List.mem_append.mp hy with h|h
   ·exact jD (hf y h)
   ·exact jD (hf y h)) (by rw [aJ];omega) (fun h=>by
   have:=(List.nodup_append.mp (jC h)).2.2
   exact this x al x al rfl)
  unfold a_ at this
  rwa [cm] at this
 ·exact OQ (xs:=[x,x]) (fun y hy=>by
   simp only [aQ,aH,or_false,or_self] at hy
   rw [hy];exact jD hx) (by simp) (fun h=>by
   have:=(List.pairwise_cons.mp h).1 x al
   rw [mx] at this
   cases this)
 ·exact Wl hx
theorem XO {x y:Str}{r:List Str} (hf:∀ z∈x::y::r,uM z=true) (up:(x::y::r).Pairwise fun a b=>lS a b=true) (hl:(x::y::r).length<=6):vq (x::y::r) (a_ (x::y::r).reverse):=by
 refine OQ (fun z hz=>jD (hf z (List.mem_reverse.mp hz))) (by rw [uK];omega) (fun h=>?_)
 have h2:=List.pairwise_reverse.mp h
 have a1:=(List.pairwise_cons.mp up).1 y al
 have a2:=(List.pairwise_cons.mp h2).1 y al
 have:=mf a1 a2
 rw [mx] at this
 cases this
theorem XQ (a x y:D):O4 (o7 2 (c_ (cg 2) (c_ (cg 3) pK))) [Sl.shr a,.shr (.tuple [x,y]),.no,.no] (.tuple [x,y])=.ok (.nx [.shr a,.shr (.tuple [x,y]),.shr x,.shr y]):=id rfl
theorem HL {st a b:List Str} (ha:a.length<=60) (hb:b.length<=60):sH [a_ st,zB a b]=.ok (.bool (jE st a b)):=by
 unfold sH
 refine c7 ?_
 unfold sG bn zB
 walk_at "zz"
 rw [XQ]
 walk_at "zz"
 rw [if_pos (by omega)]
 rw [cj _ (fun x:Str=>ap x) (fun x=>b_ (decide (x∈st))) a fun x hx=>dv rfl (by
  walk_at "zz"
  rw [qf]
  rfl)]
 walk_at "zz"
 rw [h_ _ (fun x=>decide (x∈st))]
 walk_at "zz"
 rw [OM (by omega)]
 unfold jE
 rw [kA]
 have e:(id∘fun x=>decide (x∈st))=fun x=>decide (x∈st):=rfl
 rw [e]
 cases (a.all fun x=>decide (x∈st))<;>rfl
theorem Ll {fs ss:List Str}{es:List fg} (g:fj fs es) (h:Sub fs ss):im [e8 fs es,a_ ss]=.ok .none:=by
 unfold im
 refine ON (ρ:=[.shr (e8 fs es),.shr (a_ ss)]) ?_
 unfold ji bn
 walk_at "zz"
 rw [OL]
 walk_at "zz"
 rw [mI g.rise.ok h (jp h g.rise.len)]
 walk_at "zz"
theorem Lm {fs:List Str}{es:List fg}{d:D} (h:vq fs d):im [e8 fs es,d]=.ex "NoState" none:=by
 unfold im
 refine wv ?_
 unfold ji bn
 walk_at "zz"
 rw [OL]
 walk_at "zz"
 rw [h.no]
 walk_at "zz"
 rw [Rn _ _ _ _ rfl (by decide)]
theorem zE {fs ss:List Str}{es:List fg} (g:fj fs es) (h:Sub fs ss):io [e8 fs es,a_ ss]=.ok .none:=by
 unfold io
 refine ON (ρ:=[.shr (e8 fs es),.shr (a_ ss)]) ?_
 unfold jj bn
 walk_at "zz"
 rw [ug g]
 walk_at "zz"
 rw [Ll g h]
 walk_at "zz"
theorem OS {fs:List Str}{es:List fg}{d:D} (g:fj fs es) (h:vq fs d):io [e8 fs es,d]=.ex "NoState" none:=by
 unfold io
 refine wv ?_
 unfold jj bn
 walk_at "zz"
 rw [ug g]
 walk_at "zz"
 rw [Lm h]
 walk_at "zz"
theorem OT {i:Nat}{g:az->R D}{ρ:az}{ds es:List D} (hi:ρ[i]?=some (Sl.own (.list ds))) (hg:g ρ=.ok (.list es)) (hl:ds.length+es.length<=1000):EL i g ρ=.ok (.nx (ρ.set i (.own (.list (ds++es))))):=by
 unfold EL
 simp only [hi,hg,bind_ok,if_pos hl]
theorem Wm (g:az->R D) (s:Sl) (ρ:az):QX g (s::ρ)=(g (s::ρ)).bind U8:=id rfl
theorem Rp (fs:List Str):U8 (a_ fs)=.ok (a_ fs.reverse):=by
 show R.ok (br (fs.map ap).reverse)=_
 rw [<- List.map_reverse]
theorem OU (x:Str) (r:List Str):xU (a_ (x::r)) none (some 1)=.ok (a_ [x]):=by
 have e:xU (a_ (x::r)) none (some 1)=.ok (.tuple (oM ((x::r).map .str) none (some 1))):=rfl
 rw [e,show (1:Int)=((1:Nat):Int) from rfl,HC _ 1 (by simp)]
 rfl
theorem Rq (x:Str) (r:List Str):aT (a_ (x::r)) (.int 0)=.ok (.str x):=by
 have e:aT (a_ (x::r)) (.int 0)=CV (.tuple (.str x::r.map .str)) (.int 0):=rfl
 rw [e]
 unfold CV
 have:=pC (xs:=ap x::r.map .str) (j:=0) (v:=.str x) rfl
 rw [show ((0:Nat):Int)=0 from rfl] at this
 simp only [this]
theorem Fk (xs:List D):iz (.tuple xs)=.ok (.list xs):=id rfl
theorem Dl (ns:List Int) (k:Int) (hk:0<=k) {L:List D}{P:D->Prop} (hL:0<L.length) (h:∀ d∈L,P d) (F:D):∃ d,cC (g2 (rB 3) (e6 3 aV (J.a9 (rS 0) (J.a9 (rS 1) (J.a9 (bY (J.a9 (rB 3) J.aC) (i5 jg)) J.aC)))) aT) [.shr (.list (ns.map .int)),.shr (.int k),.shr F,.own (.list L)]=.ok (.rt d)/\P d:=by
 have hm:=dE ns k (L.length:Nat) hk (by omega)
 obtain ⟨d,hd,e⟩:=OR (L:=L) (dW ns k (L.length:Nat) (by omega)) (eS ns k (L.length:Nat) (by omega))
 refine ⟨d,?_,h d hd⟩
 walk_at "zz"
 rw [hm]
 walk_at "zz"
 rw [e]
 walk_at "zz"
theorem Ln (ns:List Int) (k:Int) (hk:0<=k) (fs:List Str) (hr:OA fs 6):∃ d,jo [.list (ns.map .int),.int k,a_ fs]=.ok d/\vq fs d:=by
 suffices H:∃ d,ig (bn 4 [.list (ns.map .int),.int k,a_ fs])=.ok (.rt d)/\vq fs d by
  obtain ⟨d,h1,h2⟩:=H
  exact ⟨d,c7 h1,h2⟩
 have l:=hr.len
 have b0:=XM hr.ok l
 unfold ig bn
 generalize hG:cC _=G
 walk_at "zz"
 rw [Fk]
 walk_at "zz"
 rw [if_pos (by omega)]
 walk_at "zz"
 rw [Dj fs hr.ok]
 walk_at "zz"
 cases fs with
 |nil =>
  walk_at "zz"
  rw [show decide ((1:Int)<((0:Nat):Int))=false from rfl]
  walk_at "zz"
  rw [<- hG]
  exact Dl ns k hk (L:=tM []) (by decide) b0 _
 |cons x r =>
  have b1:=XN hr.ok hr.up l
  rw [decide_eq_false (by simp)]
  simp only [j0,cond_true]
  simp only [aM] at l
  rw [OT (ds:=tM (x::r)) (es:=zD x (x::r))]
  ·walk_at "zz"
   have bb:∀ d∈tM (x::r)++zD x (x::r),vq (x::r) d:=fun d hd=>(List.mem_append.mp hd).elim (b0 d) (b1 d)
   cases r with
   |nil =>
    rw [show decide ((1:Int)<(([].length+1:Nat):Int))=false from rfl]
    walk_at "zz"
    rw [<- hG]
    exact Dl ns k hk (by simp [tM]) bb _
   |cons y r =>
    rw [decide_eq_true (by simp only [aM];omega)]
    simp only [cond_true]
    have b2:=XO hr.ok hr.up hr.len
    rw [OT (ds:=tM (x::y::r)++zD x (x::y::r)) (es:=[a_ (x::y::r).reverse,a_ (x::y::r).reverse,a_ (x::y::r).reverse])]
    ·walk_at "zz"
     rw [<- hG]
     exact Dl ns k hk (by simp [tM]) (fun d hd=>(List.mem_append.mp hd).elim (bb d) fun h=>by
      simp only [aQ,aH,or_false,or_self] at h
      rw [h];exact b2) _
    ·rfl
    ·rw [Wg]
     walk_at "zz"
     rw [Wm]
     walk_at "zz"
     rw [Rp]
     rfl
    ·simp [tM,zD]
  ·rfl
  ·walk_at "zz"
   rw [if_pos (by omega)]
   walk_at "zz"
   rw [OU]
   walk_at "zz"
   rw [OU]
   walk_at "zz"
   rw [Rq]
   walk_at "zz"
   rfl
  ·simp [tM,zD]
def vt (es:List fg) (nm:Str):Option fg:=es.find? fun e=>decide (e.name=nm)
def Up:Option fg->D
 |none=>.none
 |some e=>ck e
theorem wy {fs:List Str}{es:List fg} (g:fj fs es) {nm:Str} (hn:uM nm=true):cK [e8 fs es,.str nm]=.ok (Up (vt es nm)):=by
 unfold cK
 refine c7 ?_
 unfold gC bn
 walk_at "zz"
 rw [HE,HG]
 walk_at "zz"
 rw [tK (ds:=es.map ck)]
 ·obtain ⟨h1,h2⟩:=Fh ck (fun e=>decide (e.name=nm)) ck (fun ρ=>∃ z,ρ=[Sl.shr (e8 fs es),.shr (.str nm),z]) (kt:=cg 2) (gb:=dZ (fZ (g2 (g2 (rB 2) (kI 0) aT) (rB 1) (ko false))) (cC (rS 2)) (fun ρ=>.ok (.nx ρ))) es [Sl.shr (e8 fs es),.shr (.str nm),.no] (by
   rintro e he ρ ⟨z,rfl⟩
   refine ⟨[.shr (e8 fs es),.shr (.str nm),.shr (ck e)],rfl,fun hp=>?_,fun hp=>⟨[.shr (e8 fs es),.shr (.str nm),.shr (ck e)],?_,_,rfl⟩⟩
   ·walk_at "zz"
    rw [Fi]
    walk_at "zz"
    rw [Dh false (g.ok e he).name hn]
    walk_at "zz"
    rw [hp]
    walk_at "zz"
   ·walk_at "zz"
    rw [Fi]
    walk_at "zz"
    rw [Dh false (g.ok e he).name hn]
    walk_at "zz"
    rw [hp]
    walk_at "zz") ⟨_,rfl⟩
  cases hf:es.find? (fun e=>decide (e.name=nm)) with
  |some e =>
   rw [h1 e hf]
   walk_at "zz"
   unfold vt
   rw [hf]
   rfl
  |none =>
   obtain ⟨ρ',e1,z,rfl⟩:=h2 hf
   rw [e1]
   walk_at "zz"
   unfold vt
   rw [hf]
   rfl
 ·walk_at "zz"
  rw [HJ]
  walk_at "zz"
theorem qg:∀ {es:List fg},(es.map (·.name)).Nodup->∀ {e:fg},e∈es->vt es e.name=some e
 |x::r,nd,e,he=>by
  obtain ⟨n1,n2⟩:=List.nodup_cons.mp nd
  unfold vt
  rw [dL]
  rcases List.mem_cons.mp he with h|h
  ·subst h;simp
  ·have:x.name≠e.name:=fun z=>n1 (by show x.name∈_;rw [z];exact jn h)
   rw [decide_eq_false this]
   exact qg n2 h
structure JP (e:fg):Prop where
 needs:e.needs.length<=6
 bars:e.bars.length<=6
 makes:e.makes.length<=6
 ends:e.ends.length<=6
theorem vv {fs:List Str}{es:List fg} (g:fj fs es) {e:fg} (he:e∈es):JP e :=
 ⟨jp (g.ok e he).needs g.rise.len,jp (g.ok e he).bars g.rise.len,jp (g.ok e he).makes g.rise.len,jp (g.ok e he).ends g.rise.len⟩
theorem OV {fs:List Str}{es:List fg} (g:fj fs es):cK [e8 fs es,.str "zzzzz"]=.ok .none:=by
 unfold cK
 refine c7 ?_
 unfold gC bn
 walk_at "zz"
 rw [HE,HG]
 walk_at "zz"
 rw [tK (ds:=es.map ck)]
 ·refine Lj (P:=fun ρ=>∃ z,ρ=[Sl.shr (e8 fs es),.shr (.str "zzzzz"),z]) (BK ck _ es _ ?_ ⟨_,rfl⟩) ?_
  ·rintro e he ρ ⟨z,rfl⟩
   refine ⟨[.shr (e8 fs es),.shr (.str "zzzzz"),.shr (ck e)],rfl,[.shr (e8 fs es),.shr (.str "zzzzz"),.shr (ck e)],?_,_,rfl⟩
   walk_at "zz"
   rw [Fi]
   walk_at "zz"
   rw [XG (g.ok e he).name]
   walk_at "zz"
  ·rintro ρ ⟨z,rfl⟩
   walk_at "zz"
 ·walk_at "zz"
  rw [HJ]
  walk_at "zz"
theorem zF {fs:List Str}{es:List fg}{d:D} (h1:pp d=true) (h2:rE "str" d=false):cK [e8 fs es,d]=.ok .none:=by
 unfold cK
 refine c7 ?_
 unfold gC bn
 walk_at "zz"
 rw [h1,h2]
 walk_at "zz"
theorem XR (e:fg):aT (ck e) (.int 1)=.ok (a_ e.needs):=id rfl
theorem XS (e:fg):aT (ck e) (.int 2)=.ok (a_ e.bars):=id rfl
def Fm (e:fg) (st:List Str):Option (List Str):=if jE st e.needs e.bars then some (DQ ((st.filter fun x=>!decide (x∈e.ends))++e.makes)) else none
def Rr:Option (List Str)->D
 |none=>.none
 |some s=>a_ s
theorem y7 {e:fg} (he:JP e) {st:List Str} (hs:st.length<=30):fh [ck e,a_ st]=.ok (Rr (Fm e st)):=by
 have:=he.needs
 have:=he.bars
 have:=he.makes
 unfold fh
 refine c7 ?_
 unfold qd bn
 walk_at "zz"
 rw [Wf]
 walk_at "zz"
 rw [Ro (by omega) (by omega)]
 walk_at "zz"
 unfold Fm
 cases hg:jE st e.needs e.bars with
 |false =>
  walk_at "zz"
  rfl
 |true =>
  walk_at "zz"
  rw [if_pos (by omega)]
  rw [j_ _ (fun x:Str=>ap x) (fun x=>ap x) (fun x=>!decide (x∈e.ends)) st fun x hx=>xW (by
   walk_at "zz"
   rw [XF]
   walk_at "zz"
   rw [qf]
   rfl) fun _=>rfl]
  have hf:(st.filter fun x=>!decide (x∈e.ends)).length<=st.length:=GE _ _
  walk_at "zz"
  rw [ww,JC]
  walk_at "zz"
  rw [XE]
  walk_at "zz"
  rw [Fk]
  walk_at "zz"
  rw [if_pos (by omega)]
  walk_at "zz"
  rw [<- cm,zx _ (by rw [aJ];omega)]
  walk_at "zz"
  rw [zy _ (by have:=gF ((st.filter fun x=>!decide (x∈e.ends))++e.makes) [];simp only [bi,aJ] at this;omega)]
  walk_at "zz"
  rw [fS]
  rfl
theorem Uq:∀ {a b:List Str},(a.Pairwise fun x y=>lS x y=true)->(b.Pairwise fun x y=>lS x y=true)->(∀ x,x∈a↔x∈b)->a=b:=by
 intro a b ha hb h
 have na:=jC ha
 have nb:=jC hb
 have p:a.Perm b:=(ng na nb).mpr h
 exact p.eq_of_pairwise (fun x y _ _ h1 h2=>by
  have:=mf h1 h2
  rw [mx] at this
  cases this) ha hb
def dw (e:fg) (st:List Str):List Str:=DQ ((st.filter fun x=>!decide (x∈e.ends))++e.makes)
theorem HM {e:fg}{st:List Str}{x:Str}:x∈dw e st↔(x∈st/\x∉e.ends)\/x∈e.makes:=by
 unfold dw
 rw [nA]
 simp [List.mem_filter]
theorem wz (e:fg) (st:List Str):Fm e st=if jE st e.needs e.bars then some (dw e st) else none:=rfl
theorem Lo (s:List Str):Rr (some s)=a_ s:=rfl
theorem Lp:Rr none=.none:=rfl
theorem Wn (ga gb:az->R (List Str)) (s:Sl) (ρ:az) {xs ys:List Str} (h1:ga (s::ρ)=.ok xs) (h2:gb (s::ρ)=.ok ys) (hl:xs.length+ys.length<=15):Oi ga gb (s::ρ)=.ok (dh xs ys):=by
 unfold Oi J.Ub
 rw [h1,bind_ok,h2,bind_ok,if_pos hl]
theorem BM (ss:List Str) (h:ss.length<60):ua (a_ ss)=.ok (dh [] ss):=by
 have e:∀ ds,ua (.tuple ds)=match gM ds with
  |some ss=>if ss.length<60 then .ok (dh [] ss) else .no
  |none=>.no:=fun _=>rfl
 rw [e,strsOf_map]
 simp only [if_pos h]
theorem Ur (xs ys:List Str):jV (dh (dh [] xs) (dh [] ys))=DQ (xs++ys):=by
 refine Uq (wj (r9 _) ((hU _).nodup_iff.mpr (iL _ _ (iL _ [] i_)))) (HA _) fun x=>?_
 rw [(hU _).mem_iff,iQ,iQ,iQ,nA,m7]
 simp
theorem Lq {xs ys:List Str} (h:xs.length+ys.length<=12):vn [a_ xs,a_ ys]=.ok (a_ (DQ (xs++ys))):=by
 have l1:=gF xs []
 have l2:=gF ys []
 simp only [bi] at l1 l2
 have l3:=gF (dh [] ys) (dh [] xs)
 unfold vn
 refine c7 ?_
 unfold vm bn
 walk_at "zz"
 rw [ww,Wn _ _ _ _ (BM xs (by omega)) (BM ys (by omega)) (by omega)]
 walk_at "zz"
 rw [zy _ (by omega),Ur]
 walk_at "zz"
 rw [fS]
 walk_at "zz"
theorem HN {xs ys:List Str} (h:xs.length<=60):sC [a_ xs,a_ ys]=.ok (a_ (xs.filter fun x=>!decide (x∈ys))):=by
 unfold sC
 refine c7 ?_
 unfold sB bn
 walk_at "zz"
 rw [if_pos (by omega)]
 rw [j_ _ (fun x:Str=>ap x) (fun x=>ap x) (fun x=>!decide (x∈ys)) xs fun x hx=>xW (by
  walk_at "zz"
  rw [qf]
  rfl) fun _=>rfl]
 walk_at "zz"
 rw [fS]
 walk_at "zz"
theorem Wo {i j:Nat}{gs:az->R (List D)}{s:Sl}{ρ:az}{d e:D} (h:gs (s::ρ)=.ok [d,e]):Oj i j gs (s::ρ)=.ok (.nx (((s::ρ).set i (.shr d)).set j (.shr e))):=by
 unfold Oj
 rw [h]
 rfl
theorem Lr {e:fg} (he:JP e) {st:List Str} (hs:st.length<=6):fR [ck e,a_ st]=.ok (a_ (dw e st)):=by
 have:=he.makes
 have hf:(st.filter fun x=>!decide (x∈e.ends)).length<=st.length:=GE _ _
 unfold fR
 refine c7 ?_
 unfold k9 bn
 walk_at "zz"
 rw [Wo (d:=a_ e.makes) (e:=a_ e.ends) rfl]
 walk_at "zz"
 rw [HN (by omega)]
 walk_at "zz"
 rw [Lq (by omega)]
 rfl
theorem BN {e:fg} (he:JP e) {st:List Str}:iO [ck e,a_ st]=.ok (.bool (jE st e.needs e.bars)):=by
 have:=he.needs
 have:=he.bars
 unfold iO
 refine c7 ?_
 unfold nq bn
 walk_at "zz"
 rw [XR]
 walk_at "zz"
 rw [XS]
 walk_at "zz"
 rw [HL (by omega) (by omega)]
 walk_at "zz"
def zG:List fg->List Str->Option (List Str)
 |[],st=>some st
 |e::r,st=>if jE st e.needs e.bars then zG r (dw e st) else none
def cZ:List fg->List Str->List (List Str)
 |[],st=>[st]
 |e::r,st=>if jE st e.needs e.bars then st::cZ r (dw e st) else [st]
theorem qh {fs st:List Str}{e:fg} (hf:fs.Pairwise fun a b=>lS a b=true) (g:rM fs e) (h:Sub fs st):Sub fs (dw e st):=by
 refine ⟨HA _,fun x hx=>?_⟩
 rcases HM.mp hx with z|z
 ·exact h.mem x z.1
 ·exact g.makes.mem x z
theorem Ls:∀ (rs:List fg) (st:List Str),(cZ rs st).length<=rs.length+1
 |[],_=>ar _
 |e::r,st=>by
  unfold cZ
  split
  ·have:=Ls r (dw e st)
   simp only [aM]
   omega
  ·simp
theorem wA:∀ (rs:List fg) (st:List Str),decide (((rs.length:Nat):Int)<((cZ rs st).length:Nat))=(zG rs st).isSome
 |[],_=>rfl
 |e::r,st=>by
  unfold cZ zG
  cases jE st e.needs e.bars with
  |true =>
   rw [if_pos rfl,if_pos rfl,<- wA r]
   simp only [aM]
   congr 1
   simp only [eq_iff_iff]
   omega
  |false =>
   rw [if_neg aL,if_neg aL]
   simp only [aM,bi]
   exact decide_eq_false (by omega)
theorem JQ (xs:List D) (x:D):aT (.list (xs++[x])) (.int (-1))=.ok x:=by
 have e:aT (.list (xs++[x])) (.int (-1))=CV (.list (xs++[x])) (.int (-1)):=rfl
 rw [e]
 unfold CV
 have:DP (xs++[x]) (-1)=some x:=by
  unfold DP RP
  rw [if_neg (by decide),if_pos (by simp only [aJ,aM,bi];omega)]
  have hj:(-1+((xs++[x]).length:Int)).toNat=xs.length:=by simp only [aJ,aM,bi];omega
  simp only [pi,hj]
  rw [bd (ar _)]
  simp
 simp only [this]
theorem Us {i:Nat}{kt:D->az->R az}{gb:az->R Fl}{ρ:az}{d:D} (h:ρ[i]?=some (Sl.shr d)):yZ i kt gb ρ=s_ (kW fun ρ=>Gc ρ i) kt gb ρ:=by
 unfold yZ
 rw [h]
structure Lu (es rs:List fg):Prop where
 mem:∀ e∈rs,e∈es
 len:rs.length<=64
abbrev j6 (rs:List fg):D:=.list (rs.map fun e=>ap e.name)
theorem OW (rs:List fg):noDs (rs.map fun e=>ap e.name)=true:=nF _ (fun _=>rfl) rs
theorem OX {fs:List Str}{es rs:List fg} (g:fj fs es) (h:Lu es rs):li [e8 fs es,j6 rs]=.ok (.bool true):=by
 have hl:=h.len
 unfold li
 refine c7 ?_
 unfold mD bn
 walk_at "zz"
 rw [show pp (j6 rs)=true from OW rs,show rE "list" (j6 rs)=true from rfl]
 walk_at "zz"
 rw [decide_eq_false (by omega)]
 walk_at "zz"
 rw [if_pos (by omega)]
 rw [cj _ (fun e:fg=>ap e.name) (fun _=>b_ true) rs fun e he=>dv rfl (by
  walk_at "zz"
  rw [wy g (g.ok e (h.mem e he)).name,qg g.nd (h.mem e he)]
  simp only [Up]
  walk_at "zz"
  rw [SZ])]
 walk_at "zz"
 rw [h_ _ (fun _=>true)]
 walk_at "zz"
 simp
theorem uh {fs:List Str}{es rs:List fg} (g:fj fs es) (h:Lu es rs):hZ [e8 fs es,j6 rs]=.ok (.list (rs.map ck)):=by
 have hl:=h.len
 unfold hZ
 refine c7 ?_
 unfold ka bn
 walk_at "zz"
 rw [OX g h]
 walk_at "zz"
 rw [if_pos (by omega)]
 rw [cj _ (fun e:fg=>ap e.name) ck rs fun e he=>dv rfl (by
  walk_at "zz"
  rw [wy g (g.ok e (h.mem e he)).name,qg g.nd (h.mem e he)]
  rfl)]
 walk_at "zz"
theorem vw:TZ (.int 1)=.ok (.int (-1)):=rfl
theorem Fo (g:az->R D) (s:Sl) (ρ:az):u9 g (s::ρ)=(g (s::ρ)).bind TZ:=id rfl
theorem Dm {kt:D->az->R az}{gb:az->R Fl}{d:D}{r:List D}{ρ ρ1 ρ2:az} (h1:kt d ρ=.ok ρ1) (h2:gb ρ1=.ok (.nx ρ2)):iR kt gb (d::r) ρ=iR kt gb r ρ2:=by
 rw [iR,h1]
 simp only [h2]
theorem Dn {kt:D->az->R az}{gb:az->R Fl}{d x:D}{r:List D}{ρ ρ1:az} (h1:kt d ρ=.ok ρ1) (h2:gb ρ1=.ok (.rt x)):iR kt gb (d::r) ρ=.ok (.rt x):=by
 rw [iR,h1]
 simp only [h2]
theorem w_ {fs:List Str}{es:List fg} (g:fj fs es) (A B:D):∀ (rs:List fg) (pre:List (List Str)) (st:List Str) (z:Sl),(∀ e∈rs,e∈es)->Sub fs st->pre.length+rs.length<=100 ->
  (∃ z',iR (cg 3) (aX (dZ (le (fZ (e6 2 iO (J.a9 (rS 3) (J.a9 (g2 (rB 2) (u9 (kI 1)) aT) J.aC))))) (cC (rS 2)) (fun ρ=>.ok (.nx ρ))) (pP 2 (e6 2 fR (J.a9 (rS 3) (J.a9 (g2 (rB 2) (u9 (kI 1)) aT) J.aC))))) (rs.map ck) [.shr A,.shr B,.own (.list ((pre++[st]).map a_)),z]=.ok (.nx [.shr A,.shr B,.own (.list ((pre++cZ rs st).map a_)),z'])) \/
  iR (cg 3) (aX (dZ (le (fZ (e6 2 iO (J.a9 (rS 3) (J.a9 (g2 (rB 2) (u9 (kI 1)) aT) J.aC))))) (cC (rS 2)) (fun ρ=>.ok (.nx ρ))) (pP 2 (e6 2 fR (J.a9 (rS 3) (J.a9 (g2 (rB 2) (u9 (kI 1)) aT) J.aC))))) (rs.map ck) [.shr A,.shr B,.own (.list ((pre++[st]).map a_)),z]=.ok (.rt (.list ((pre++cZ rs st).map a_)))
 |[],pre,st,z,_,_,_=>.inl ⟨z,rfl⟩
 |e::r,pre,st,z,hm,hs,hl=>by
  have he:=hm e al
  have sh:=vv g he
  simp only [aM] at hl
  have hix:aT (.list ((pre++[st]).map a_)) (.int (-1))=.ok (a_ st):=by
   rw [cm]
   exact JQ _ _
  unfold cZ
  cases hg:jE st e.needs e.bars with
  |true =>
   rw [if_pos rfl]
   have e2:pre++st::cZ r (dw e st)=(pre++[st])++cZ r (dw e st):=by simp
   rw [e2,aS]
   have hb:=w_ g A B r (pre++[st]) (dw e st) (.shr (ck e)) (fun x hx=>hm x (ao _ hx)) (qh g.rise.up (g.ok e he) hs) (by rw [aJ];simp only [aM,bi];omega)
   have hbody:(aX (dZ (le (fZ (e6 2 iO (J.a9 (rS 3) (J.a9 (g2 (rB 2) (u9 (kI 1)) aT) J.aC))))) (cC (rS 2)) (fun ρ=>.ok (.nx ρ))) (pP 2 (e6 2 fR (J.a9 (rS 3) (J.a9 (g2 (rB 2) (u9 (kI 1)) aT) J.aC))))) [.shr A,.shr B,.own (.list ((pre++[st]).map a_)),.shr (ck e)]=.ok (.nx [.shr A,.shr B,.own (.list ((pre++[st]++[dw e st]).map a_)),.shr (ck e)]):=by
    walk_at "zz"
    rw [Fo]
    walk_at "zz"
    rw [vw]
    walk_at "zz"
    rw [hix]
    walk_at "zz"
    rw [BN sh,hg]
    walk_at "zz"
    rw [cm (l₁:=pre++[st])]
    refine Ff (ds:=(pre++[st]).map a_) (d:=a_ (dw e st)) rfl ?_ (by rw [au,aJ];simp only [aM,bi];omega)
    walk_at "zz"
    rw [Fo]
    walk_at "zz"
    rw [vw]
    walk_at "zz"
    rw [hix]
    walk_at "zz"
    rw [Lr sh (jp hs g.rise.len)]
   rw [Dm (ρ1:=[.shr A,.shr B,.own (.list ((pre++[st]).map a_)),.shr (ck e)]) rfl hbody]
   exact hb
  |false =>
   rw [if_neg aL,aS]
   refine .inr (Dn (ρ1:=[.shr A,.shr B,.own (.list ((pre++[st]).map a_)),.shr (ck e)]) rfl ?_)
   walk_at "zz"
   rw [Fo]
   walk_at "zz"
   rw [vw]
   walk_at "zz"
   rw [hix]
   walk_at "zz"
   rw [BN sh,hg]
   walk_at "zz"
theorem zH {fs st:List Str}{es rs:List fg} (g:fj fs es) (h:Lu es rs) (hs:Sub fs st):iT [.list (rs.map ck),a_ st]=.ok (.list ((cZ rs st).map a_)):=by
 have hl:=h.len
 unfold iT
 refine c7 ?_
 unfold iS bn
 walk_at "zz"
 rw [Us (d:=.list (rs.map ck)) rfl,tK (ds:=rs.map ck)]
 ·rcases w_ g (.list (rs.map ck)) (a_ st) rs [] st .no h.mem hs (by simp only [bi];omega) with ⟨z,e⟩|e
  ·rw [df,df] at e
   simp only [aS,ed] at e
   rw [e]
   walk_at "zz"
  ·rw [df,df] at e
   simp only [aS,ed] at e
   rw [e]
   walk_at "zz"
 ·walk_at "zz"
theorem Do (neg:Bool) (ds:List D) (h:bH ds=true):ko neg (.list ds) (.list [])=.ok (.bool (neg != decide (ds=[]))):=by
 unfold ko
 have h1:(ej ds).canLay0=true:=by simp only [db];exact h
 have h3:min (ej ds).depth (ej []).depth<=60:=bD (qC _ _) (by decide)
 have h4:bB (.list ds) (.list [])=decide (ds=[]):=by
  cases ds with
  |nil=>rfl
  |cons x r=>simp [bB,l9]
 rw [h1,show (ej []).canLay0=true from rfl,decide_eq_true h3,h4]
 cases neg<;>cases decide (ds=[])<;>rfl
theorem JR (ds:List D) (h:bH ds=true):ko false (.list ds) (.list [])=.ok (.bool (decide (ds=[]))):=by rw [Do false ds h,Bool.false_bne]
theorem Rs (ds:List D) (h:bH ds=true):ko true (.list ds) (.list [])=.ok (.bool (!decide (ds=[]))):=by rw [Do true ds h,Bool.true_bne]
theorem OY (neg:Bool) (o:Option (List Str)):Bo neg (Rr o) .none=.ok (.bool (neg==o.isSome)):=by cases o<;>cases neg<;>rfl
theorem Rt {L:List fg}{j:Int} (h0:0<=j) (h1:j<(L.length:Nat)):∃ e∈L,aT (.list (L.map ck)) (.int j)=.ok (ck e):=by
 obtain ⟨n,rfl⟩:=gZ h0
 have hn:n<L.length:=by omega
 refine ⟨L[n],fV hn,pE ?_⟩
 rw [aO,aW hn]
 rfl
theorem HP (e:fg) (st:List Str):(Fm e st).isSome=jE st e.needs e.bars:=by
 unfold Fm
 cases jE st e.needs e.bars<;>rfl
theorem BO {fs:List Str}{es:List fg} (g:fj fs es) (ns:List Int) (at0:Int) (h0:0<=at0) (M:D):∀ (ks:List Nat) (rs:List fg) (st:List Str) (z7 z8 z9:Sl),(∀ e∈rs,e∈es)->Sub fs st->rs.length+ks.length<=60 ->
  ∃ rs',(Lu es rs'/\rs'.length<=60)/\(iR (cg 6) (aX (gQ 7 (eM 1 [3] (kW (g2 (rB 2) (kI 1) aT)) (fZ (g2 (e6 2 fh (J.a9 (rS 0) (J.a9 (rS 1) J.aC))) kN (Bo true))) (rS 0))) (aX (dZ (fZ (g2 (rB 7) (cP J.aC .list) (ko false))) (cC (rS 5)) (fun ρ=>.ok (.nx ρ))) (aX (f_ 8 (g2 (rB 7) (e6 3 aV (J.a9 (rS 0) (J.a9 (g2 (rB 1) (rB 6) dB) (J.a9 (bY (J.a9 (rB 7) J.aC) (i5 jg)) J.aC)))) aT)) (aX (pP 5 (g2 (rB 8) (kI 0) aT)) (f_ 3 (e6 2 fh (J.a9 (rS 8) (J.a9 (rS 3) J.aC)))))))) (ks.map fun (i:Nat)=>bC (i:Int)) [.shr (.list (ns.map .int)),.shr (.int at0),.shr (e8 fs es),.shr (a_ st),.shr M,.own (j6 rs),z7,z8,z9]).bind (Hq (cC (rS 5)))=.ok (.rt (j6 rs'))
 |[],rs,st,z7,z8,z9,hm,hs,hl=>by
  refine ⟨rs,⟨⟨hm,by simp only [bi] at hl;omega⟩,by simp only [bi] at hl;omega⟩,?_⟩
  rw [ed,iR]
  walk_at "zz"
 |k::ks,rs,st,z7,z8,z9,hm,hs,hl=>by
  have ls:=jp hs g.rise.len
  have lg:=g.len
  simp only [aM] at hl
  let L:=es.filter fun e=>jE st e.needs e.bars
  have hL:∀ e∈L,e∈es/\jE st e.needs e.bars=true:=fun e he=>List.mem_filter.mp he
  have hc:∀ (z:Sl),eM 1 [3] (kW (g2 (rB 2) (kI 1) aT)) (fZ (g2 (e6 2 fh (J.a9 (rS 0) (J.a9 (rS 1) J.aC))) kN (Bo true))) (rS 0) [.shr (.list (ns.map .int)),.shr (.int at0),.shr (e8 fs es),.shr (a_ st),.shr M,.own (j6 rs),.shr (.int (k:Int)),z8,z]=.ok (.list (L.map ck)):=by
   intro z
   walk_at "zz"
   rw [HJ]
   walk_at "zz"
   rw [if_pos (by omega)]
   rw [j_ _ ck ck (fun e=>jE st e.needs e.bars) es fun e he=>xW (by
    walk_at "zz"
    rw [y7 (vv g he) (by omega)]
    walk_at "zz"
    rw [OY,HP]
    walk_at "zz"
    rw [Bool.true_beq]) fun _=>rfl]
   walk_at "zz"
   rfl
  have lay:bH (L.map ck)=true:=oU ck L fun e he=>OJ g.rise.ok (g.ok e (hL e he).1)
  rw [aS]
  by_cases hn:L=[]
  ·refine ⟨rs,⟨⟨hm,by omega⟩,by omega⟩,?_⟩
   rw [Dn (x:=j6 rs) (ρ1:=[.shr (.list (ns.map .int)),.shr (.int at0),.shr (e8 fs es),.shr (a_ st),.shr M,.own (j6 rs),.shr (.int (k:Int)),z8,z9]) rfl ?_]
   ·walk_at "zz"
   ·rw [zf]
    unfold gQ
    rw [hc]
    walk_at "zz"
    rw [JR _ lay,hn]
    walk_at "zz"
  ·have hp:0<L.length:=List.length_pos_iff.mpr hn
   have hk:((L.length:Nat):Int) > 0:=by omega
   obtain ⟨e,he,hix⟩:=Rt (L:=L) (dW ns (at0+k) (L.length:Nat) (by omega)) (eS ns (at0+k) (L.length:Nat) (by omega))
   obtain ⟨he1,he2⟩:=hL e he
   obtain ⟨rs',r1,r2⟩:=BO g ns at0 h0 M ks (rs++[e]) (dw e st) (.shr (.int (k:Int))) (.own (.list (L.map ck))) (.shr (ck e)) (fun x hx=>by
    rcases List.mem_append.mp hx with h|h
    ·exact hm x h
    ·rw [List.mem_singleton.mp h];exact he1) (qh g.rise.up (g.ok e he1) hs) (by rw [aJ,iB];omega)
   refine ⟨rs',r1,?_⟩
   rw [Dm (ρ1:=[.shr (.list (ns.map .int)),.shr (.int at0),.shr (e8 fs es),.shr (a_ st),.shr M,.own (j6 rs),.shr (.int (k:Int)),z8,z9]) (ρ2:=[.shr (.list (ns.map .int)),.shr (.int at0),.shr (e8 fs es),.shr (a_ (dw e st)),.shr M,.own (j6 (rs++[e])),.shr (.int (k:Int)),.own (.list (L.map ck)),.shr (ck e)]) rfl ?_]
   ·exact r2
   ·rw [zf]
    unfold gQ
    rw [hc]
    walk_at "zz"
    rw [JR _ lay,decide_eq_false (by simpa using hn)]
    walk_at "zz"
    rw [dE ns (at0+k) (L.length:Nat) (by omega) (by omega)]
    walk_at "zz"
    rw [hix]
    walk_at "zz"
    rw [Ff (ds:=rs.map fun e=>ap e.name) (d:=.str e.name) rfl (by
     walk_at "zz"
     rw [Fi]) (by rw [au];omega)]
    walk_at "zz"
    rw [y7 (vv g he1) (by omega),wz,he2]
    walk_at "zz"
    simp only [j6,cm]
    rfl
theorem Ru {fs st:List Str}{es:List fg} (g:fj fs es) (ns:List Int) (k n:Int) (h0:0<=k) (hn:0<=n) (h20:n<=60) (hs:Sub fs st):∃ rs,Lu es rs/\rs.length<=60/\mH [.list (ns.map .int),.int k,e8 fs es,a_ st,.int n]=.ok (j6 rs):=by
 obtain ⟨j,rfl⟩:=gZ hn
 obtain ⟨rs,h1,h2⟩:=BO g ns k h0 (.int (j:Int)) (bq j) [] st .no .no .no (fun _ h=>nomatch h) hs (by simp;omega)
 refine ⟨rs,h1.1,h1.2,?_⟩
 unfold mH
 refine c7 ?_
 unfold qe bn
 walk_at "zz"
 rw [tK (ds:=(bq j).map fun (i:Nat)=>bC (i:Int))]
 ·exact h2
 ·walk_at "zz"
  exact xZ j (by omega)
def HQ (es:List fg):List (Str×D):=es.map fun e=>(e.name,ck e)
theorem Fp:∀ es:List fg,J.k7 (es.map fun e=>br [.str e.name,ck e])=some (es.map fun e=>(qO e.name,ck e))
 |[]=>rfl
 |e::r=>by
  show (qy (.str e.name)).bind (fun y=>(J.k7 (r.map fun e=>br [.str e.name,ck e])).map ((y,ck e)::·))=_
  rw [Fp r]
  rfl
theorem zI:∀ (l acc:List (Str×D)),((acc++l).map (·.1)).Nodup->l.foldl (fun a p=>z3 a (.str p.1) p.2) (ii acc)=ii (acc++l)
 |[],acc,_=>by rw [cB];rfl
 |p::r,acc,nd=>by
  have hx:p.1∉acc.map (·.1):=by
   rw [cm,aS] at nd
   intro h
   exact (List.nodup_append.mp nd).2.2 _ h _ al rfl
  have hp:t4 acc p.1 p.2=acc++[p]:=by
   unfold t4
   rw [if_neg]
   rw [lv]
   rintro ⟨q,hq,e⟩
   exact hx (List.mem_map.mpr ⟨q,hq,of_decide_eq_true e⟩)
  rw [m5,JA,hp]
  have:=zI r (acc++[p]) (by rwa [kr])
  rwa [kr] at this
theorem Rv {es:List fg} (nd:(es.map (·.name)).Nodup) (hl:es.length<=6):J.pR (.list (es.map fun e=>br [.str e.name,ck e]))=.ok (.dict (ii (HQ es))):=by
 have e:J.pR (.list (es.map fun e=>br [.str e.name,ck e]))=if (es.map fun e=>br [.str e.name,ck e]).length<=1000 then (match J.k7 (es.map fun e=>br [.str e.name,ck e]) with
  |some ps=>.ok (.dict (ps.foldl (fun a p=>z3 a (kD p.1) p.2) []))
  |none=>.no) else .no:=rfl
 rw [e,if_pos (by rw [au];omega),Fp]
 have:=zI (HQ es) [] (by rw [df];unfold HQ;rw [dm];exact nd)
 rw [df] at this
 rw [<- this]
 unfold HQ
 simp only [nh]
 rfl
theorem Ut {es:List fg} (nd:(es.map (·.name)).Nodup) {e:fg} (he:e∈es):aT (.dict (ii (HQ es))) (.str e.name)=.ok (ck e) :=
 HD (l:=HQ es) (by unfold HQ;rw [dm];exact nd) (p:=(e.name,ck e)) (jn (f:=fun e=>(e.name,ck e)) he)
theorem vy {fs:List Str}{es:List fg} (g:fj fs es) (A B C:D):∀ (rs:List fg) (n:Nat) (pre:List (List Str)) (st:List Str) (x y z:Sl),(∀ e∈rs,e∈es)->Sub fs st->pre.length+rs.length<=100 ->
  match zG rs st with
  |some _=>∃ x' y' z',iR (o7 2 (c_ (cg 5) (c_ (cg 6) pK))) (aX (f_ 7 (e6 2 fh (J.a9 (g2 (rB 3) (rB 6) aT) (J.a9 (g2 (rB 4) (u9 (kI 1)) aT) J.aC)))) (aX (dZ (fZ (g2 (rB 7) kN (Bo false))) (cC (rS 5)) (fun ρ=>.ok (.nx ρ))) (pP 4 (rS 7)))) (jh n (rs.map fun e=>ap e.name)) [.shr A,.shr B,.shr C,.own (.dict (ii (HQ es))),.own (.list ((pre++[st]).map a_)),x,y,z]=.ok (.nx [.shr A,.shr B,.shr C,.own (.dict (ii (HQ es))),.own (.list ((pre++cZ rs st).map a_)),x',y',z'])
  |none=>iR (o7 2 (c_ (cg 5) (c_ (cg 6) pK))) (aX (f_ 7 (e6 2 fh (J.a9 (g2 (rB 3) (rB 6) aT) (J.a9 (g2 (rB 4) (u9 (kI 1)) aT) J.aC)))) (aX (dZ (fZ (g2 (rB 7) kN (Bo false))) (cC (rS 5)) (fun ρ=>.ok (.nx ρ))) (pP 4 (rS 7)))) (jh n (rs.map fun e=>ap e.name)) [.shr A,.shr B,.shr C,.own (.dict (ii (HQ es))),.own (.list ((pre++[st]).map a_)),x,y,z]=.ok (.rt (.int ((n:Int)+(cZ rs st).length-1)))
 |[],n,pre,st,x,y,z,_,_,_=>⟨x,y,z,rfl⟩
 |e::r,n,pre,st,x,y,z,hm,hs,hl=>by
  have he:=hm e al
  have sh:=vv g he
  have ls:=jp hs g.rise.len
  simp only [aM] at hl
  have hix:aT (.list ((pre++[st]).map a_)) (.int (-1))=.ok (a_ st):=by
   rw [cm]
   exact JQ _ _
  have hk:aT (.dict (ii (HQ es))) (.str e.name)=.ok (ck e):=Ut g.nd he
  have en:jh n ((e::r).map fun e=>ap e.name)=.tuple [.int (n:Nat),.str e.name]::jh (n+1) (r.map fun e=>ap e.name):=rfl
  rw [en]
  unfold cZ zG
  cases hg:jE st e.needs e.bars with
  |true =>
   rw [if_pos rfl,if_pos rfl]
   have e2:pre++st::cZ r (dw e st)=(pre++[st])++cZ r (dw e st):=by simp
   rw [e2]
   have ih:=vy g A B C r (n+1) (pre++[st]) (dw e st) (.shr (.int (n:Nat))) (.shr (.str e.name)) (.shr (a_ (dw e st))) (fun x hx=>hm x (ao _ hx)) (qh g.rise.up (g.ok e he) hs) (by rw [aJ];simp only [aM,bi];omega)
   rw [Dm (ρ1:=[.shr A,.shr B,.shr C,.own (.dict (ii (HQ es))),.own (.list ((pre++[st]).map a_)),.shr (.int (n:Nat)),.shr (.str e.name),z]) (ρ2:=[.shr A,.shr B,.shr C,.own (.dict (ii (HQ es))),.own (.list ((pre++[st]++[dw e st]).map a_)),.shr (.int (n:Nat)),.shr (.str e.name),.shr (a_ (dw e st))]) rfl ?_]
   ·refine Eq.mp ?_ ih
    cases zG r (dw e st) with
    |some _=>rfl
    |none =>
     dsimp only
     rw [show (((n+1:Nat):Int)+(cZ r (dw e st)).length-1)=((n:Int)+((st::cZ r (dw e st)).length:Nat)-1) by rw [aM];omega]
   ·walk_at "zz"
    rw [hk]
    walk_at "zz"
    rw [Fo]
    walk_at "zz"
    rw [vw]
    walk_at "zz"
    rw [hix]
    walk_at "zz"
    rw [y7 sh (by omega),wz,hg]
    walk_at "zz"
    rw [Lo,Wd]
    walk_at "zz"
    rw [cm (l₁:=pre++[st])]
    exact Ff (ds:=(pre++[st]).map a_) (d:=a_ (dw e st)) rfl (by rfl) (by rw [au,aJ];simp only [aM,bi];omega)
  |false =>
   rw [if_neg aL]
   show _=R.ok (Fl.rt (.int ((n:Int)+(([st] : List (List Str)).length:Nat)-1)))
   rw [show ((n:Int)+(([st] : List (List Str)).length:Nat)-1)=(n:Nat) by simp]
   rw [Dn (x:=.int (n:Nat)) (ρ1:=[.shr A,.shr B,.shr C,.own (.dict (ii (HQ es))),.own (.list ((pre++[st]).map a_)),.shr (.int (n:Nat)),.shr (.str e.name),z]) rfl ?_]
   walk_at "zz"
   rw [hk]
   walk_at "zz"
   rw [Fo]
   walk_at "zz"
   rw [vw]
   walk_at "zz"
   rw [hix]
   walk_at "zz"
   rw [y7 sh (by omega),wz,hg]
   walk_at "zz"
   rw [Lp,We]
   walk_at "zz"
theorem Uu (gs:az->R (List D)) (s:Sl) (ρ:az):J.Js gs (s::ρ)=(gs (s::ρ)).bind J.R4:=id rfl
theorem Fq (g:az->R D) (s:Sl) (ρ:az):J.sA g (s::ρ)=(g (s::ρ)).bind J.pR:=id rfl
theorem Rw (ds:List D):J.R4 [.list ds]=.ok (jh 0 ds):=rfl
theorem HR {fs st:List Str}{es rs:List fg} (g:fj fs es) (h:Lu es rs) (hs:Sub fs st):match zG rs st with
  |some _=>fA [e8 fs es,a_ st,j6 rs]=.ok (.list ((cZ rs st).map a_))
  |none=>fA [e8 fs es,a_ st,j6 rs]=.ok (.int (((cZ rs st).length:Nat)-1)):=by
 have hl:=h.len
 have lg:=g.len
 have L:=vy g (e8 fs es) (a_ st) (j6 rs) rs 0 [] st .no .no .no h.mem hs (by simp only [bi];omega)
 have K:∀ {x:D},(iR (o7 2 (c_ (cg 5) (c_ (cg 6) pK))) (aX (f_ 7 (e6 2 fh (J.a9 (g2 (rB 3) (rB 6) aT) (J.a9 (g2 (rB 4) (u9 (kI 1)) aT) J.aC)))) (aX (dZ (fZ (g2 (rB 7) kN (Bo false))) (cC (rS 5)) (fun ρ=>.ok (.nx ρ))) (pP 4 (rS 7)))) (jh 0 (rs.map fun e=>ap e.name)) [.shr (e8 fs es),.shr (a_ st),.shr (j6 rs),.own (.dict (ii (HQ es))),.own (.list (([]++[st]).map a_)),.no,.no,.no]).bind (Hq (cC (rS 4)))=.ok (.rt x)->fA [e8 fs es,a_ st,j6 rs]=.ok x:=by
  intro x hx
  unfold fA
  refine c7 ?_
  unfold lW bn
  walk_at "zz"
  rw [Fq]
  walk_at "zz"
  rw [HJ]
  walk_at "zz"
  rw [if_pos (by omega)]
  rw [cj _ ck (fun e=>br [.str e.name,ck e]) es fun e he=>dv rfl (by
   walk_at "zz"
   rw [Fi]
   walk_at "zz")]
  walk_at "zz"
  rw [Rv g.nd lg]
  walk_at "zz"
  rw [tK (ds:=jh 0 (rs.map fun e=>ap e.name))]
  ·exact hx
  ·rw [Uu]
   walk_at "zz"
   rw [Rw]
 cases hr:zG rs st with
 |none =>
  rw [hr] at L
  have L:_=R.ok (Fl.rt (.int (((0:Nat):Int)+(cZ rs st).length-1))):=L
  refine K ?_
  rw [L,show (((0:Nat):Int)+(cZ rs st).length-1)=((cZ rs st).length:Nat)-1 by omega]
  walk_at "zz"
 |some s =>
  rw [hr] at L
  obtain ⟨x,y,z,L⟩:=L
  refine K ?_
  rw [L]
  walk_at "zz"
structure Dp (fs:List Str) (es:List fg) (d:D):Prop where
 no:li [e8 fs es,d]=.ok (.bool false)
theorem Ft {fs:List Str}{es:List fg}{d:D} (h0:pp d=true) (h1:rE "list" d=false):Dp fs es d:=by
 refine ⟨?_⟩
 unfold li
 refine c7 ?_
 unfold mD bn
 walk_at "zz"
 rw [h0,h1]
 walk_at "zz"
theorem Rx {fs:List Str}{es:List fg}{ds:List D} (h0:pp (.list ds)=true) (h1:64<ds.length):Dp fs es (.list ds):=by
 refine ⟨?_⟩
 unfold li
 refine c7 ?_
 unfold mD bn
 walk_at "zz"
 rw [h0,show rE "list" (.list ds)=true from rfl]
 walk_at "zz"
 rw [decide_eq_true (by omega)]
 walk_at "zz"
theorem vz {fs:List Str}{es:List fg}{ds:List D} (h0:pp (.list ds)=true) (hl:ds.length<=64) (b:D->Bool) (hb:∀ d∈ds,∃ r,cK [e8 fs es,d]=.ok r/\Bo true r .none=.ok (.bool (b d))) (hz:ds.all b=false):Dp fs es (.list ds):=by
 refine ⟨?_⟩
 unfold li
 refine c7 ?_
 unfold mD bn
 walk_at "zz"
 rw [h0,show rE "list" (.list ds)=true from rfl]
 walk_at "zz"
 rw [decide_eq_false (by omega)]
 walk_at "zz"
 rw [if_pos (by omega)]
 rw [show ds=ds.map (fun d:D=>d) from (List.map_id _).symm]
 rw [cj _ (fun d:D=>d) (fun d=>b_ (b d)) ds fun d hd=>dv rfl (by
  obtain ⟨r,r1,r2⟩:=hb d hd
  walk_at "zz"
  rw [r1]
  walk_at "zz"
  rw [r2])]
 walk_at "zz"
 rw [h_ _ b]
 walk_at "zz"
 rw [kA,show (id∘b)=b from rfl,hz]
def vA (ns:List Str):List D:=[.none,.tuple (ns.map .str),.list ((ns++[("zzzzz" : Str)]).map .str),.list [.str "zzzzz"],.list [.none],.list [.list [.str "a"]],.str "a",.int 0,.list [.int 1]]
def Fu (x:Str):List D:=[.list (bc 65 [ap x]).flatten,.tuple [.str x]]
theorem YF {fs:List Str}{es:List fg} (g:fj fs es):∀ d∈vA (es.map (·.name)),Dp fs es d:=by
 have lg:=g.len
 have bz:∀ d,(d=.str "zzzzz"\/∃ e∈es,d=.str e.name)->∃ r,cK [e8 fs es,d]=.ok r/\Bo true r .none=.ok (.bool (match d with
   |.str x=>!decide (x="zzzzz")
   |_=>false)):=by
  rintro d (rfl|⟨e,he,rfl⟩)
  ·exact ⟨_,OV g,rfl⟩
  ·refine ⟨_,wy g (g.ok e he).name,?_⟩
   rw [qg g.nd he]
   simp only [Up]
   rw [SZ,decide_eq_false (HK (g.ok e he).name)]
   rfl
 intro d hd
 unfold vA at hd
 simp only [aQ,aH,or_false] at hd
 rcases hd with rfl|rfl|rfl|rfl|rfl|rfl|rfl|rfl|rfl
 ·exact Ft rfl rfl
 ·exact Ft (kc _) rfl
 ·refine vz (nF _ (fun _=>rfl) _) (by simp;omega) _ (fun d hd=>bz d ?_) ?_
  ·obtain ⟨x,hx,rfl⟩:=List.mem_map.mp hd
   rcases List.mem_append.mp hx with z|z
   ·obtain ⟨e,he,rfl⟩:=List.mem_map.mp z
    exact .inr ⟨e,he,rfl⟩
   ·rw [List.mem_singleton.mp z];exact .inl rfl
  ·simp
 ·refine vz rfl (by decide) _ (fun d hd=>bz d (.inl (List.mem_singleton.mp hd))) (by simp)
 ·exact vz rfl (by decide) (fun _=>false) (fun d hd=>by rw [List.mem_singleton.mp hd];exact ⟨_,zF rfl rfl,rfl⟩) rfl
 ·exact vz rfl (by decide) (fun _=>false) (fun d hd=>by rw [List.mem_singleton.mp hd];exact ⟨_,zF rfl rfl,rfl⟩) rfl
 ·exact Ft rfl rfl
 ·exact Ft rfl rfl
 ·exact vz rfl (by decide) (fun _=>false) (fun d hd=>by rw [List.mem_singleton.mp hd];exact ⟨_,zF rfl rfl,rfl⟩) rfl
theorem JU (x:D):∀ n:Nat,(bc n [x]).flatten=bc n x
 | 0=>rfl
 |n+1=>by rw [cU,gP,JU x n];rfl
theorem YG {fs:List Str}{es:List fg} (x:Str):∀ d∈Fu x,Dp fs es d:=by
 intro d hd
 unfold Fu at hd
 simp only [aQ,aH,or_false] at hd
 rcases hd with rfl|rfl
 ·rw [JU,show bc 65 (ap x)=(bc 65 x).map .str from (List.map_replicate ..).symm]
  exact Rx (nF _ (fun _=>rfl) _) (by simp)
 ·exact Ft rfl rfl
theorem Fv (ns:List Int) (k:Int) (hk:0<=k) {L:List D}{P:D->Prop} (hL:0<L.length) (h:∀ d∈L,P d) (F:D) (b:Sl):∃ d,cC (g2 (rB 4) (e6 3 aV (J.a9 (rS 0) (J.a9 (rS 1) (J.a9 (bY (J.a9 (rB 4) J.aC) (i5 jg)) J.aC)))) aT) [.shr (.list (ns.map .int)),.shr (.int k),.shr F,b,.own (.list L)]=.ok (.rt d)/\P d:=by
 have hm:=dE ns k (L.length:Nat) hk (by omega)
 obtain ⟨d,hd,e⟩:=OR (L:=L) (dW ns k (L.length:Nat) (by omega)) (eS ns k (L.length:Nat) (by omega))
 refine ⟨d,?_,h d hd⟩
 walk_at "zz"
 rw [hm]
 walk_at "zz"
 rw [e]
 walk_at "zz"
theorem Ry (k:Nat) (g:az->R D) (gl gh:az->R (Option Int)) (ρ:az) {d:D}{l h:Option Int} (h1:g ρ=.ok d) (h2:gl ρ=.ok l) (h3:gh ρ=.ok h):J.zq k g gl gh ρ=(xU d l h).bind (J.R7 k):=by
 unfold J.zq
 rw [h1,bind_ok,h2,bind_ok,h3,bind_ok]
theorem Uv (x:D) (r:List D):xU (.list (x::r)) none (some 1)=.ok (.list [x]):=by
 have e:xU (.list (x::r)) none (some 1)=.ok (.list (oM (x::r) none (some 1))):=rfl
 rw [e,show (1:Int)=((1:Nat):Int) from rfl,HC _ 1 (by simp)]
 rfl
theorem Lv {fs:List Str}{es:List fg} (g:fj fs es):bH (es.map fun e=>ap e.name)=true:=oU _ es fun e he=>nC (g.ok e he).name
theorem Rz (ns:List Int) (k:Int) (hk:0<=k) {fs:List Str}{es:List fg} (g:fj fs es):∃ d,kZ [.list (ns.map .int),.int k,e8 fs es]=.ok d/\Dp fs es d:=by
 suffices H:∃ d,jk (bn 5 [.list (ns.map .int),.int k,e8 fs es])=.ok (.rt d)/\Dp fs es d by
  obtain ⟨d,h1,h2⟩:=H
  exact ⟨d,c7 h1,h2⟩
 have lg:=g.len
 have b0:=YF g
 have e3:(es.map fun e=>ap e.name)++[ap "zzzzz"]=((es.map (·.name))++[("zzzzz" : Str)]).map .str:=by rw [cm,dm];rfl
 have e1:(es.map fun e=>ap e.name)=(es.map (·.name)).map .str:=by rw [dm];rfl
 unfold jk bn
 generalize hG:cC _=G
 walk_at "zz"
 rw [HJ]
 walk_at "zz"
 rw [if_pos (by omega)]
 rw [cj _ ck (fun e=>ap e.name) es fun e he=>dv rfl (by
  walk_at "zz"
  rw [Fi])]
 walk_at "zz"
 rw [fS]
 walk_at "zz"
 rw [if_pos (by omega)]
 walk_at "zz"
 rw [e3]
 rw [Rs _ (Lv g)]
 cases es with
 |nil =>
  walk_at "zz"
  rw [<- hG]
  exact Fv ns k hk (L:=vA []) (by simp [vA]) b0 _ _
 |cons a r =>
  rw [decide_eq_false (by simp)]
  simp only [j0]
  walk_at "zz"
  rw [OT (ds:=vA ((a::r).map (·.name))) (es:=Fu a.name)]
  ·walk_at "zz"
   rw [<- hG]
   exact Fv ns k hk (L:=vA ((a::r).map (·.name))++Fu a.name) (by simp [vA]) (fun d hd=>(List.mem_append.mp hd).elim (b0 d) (YG a.name d)) _ _
  ·rw [vA,<- e1]
   rfl
  ·walk_at "zz"
   rw [Ry (d:=.list (ap a.name::r.map fun e=>ap e.name)) (l:=none) (h:=some 1) _ _ _ _ _ rfl rfl rfl,Uv]
   walk_at "zz"
   rw [show J.R7 65 (.list [ap a.name])=.ok (.list (bc 65 [ap a.name]).flatten) from rfl]
   walk_at "zz"
   rw [show aT (.list (ap a.name::B1 (fun e=>ap e.name) r)) (.int 0)=.ok (.str a.name) from pE (j:=0) rfl]
   walk_at "zz"
   rfl
  ·simp [vA,Fu]
theorem Fx (x:Str) (gs:az->R (List D)) (s:Sl) (ρ:az) {d:D} (h:gs (s::ρ)=.ok [d]):J.pS x gs (s::ρ)=.ex x (some d):=by
 unfold J.pS
 rw [h,bind_ok]
theorem HS {fs:List Str}{es:List fg}{d:D} (h:Dp fs es d):hZ [e8 fs es,d]=.ex "NoRow" (some .none):=by
 unfold hZ
 refine wv ?_
 unfold ka bn
 walk_at "zz"
 rw [h.no]
 walk_at "zz"
 rw [Fx (d:=.none) _ _ _ _ rfl]
 walk_at "zz"
theorem OZ {fs st:List Str}{es rs:List fg} (g:fj fs es) (h:Lu es rs) (hs:Sub fs st) {x:List Str} (hx:zG rs st=some x):iA [e8 fs es,a_ st,j6 rs]=.ok (.list ((cZ rs st).map a_)):=by
 have ht:=wA rs st
 rw [hx] at ht
 have ht:=of_decide_eq_true ht
 unfold iA
 refine c7 ?_
 unfold pV bn
 walk_at "zz"
 rw [zE g hs]
 walk_at "zz"
 rw [uh g h]
 walk_at "zz"
 rw [zH g h hs]
 walk_at "zz"
 rw [decide_eq_false (by omega)]
 walk_at "zz"
theorem O_ {fs st:List Str}{es rs:List fg} (g:fj fs es) (h:Lu es rs) (hs:Sub fs st) (hx:zG rs st=none):iA [e8 fs es,a_ st,j6 rs]=.ex "NoRow" (some (.int (((cZ rs st).length:Nat)-1))):=by
 have ht:=wA rs st
 rw [hx] at ht
 have ht:=of_decide_eq_false ht
 unfold iA
 refine wv ?_
 unfold pV bn
 walk_at "zz"
 rw [zE g hs]
 walk_at "zz"
 rw [uh g h]
 walk_at "zz"
 rw [zH g h hs]
 walk_at "zz"
 rw [decide_eq_true (by omega)]
 walk_at "zz"
 rw [Fx (d:=.int (((cZ rs st).length:Nat)-1)) _ _ _ _ (by walk_at "zz")]
 walk_at "zz"
theorem P0 {fs st:List Str}{es:List fg}{d:D} (g:fj fs es) (hs:Sub fs st) (h:Dp fs es d):iA [e8 fs es,a_ st,d]=.ex "NoRow" (some .none):=by
 unfold iA
 refine wv ?_
 unfold pV bn
 walk_at "zz"
 rw [zE g hs]
 walk_at "zz"
 rw [HS h]
 walk_at "zz"
theorem P1 {fs:List Str}{es:List fg}{d r:D} (g:fj fs es) (h:vq fs d):iA [e8 fs es,d,r]=.ex "NoState" none:=by
 unfold iA
 refine wv ?_
 unfold pV bn
 walk_at "zz"
 rw [OS g h]
 walk_at "zz"
theorem YH:Ov "NoRow"=some 4:=by decide +kernel
theorem YI:Ov "NoState"=some 1:=by decide +kernel
section
variable {a b r:D}
abbrev XT:az->R Fl:=cC (e6 3 iA (J.a9 (rS 0) (J.a9 (rS 1) (J.a9 (rS 2) J.aC))))
theorem zJ {x:R Fl}{d:D} (h:XT [.shr a,.shr b,.shr r,.no]=x) (hx:(match x with
  |.ok fl=>R.ok fl
  |.ex y (some d)=>if y="NoRow" then match Ov y with
   |some j=>.ok (.rt (.tuple [.str "row",d,.tuple [.str "refused",.int (j:Nat)]]))
   |none=>.no
   else .no
  |.ex y none=>if y="NoRow" then .no else match Ov y with
   |some j=>.ok (.rt (.tuple [.str "refused",.int (j:Nat)]))
   |none=>.no
  |.no=>.no)=.ok (.rt d)):eg [a,b,r]=.ok d:=by
 unfold eg
 refine c7 ?_
 unfold nz bn zr
 subst h
 exact hx
theorem P2 {d:D} (h:iA [a,b,r]=.ok d):eg [a,b,r]=.ok d:=by
 refine zJ (x:=.ok (.rt d)) ?_ rfl
 walk_at "zz"
 rw [h]
 walk_at "zz"
theorem BP {d:D} (h:iA [a,b,r]=.ex "NoRow" (some d)):eg [a,b,r]=.ok (.tuple [.str "row",d,.tuple [.str "refused",.int (4:Nat)]]):=by
 refine zJ (x:=.ex "NoRow" (some d)) ?_ ?_
 ·walk_at "zz"
  rw [h]
  walk_at "zz"
 ·dsimp only
  rw [if_pos rfl,YH]
theorem P3 (h:iA [a,b,r]=.ex "NoState" none):eg [a,b,r]=.ok (.tuple [.str "refused",.int (1:Nat)]):=by
 refine zJ (x:=.ex "NoState" none) ?_ ?_
 ·walk_at "zz"
  rw [h]
  walk_at "zz"
 ·dsimp only
  rw [if_neg (by decide),YI]
end
theorem Lw (ds:List D):J.iz (.list ds)=.ok (.list ds):=rfl
theorem y8 (neg:Bool) {d:D} (h1:d.canLay0=true) (h2:d.depth<=60):ko neg d d=.ok (.bool (!neg)):=by
 unfold ko
 rw [h1,PySem.SeqAt.eqv_refl _ h1,decide_eq_true (bD (Nat.min_le_left _ _) h2)]
 cases neg<;>rfl
theorem RA {fs:List Str}{es rs:List fg} (g:fj fs es) (h:∀ e∈rs,e∈es):(j6 rs).canLay0=true/\(j6 rs).depth<=60:=by
 constructor
 ·simp only [db]
  exact oU _ rs fun e he=>nC (g.ok e (h e he)).name
 ·have:=sM (fun e:fg=>ap e.name) 0 (fun x=>by simp [md]) rs
  simp only [md]
  omega
theorem P4 {fs:List Str} (hf:∀ x∈fs,uM x=true) {ks:List (List Str)} (h:∀ x∈ks,Sub fs x):(ej (ks.map a_)).canLay0=true/\(ej (ks.map a_)).depth<=60:=by
 constructor
 ·simp only [db]
  exact oU a_ ks fun x hx=>by simp only [db];exact rN hf (h x hx)
 ·have:=sM a_ 1 (fun x=>by
   have:=sM ap 0 (fun x=>by simp [md]) x
   simp only [md]
   omega) ks
  simp only [md]
  omega
theorem BQ {fs:List Str}{es:List fg} (g:fj fs es):∀ (rs:List fg) (st x:List Str),(∀ e∈rs,e∈es)->Sub fs st->x∈cZ rs st->Sub fs x
 |[],st,x,_,hs,h=>by
  rw [bT.1 h];exact hs
 |e::r,st,x,hm,hs,h=>by
  have h:x∈(if jE st e.needs e.bars then st::cZ r (dw e st) else [st]):=h
  cases hg:jE st e.needs e.bars with
  |false =>
   rw [hg] at h
   rw [bT.1 h];exact hs
  |true =>
   rw [hg] at h
   rcases aQ.1 h with rfl|h
   ·exact hs
   ·exact BQ g r _ x (fun a ha=>hm a (ao _ ha)) (qh g.rise.up (g.ok e (hm e al)) hs) h
def Uw (es:List fg):List (Str×D):=es.map fun e=>(e.name,.int e.price)
theorem BR:∀ es:List fg,J.k7 (es.map fun e=>br [.str e.name,.int e.price])=some (es.map fun e=>(qO e.name,.int e.price))
 |[]=>rfl
 |e::r=>by
  show (qy (.str e.name)).bind (fun y=>(J.k7 (r.map fun e=>br [.str e.name,.int e.price])).map ((y,.int e.price)::·))=_
  rw [BR r]
  rfl
theorem P5 {es:List fg} (nd:(es.map (·.name)).Nodup) (hl:es.length<=6):J.pR (.list (es.map fun e=>br [.str e.name,.int e.price]))=.ok (.dict (ii (Uw es))):=by
 have e:J.pR (.list (es.map fun e=>br [.str e.name,.int e.price]))=if (es.map fun e=>br [.str e.name,.int e.price]).length<=1000 then (match J.k7 (es.map fun e=>br [.str e.name,.int e.price]) with
  |some ps=>.ok (.dict (ps.foldl (fun a p=>z3 a (kD p.1) p.2) []))
  |none=>.no) else .no:=rfl
 rw [e,if_pos (by rw [au];omega),BR]
 have:=zI (Uw es) [] (by rw [df];unfold Uw;rw [dm];exact nd)
 rw [df] at this
 rw [<- this]
 unfold Uw
 simp only [nh]
 rfl
theorem Ux {es:List fg} (nd:(es.map (·.name)).Nodup) {e:fg} (he:e∈es):aT (.dict (ii (Uw es))) (.str e.name)=.ok (.int e.price) :=
 HD (l:=Uw es) (by unfold Uw;rw [dm];exact nd) (p:=(e.name,.int e.price)) (jn (f:=fun e=>(e.name,bC e.price)) he)
theorem Wp (e:fg):aT (ck e) (.int 5)=.ok (.int e.price):=id rfl
theorem P6 (rs:List fg):J.F7 (.list (rs.map fun e=>bC e.price))=.ok (.int (rs.map (·.price)).sum):=by
 unfold J.F7
 dsimp only
 rw [show (rs.map fun e=>bC e.price)=(rs.map (·.price)).map .int by rw [dm];rfl,zm]
theorem P7 {fs:List Str}{es rs:List fg} (g:fj fs es) (h:Lu es rs):vo [e8 fs es,j6 rs]=.ok (.int (rs.map (·.price)).sum):=by
 have hl:=h.len
 unfold vo
 refine c7 ?_
 unfold xY bn
 walk_at "zz"
 rw [ug g]
 walk_at "zz"
 rw [uh g h]
 walk_at "zz"
 rw [if_pos (by omega)]
 rw [cj _ ck (fun e=>bC e.price) rs fun e he=>dv rfl (by
  walk_at "zz"
  rw [Wp])]
 walk_at "zz"
 rw [P6]
 walk_at "zz"
def XU:az->R Fl:=(aX (gQ 9 (sA (eM 1 [] (kW (g2 (rB 1) (kI 1) aT)) kT (cP (J.a9 (g2 (rB 0) (kI 0) aT) (J.a9 (g2 (rB 0) (kI 5) aT) J.aC)) .tuple)))) (aX (dZ (fZ (g2 (e6 2 vo (J.a9 (rS 1) (J.a9 (rS 5) J.aC))) (bY (J.a9 (eM 1 [9] (kW (rB 5)) kT (g2 (rB 1) (rB 0) aT)) J.aC) (i5 F7)) (ko true))) (cC (kB false)) (fun ρ=>.ok (.nx ρ))) (aX (dZ (fZ (g2 (e6 3 eg (J.a9 (rS 1) (J.a9 (rS 2) (J.a9 (e6 3 kZ (J.a9 (rS 0) (J.a9 (kI 5) (J.a9 (rS 1) J.aC)))) J.aC)))) (cP (J.a9 (fun _=>.ok (.str "row")) (J.a9 kN (J.a9 (cP (J.a9 (fun _=>.ok (.str "refused")) (J.a9 (kI 4) J.aC)) .tuple) J.aC))) .tuple) (ko true))) (cC (kB false)) (fun ρ=>.ok (.nx ρ))) (cC (g2 (e6 3 eg (J.a9 (rS 1) (J.a9 (e6 3 jo (J.a9 (rS 0) (J.a9 (kI 8) (J.a9 (g2 (rB 1) (kI 0) aT) J.aC)))) (J.a9 kN J.aC)))) (cP (J.a9 (fun _=>.ok (.str "refused")) (J.a9 (kI 1) J.aC)) .tuple) (ko false))))))
section
variable {fs st:List Str}{es rs:List fg}{W:D}{o4 z6 z7 z8:Sl}
theorem JV (ns:List Int) (g:fj fs es) (hs:Sub fs st) (h:Lu es rs):XU [.shr (.list (ns.map .int)),.shr (e8 fs es),.shr (a_ st),.shr W,o4,.shr (j6 rs),z6,z7,z8,.no]=.ok (.rt (.bool true)):=by
 have hl:=h.len
 have lg:=g.len
 obtain ⟨d,d1,d2⟩:=Rz ns 5 (by decide) g
 obtain ⟨t,t1,t2⟩:=Ln ns 8 (by decide) fs g.rise
 unfold XU
 walk_at "zz"
 rw [Fq]
 walk_at "zz"
 rw [HJ]
 walk_at "zz"
 rw [if_pos (by omega)]
 rw [cj _ ck (fun e=>br [.str e.name,.int e.price]) es fun e he=>dv rfl (by
  walk_at "zz"
  rw [Fi]
  walk_at "zz"
  rw [Wp]
  walk_at "zz")]
 walk_at "zz"
 rw [P5 g.nd lg]
 walk_at "zz"
 rw [P7 g h]
 walk_at "zz"
 rw [if_pos (by omega)]
 rw [cj _ (fun e:fg=>ap e.name) (fun e=>bC e.price) rs fun e he=>dv rfl (by
  walk_at "zz"
  rw [Ux g.nd (h.mem e he)])]
 walk_at "zz"
 rw [P6]
 walk_at "zz"
 rw [lL,decide_eq_true rfl]
 walk_at "zz"
 rw [d1]
 walk_at "zz"
 rw [BP (P0 g hs d2)]
 walk_at "zz"
 rw [show ko true (br [ap "row",PyData.none,br [ap "refused",bC (4:Nat)]]) (br [ap "row",PyData.none,br [ap "refused",bC 4]])=.ok (.bool false) from y6 (by decide +kernel)]
 walk_at "zz"
 rw [OL]
 walk_at "zz"
 rw [t1]
 walk_at "zz"
 rw [P3 (P1 g t2)]
 walk_at "zz"
 rw [show ko false (br [ap "refused",bC (1:Nat)]) (br [ap "refused",bC 1])=.ok (.bool true) from JJ (by decide +kernel)]
 walk_at "zz"
end
def XV:az->R Fl:=(aX (f_ 7 (bY (J.a9 (rB 5) J.aC) (i5 iz))) (aX (f_ 8 (e6 3 fA (J.a9 (rS 1) (J.a9 (rS 2) (J.a9 (rS 5) J.aC))))) (aX (dZ (fZ (vd (rB 8) "int")) (f_ 8 (cP (J.a9 (fun _=>.ok (.str "row")) (J.a9 (rS 8) (J.a9 (cP (J.a9 (fun _=>.ok (.str "refused")) (J.a9 (kI 4) J.aC)) .tuple) J.aC))) .tuple)) (fun ρ=>.ok (.nx ρ))) (aX (dZ (IT (fZ (g2 (e6 3 eg (J.a9 (rS 1) (J.a9 (rS 2) (J.a9 (rS 7) J.aC)))) (rB 8) (ko true))) (fZ (g2 (rB 7) (rB 5) (ko true)))) (cC (kB false)) (fun ρ=>.ok (.nx ρ))) XU))))
theorem HU {fs st:List Str}{es rs:List fg}{W:D}{o4 z6:Sl} (ns:List Int) (g:fj fs es) (hs:Sub fs st) (h:Lu es rs):XV [.shr (.list (ns.map .int)),.shr (e8 fs es),.shr (a_ st),.shr W,o4,.shr (j6 rs),z6,.no,.no,.no]=.ok (.rt (.bool true)):=by
 have L:=HR g h hs
 obtain ⟨r1,r2⟩:=RA g h.mem
 unfold XV
 walk_at "zz"
 rw [Lw]
 walk_at "zz"
 cases hr:zG rs st with
 |none =>
  rw [hr] at L
  have L:fA [e8 fs es,a_ st,j6 rs]=.ok (.int (((cZ rs st).length:Nat)-1)):=L
  rw [L]
  walk_at "zz"
  rw [show pp (.int (((cZ rs st).length:Nat)-1))=true from rfl,show rE "int" (.int (((cZ rs st).length:Nat)-1))=true from rfl]
  walk_at "zz"
  rw [BP (O_ g h hs hr)]
  walk_at "zz"
  rw [show ((4:Nat):Int)=4 from rfl,y8 true (d:=.tuple [.str "row",.int (((cZ rs st).length:Nat)-1),.tuple [.str "refused",.int 4]]) (by simp only [db,bH];decide +kernel) (by simp only [md,qD];decide)]
  walk_at "zz"
  rw [y8 true r1 r2]
  walk_at "zz"
  exact JV ns g hs h
 |some x =>
  rw [hr] at L
  have L:fA [e8 fs es,a_ st,j6 rs]=.ok (.list ((cZ rs st).map a_)):=L
  obtain ⟨t1,t2⟩:=P4 g.rise.ok (ks:=cZ rs st) fun y hy=>BQ g rs st y h.mem hs hy
  rw [L]
  walk_at "zz"
  rw [show pp (.list ((cZ rs st).map a_))=true from nF _ kc _,show rE "int" (.list ((cZ rs st).map a_))=false from rfl]
  walk_at "zz"
  rw [P2 (OZ g h hs hr)]
  walk_at "zz"
  rw [y8 true t1 t2]
  walk_at "zz"
  rw [y8 true r1 r2]
  walk_at "zz"
  exact JV ns g hs h
def WJ:az->R Fl:=(aX (dZ (CM (fZ (g2 (rB 4) (cP J.aC .list) (ko true))) (fZ (g2 (e6 3 aV (J.a9 (rS 0) (J.a9 (kI 1) (J.a9 (kI 2) J.aC)))) (kI 0) (ko false)))) (aX (f_ 6 (e6 3 aV (J.a9 (rS 0) (J.a9 (kI 2) (J.a9 (g2 (bY (J.a9 (rB 5) J.aC) (i5 jg)) (kI 1) dB) J.aC))))) (f_ 5 (g2 (g2 (IY (rB 5) KM (Gd (rS 6))) (cP (J.a9 (g2 (rB 4) (e6 3 aV (J.a9 (rS 0) (J.a9 (kI 3) (J.a9 (bY (J.a9 (rB 4) J.aC) (i5 jg)) J.aC)))) aT) J.aC) .list) dB) (IY (rB 5) (Gd (g2 (rB 6) (e6 3 aV (J.a9 (rS 0) (J.a9 (kI 4) (J.a9 (kI 2) J.aC)))) dB)) KM) dB))) (fun ρ=>.ok (.nx ρ))) XV)
theorem YJ {l:List fg}{k:Nat} (h:k<=l.length):xU (j6 l) none (some (k:Int))=.ok (j6 (l.take k)):=by
 have e:=SW (l.map fun e=>ap e.name) k (by rw [au];exact h)
 rw [<- List.map_take] at e
 exact e
theorem RC (ds:List D) (k:Nat):oM ds (some (k:Int)) none=ds.drop k:=by
 by_cases h:k<=ds.length
 ·exact HB ds k h
 ·unfold oM
  rw [HT.Cg,HT.yv,Nat.min_eq_right (by omega),List.drop_length,qK (by omega)]
  exact List.take_nil
theorem YK {l:List fg} (k:Nat):xU (j6 l) (some (k:Int)) none=.ok (j6 (l.drop k)):=by
 have e:xU (.list (l.map fun e=>ap e.name)) (some (k:Int)) none=.ok (.list (oM (l.map fun e=>ap e.name) (some (k:Int)) none)):=rfl
 rw [RC,<- List.map_drop] at e
 exact e
theorem Wq {L:List fg}{j:Int} (h0:0<=j) (h1:j<(L.length:Nat)):∃ e∈L,aT (.list (L.map fun e=>ap e.name)) (.int j)=.ok (.str e.name):=by
 obtain ⟨n,rfl⟩:=gZ h0
 have hn:n<L.length:=by omega
 refine ⟨L[n],fV hn,pE ?_⟩
 rw [aO,aW hn]
 rfl
theorem P8 {fs st:List Str}{es rs:List fg}{W:D} (ns:List Int) (g:fj fs es) (hs:Sub fs st) (h:Lu es rs) (hl:rs.length<=60):WJ [.shr (.list (ns.map .int)),.shr (e8 fs es),.shr (a_ st),.shr W,.own (.list (es.map fun e=>ap e.name)),.shr (j6 rs),.no,.no,.no,.no]=.ok (.rt (.bool true)):=by
 have lg:=g.len
 have lay:bH (es.map fun e=>ap e.name)=true:=oU _ es fun e he=>nC (g.ok e he).name
 have m0:=dW ns 2 ((rs.length:Nat)+1) (by omega)
 have m1:=eS ns 2 ((rs.length:Nat)+1) (by omega)
 have n0:=dW ns 4 2 (by omega)
 obtain ⟨p,hp⟩:∃ p:Nat,eA ns 2 ((rs.length:Nat)+1)=(p:Int):=⟨(eA ns 2 ((rs.length:Nat)+1)).toNat,by omega⟩
 obtain ⟨j,hj⟩:∃ j:Nat,eA ns 4 2=(j:Int):=⟨(eA ns 4 2).toNat,by omega⟩
 unfold WJ
 walk_at "zz"
 rw [Do true _ lay]
 walk_at "zz"
 by_cases hz:es=[]
 ·rw [decide_eq_true (show (es.map fun e=>ap e.name)=[] by rw [hz];rfl)]
  rw [show (true != true)=false from rfl]
  walk_at "zz"
  exact HU ns g hs h
 ·rw [decide_eq_false (show ¬ (es.map fun e=>ap e.name)=[] by simpa using hz)]
  rw [show (true != false)=true from rfl]
  walk_at "zz"
  rw [dE ns 1 2 (by decide) (by decide)]
  walk_at "zz"
  rw [lL]
  walk_at "zz"
  by_cases hq:eA ns 1 2=0
  ·rw [decide_eq_true hq]
   have lp:0<es.length:=List.length_pos_iff.mpr hz
   obtain ⟨e,he,ix⟩:=Wq (L:=es) (dW ns 3 es.length (by omega)) (eS ns 3 es.length (by omega))
   walk_at "zz"
   rw [dE ns 2 _ (by decide) (by omega),hp]
   walk_at "zz"
   rw [YJ (by omega)]
   walk_at "zz"
   rw [dE ns 3 _ (by decide) (by omega)]
   walk_at "zz"
   rw [ix]
   walk_at "zz"
   rw [if_pos (by rw [j7];omega)]
   walk_at "zz"
   rw [dE ns 4 2 (by decide) (by decide),hj]
   walk_at "zz"
   rw [show ((p:Int)+(j:Int))=((p+j:Nat):Int) by omega,YK]
   walk_at "zz"
   rw [if_pos (by simp only [aJ,au,j7,lu,aM,bi];omega)]
   walk_at "zz"
   have e2:((rs.take p).map fun e=>ap e.name)++[ap e.name]++((rs.drop (p+j)).map fun e=>ap e.name)=(rs.take p++[e]++rs.drop (p+j)).map fun e=>ap e.name:=by
    rw [cm,cm];rfl
   rw [e2]
   refine HU (rs:=rs.take p++[e]++rs.drop (p+j)) ns g hs ⟨fun a ha=>?_,?_⟩
   ·rcases m7.1 ha with ha|ha
    ·rcases m7.1 ha with ha|ha
     ·exact h.mem a (List.mem_of_mem_take ha)
     ·rw [bT.1 ha];exact he
    ·exact h.mem a (List.mem_of_mem_drop ha)
   ·simp only [aJ,j7,lu,aM,bi]
    omega
  ·rw [decide_eq_false hq]
   walk_at "zz"
   exact HU ns g hs h
theorem law_true (ns:List Int):F_law [.list (ns.map .int)]=.ok (.bool true):=by
 obtain ⟨fs,es,ss,wm,wb,hc,gb,gs,gw,_⟩:=Rm ns 5 6 (by decide) (by decide) (by decide) (by decide)
 have lg:=gb.len
 have key:∀ n:Int,n=9\/n=60->∃ rs,Lu es rs/\rs.length<=60/\mH [.list (ns.map .int),.int 300,e8 fs es,a_ ss,.int (eA ns 0 n)]=.ok (j6 rs):=fun n hn=>by
  have m0:=dW ns 0 n (by omega)
  have m1:=eS ns 0 n (by omega)
  exact Ru gb ns 300 (eA ns 0 n) (by decide) m0 (by omega) gs
 unfold F_law
 refine c7 ?_
 unfold Ju bn
 walk_at "zz"
 rw [hc]
 walk_at "zz"
 rw [XH]
 walk_at "zz"
 rw [HJ]
 walk_at "zz"
 rw [if_pos (by omega)]
 rw [cj _ ck (fun e=>ap e.name) es fun e he=>dv rfl (by
  walk_at "zz"
  rw [Fi])]
 walk_at "zz"
 rw [dE ns 90007 8 (by decide) (by decide)]
 walk_at "zz"
 rw [lL]
 walk_at "zz"
 by_cases hq:eA ns 90007 8=0
 ·obtain ⟨rs,r1,r2,r3⟩:=key 60 (.inr rfl)
  rw [decide_eq_true hq]
  rw [show J.R1 (b_ true)=.ok (.int 1) from rfl]
  walk_at "zz"
  rw [show aT (ej [bC 9,bC 60]) (bC 1)=.ok (.int 60) from rfl]
  walk_at "zz"
  rw [dE ns 0 60 (by decide) (by decide)]
  walk_at "zz"
  rw [r3]
  walk_at "zz"
  refine Eq.trans (Eq.symm ?_) (P8 (W:=zB wm wb) ns gb gs r1 r2)
  unfold WJ
  walk_at "zz"
  rfl
 ·obtain ⟨rs,r1,r2,r3⟩:=key 9 (.inl rfl)
  rw [decide_eq_false hq]
  rw [show J.R1 (b_ false)=.ok (.int 0) from rfl]
  walk_at "zz"
  rw [show aT (ej [bC 9,bC 60]) (bC 0)=.ok (.int 9) from rfl]
  walk_at "zz"
  rw [dE ns 0 9 (by decide) (by decide)]
  walk_at "zz"
  rw [r3]
  walk_at "zz"
  refine Eq.trans (Eq.symm ?_) (P8 (W:=zB wm wb) ns gb gs r1 r2)
  unfold WJ
  walk_at "zz"
  rfl
end Z
end
namespace Z
open PySem L2 J
section
def oV (i:Nat):cY:=PySem.Challenge.pw_errands_k04_leads.main.body.getD i (.Pass ⟨0,0,0,0⟩)
section
variable {e:En}
abbrev rO:cY:=oV 58
def Fy:List Str:=["NoBook","NoState","NoWant","NoErrand","NoRow","NoWay","NoPaper","NoFacts","NoNumber","Nothing","NoText"]
theorem vB:bA ["_law_e","_law_own"] ["_law_e"] (ax rO):=dX (by decide +kernel)
theorem AF {f:ag}{fd:eX} (F:Gb e.K "_law_which" "_law_which" rO f fd) (B:Bi e.mg) (mv:e.mg "ValueError"=none) (mc:∀ n∈Fy,e.mg n=some (.ref (e.cls n))):Em e.P e.w e.K e.mg e.base 1 f fd ["_law_e"] (Nv e.K e.base e.cls Fy):=by
 refine F.okH vB (fun vs H Q E h=>?_) (fun cdv A outer s H vs Q E hr h=>?_)
 ·obtain ⟨_,_,_,rfl,_⟩:=h;rfl
 obtain ⟨ea,C,j,rfl,hH,x,q⟩:=h
 refine ⟨_,jT (Cf (i:=1) vB.nd rfl (i4 rfl) (ms (bX (mC (names:=Fy) (cls:=e.cls) (base:=e.base) (pv 0) rfl B.isinstance rfl (mc "NoBook" (by decide +kernel))) (bX (mC (names:=Fy) (cls:=e.cls) (base:=e.base) (pv 0) rfl B.isinstance rfl (mc "NoState" (by decide +kernel))) (bX (mC (names:=Fy) (cls:=e.cls) (base:=e.base) (pv 0) rfl B.isinstance rfl (mc "NoWant" (by decide +kernel))) (bX (mC (names:=Fy) (cls:=e.cls) (base:=e.base) (pv 0) rfl B.isinstance rfl (mc "NoErrand" (by decide +kernel))) el))))))
  (jT (sj (yx dQ nO nQ Bc (pv 1) (bX (ms (bX (mC (names:=Fy) (cls:=e.cls) (base:=e.base) (pv 0) rfl B.isinstance rfl (mc "NoRow" (by decide +kernel))) (bX (mC (names:=Fy) (cls:=e.cls) (base:=e.base) (pv 0) rfl B.isinstance rfl (mc "NoWay" (by decide +kernel))) (bX (mC (names:=Fy) (cls:=e.cls) (base:=e.base) (pv 0) rfl B.isinstance rfl (mc "NoPaper" (by decide +kernel))) (bX (mC (names:=Fy) (cls:=e.cls) (base:=e.base) (pv 0) rfl B.isinstance rfl (mc "NoFacts" (by decide +kernel))) el))))) el)))
  (jT (sj (yx dQ nO nQ Bc (pv 1) (bX (ms (bX (mC (names:=Fy) (cls:=e.cls) (base:=e.base) (pv 0) rfl B.isinstance rfl (mc "NoNumber" (by decide +kernel))) (bX (mC (names:=Fy) (cls:=e.cls) (base:=e.base) (pv 0) rfl B.isinstance rfl (mc "Nothing" (by decide +kernel))) (bX (mC (names:=Fy) (cls:=e.cls) (base:=e.base) (pv 0) rfl B.isinstance rfl (mc "NoText" (by decide +kernel))) el)))) el)))
  (jT (RK (PW.pt (RJ (IH UP (yx dQ AZ PySem.F.type_list_count KG (pv 1) (bX Mh el)) yt (GJ _)) (Mk (Ml (Mj (QQ (names:=Fy) (cls:=e.cls) (base:=e.base) (pv 0) rfl B.isinstance rfl mv)))))) oF IE)
  (xP (Cd (GM (bX GF (bX (yx dQ A_ PySem.F.type_list_index KH (pv 1) (bX Mh el)) el)))))))),?_⟩
 refine ⟨ea,C,j,0,rfl,hH,x,rfl,ea,C,j,1,rfl,hH,x,rfl,ea,C,j,2,rfl,hH,x,rfl,ea,C,j,3,rfl,hH,x,rfl,b9 (c8 (show 4<=1000 by decide)),fun p hp=>?_⟩
 have np:ea≠p:=hH.elim fun _ h=>b6 h hp
 have hH1:∀ o,∃ dx,upd H p o ea=some (u3 dx ea C):=fun o=>by rw [aU np];exact hH
 refine ⟨_,rfl,.inl ⟨rfl,_,.of aR⟩,?_⟩
 refine ⟨ea,C,j,4,rfl,hH1 _,x,rfl,ea,C,j,5,rfl,hH1 _,x,rfl,ea,C,j,6,rfl,hH1 _,x,rfl,ea,C,j,7,rfl,hH1 _,x,rfl,b9 (c8 (show 4<=1000 by decide)),fun p2 hp2=>?_⟩
 have np2:p≠p2:=b6 aR hp2
 have ne2:ea≠p2:=(hH1 _).elim fun _ h=>b6 h hp2
 refine ⟨p,p2,([decide (0=j),decide (1=j),decide (2=j),decide (3=j)].map V.bl),_,rfl,rfl,by rw [aU np2];exact aR,aR,b9 (c8 (show 8<=1000 by decide)),?_⟩
 have hH2:∀ o u,∃ dx,upd (upd (upd H p o) p2 u) p (.lst (([decide (0=j),decide (1=j),decide (2=j),decide (3=j)]++[decide (4=j),decide (5=j),decide (6=j),decide (7=j)]).map V.bl)) ea=some (u3 dx ea C):=fun o u=>by rw [aU np,aU ne2];exact hH1 _
 refine ⟨_,rfl,.inl ⟨rfl,_,.of aR⟩,?_⟩
 refine ⟨ea,C,j,8,rfl,hH2 _ _,x,rfl,ea,C,j,9,rfl,hH2 _ _,x,rfl,ea,C,j,10,rfl,hH2 _ _,x,rfl,b9 (c8 (show 3<=1000 by decide)),fun p3 hp3=>?_⟩
 have np3:p≠p3:=b6 aR hp3
 have ne3:ea≠p3:=(hH2 _ _).elim fun _ h=>b6 h hp3
 refine ⟨p,p3,(([decide (0=j),decide (1=j),decide (2=j),decide (3=j)]++[decide (4=j),decide (5=j),decide (6=j),decide (7=j)]).map V.bl),_,rfl,rfl,by rw [aU np3];exact aR,aR,b9 (c8 (show 11<=1000 by decide)),?_⟩
 refine ⟨_,rfl,.inl ⟨rfl,_,.of aR⟩,p,bits j,rfl,rfl,.of aR,?_⟩
 rw [Hm j x.lt]
 refine ⟨rfl,_,rfl,Cm ⟨ea,C,j,rfl,?_,x,_,rfl,Cm ?_⟩⟩
 ·rw [aU np,aU ne3];exact hH2 _ _
 obtain ⟨b1,b2⟩:=QP j x.lt
 refine ⟨_,rfl,.inl ⟨rfl,_,.of aR⟩,p,bits j,j,rfl,rfl,.of aR,b1,b2,b9 (aE x.lt (by decide)),b9 (c8 (show 2<=1000 by decide)),fun t ht=>?_⟩
 have s1:dD H _:=gS (o:=.lst ([decide (0=j),decide (1=j),decide (2=j),decide (3=j)].map V.bl)) hp
 have hpn:∀ b o,H b=some o->b≠p:=fun b o e=>b6 e hp
 have hp2n:∀ b o,H b=some o->b≠p2:=fun b o e=>b6 (s1 b o e) hp2
 have hp3n:∀ b o,H b=some o->b≠p3:=fun b o e=>b6 (by rw [aU (hpn b o e),aU (hp2n b o e)];exact s1 b o e) hp3
 have old:∀ b o,H b=some o->b≠t:=fun b o e=>b6 (by rw [aU (hpn b o e),aU (hp3n b o e),aU (hpn b o e),aU (hp2n b o e)];exact s1 b o e) ht
 refine q t _ (fun b o e=>?_) ?_ aR
 ·rw [aU (old b o e),aU (hpn b o e),aU (hp3n b o e),aU (hpn b o e),aU (hp2n b o e)];exact s1 b o e
 ·cases z:H t with
  |none=>rfl
  |some o=>exact (old t o z rfl).elim
abbrev lX:cY:=oV 18
abbrev vC:List Str:=["one","other"]
theorem AG:bA vC ["one","other"] (ax lX):=dX (by decide +kernel)
abbrev qi (e:En):=FN e "share_none" 1 2 gG
theorem AH (D:hX e.K e.mg "share_none" lX) (B:Bi e.mg):qi e:=qz (k:=0) (g:=k8) D AG b2 fun _ _ _ _ _ _ _ hr=>by unfold k8;exact (aN (bF (Nb (bS (Nj rfl) rfl B.any yo (bj (JE.bor (JN.je (fu (N':=["fact","other"]) (ix:=[1]) 1 (by decide) rfl (c9 (so:=ax lX) (N:=vC) (by decide +kernel)) (eT (af 0)) (fun cl A0 s0 H0 ex pn=>⟨cH (i:=0) (by show (["fact","other"] : List Str).Nodup;decide +kernel) rfl (.inl rfl),ev,(nZ (EB) (af 0) (af 1))⟩)))) bN)))))
abbrev sO:cY:=oV 19
abbrev BS:List Str:=["facts","others"]
theorem HV:bA BS ["facts","others"] (ax sO):=dX (by decide +kernel)
abbrev BU (e:En):=FN e "without" 1 2 sC
theorem HW (D:hX e.K e.mg "without" sO) (B:Bi e.mg):BU e:=qz (k:=0) (g:=sB) D HV b2 fun _ _ _ _ _ _ _ hr=>by unfold sB;exact (aN (bF (dR (iM rfl) rfl B.tuple bh (bj (JE.bor (JN.je (fu (N':=["fact","others"]) (ix:=[1]) 1 (by decide) rfl (c9 (so:=ax sO) (N:=BS) (by decide +kernel)) (eT (af 0)) (fun cl A0 s0 H0 ex pn=>⟨cH (i:=0) (by show (["fact","others"] : List Str).Nodup;decide +kernel) rfl (.inl rfl),(sx (dg (yR) (af 0) (af 1))),(ai 0)⟩)))) bN))))
abbrev zK:cY:=oV 20
abbrev P9:List Str:=["one","other"]
theorem Lx:bA P9 ["one","other"] (ax zK):=dX (by decide +kernel)
abbrev Fz (e:En):=FN e "joined" 1 2 vn
theorem Ly (D:hX e.K e.mg "joined" zK) (B:Bi e.mg):Fz e:=qz (k:=0) (g:=vm) D Lx b2 fun _ _ _ _ _ _ _ hr=>by unfold vm;exact (aN (bF (dR (iM rfl) rfl B.tuple bh (bj (JE.bor (ub rfl (Uc (D5 rfl (af 0) rfl B.set) (D5 rfl (af 1) rfl B.set)) rfl B.sorted)) bN))))
abbrev sP:cY:=oV 21
abbrev BV:List Str:=["thing"]
theorem HX:bA BV ["thing"] (ax sP):=dX (by decide +kernel)
abbrev wB (e:En):=FN e "is_word" 1 1 fH
theorem HY (D:hX e.K e.mg "is_word" sP) (B:Bi e.mg) (mJ:Cn e.mg "MOST_LETTERS" 6):wB e:=qz (k:=0) (g:=oS) D HX b1 fun _ _ _ _ _ _ _ hr=>by unfold oS;exact (ay (eL (JW.t (tJ (gT (gL (o0 (af 0) rfl B.isinstance rfl B.str yp (by decide)))) (n_ (gT (Nr (yQ) (yQ) (JE.bor av) (JE.bor (bS gy rfl B.len bv (bj (af 0) bN))) (JE.bor (rm rfl mJ))))))) (aN (bF mz)) cf) (aN (bF (bS (pJ rfl) rfl B.all cJ (bj (JE.bor (JN.je (fu (N':=["sign"]) (ix:=[]) 1 (by decide) rfl (c9 (so:=ax sP) (N:=BV) (by decide +kernel)) (eT (af 0)) (fun cl A0 s0 H0 ex pn=>⟨cH (i:=0) (by show (["sign"] : List Str).Nodup;decide +kernel) rfl (.inl rfl),ev,(EJ (yQ) (yQ) (JE.bor hV) (af 0) (JE.bor hV))⟩)))) bN)))))
abbrev fU:cY:=oV 22
abbrev jv:List Str:=["thing"]
theorem t5:bA jv ["thing"] (ax fU):=dX (by decide +kernel)
abbrev jw (e:En):=FN e "are_rising_words" 2 1 cw
theorem t6 (D:hX e.K e.mg "are_rising_words" fU) (B:Bi e.mg) (mh:wB e):jw e:=qz (k:=1) (g:=dJ) D t5 b1 fun _ _ _ _ _ _ _ hr=>by unfold dJ;exact (ay (eL (JW.t (tJ (gT (gL (o0 (af 0) rfl B.isinstance rfl B.tuple bh (by decide)))) (n_ (gT (gL (bS (pJ rfl) rfl B.all cJ (bj (JE.bor (JN.je (fu (N':=["word"]) (ix:=[]) 1 (by decide) rfl (c9 (so:=ax fU) (N:=jv) (by decide +kernel)) (eT (af 0)) (fun cl A0 s0 H0 ex pn=>⟨cH (i:=0) (by show (["word"] : List Str).Nodup;decide +kernel) rfl (.inl rfl),ev,(jc mh hr fz (a8 (ai 0) aw))⟩)))) bN))))))) (aN (bF mz)) cf) (aN (bF (bS (pJ rfl) rfl B.all cJ (bj (JE.bor (JN.je (fu (N':=["low","high"]) (ix:=[]) 2 (by decide) rfl (c9 (so:=ax fU) (N:=jv) (by decide +kernel)) (LX.i (QJ rfl B.zip (a8 (ai 0) (a8 (jX (af 0) (jW av) lV) aw)))) (fun cl A0 s0 H0 ex pn=>⟨GG rfl (qW (cH (i:=0) (by show (["low","high"] : List Str).Nodup;decide +kernel) rfl (.inl rfl)) (qW (cH (i:=1) (by show (["low","high"] : List Str).Nodup;decide +kernel) rfl (.inl rfl)) Ce)),ev,(nZ (Bm) (af 0) (af 1))⟩)))) bN)))))
abbrev nG:cY:=oV 23
abbrev xa:List Str:=["book_facts","thing"]
theorem Dq:bA xa ["book_facts","thing"] (ax nG):=dX (by decide +kernel)
abbrev rP (e:En):=FN e "are_facts" 3 2 fG
theorem Dr (D:hX e.K e.mg "are_facts" nG) (B:Bi e.mg) (eK:jw e):rP e:=qz (k:=2) (g:=jB) D Dq b2 fun _ _ _ _ _ _ _ hr=>by unfold jB;exact (aN (bF (CQ (jc eK hr px (a8 (ai 1) aw)) (CO (bS (pJ rfl) rfl B.all cJ (bj (JE.bor (JN.je (fu (N':=["fact","book_facts"]) (ix:=[0]) 1 (by decide) rfl (c9 (so:=ax nG) (N:=xa) (by decide +kernel)) (eT (af 1)) (fun cl A0 s0 H0 ex pn=>⟨cH (i:=0) (by show (["fact","book_facts"] : List Str).Nodup;decide +kernel) rfl (.inl rfl),ev,(nZ (EB) (af 0) (af 1))⟩)))) bN))))))
abbrev ui:cY:=oV 24
abbrev HZ:List Str:=["thing","least","most"]
theorem FA:bA HZ ["thing","least","most"] (ax ui):=dX (by decide +kernel)
abbrev zL (e:En):=FN e "is_whole" 1 3 pU
theorem FC (D:hX e.K e.mg "is_whole" ui) (B:Bi e.mg):zL e:=qz (k:=0) (g:=pT) D FA b3 fun _ _ _ _ _ _ _ hr=>by unfold pT;exact (ay (eL (JW.t (tJ (gT (gL (o0 (af 0) rfl B.isinstance rfl B.int oz (by decide)))) (n_ (gL (o0 (af 0) rfl B.isinstance rfl B.bool PyProof.Rows.boot_bool (by decide)))))) (aN (bF mz)) cf) (aN (bF (EJ (yQ) (yQ) (af 1) (af 0) (af 2)))))
abbrev nI:cY:=oV 25
abbrev xb:List Str:=["book_facts","thing","name","needs","bars","makes","ends","price"]
theorem i0:bA xb ["book_facts","thing"] (ax nI):=dX (by decide +kernel)
abbrev xc (e:En):=FN e "is_errand" 4 2 nl
theorem Ds (D:hX e.K e.mg "is_errand" nI) (B:Bi e.mg) (mh:wB e) (uj:zL e) (jF:rP e) (i3:qi e) (qj:Cn e.mg "MOST_PRICE" 9):xc e:=qz (k:=3) (g:=nj) D i0 b2 fun _ _ _ _ _ _ _ hr=>by have hu64:=hr.units;unfold nj;exact (ay (eL (JW.t (tJ (gT (gL (o0 (af 1) rfl B.isinstance rfl B.tuple bh (by decide)))) (n_ (dg (rA hu64) (JE.bor (bS gy rfl B.len bv (bj (af 1) bN))) (JE.bor av))))) (aN (bF mz)) cf) (ay (C_ (ai 1) (u6 rfl (e7 (dH 2 i0.nd) (e7 (dH 3 i0.nd) (e7 (dH 4 i0.nd) (e7 (dH 5 i0.nd) (e7 (dH 6 i0.nd) (e7 (dH 7 i0.nd) pL)))))))) (ay (eL (JW.t (tJ (gT (gL (jc mh hr px (a8 (ai 2) aw)))) (n_ (gT (gL (jc uj hr px (a8 (ai 7) (a8 av (a8 (rm rfl qj) aw))))))))) (aN (bF mz)) cf) (ay (eL (gT (gL (bS (pJ rfl) rfl B.all cJ (bj (JE.bor (JN.je (fu (N':=["facts","book_facts"]) (ix:=[0]) 1 (by decide) rfl (c9 (so:=ax nI) (N:=xb) (by decide +kernel)) (eT (JE.bor (ft (a8 (ai 3) (a8 (ai 4) (a8 (ai 5) (a8 (ai 6) aw))))))) (fun cl A0 s0 H0 ex pn=>⟨cH (i:=0) (by show (["facts","book_facts"] : List Str).Nodup;decide +kernel) rfl (.inl rfl),ev,(jc jF hr fz (a8 (ai 1) (a8 (ai 0) aw)))⟩)))) bN)))) (aN (bF mz)) cf) (aN (bF (CQ (jc i3 hr px (a8 (ai 3) (a8 (ai 4) aw))) (CO (jc i3 hr px (a8 (ai 5) (a8 (ai 6) aw)))))))))))
abbrev oW:cY:=oV 26
abbrev wC:List Str:=["thing","facts","errands"]
theorem uk:bA wC ["thing"] (ax oW):=dX (by decide +kernel)
abbrev BW (e:En):=FN e "is_book" 5 1 sF
theorem H_ (D:hX e.K e.mg "is_book" oW) (B:Bi e.mg) (eK:jw e) (rQ:xc e) (qk:Cn e.mg "MOST_FACTS" 6) (mK:Cn e.mg "MOST_ERRANDS" 6):BW e:=qz (k:=4) (g:=sD) D uk b1 fun _ _ _ _ _ _ _ hr=>by have hu1:=jb hr;have hu64:=hr.units;unfold sD;exact (ay (eL (JW.t (tJ (gT (gL (o0 (af 0) rfl B.isinstance rfl B.tuple bh (by decide)))) (n_ (dg (rA hu64) (JE.bor (bS gy rfl B.len bv (bj (af 0) bN))) (JE.bor av))))) (aN (bF mz)) cf) (ay (C_ (ai 0) (u6 rfl (e7 (dH 1 uk.nd) (e7 (dH 2 uk.nd) pL)))) (ay (eL (JW.t (tJ (gT (gL (jc eK hr px (a8 (ai 1) aw)))) (n_ (dg (IU) (JE.bor (bS gy rfl B.len bv (bj (af 1) bN))) (JE.bor (rm rfl qk)))))) (aN (bF mz)) cf) (ay (eL (JW.t (tJ (gT (gL (o0 (af 2) rfl B.isinstance rfl B.tuple bh (by decide)))) (n_ (dg (IU) (JE.bor (bS gy rfl B.len bv (bj (af 2) bN))) (JE.bor (rm rfl mK)))))) (aN (bF mz)) cf) (ay (eL (gT (gL (bS (pJ rfl) rfl B.all cJ (bj (JE.bor (JN.je (fu (N':=["errand","facts"]) (ix:=[1]) 1 (by decide) rfl (c9 (so:=ax oW) (N:=wC) (by decide +kernel)) (eT (af 2)) (fun cl A0 s0 H0 ex pn=>⟨cH (i:=0) (by show (["errand","facts"] : List Str).Nodup;decide +kernel) rfl (.inl rfl),ev,(jc rQ hr fz (a8 (ai 1) (a8 (ai 0) aw)))⟩)))) bN)))) (aN (bF mz)) cf) (aN (bF (nZ (rq hu64) (JE.bor (KU (Nt (N':=["errand"]) (ix:=[]) 1 (by decide) rfl (c9 (so:=ax oW) (N:=wC) (by decide +kernel)) (eT (af 2)) (fun cl A0 s0 H0 ex pn=>⟨cH (i:=0) (by show (["errand"] : List Str).Nodup;decide +kernel) rfl (.inl rfl),ev,(bJ hu1 (af 0) (JE.bor av))⟩)) rfl B.len)) (JE.bor (bS gy rfl B.len bv (bj (af 2) bN)))))))))))
abbrev og:cY:=oV 27
abbrev AI:List Str:=["book","state"]
theorem zM:bA AI ["book","state"] (ax og):=dX (by decide +kernel)
abbrev tN (e:En):=FN e "check_state" 4 2 im
theorem zN (D:hX e.K e.mg "check_state" og) (jF:rP e) (wD:ER e "NoState"):tN e:=qz (k:=3) (g:=ji) D zM b2 fun _ _ _ _ _ _ _ hr=>by have hu1:=jb hr;unfold ji;exact (aN (eL (gT (gL (jc jF hr px (a8 (bJ hu1 (af 0) (JE.bor av)) (a8 (ai 1) aw))))) (aN (EM wD rfl (a8 hV aw))) cf))
abbrev lM:cY:=oV 28
abbrev xG:List Str:=["book","name","errand"]
theorem oX:bA xG ["book","name"] (ax lM):=dX (by decide +kernel)
abbrev lN (e:En):=FN e "errand_called" 1 2 cK
theorem wE (D:hX e.K e.mg "errand_called" lM) (B:Bi e.mg):lN e:=qz (k:=0) (g:=gC) D oX b2 fun _ _ _ _ _ _ _ hr=>by have hu1:=jb hr;have hu64:=hr.units;unfold gC;exact (ay (eL (gT (gL (o0 (af 1) rfl B.isinstance rfl B.str yp (by decide)))) (aN (bF kL)) cf) (ay (pO rfl (I_ (bJ hu1 (af 0) (JE.bor av))) (dH 2 oX.nd) (aN (eL (dg (rq hu64) (JE.bor (bJ hu1 (af 2) (JE.bor av))) (af 1)) (aN (bF (ai 2))) cf))) (aN (bF kL))))
abbrev sQ:cY:=oV 29
abbrev BX:List Str:=["state","want","must","bars"]
theorem ul:bA BX ["state","want"] (ax sQ):=dX (by decide +kernel)
abbrev BY (e:En):=FN e "fulfils" 2 2 sH
theorem I0 (D:hX e.K e.mg "fulfils" sQ) (B:Bi e.mg) (i3:qi e):BY e:=qz (k:=1) (g:=sG) D ul b2 fun _ _ _ _ _ _ _ hr=>by unfold sG;exact (ay (C_ (ai 1) (u6 rfl (e7 (dH 2 ul.nd) (e7 (dH 3 ul.nd) pL)))) (aN (bF (CQ (bS (pJ rfl) rfl B.all cJ (bj (JE.bor (JN.je (fu (N':=["fact","state"]) (ix:=[0]) 1 (by decide) rfl (c9 (so:=ax sQ) (N:=BX) (by decide +kernel)) (eT (af 2)) (fun cl A0 s0 H0 ex pn=>⟨cH (i:=0) (by show (["fact","state"] : List Str).Nodup;decide +kernel) rfl (.inl rfl),ev,(nZ (EB) (af 0) (af 1))⟩)))) bN)) (CO (jc i3 hr px (a8 (ai 3) (a8 (ai 0) aw))))))))
abbrev rR:cY:=oV 30
abbrev FD:List Str:=["errand","state"]
theorem Dt:bA FD ["errand","state"] (ax rR):=dX (by decide +kernel)
abbrev xg (e:En):=FN e "is_doable" 3 2 iO
theorem Du (D:hX e.K e.mg "is_doable" rR) (wF:BY e):xg e:=qz (k:=2) (g:=nq) D Dt b2 fun _ _ _ _ _ _ _ hr=>by have hu1:=jb hr;unfold nq;exact (aN (bF (jc wF hr px (a8 (ai 1) (a8 (ft (a8 (bJ hu1 (af 0) (JE.bor av)) (a8 (bJ hu1 (af 0) (JE.bor av)) aw))) aw)))))
abbrev mL:cY:=oV 31
abbrev zO:List Str:=["errand","state","makes","ends"]
theorem qA:bA zO ["errand","state"] (ax mL):=dX (by decide +kernel)
abbrev rT (e:En):=FN e "state_behind" 2 2 fR
theorem xH (D:hX e.K e.mg "state_behind" mL) (wG:BU e) (zP:Fz e):rT e:=qz (k:=1) (g:=k9) D qA b2 fun _ _ _ _ _ _ _ hr=>by have hu1:=jb hr;unfold k9;exact (ay (Ud 2 3 rfl qA.nd (a8 (bJ hu1 (af 0) (JE.bor av)) (a8 (bJ hu1 (af 0) (JE.bor av)) aw))) (aN (bF (jc zP hr px (a8 (jc wG hr px (a8 (ai 1) (a8 (ai 3) aw))) (a8 (ai 2) aw))))))
abbrev wH:cY:=oV 32
abbrev Lz:List Str:=["book"]
theorem Ic:bA Lz ["book"] (ax wH):=dX (by decide +kernel)
abbrev wI (e:En):=FN e "checked" 6 1 oT
theorem Ie (D:hX e.K e.mg "checked" wH) (wJ:BW e) (zQ:ER e "NoBook"):wI e:=qz (k:=5) (g:=sI) D Ic b1 fun _ _ _ _ _ _ _ hr=>by unfold sI;exact (ay (eL (gT (gL (jc wJ hr px (a8 (ai 0) aw)))) (aN (EM zQ rfl (a8 hV aw))) cf) (aN (bF (ai 0))))
abbrev oh:cY:=oV 33
abbrev AJ:List Str:=["book","state"]
theorem zR:bA AJ ["book","state"] (ax oh):=dX (by decide +kernel)
abbrev tO (e:En):=FN e "check_place" 7 2 io
theorem zS (D:hX e.K e.mg "check_place" oh) (mi:wI e) (oj:tN e):tO e:=qz (k:=6) (g:=jj) D zR b2 fun _ _ _ _ _ _ _ hr=>by unfold jj;exact (ay (xV (jc mi hr px (a8 (ai 0) aw))) (aN (xV (jc oj hr px (a8 (ai 0) (a8 (ai 1) aw))))))
abbrev vD:cY:=oV 36
abbrev FE:List Str:=["book","thing"]
theorem LA:bA FE ["book","thing"] (ax vD):=dX (by decide +kernel)
abbrev FF (e:En):=FN e "is_row" 2 2 li
theorem LB (D:hX e.K e.mg "is_row" vD) (B:Bi e.mg) (gD:lN e) (om:Cn e.mg "MOST_IN_ROW" 64):FF e:=qz (k:=1) (g:=mD) D LA b2 fun _ _ _ _ _ _ _ hr=>by unfold mD;exact (ay (eL (JW.t (tJ (gT (gL (o0 (af 1) rfl B.isinstance rfl B.list fc (by decide)))) (n_ (dg (IU) (JE.bor (bS gy rfl B.len bv (bj (af 1) bN))) (JE.bor (rm rfl om)))))) (aN (bF mz)) cf) (aN (bF (bS (pJ rfl) rfl B.all cJ (bj (JE.bor (JN.je (fu (N':=["name","book"]) (ix:=[0]) 1 (by decide) rfl (c9 (so:=ax vD) (N:=FE) (by decide +kernel)) (eT (af 1)) (fun cl A0 s0 H0 ex pn=>⟨cH (i:=0) (by show (["name","book"] : List Str).Nodup;decide +kernel) rfl (.inl rfl),ev,(nZ (Ex) (JE.bor (jc gD hr fz (a8 (ai 1) (a8 (ai 0) aw)))) (JE.bor kL))⟩)))) bN)))))
abbrev lY:cY:=oV 37
abbrev vE:List Str:=["book","row"]
theorem AK:bA vE ["book","row"] (ax lY):=dX (by decide +kernel)
abbrev ql (e:En):=FN e "errands_of" 3 2 hZ
theorem AL (D:hX e.K e.mg "errands_of" lY) (zT:FF e) (gD:lN e) (sR:Hy "NoRow" (e.cls "NoRow") e.mg e.base):ql e:=qz (k:=2) (g:=ka) D AK b2 fun _ _ _ _ _ _ _ hr=>by unfold ka;exact (ay (eL (gT (gL (jc zT hr px (a8 (ai 0) (a8 (ai 1) aw))))) (aN (BF sR (Yq hr) rfl (a8 kL aw))) cf) (aN (bF (JN.je (fu (N':=["name","book"]) (ix:=[0]) 1 (by decide) rfl (c9 (so:=ax lY) (N:=vE) (by decide +kernel)) (eT (af 1)) (fun cl A0 s0 H0 ex pn=>⟨cH (i:=0) (by show (["name","book"] : List Str).Nodup;decide +kernel) rfl (.inl rfl),ev,(jc gD hr fz (a8 (ai 1) (a8 (ai 0) aw)))⟩))))))
abbrev kO:cY:=oV 38
abbrev wK:List Str:=["errands","state","states","errand"]
theorem ke:bA wK ["errands","state"] (ax kO):=dX (by decide +kernel)
abbrev oY (e:En):=FN e "states_through" 4 2 iT
theorem vF (D:hX e.K e.mg "states_through" kO) (rV:xg e) (mM:rT e):oY e:=qz (k:=3) (g:=iS) D ke b2 fun _ _ _ _ _ _ _ hr=>by have hu1:=jb hr;unfold iS;exact (ay (jY 2 (u7 (a8 (ai 1) aw)) ke.nd) (ay (QK 0 rfl (dH 3 ke.nd) (ay (eL (gT (gL (jc rV hr fz (a8 (ai 3) (a8 (bJ hu1 (af 2) (JE.bor (Hk av))) aw))))) (aN (bF (ai 2))) cf) (aN (oP 2 (jc mM hr fz (a8 (ai 3) (a8 (bJ hu1 (af 2) (JE.bor (Hk av))) aw))))))) (aN (bF (ai 2)))))
abbrev Dv:cY:=oV 39
abbrev RE:List Str:=["book","state","row","errands","states"]
theorem zU:bA RE ["book","state","row"] (ax Dv):=dX (by decide +kernel)
abbrev JX (e:En):=FN e "leads" 8 3 iA
theorem Pa (D:hX e.K e.mg "leads" Dv) (B:Bi e.mg) (oo:tO e) (iW:ql e) (kP:oY e) (sR:Hy "NoRow" (e.cls "NoRow") e.mg e.base):JX e:=qz (k:=7) (g:=pV) D zU b3 fun _ _ _ _ _ _ _ hr=>by unfold pV;exact (ay (xV (jc oo hr px (a8 (ai 0) (a8 (ai 1) aw)))) (ay (eJ 3 (jc iW hr px (a8 (ai 0) (a8 (ai 2) aw))) zU.nd) (ay (eJ 4 (jc kP hr px (a8 (ai 3) (a8 (ai 1) aw))) zU.nd) (ay (eL (dg (yQ) (JE.bor (bS gy rfl B.len bv (bj (af 4) bN))) (JE.bor (bS gy rfl B.len bv (bj (af 3) bN)))) (aN (BF sR (Yq hr) rfl (a8 (bM TU (JE.bor (bS gy rfl B.len bv (bj (af 4) bN))) (JE.bor av)) aw))) cf) (aN (bF (ai 4)))))))
abbrev y9:cY:=oV 40
abbrev JY:List Str:=["book","row"]
theorem Pb:bA JY ["book","row"] (ax y9):=dX (by decide +kernel)
abbrev JZ (e:En):=FN e "price" 7 2 vo
theorem Pc (D:hX e.K e.mg "price" y9) (B:Bi e.mg) (mi:wI e) (iW:ql e):JZ e:=qz (k:=6) (g:=xY) D Pb b2 fun _ _ _ _ _ _ _ hr=>by have hu1:=jb hr;unfold xY;exact (ay (xV (jc mi hr px (a8 (ai 0) aw))) (aN (bF (bS (Oo rfl) rfl B.sum yq (bj (JE.bor (JN.je (fu (N':=["errand"]) (ix:=[]) 1 (by decide) rfl (c9 (so:=ax y9) (N:=JY) (by decide +kernel)) (eT (JE.bor (jc iW hr px (a8 (ai 0) (a8 (ai 1) aw))))) (fun cl A0 s0 H0 ex pn=>⟨cH (i:=0) (by show (["errand"] : List Str).Nodup;decide +kernel) rfl (.inl rfl),ev,(bJ hu1 (af 0) (JE.bor av))⟩)))) bN)))))
abbrev oq:cY:=oV 42
abbrev AM:List Str:=["_law_script","_law_k"]
theorem zV:bA AM ["_law_script","_law_k"] (ax oq):=dX (by decide +kernel)
abbrev tP (e:En):=FN e "_law_cell_at" 1 2 kY
theorem zW (D:hX e.K e.mg "_law_cell_at" oq) (B:Bi e.mg):tP e:=qz (k:=0) (g:=kX) D zV b2 fun _ _ _ _ _ _ _ hr=>by have hu1:=jb hr;have hu64:=hr.units;unfold kX;exact (ay (eL (dg (Bm) (af 1) (JE.bor (bS gy rfl B.len bv (bj (af 0) bN)))) (aN (bF (bJ hu1 (af 0) (af 1)))) cf) (ay (eL (dg (rq hu64) (af 0) (JE.bor (gx aw))) (aN (bF av)) cf) (aN (bF (bM cu (JE.bor (bM ro (JE.bor (bJ hu1 (af 0) (JE.bor (bM CT (af 1) (JE.bor (bS gy rfl B.len bv (bj (af 0) bN))))))) (JE.bor av))) (af 1))))))
abbrev rW:cY:=oV 43
abbrev FG:List Str:=["_law_script","_law_k","_law_many","_law_drawn"]
theorem vG:bA FG ["_law_script","_law_k","_law_many"] (ax rW):=dX (by decide +kernel)
abbrev dS (e:En):=FN e "_law_mixed" 2 3 aV
theorem Dw (D:hX e.K e.mg "_law_mixed" rW) (ou:tP e):dS e:=qz (k:=1) (g:=nu) D vG b3 fun _ _ _ _ _ _ _ hr=>by unfold nu;exact (ay (eJ 3 (bM CT (JE.bor (bM ro (JE.bor (bM cu (JE.bor (bM cu (JE.bor (jc ou hr px (a8 (ai 0) (a8 (ai 1) aw)))) (JE.bor (bM ro (JE.bor av) (af 1))))) (JE.bor av))) (JE.bor av))) (JE.bor av)) vG.nd) (aN (bF (bM CT (JE.bor (bM CT (JE.bor (bM cu (JE.bor (bM cu (JE.bor (bM ro (af 3) (af 3))) (JE.bor (bM ro (JE.bor av) (af 3))))) (af 1))) (JE.bor av))) (af 2)))))
abbrev um:cY:=oV 44
abbrev Ig:List Str:=["_law_script","_law_at","_law_made","_law_k"]
theorem nJ:bA Ig ["_law_script","_law_at"] (ax um):=dX (by decide +kernel)
abbrev uo (e:En):=FN e "_law_word" 3 2 kM
theorem FH (D:hX e.K e.mg "_law_word" um) (B:Bi e.mg) (aK:dS e):uo e:=qz (k:=2) (g:=pW) D nJ b2 fun _ _ _ _ _ _ _ hr=>by have hu1:=jb hr;unfold pW;exact (ay (eJ 2 hV nJ.nd) (ay (pO rfl (pM rfl B.range (bj (JE.bor (bJ hu1 (JE.bor (gx (a8 av (a8 av (a8 av (a8 av (a8 av (a8 av aw)))))))) (JE.bor (jc aK hr fz (a8 (ai 0) (a8 (ai 1) (a8 av aw))))))) bN)) (dH 3 nJ.nd) (aN (eJ 2 (bM cu (af 2) (JE.bor (bJ hu1 (JE.bor hV) (JE.bor (jc aK hr fz (a8 (ai 0) (a8 (bM cu (JE.bor (bM cu (af 1) (JE.bor av))) (af 3)) (a8 av aw)))))))) nJ.nd))) (aN (bF (ai 2)))))
abbrev rX:cY:=oV 45
abbrev FI:List Str:=["_law_script","_law_at","_law_most","_law_found","_law_k"]
theorem qm:bA FI ["_law_script","_law_at","_law_most"] (ax rX):=dX (by decide +kernel)
abbrev xh (e:En):=FN e "_law_facts" 4 3 ny
theorem Dy (D:hX e.K e.mg "_law_facts" rX) (B:Bi e.mg) (kQ:uo e) (aK:dS e):xh e:=qz (k:=3) (g:=nw) D qm b3 fun _ _ _ _ _ _ _ hr=>by have hu1:=jb hr;unfold nw;exact (ay (jY 3 J4 qm.nd) (ay (pO rfl (pM rfl B.range (bj (JE.bor (jc aK hr fz (a8 (ai 0) (a8 (ai 1) (a8 (bM cu (af 2) (JE.bor av)) aw))))) bN)) (dH 4 qm.nd) (aN (J7 3 mz (jc kQ hr fz (a8 (ai 0) (a8 (bM cu (JE.bor (bM cu (af 1) (JE.bor av))) (JE.bor (bM ro (JE.bor av) (af 4)))) aw))) hu1))) (aN (bF (dR (iM rfl) rfl B.tuple bh (bj (JE.bor (bS KP rfl B.sorted wR (bj (JE.bor (dR (rH rfl) rfl B.list fc (bj (af 3) bN))) bN))) bN))))))
abbrev qo:cY:=oV 46
abbrev zX:List Str:=["_law_script","_law_at","_law_facts_here","_law_part"]
theorem FJ:bA zX ["_law_script","_law_at","_law_facts_here","_law_part"] (ax qo):=dX (by decide +kernel)
abbrev zY (e:En):=FN e "_law_some" 3 4 pY
theorem FK (D:hX e.K e.mg "_law_some" qo) (B:Bi e.mg) (aK:dS e):zY e:=qz (k:=2) (g:=pX) D FJ b4 fun _ _ _ _ _ _ _ hr=>by unfold pX;exact (aN (bF (dR (iM rfl) rfl B.tuple bh (bj (JE.bor (JN.je (fu (N':=["_law_k","_law_fact","_law_script","_law_at","_law_part"]) (ix:=[0,1,3]) 2 (by decide) rfl (c9 (so:=ax qo) (N:=zX) (by decide +kernel)) (LX.i (yV rfl B.enumerate (a8 (ai 2) aw))) (fun cl A0 s0 H0 ex pn=>⟨GG rfl (qW (cH (i:=0) (by show (["_law_k","_law_fact","_law_script","_law_at","_law_part"] : List Str).Nodup;decide +kernel) rfl (.inl rfl)) (qW (cH (i:=1) (by show (["_law_k","_law_fact","_law_script","_law_at","_law_part"] : List Str).Nodup;decide +kernel) rfl (.inl rfl)) Ce)),(sx (dg (Bm) (JE.bor (jc aK hr fz (a8 (ai 2) (a8 (bM cu (af 3) (af 0)) (a8 av aw))))) (af 4))),(ai 1)⟩)))) bN))))
abbrev kR:cY:=oV 47
abbrev qp:List Str:=["_law_script","_law_at","_law_facts_here","_law_name","_law_one","_law_two","_law_goal","_law_needs","_law_bars","_law_ends","_law_parts"]
theorem gX:bA qp ["_law_script","_law_at","_law_facts_here","_law_name"] (ax kR):=dX (by decide +kernel)
abbrev zZ (e:En):=FN e "_law_thin" 3 4 p_
theorem FL (D:hX e.K e.mg "_law_thin" kR) (B:Bi e.mg) (aK:dS e):zZ e:=qz (k:=2) (g:=pZ) D gX b4 fun _ _ _ _ _ _ _ hr=>by have hu1:=jb hr;have hu64:=hr.units;unfold pZ;exact (ay (eJ 4 (bJ hu1 (af 2) (JE.bor (jc aK hr px (a8 (ai 0) (a8 (bM cu (af 1) (JE.bor av)) (a8 (bS gy rfl B.len bv (bj (af 2) bN)) aw)))))) gX.nd) (ay (eJ 5 (bJ hu1 (af 2) (JE.bor (jc aK hr px (a8 (ai 0) (a8 (bM cu (af 1) (JE.bor av)) (a8 (bS gy rfl B.len bv (bj (af 2) bN)) aw)))))) gX.nd) (ay (eJ 6 (bJ hu1 (af 2) (JE.bor (jc aK hr px (a8 (ai 0) (a8 (bM cu (af 1) (JE.bor av)) (a8 (bS gy rfl B.len bv (bj (af 2) bN)) aw)))))) gX.nd) (ay (eJ 7 (jX (JE.bor (gx (a8 (ai 4) (a8 (ai 5) aw)))) lV (jW (bM cu (JE.bor av) (JE.bor (bM QB (JE.bor (jc aK hr px (a8 (ai 0) (a8 (bM cu (af 1) (JE.bor av)) (a8 av aw))))) (JE.bor av)))))) gX.nd) (ay (iN 8 (N':=["_law_fact","_law_needs","_law_script","_law_at"]) (ix:=[7,0,1]) 1 (by decide) gX.nd rfl (c9 (so:=ax kR) (N:=qp) (by decide +kernel)) (eT (JE.bor (gx (a8 (ai 6) aw)))) (fun cl A0 s0 H0 ex pn=>⟨cH (i:=0) (by show (["_law_fact","_law_needs","_law_script","_law_at"] : List Str).Nodup;decide +kernel) rfl (.inl rfl),(sx (JW.t (CN (dg (yR) (af 0) (af 1)) (xT (dg (rq hu64) (JE.bor (jc aK hr fz (a8 (ai 2) (a8 (bM cu (af 3) (JE.bor av)) (a8 av aw))))) (JE.bor av)))))),(ai 0)⟩)) (ay (iN 9 (N':=["_law_fact","_law_goal","_law_script","_law_at"]) (ix:=[6,0,1]) 1 (by decide) gX.nd rfl (c9 (so:=ax kR) (N:=qp) (by decide +kernel)) (eT (JE.bor (gx (a8 (ai 4) aw)))) (fun cl A0 s0 H0 ex pn=>⟨cH (i:=0) (by show (["_law_fact","_law_goal","_law_script","_law_at"] : List Str).Nodup;decide +kernel) rfl (.inl rfl),(sx (JW.t (CN (dg (rA hu64) (af 0) (af 1)) (xT (dg (rq hu64) (JE.bor (jc aK hr fz (a8 (ai 2) (a8 (bM cu (af 3) (JE.bor av)) (a8 av aw))))) (JE.bor av)))))),(ai 0)⟩)) (ay (Nw 8 (Nw 9 (iN 10 (N':=["_law_part"]) (ix:=[]) 1 (by decide) gX.nd rfl (c9 (so:=ax kR) (N:=qp) (by decide +kernel)) (eT (JE.bor (ft (a8 (ai 7) (a8 (ai 8) (a8 (gx (a8 (ai 6) aw)) (a8 (ai 9) aw))))))) (fun cl A0 s0 H0 ex pn=>⟨cH (i:=0) (by show (["_law_part"] : List Str).Nodup;decide +kernel) rfl (.inl rfl),ev,(dR (iM rfl) rfl B.tuple bh (bj (JE.bor (ub rfl (D5 rfl (af 0) rfl B.set) rfl B.sorted)) bN))⟩)))) (aN (bF (ft (a8 (ai 3) (a8 (bJ hu1 (af 10) (JE.bor av)) (a8 (bJ hu1 (af 10) (JE.bor av)) (a8 (bJ hu1 (af 10) (JE.bor av)) (a8 (bJ hu1 (af 10) (JE.bor av)) (a8 (jc aK hr px (a8 (ai 0) (a8 (ai 1) (a8 av aw)))) aw))))))))))))))))
abbrev lZ:cY:=oV 48
abbrev vH:List Str:=["_law_script","_law_at","_law_facts_here","_law_name","_law_parts","_law_k","_law_fact","_law_way","_law_some_here"]
theorem gN:bA vH ["_law_script","_law_at","_law_facts_here","_law_name"] (ax lZ):=dX (by decide +kernel)
abbrev vI (e:En):=FN e "_law_errand" 4 4 iV
theorem AN (D:hX e.K e.mg "_law_errand" lZ) (B:Bi e.mg) (aK:dS e) (uq:zZ e):vI e:=qz (k:=3) (g:=iU) D gN b4 fun _ _ _ _ _ _ _ hr=>by have hu1:=jb hr;have hu64:=hr.units;unfold iU;exact (ay (eL (JW.t (CN (dg (rA hu64) (af 2) (JE.bor (ft aw))) (xT (dg (rq hu64) (JE.bor (jc aK hr px (a8 (ai 0) (a8 av (a8 av aw))))) (JE.bor av))))) (aN (bF (jc uq hr px (a8 (ai 0) (a8 (ai 1) (a8 (ai 2) (a8 (ai 3) aw))))))) cf) (ay (T_ 4 gN.nd) (ay (pO rfl (yV rfl B.enumerate (a8 (ai 2) aw)) (u6 rfl (e7 (dH 5 gN.nd) (e7 (dH 6 gN.nd) pL))) (ay (eJ 7 (jc aK hr fz (a8 (ai 0) (a8 (bM cu (JE.bor (bM cu (af 1) (JE.bor av))) (af 5)) (a8 av aw)))) gN.nd) (ay (eL (dg (Bm) (af 7) (JE.bor av)) (aN (ze 4 (bJ hu1 (JE.bor (gx (a8 av (a8 av (a8 av aw))))) (af 7)) (ai 6))) cf) (ay (eJ 7 (jc aK hr fz (a8 (ai 0) (a8 (bM cu (JE.bor (bM cu (af 1) (JE.bor av))) (af 5)) (a8 av aw)))) gN.nd) (aN (eL (dg (Bm) (af 7) (JE.bor av)) (aN (ze 4 (bJ hu1 (JE.bor (gx (a8 av (a8 av (a8 av (a8 av aw)))))) (af 7)) (ai 6))) cf)))))) (ay (Nu (iN 8 (N':=["_law_part"]) (ix:=[]) 1 (by decide) gN.nd rfl (c9 (so:=ax lZ) (N:=vH) (by decide +kernel)) (eT (af 4)) (fun cl A0 s0 H0 ex pn=>⟨cH (i:=0) (by show (["_law_part"] : List Str).Nodup;decide +kernel) rfl (.inl rfl),ev,(dR (iM rfl) rfl B.tuple bh (bj (af 0) bN))⟩))) (aN (bF (ft (a8 (ai 3) (a8 (bJ hu1 (af 8) (JE.bor av)) (a8 (bJ hu1 (af 8) (JE.bor av)) (a8 (bJ hu1 (af 8) (JE.bor av)) (a8 (bJ hu1 (af 8) (JE.bor av)) (a8 (jc aK hr px (a8 (ai 0) (a8 (ai 1) (a8 av aw)))) aw)))))))))))))
abbrev qq:cY:=oV 49
abbrev z_:List Str:=["_law_script","_law_at","_law_most","_law_many","_law_facts_here","_law_made","_law_k","_law_name","_law_names","_law_turn"]
theorem iP:bA z_ ["_law_script","_law_at","_law_most","_law_many"] (ax qq):=dX (by decide +kernel)
abbrev A1 (e:En):=FN e "_law_book" 5 4 mF
theorem FM (D:hX e.K e.mg "_law_book" qq) (B:Bi e.mg) (rY:xh e) (kQ:uo e) (qr:vI e) (aK:dS e):A1 e:=qz (k:=4) (g:=mE) D iP b4 fun _ _ _ _ _ _ _ hr=>by have hu1:=jb hr;unfold mE;exact (ay (eJ 4 (jc rY hr px (a8 (ai 0) (a8 (ai 1) (a8 (ai 2) aw)))) iP.nd) (ay (jY 5 J4 iP.nd) (ay (pO rfl (pM rfl B.range (bj (JE.bor (jc aK hr fz (a8 (ai 0) (a8 (bM cu (af 1) (JE.bor av)) (a8 (bM cu (af 3) (JE.bor av)) aw))))) bN)) (dH 6 iP.nd) (ay (eJ 7 (jc kQ hr fz (a8 (ai 0) (a8 (bM cu (JE.bor (bM cu (af 1) (JE.bor av))) (JE.bor (bM ro (JE.bor av) (af 6)))) aw))) iP.nd) (aN (J7 5 (jc qr hr fz (a8 (ai 0) (a8 (bM cu (JE.bor (bM cu (af 1) (JE.bor av))) (JE.bor (bM ro (JE.bor av) (af 6)))) (a8 (ai 4) (a8 (ai 7) aw))))) (ai 7) hu1)))) (ay (eJ 8 (dR (rH rfl) rfl B.list fc (bj (af 5) bN)) iP.nd) (ay (eJ 9 (jc aK hr px (a8 (ai 0) (a8 (bM cu (af 1) (JE.bor av)) (a8 (bM cu (JE.bor (bS gy rfl B.len bv (bj (af 8) bN))) (JE.bor av)) aw)))) iP.nd) (aN (bF (ft (a8 (ai 4) (a8 (dR (iM rfl) rfl B.tuple bh (bj (JE.bor (JN.je (fu (N':=["_law_name","_law_made"]) (ix:=[5]) 1 (by decide) rfl (c9 (so:=ax qq) (N:=z_) (by decide +kernel)) (eT (JE.bor (bM cu (JE.bor (jX (af 8) (jW (ai 9)) lV)) (JE.bor (jX (af 8) lV (jW (ai 9))))))) (fun cl A0 s0 H0 ex pn=>⟨cH (i:=0) (by show (["_law_name","_law_made"] : List Str).Nodup;decide +kernel) rfl (.inl rfl),ev,(bJ hu1 (af 1) (af 0))⟩)))) bN)) aw))))))))))
abbrev ur:cY:=oV 50
abbrev Ih:List Str:=["_law_script","_law_at","_law_facts_here","_law_must","_law_bars","_law_k","_law_fact","_law_way"]
theorem jG:bA Ih ["_law_script","_law_at","_law_facts_here"] (ax ur):=dX (by decide +kernel)
abbrev A2 (e:En):=FN e "_law_want" 3 3 uf
theorem FO (D:hX e.K e.mg "_law_want" ur) (B:Bi e.mg) (aK:dS e):A2 e:=qz (k:=2) (g:=mG) D jG b3 fun _ _ _ _ _ _ _ hr=>by have hu64:=hr.units;unfold mG;exact (ay (jY 3 (u7 aw) jG.nd) (ay (jY 4 (u7 aw) jG.nd) (ay (pO rfl (yV rfl B.enumerate (a8 (ai 2) aw)) (u6 rfl (e7 (dH 5 jG.nd) (e7 (dH 6 jG.nd) pL))) (ay (eJ 7 (jc aK hr fz (a8 (ai 0) (a8 (bM cu (af 1) (af 5)) (a8 av aw)))) jG.nd) (aN (eL (dg (Bm) (af 7) (JE.bor av)) (aN (oP 3 (ai 6))) (aN (eL (dg (rq hu64) (af 7) (JE.bor av)) (aN (oP 4 (ai 6))) cf)))))) (aN (bF (ft (a8 (dR (iM rfl) rfl B.tuple bh (bj (af 3) bN)) (a8 (dR (iM rfl) rfl B.tuple bh (bj (af 4) bN)) aw))))))))
abbrev ut:cY:=oV 51
abbrev Ii:List Str:=["_law_script","_law_most","_law_many","_law_book_here","_law_state"]
theorem rZ:bA Ii ["_law_script","_law_most","_law_many"] (ax ut):=dX (by decide +kernel)
abbrev A3 (e:En):=FN e "_law_case" 6 3 q8
theorem FP (D:hX e.K e.mg "_law_case" ut) (uu:A1 e) (aK:dS e) (uv:zY e) (uw:A2 e):A3 e:=qz (k:=5) (g:=q0) D rZ b3 fun _ _ _ _ _ _ _ hr=>by have hu1:=jb hr;unfold q0;exact (ay (eJ 3 (jc uu hr px (a8 (ai 0) (a8 av (a8 (ai 1) (a8 (ai 2) aw))))) rZ.nd) (ay (eJ 4 (jc uv hr px (a8 (ai 0) (a8 av (a8 (bJ hu1 (af 3) (JE.bor av)) (a8 (bJ hu1 (JE.bor (gx (a8 av (a8 av aw)))) (JE.bor (jc aK hr px (a8 (ai 0) (a8 av (a8 av aw)))))) aw))))) rZ.nd) (aN (bF (ft (a8 (ai 3) (a8 (ai 4) (a8 (jc uw hr px (a8 (ai 0) (a8 av (a8 (bJ hu1 (af 3) (JE.bor av)) aw)))) aw))))))))
abbrev mO:cY:=oV 52
abbrev ux:List Str:=["_law_state","_law_want_here"]
theorem FQ:bA ux ["_law_state","_law_want_here"] (ax mO):=dX (by decide +kernel)
abbrev A4 (e:En):=FN e "_law_good" 1 2 qc
theorem FR (D:hX e.K e.mg "_law_good" mO) (B:Bi e.mg):A4 e:=qz (k:=0) (g:=q9) D FQ b2 fun _ _ _ _ _ _ _ hr=>by have hu1:=jb hr;unfold q9;exact (aN (bF (CQ (bS (pJ rfl) rfl B.all cJ (bj (JE.bor (JN.je (fu (N':=["_law_fact","_law_state"]) (ix:=[0]) 1 (by decide) rfl (c9 (so:=ax mO) (N:=ux) (by decide +kernel)) (eT (JE.bor (bJ hu1 (af 1) (JE.bor av)))) (fun cl A0 s0 H0 ex pn=>⟨cH (i:=0) (by show (["_law_fact","_law_state"] : List Str).Nodup;decide +kernel) rfl (.inl rfl),ev,(nZ (EB) (af 0) (af 1))⟩)))) bN)) (CO (Nb (bS (Nj rfl) rfl B.any yo (bj (JE.bor (JN.je (fu (N':=["_law_fact","_law_state"]) (ix:=[0]) 1 (by decide) rfl (c9 (so:=ax mO) (N:=ux) (by decide +kernel)) (eT (JE.bor (bJ hu1 (af 1) (JE.bor av)))) (fun cl A0 s0 H0 ex pn=>⟨cH (i:=0) (by show (["_law_fact","_law_state"] : List Str).Nodup;decide +kernel) rfl (.inl rfl),ev,(nZ (EB) (af 0) (af 1))⟩)))) bN)))))))
abbrev qt:cY:=oV 53
abbrev A5:List Str:=["_law_errand_here","_law_state","_law_left"]
theorem xi:bA A5 ["_law_errand_here","_law_state"] (ax qt):=dX (by decide +kernel)
abbrev uy (e:En):=FN e "_law_step" 2 2 fh
theorem FS (D:hX e.K e.mg "_law_step" qt) (B:Bi e.mg) (uz:A4 e):uy e:=qz (k:=1) (g:=qd) D xi b2 fun _ _ _ _ _ _ _ hr=>by have hu1:=jb hr;unfold qd;exact (ay (eL (gT (gL (jc uz hr px (a8 (ai 1) (a8 (jX (af 0) (jW av) (jW av)) aw))))) (aN (bF kL)) cf) (ay (iN 2 (N':=["_law_fact","_law_errand_here"]) (ix:=[0]) 1 (by decide) xi.nd rfl (c9 (so:=ax qt) (N:=A5) (by decide +kernel)) (eT (af 1)) (fun cl A0 s0 H0 ex pn=>⟨cH (i:=0) (by show (["_law_fact","_law_errand_here"] : List Str).Nodup;decide +kernel) rfl (.inl rfl),(sx (dg (yR) (af 0) (JE.bor (bJ hu1 (af 1) (JE.bor av))))),(ai 0)⟩)) (aN (bF (dR (iM rfl) rfl B.tuple bh (bj (JE.bor (ub rfl (D5 rfl (JE.bor (bM cu (af 2) (JE.bor (dR (rH rfl) rfl B.list fc (bj (JE.bor (bJ hu1 (af 0) (JE.bor av))) bN))))) rfl B.set) rfl B.sorted)) bN))))))
abbrev qu:cY:=oV 54
abbrev A6:List Str:=["_law_script","_law_at","_law_book_here","_law_state","_law_many","_law_row","_law_k","_law_some_here","_law_errand_here"]
theorem jH:bA A6 ["_law_script","_law_at","_law_book_here","_law_state","_law_many"] (ax qu):=dX (by decide +kernel)
abbrev A7 (e:En):=FN e "_law_walk" 3 5 mH
theorem FT (D:hX e.K e.mg "_law_walk" qu) (B:Bi e.mg) (jx:uy e) (aK:dS e):A7 e:=qz (k:=2) (g:=qe) D jH b5 fun _ _ _ _ _ _ _ hr=>by have hu1:=jb hr;have hu64:=hr.units;unfold qe;exact (ay (jY 5 (u7 aw) jH.nd) (ay (pO rfl (pM rfl B.range (bj (af 4) bN)) (dH 6 jH.nd) (ay (iN 7 (N':=["_law_errand_here","_law_state"]) (ix:=[3]) 1 (by decide) jH.nd rfl (c9 (so:=ax qu) (N:=A6) (by decide +kernel)) (eT (JE.bor (bJ hu1 (af 2) (JE.bor av)))) (fun cl A0 s0 H0 ex pn=>⟨cH (i:=0) (by show (["_law_errand_here","_law_state"] : List Str).Nodup;decide +kernel) rfl (.inl rfl),(sx (dg (Ex) (JE.bor (jc jx hr fz (a8 (ai 0) (a8 (ai 1) aw)))) (JE.bor kL))),(ai 0)⟩)) (ay (eL (dg (rq hu64) (af 7) (JE.bor (gx aw))) (aN (bF (ai 5))) cf) (ay (eJ 8 (bJ hu1 (af 7) (JE.bor (jc aK hr fz (a8 (ai 0) (a8 (bM cu (af 1) (af 6)) (a8 (bS gy rfl B.len bv (bj (af 7) bN)) aw)))))) jH.nd) (ay (oP 5 (bJ hu1 (af 8) (JE.bor av))) (aN (eJ 3 (jc jx hr fz (a8 (ai 8) (a8 (ai 3) aw))) jH.nd))))))) (aN (bF (ai 5)))))
abbrev l_:cY:=oV 55
abbrev vJ:List Str:=["_law_book_here","_law_state","_law_row","_law_named","_law_found","_law_number","_law_name","_law_other"]
theorem ip:bA vJ ["_law_book_here","_law_state","_law_row"] (ax l_):=dX (by decide +kernel)
abbrev vK (e:En):=FN e "_law_states" 3 3 fA
theorem AO (D:hX e.K e.mg "_law_states" l_) (B:Bi e.mg) (jx:uy e):vK e:=qz (k:=2) (g:=lW) D ip b3 fun _ _ _ _ _ _ _ hr=>by have hu1:=jb hr;unfold lW;exact (ay (jY 3 (BC rfl (JN.je (fu (N':=["_law_errand_here"]) (ix:=[]) 1 (by decide) rfl (c9 (so:=ax l_) (N:=vJ) (by decide +kernel)) (eT (JE.bor (bJ hu1 (af 0) (JE.bor av)))) (fun cl A0 s0 H0 ex pn=>⟨cH (i:=0) (by show (["_law_errand_here"] : List Str).Nodup;decide +kernel) rfl (.inl rfl),ev,(ft (a8 (bJ hu1 (af 0) (JE.bor av)) (a8 (ai 0) aw)))⟩))) rfl B.dict) ip.nd) (ay (jY 4 (u7 (a8 (ai 1) aw)) ip.nd) (ay (pO rfl (K_ rfl B.enumerate (a8 (ai 2) aw)) (u6 rfl (e7 (dH 5 ip.nd) (e7 (dH 6 ip.nd) pL))) (ay (eJ 7 (jc jx hr fz (a8 (bJ hu1 (af 3) (af 6)) (a8 (bJ hu1 (af 4) (JE.bor (Hk av))) aw))) ip.nd) (ay (eL (dg (Vl) (af 7) (JE.bor kL)) (aN (bF (ai 5))) cf) (aN (oP 4 (ai 7)))))) (aN (bF (ai 4))))))
abbrev lO:cY:=oV 56
abbrev xI:List Str:=["_law_script","_law_at","_law_facts_here","_law_some_here"]
theorem oZ:bA xI ["_law_script","_law_at","_law_facts_here"] (ax lO):=dX (by decide +kernel)
abbrev qB (e:En):=FN e "_law_bad_state" 3 3 jo
theorem wL (D:hX e.K e.mg "_law_bad_state" lO) (B:Bi e.mg) (aK:dS e):qB e:=qz (k:=2) (g:=ig) D oZ b3 fun _ _ _ _ _ _ _ hr=>by have hu1:=jb hr;have hu64:=hr.units;unfold ig;exact (ay (jY 3 (u7 (a8 kL (a8 (dR (rH rfl) rfl B.list fc (bj (af 2) bN)) (a8 (ft (a8 hV aw)) (a8 (bM cu (af 2) (JE.bor (ft (a8 hV aw)))) (a8 (ft (a8 av aw)) (a8 av (a8 hV (a8 (ft (a8 hV aw)) (a8 (ft (a8 kL aw)) aw)))))))))) oZ.nd) (ay (eL (dg (rA hu64) (af 2) (JE.bor (ft aw))) (aN (wt 3 (gx (a8 (bM cu (af 2) (af 2)) (a8 (bM cu (JE.bor (jX (af 2) lV (jW av))) (JE.bor (jX (af 2) lV (jW av)))) (a8 (ft (a8 (bJ hu1 (af 2) (JE.bor av)) (a8 av aw))) aw)))))) cf) (ay (eL (dg (IU) (JE.bor (bS gy rfl B.len bv (bj (af 2) bN))) (JE.bor av)) (aN (wt 3 (U6 3 (by decide) (a8 (U9 (af 2)) aw)))) cf) (aN (bF (bJ hu1 (af 3) (JE.bor (jc aK hr px (a8 (ai 0) (a8 (ai 1) (a8 (bS gy rfl B.len bv (bj (af 3) bN)) aw)))))))))))
abbrev k_:cY:=oV 57
abbrev tQ:List Str:=["_law_script","_law_at","_law_book_here","_law_names","_law_some_here"]
theorem mP:bA tQ ["_law_script","_law_at","_law_book_here"] (ax k_):=dX (by decide +kernel)
abbrev tR (e:En):=FN e "_law_bad_row" 3 3 kZ
theorem A8 (D:hX e.K e.mg "_law_bad_row" k_) (B:Bi e.mg) (aK:dS e):tR e:=qz (k:=2) (g:=jk) D mP b3 fun _ _ _ _ _ _ _ hr=>by have hu1:=jb hr;have hu64:=hr.units;unfold jk;exact (ay (iN 3 (N':=["_law_errand_here"]) (ix:=[]) 1 (by decide) mP.nd rfl (c9 (so:=ax k_) (N:=tQ) (by decide +kernel)) (eT (JE.bor (bJ hu1 (af 2) (JE.bor av)))) (fun cl A0 s0 H0 ex pn=>⟨cH (i:=0) (by show (["_law_errand_here"] : List Str).Nodup;decide +kernel) rfl (.inl rfl),ev,(bJ hu1 (af 0) (JE.bor av))⟩)) (ay (jY 4 (u7 (a8 kL (a8 (dR (iM rfl) rfl B.tuple bh (bj (af 3) bN)) (a8 (bM cu (af 3) (JE.bor (gx (a8 hV aw)))) (a8 (gx (a8 hV aw)) (a8 (gx (a8 kL aw)) (a8 (gx (a8 (gx (a8 hV aw)) aw)) (a8 hV (a8 av (a8 (gx (a8 av aw)) aw)))))))))) mP.nd) (ay (eL (dg (rA hu64) (af 3) (JE.bor (gx aw))) (aN (wt 4 (gx (a8 (On 65 (by decide) (af 3) lV (jW av)) (a8 (ft (a8 (bJ hu1 (af 3) (JE.bor av)) aw)) aw))))) cf) (aN (bF (bJ hu1 (af 4) (JE.bor (jc aK hr px (a8 (ai 0) (a8 (ai 1) (a8 (bS gy rfl B.len bv (bj (af 4) bN)) aw)))))))))))
abbrev r_:cY:=oV 59
abbrev FU:List Str:=["_law_book_here","_law_state","_law_row","_law_e"]
theorem vL:bA FU ["_law_book_here","_law_state","_law_row"] (ax r_):=dX (by decide +kernel)
abbrev xj (e:En):=FN e "_law_asked" 9 3 eg
theorem Dz (D:hX e.K e.mg "_law_asked" r_) (DA:JX e) (W:Wh e.P e.w e.K e.mg e.base e.cls "_law_which" Fy Ov) (NM:e.mg "NoRow"=some (.ref (e.cls "NoRow"))) (NR:NRk e.K (e.cls "NoRow")) (NO:∀ y j,Ov y=some j->y≠"NoRow"->∃ bm,wl e.base (e.cls y) bm/\bm.contains (.ref (e.cls "PlanError"))=true/\(bg (e.cls y)::bm).contains (.ref (e.cls "NoRow"))=false):xj e:=qz (k:=8) (g:=nz) D vL b3 fun _ _ _ _ _ _ _ hr=>by unfold nz;exact (aN (Ou 3 W NM NR NO (fun E1 xe1 pn1 hp=>(aN (bF (jc DA hr hp (a8 (ai 0) (a8 (ai 1) (a8 (ai 2) aw))))))) (hr.h.mono1) rfl rfl rfl vL.nd (by decide +kernel)))
abbrev s9:cY:=oV 60
abbrev J_:List Str:=["_law_script","_law_book_here","_law_state","_law_want_here","_law_names","_law_row","_law_place","_law_handed","_law_due","_law_prices"]
theorem lP:bA J_ ["_law_script"] (ax s9):=dX (by decide +kernel)
theorem Uy {f:ag}{fd:eX} (F:Gb e.K "law" "law" s9 f fd) (B:Bi e.mg) (uA:A3 e) (aK:dS e) (uB:A7 e) (qv:vK e) (ll:xj e) (DB:JZ e) (oy:tR e) (lQ:qB e):sY e.P e.w e.K e.mg e.base (jf e.P e.w) 10 f fd ["_law_script"] (S6 e.K e.cls 1 F_law):=by
 refine S9 (k:=9) (g:=Ju) F lP fun cdv A outer s H E hr=>?_
 have hu1:=jb hr
 have hu64:=hr.units
 unfold Ju
 exact (ay (C_ (jc uA hr px (a8 (ai 0) (a8 av (a8 av aw)))) (u6 rfl (e7 (dH 1 lP.nd) (e7 (dH 2 lP.nd) (e7 (dH 3 lP.nd) pL))))) (ay (iN 4 (N':=["_law_errand_here"]) (ix:=[]) 1 (by decide) lP.nd rfl (c9 (so:=ax s9) (N:=J_) (by decide +kernel)) (eT (JE.bor (bJ hu1 (af 1) (JE.bor av)))) (fun cl A0 s0 H0 ex pn=>⟨cH (i:=0) (by show (["_law_errand_here"] : List Str).Nodup;decide +kernel) rfl (.inl rfl),ev,(bJ hu1 (af 0) (JE.bor av))⟩)) (ay (eJ 5 (jc uB hr px (a8 (ai 0) (a8 av (a8 (ai 1) (a8 (ai 2) (a8 (jc aK hr px (a8 (ai 0) (a8 av (a8 (bJ hu1 (JE.bor (gx (a8 av (a8 av aw)))) (JE.bor (dR Ue rfl B.int oz (bj (JE.bor (nZ (rq hu64) (JE.bor (jc aK hr px (a8 (ai 0) (a8 av (a8 av aw))))) (JE.bor av))) bN)))) aw)))) aw)))))) lP.nd) (ay (eL (JW.t (CN (dg (rA hu64) (af 4) (JE.bor (gx aw))) (xT (dg (rq hu64) (JE.bor (jc aK hr px (a8 (ai 0) (a8 av (a8 av aw))))) (JE.bor av))))) (ay (eJ 6 (jc aK hr px (a8 (ai 0) (a8 av (a8 (bM cu (JE.bor (bS gy rfl B.len bv (bj (af 5) bN))) (JE.bor av)) aw)))) lP.nd) (aN (eJ 5 (bM cu (JE.bor (bM cu (JE.bor (jX (af 5) lV (jW (ai 6)))) (JE.bor (gx (a8 (bJ hu1 (af 4) (JE.bor (jc aK hr px (a8 (ai 0) (a8 av (a8 (bS gy rfl B.len bv (bj (af 4) bN)) aw)))))) aw))))) (JE.bor (jX (af 5) (jW (bM cu (af 6) (JE.bor (jc aK hr px (a8 (ai 0) (a8 av (a8 av aw))))))) lV))) lP.nd))) cf) (ay (eJ 7 (dR (rH rfl) rfl B.list fc (bj (af 5) bN)) lP.nd) (ay (eJ 8 (jc qv hr px (a8 (ai 1) (a8 (ai 2) (a8 (ai 5) aw)))) lP.nd) (ay (eL (gL (o0 (af 8) rfl B.isinstance rfl B.int oz (by decide))) (aN (eJ 8 (ft (a8 hV (a8 (ai 8) (a8 (ft (a8 hV (a8 av aw))) aw)))) lP.nd)) cf) (ay (eL (JW.t (tJ (dg (rA hu64) (JE.bor (jc ll hr px (a8 (ai 1) (a8 (ai 2) (a8 (ai 7) aw))))) (af 8)) (n_ (dg (rA hu64) (af 7) (af 5))))) (aN (bF mz)) cf) (ay (jY 9 (BC rfl (JN.je (fu (N':=["_law_errand_here"]) (ix:=[]) 1 (by decide) rfl (c9 (so:=ax s9) (N:=J_) (by decide +kernel)) (eT (JE.bor (bJ hu1 (af 1) (JE.bor av)))) (fun cl A0 s0 H0 ex pn=>⟨cH (i:=0) (by show (["_law_errand_here"] : List Str).Nodup;decide +kernel) rfl (.inl rfl),ev,(ft (a8 (bJ hu1 (af 0) (JE.bor av)) (a8 (bJ hu1 (af 0) (JE.bor av)) aw)))⟩))) rfl B.dict) lP.nd) (ay (eL (dg (rA hu64) (JE.bor (jc DB hr px (a8 (ai 1) (a8 (ai 5) aw)))) (JE.bor (bS (Oo rfl) rfl B.sum yq (bj (JE.bor (JN.je (fu (N':=["_law_name","_law_prices"]) (ix:=[9]) 1 (by decide) rfl (c9 (so:=ax s9) (N:=J_) (by decide +kernel)) (eT (af 5)) (fun cl A0 s0 H0 ex pn=>⟨cH (i:=0) (by show (["_law_name","_law_prices"] : List Str).Nodup;decide +kernel) rfl (.inl rfl),ev,(bJ hu1 (af 1) (af 0))⟩)))) bN)))) (aN (bF mz)) cf) (ay (eL (dg (rA hu64) (JE.bor (jc ll hr px (a8 (ai 1) (a8 (ai 2) (a8 (jc oy hr px (a8 (ai 0) (a8 av (a8 (ai 1) aw)))) aw))))) (JE.bor (ft (a8 hV (a8 kL (a8 (ft (a8 hV (a8 av aw))) aw)))))) (aN (bF mz)) cf) (aN (bF (nZ (rq hu64) (JE.bor (jc ll hr px (a8 (ai 1) (a8 (jc lQ hr px (a8 (ai 0) (a8 av (a8 (bJ hu1 (af 1) (JE.bor av)) aw)))) (a8 kL aw))))) (JE.bor (ft (a8 hV (a8 av aw))))))))))))))))))
end
end
section
theorem all_mk {l:xo}{w:bE}{K:a7}{h:bw}{mg:Str->Option ae}{fa A:ag}{lm:ag}{jI:ag}{sd:ag}{mQ:ag}{l5:ag}{vM:ag}{o_:ag}{pc:ag}{mR:ag}{pd:ag}{se:ag}{lr:ag}{od an:Option ag}{sl:Array (Option ae)}{oc kV dc pm cv ct:ae} (X:K.In h) (G:h.Ns bt mg) (hfa:mg "law"=some (.ref fa))
  (Zz:Zs K zn)
  (mJ:Cn mg "MOST_LETTERS" 6)
  (qj:Cn mg "MOST_PRICE" 9)
  (qk:Cn mg "MOST_FACTS" 6)
  (mK:Cn mg "MOST_ERRANDS" 6)
  (om:Cn mg "MOST_IN_ROW" 64)
  (Ws:R5 K Fy [lm,jI,sd,mQ,l5,vM,o_,pc,mR,pd,se])
  (BZ:TopC K "NoState" jI)
  (FV:TopC K "NoBook" lm)
  (nK:TopC K "PlanError" lr)
  (yb:W4 K "NoRow" l5 (W2 (oV 6) 0))
  (w_NoState:Wy K jI lr [(lm,false),(jI,true),(sd,false),(mQ,false),(l5,false),(vM,false),(o_,false),(pc,false),(mR,false),(pd,false),(se,false)])
  (w_NoBook:Wy K lm lr [(lm,true),(jI,false),(sd,false),(mQ,false),(l5,false),(vM,false),(o_,false),(pc,false),(mR,false),(pd,false),(se,false)])
  (w_NoRow:Wy K l5 lr [(lm,false),(jI,false),(sd,false),(mQ,false),(l5,true),(vM,false),(o_,false),(pc,false),(mR,false),(pd,false),(se,false)])
  (nr:NRk K l5)
  (Ij:bU K jI (.ref l5)=some false)
  (LC:bU K lm (.ref l5)=some false)
  (FW:hX K mg "_law_which" rO)
  (DC:hX K mg "share_none" lX)
  (LD:hX K mg "without" sO)
  (Pd:hX K mg "joined" zK)
  (LF:hX K mg "is_word" sP)
  (uC:hX K mg "are_rising_words" fU)
  (FX:hX K mg "are_facts" nG)
  (Ik:hX K mg "is_whole" ui)
  (FY:hX K mg "is_errand" nI)
  (LG:hX K mg "is_book" oW)
  (AQ:hX K mg "check_state" og)
  (xJ:hX K mg "errand_called" lM)
  (LH:hX K mg "fulfils" sQ)
  (FZ:hX K mg "is_doable" rR)
  (A9:hX K mg "state_behind" mL)
  (LJ:hX K mg "checked" wH)
  (AR:hX K mg "check_place" oh)
  (Pe:hX K mg "is_row" vD)
  (DD:hX K mg "errands_of" lY)
  (wM:hX K mg "states_through" kO)
  (RF:hX K mg "leads" Dv)
  (RG:hX K mg "price" y9)
  (AS:hX K mg "_law_cell_at" oq)
  (F_:hX K mg "_law_mixed" rW)
  (Il:hX K mg "_law_word" um)
  (G0:hX K mg "_law_facts" rX)
  (Im:hX K mg "_law_some" qo)
  (Io:hX K mg "_law_thin" kR)
  (DE:hX K mg "_law_errand" lZ)
  (Ip:hX K mg "_law_book" qq)
  (Iq:hX K mg "_law_want" ur)
  (Ir:hX K mg "_law_case" ut)
  (Iu:hX K mg "_law_good" mO)
  (Iv:hX K mg "_law_step" qt)
  (Iw:hX K mg "_law_walk" qu)
  (DF:hX K mg "_law_states" l_)
  (xK:hX K mg "_law_bad_state" lO)
  (AT:hX K mg "_law_bad_row" k_)
  (G1:hX K mg "_law_asked" r_)
  (l0:gE K bt "law"=some (some (.ref A)))
  (l1:K.lookup A=some ⟨oc,od,.func (eO "law" "law" (kU s9) (hJ s9) (ax s9) .none kV dc pm an cv ct),sl⟩)
  (l2:jO K cv "law"=true)
  (l3:d_ K (.ref A)=true)
  : ∃ fd:eX,(∀ (s:ah) (v:ae),wN s fd ⟨[v],[]⟩ [("_law_script",v)])/\∀ base:bw,K.In base->base.Ns bt mg->sY l.prog w K mg base (jf l.prog w) 10 fa fd ["_law_script"] (Vy K F_law):=by
 have q:=hfa.symm.trans (il X G l0)
 cases q
 refine ⟨eO "law" "law" (kU s9) (hJ s9) (ax s9) .none kV dc pm an cv ct,fun s v=>.of_eq rfl,fun base X G=>?_⟩
 let e:En:=⟨l.prog,w,K,mg,base,Vz [("NoBook",lm),("NoState",jI),("NoWant",sd),("NoErrand",mQ),("NoRow",l5),("NoWay",vM),("NoPaper",o_),("NoFacts",pc),("NoNumber",mR),("Nothing",pd),("NoText",se),("PlanError",lr)]⟩
 have B:Bi e.mg:=VV X G Zz
 have wD:ER e "NoState":=BZ.er X G rfl
 have zQ:ER e "NoBook":=FV.er X G rfl
 have sR:Hy "NoRow" (e.cls "NoRow") e.mg e.base:=yb.own X G
 obtain ⟨fw,fdw,Fw,mw⟩:=FW.ex
 have W:Wh e.P e.w e.K e.mg e.base e.cls "_law_which" Fy Ov:=by
  refine ⟨⟨_,_,_,AF (e:=e) Fw B (VW X G Zz) (VX X G Ws rfl),mw,Fw.kp,b1 Fw⟩,il X G nK.ns,?_,fun y j h=>?_⟩
  ·obtain ⟨bm,o,_⟩:=(Ho X G nK.ns nK.ex nK.mb).2
   exact ⟨bm,o⟩
  unfold Ov at h
  by_cases hy:y="NoState"
  ·subst hy
   simp at h
   subst h
   exact SG X G BZ w_NoState Ws rfl rfl rfl rfl rfl (by decide) (by decide)
  rw [if_neg hy] at h
  by_cases hy:y="NoBook"
  ·subst hy
   simp at h
   subst h
   exact SG X G FV w_NoBook Ws rfl rfl rfl rfl rfl (by decide) (by decide)
  rw [if_neg hy] at h
  by_cases hy:y="NoRow"
  ·subst hy
   simp at h
   subst h
   exact Jt yb.mb (yb.ox X) w_NoRow Ws rfl rfl rfl rfl rfl (by decide) (by decide)
  rw [if_neg hy] at h
  cases h
 have NM:e.mg "NoRow"=some (.ref (e.cls "NoRow")):=il X G yb.ns
 have NR:NRk e.K (e.cls "NoRow"):=nr
 have NO:∀ y j,Ov y=some j->y≠"NoRow"->∃ bm,wl e.base (e.cls y) bm/\bm.contains (.ref (e.cls "PlanError"))=true/\(bg (e.cls y)::bm).contains (.ref (e.cls "NoRow"))=false:=by
  intro y j h hn
  obtain ⟨bm,o1,o2⟩:=(W.xf y j h).ox
  refine ⟨bm,o1,o2,?_⟩
  unfold Ov at h
  by_cases hy:y="NoState"
  ·subst hy;exact Ot X o1 Ij
  rw [if_neg hy] at h
  by_cases hy:y="NoBook"
  ·subst hy;exact Ot X o1 LC
  rw [if_neg hy] at h
  rw [if_neg hn] at h
  cases h
 have i3:=AH (e:=e) DC B
 have wG:=HW (e:=e) LD B
 have zP:=Ly (e:=e) Pd B
 have mh:=HY (e:=e) LF B mJ
 have eK:=t6 (e:=e) uC B mh
 have jF:=Dr (e:=e) FX B eK
 have uj:=FC (e:=e) Ik B
 have rQ:=Ds (e:=e) FY B mh uj jF i3 qj
 have wJ:=H_ (e:=e) LG B eK rQ qk mK
 have oj:=zN (e:=e) AQ jF wD
 have gD:=wE (e:=e) xJ B
 have wF:=I0 (e:=e) LH B i3
 have rV:=Du (e:=e) FZ wF
 have mM:=xH (e:=e) A9 wG zP
 have mi:=Ie (e:=e) LJ wJ zQ
 have oo:=zS (e:=e) AR mi oj
 have zT:=LB (e:=e) Pe B gD om
 have iW:=AL (e:=e) DD zT gD sR
 have kP:=vF (e:=e) wM rV mM
 have DA:=Pa (e:=e) RF B oo iW kP sR
 have DB:=Pc (e:=e) RG B mi iW
 have ou:=zW (e:=e) AS B
 have aK:=Dw (e:=e) F_ ou
 have kQ:=FH (e:=e) Il B aK
 have rY:=Dy (e:=e) G0 B kQ aK
 have uv:=FK (e:=e) Im B aK
 have uq:=FL (e:=e) Io B aK
 have qr:=AN (e:=e) DE B aK uq
 have uu:=FM (e:=e) Ip B rY kQ qr aK
 have uw:=FO (e:=e) Iq B aK
 have uA:=FP (e:=e) Ir uu aK uv uw
 have uz:=FR (e:=e) Iu B
 have jx:=FS (e:=e) Iv B uz
 have uB:=FT (e:=e) Iw B jx aK
 have qv:=AO (e:=e) DF B jx
 have lQ:=wL (e:=e) xK B aK
 have oy:=A8 (e:=e) AT B aK
 have ll:=Dz (e:=e) G1 DA W NM NR NO
 exact (Uy (e:=e) (MB l1 l2 l3) B uA aK uB qv ll DB oy lQ).imp U2
end
end Z
section
open PySem PySem.W PyProof.Rows
namespace PySem.W.Fast
def tw17494501098935919393:Nat:=0
def tw5361722888653818165:Nat:=0
def tw1471210072806417630:Nat:=0
def tw3217227575245414009:Nat:=0
def tw4408696693393919824:Nat:=0
def tw13730129861599499581:Nat:=0
def tw12059456707673692081:Nat:=0
def tw1489084410603257087:Nat:=0
def tw7904303234802662189:Nat:=0
def tw9256805813067753869:Nat:=0
def tw16820369094941124152:Nat:=0
def tw6211015038693257434:Nat:=0
def tw4483002915621012496:Nat:=0
def tw17311771458818973367:Nat:=0
def tw15047734090523544482:Nat:=0
def tw13815761772923522749:Nat:=0
def tw10418136484427114796:Nat:=0
def tw874565364903997745:Nat:=0
def tw11956707263937032009:Nat:=0
def tw12697360877916306620:Nat:=0
def tw8330685640344751400:Nat:=0
def tw4123497885203953903:Nat:=0
def tw10975350635313637985:Nat:=0
def tw2149909188810282131:Nat:=0
def tw9304233322526056994:Nat:=0
def tw9476645675403897255:Nat:=0
def tw14421806763677793559:Nat:=0
def tw10701464005731390381:Nat:=0
def tw5312550959059941044:Nat:=0
def tw11832583270842997908:Nat:=0
def tw7252615225066101043:Nat:=0
def tw210475841822191537:Nat:=0
def tw17157407422721637992:Nat:=0
def tw15446845669863142538:Nat:=0
def tw2844519204492115160:Nat:=0
def tw10679369755057065403:Nat:=0
def tw13357043761198813013:Nat:=0
def tw2150218101665896014:Nat:=0
def tw4309430318623575947:Nat:=0
def tw8212563646094304500:Nat:=0
def tw12114476135655925630:Nat:=0
def tw1245713464447893262:Nat:=0
def tw8261702120310255326:Nat:=0
def tw10834414237014657753:Nat:=0
def tw2996256429516819414:Nat:=0
def tw6398048397772132253:Nat:=0
def tw10622393784615044499:Nat:=0
def tw3774609033693948429:Nat:=0
def tw18215853722302540433:Nat:=0
def tw8424510767941276629:Nat:=0
def tw17466398518384878246:Nat:=0
def tw12883794163487767247:Nat:=0
def tw7153262295975481244:Nat:=0
def tw12518767754899732595:Nat:=0
def tw1525440658228279445:Nat:=0
def tw12243687814002571071:Nat:=0
def tw5943728849666879796:Nat:=0
def tw18239958885353123712:Nat:=0
def tw9472608549053987941:Nat:=0
def tw178369268596593184:Nat:=0
def tw17278825506682917843:Nat:=0
def tw4765496458121988525:Nat:=0
def tw7869970571333521220:Nat:=0
def tw2613594029901537753:Nat:=0
def tw17619833176494286773:Nat:=0
def tw1907570779798127585:Nat:=0
def tw16119388775453760973:Nat:=0
def tw3206125358821735808:Nat:=0
def tw13561399126195164236:Nat:=0
def tw1114843963879702797:Nat:=0
def tw11950887278143686861:Nat:=0
def tw4333228878361076128:Nat:=0
def tw5654532955128186254:Nat:=0
def tw17526592649167342176:Nat:=0
def tw10927087159880365720:Nat:=0
def tw13232296256352645431:Nat:=0
def tw15811454454994531131:Nat:=0
def tw1018398086517137858:Nat:=0
def tw10288470165979886958:Nat:=0
def tw18196576032798728292:Nat:=0
def tw1534810304320559175:Nat:=0
def tw7288483844659416520:Nat:=0
def tw5351925024479416011:Nat:=0
def tw10788176848547168551:Nat:=0
def tw11649157692342426618:Nat:=0
def tw3316939467896990255:Nat:=0
def tw12063400983405273738:Nat:=0
def tw15568127267565469777:Nat:=0
def tw3682826719916775337:Nat:=0
def tw5395155196821498217:Nat:=0
def tw8988600456168708526:Nat:=0
def tw15606601304910402786:Nat:=0
def tw6504087450881671214:Nat:=0
def tw11581183309501045248:Nat:=0
def tw8225256567886435630:Nat:=0
def tw18354429624687579241:Nat:=0
def tw16650645440634538682:Nat:=0
def tw15101808450401681523:Nat:=0
def tw18213030395333697025:Nat:=0
def tw14054080659000787545:Nat:=0
def tw6403355238147502865:Nat:=0
def tw18234786950873163105:Nat:=0
def tw4872552593682412819:Nat:=0
def tw4523529657950767330:Nat:=0
def tw6122526553579043392:Nat:=0
def tw2734012333686964073:Nat:=0
def tw14946586022645585587:Nat:=0
def tw10664505613697624128:Nat:=0
def tw8672009864080836961:Nat:=0
def tw9543415229728615097:Nat:=0
def tw13650969854134655382:Nat:=0
def tw1079995104237493857:Nat:=0
def tw3723938006525045674:Nat:=0
def tw1374925805640133366:Nat:=0
def tw14792252990617824439:Nat:=0
def tw1663989586387708822:Nat:=0
def tw1254248340914411264:Nat:=0
def tw1562613977300369722:Nat:=0
def tw10475949192157692530:Nat:=0
def tw18379934113919052384:Nat:=0
def tw14292684470232655130:Nat:=0
def tw3128660791751172959:Nat:=0
def tw8216584951141148530:Nat:=0
end PySem.W.Fast
theorem PySem.Challenge.cw_errands_k04_leads_holds : PySem.Challenge.rw_errands_k04_leads.Holds := by
 w_on;o_law;k_head;(case hw=>w_witness2)
 k_fill
 refine J.walkF (l:=PySem.Challenge.rw_errands_k04_leads) (k:=10) (x:="_law_script") (F0:=Z.F_law) rfl rfl ⟨rfl,by decide,by decide⟩ (fun w h Y=>by first|exact PySem.W.kIn_of Y|exact PySem.W.km_in_of Y) ?F (fun ns _=>Z.law_true ns)
 case F =>
  intro w mg fa h KX G hmg
  refine' Z.all_mk KX G hmg ?_ ?_ ?_ ?_ ?_ ?_ ?_ ?_ ?_ ?_ ?_ ?_ ?_ ?_ ?_ ?_ ?_ ?_ ?_ ?_ ?_ ?_ ?_ ?_ ?_ ?_ ?_ ?_ ?_ ?_ ?_ ?_ ?_ ?_ ?_ ?_ ?_ ?_ ?_ ?_ ?_ ?_ ?_ ?_ ?_ ?_ ?_ ?_ ?_ ?_ ?_ ?_ ?_ ?_ ?_ ?_ ?_ ?_ ?_ ?_
  all_goals first
   |(refine' J.d_in KX G ?_ ?_ ?_ ?_<;>try k_is)
   |(refine' J.cn_in KX G ?_<;>try k_is)
   |(refine' L2.NRk.mk ?_ ?_<;>try k_is)
   |k_is
   |(refine' J.TopC.mk ?_ ?_ ?_<;>try (first|k_is|k_exc))
   |(refine' J.topN ?_ ?_ ?_ ?_ ?_ ?_ ?_ ?_ ?_ ?_ ?_ ?_ ?_ ?_ ?_ ?_ ?_ ?_ ?_ ?_ ?_ ?_ ?_<;>try (first|k_is|rfl|exact fun _ _=>⟨_,rfl,rfl⟩|decide +kernel))
   |((refine' J.Wy.mk ?_ ?_ ?_ ?_ ?_ ?_ ?_ ?_ ?_ ?_)<;>try (first|k_is|decide|((repeat' (first|exact .nil|refine' .cons ?_ ?_ ?_))<;>try (first|k_is|decide))))
   |((repeat' (first|exact .nil|refine' .cons ?_ ?_))<;>try (first|(refine' J.cw_in ?_ ?_ ?_<;>try k_is)|k_is))
   |skip
end
