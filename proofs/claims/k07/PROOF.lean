import PyProof.Rows.All
import Wide.All
import OpenK.AllK
import Wide.FinOn
import Lean
import PyProof.EqAt
import PyProof.EqKinds
import PyProof.TupleCall
import KE.KDictOf
import PyProof.AttrMissHeap
import KE.KRevIter
import PyProof.DictWalks
import PyProof.MinMaxWalk
import PyProof.SeqI3
import PyProof.WalkInts
import PyProof.ExcInit
import PyProof.InstStoreFacts
import PyProof.DictCompW
import PySem.Challenge.RW_errands_k07_whole_reached
set_option Elab.async false
set_option linter.all false
set_option maxRecDepth 100000
set_option maxHeartbeats 0
open PySem renaming wpAny_bind->a7,wpAny_pure->a9,Value->ac,Addr->aj,Shared->ao,wpAny->ar,model->av,starEach->az,cellsFrom->bn,Program->bu,wpAny_mono->bB,mainGlobals->bC,wpAny_setState_of->bD,compareOp->bG,Heap->bK,wpAny_call_entry->bO,World->bQ,wpAny_newObj_type->bS,Expr->bZ,wpAny_holding->cc,Around->cf,rawInt->cq,wpAny_callSpecial?_slot->cx,boot_len->cA,wpAny_rule->cW,wpAny_truthy_bool->dC,mem_of_lookup->dL,eval->dO,Stmt->dY,wpAny_field->dZ,codeAny_builtin->eA,FuncData->eI,wpAny_of_eq->eK,foldedSetIterable->eV,wpAny_seqItems->eW,sysModules->fA,fits_of_scanBound->fY,backTo->gG,cLine->gM,wpAny_isInstance->gO,wpAny_pyIter_tuple->gX,binaryOp->gY,wpAny_setField->gZ,Builtin->h_,Scope->i5,letOwnedTupleGo->ii,sizeLine_eq->ik,behindInMarks->ir,wpAny_attempt->iu,codeAny->iK,swapsWith->iO,wpAny_askSetting->iP,setField->iQ,strIterType->j7,wpAny_typeNameOfWhole_keyiter->j9,bootBuiltins->ja,assignEach->jb,wpAny_setField_rec->jh,wpAny_passesOwn->jr,wpAny_standAt->jA,scanBound->jD,wpAny_storeSet_of->jL,pyNext->kH,plainId_quiet->lc,wpAny_Call_Name_kw->lv,IsPair->lA,wpAny_pyIter_list->mz,NameKind->mB,wpAny_typeOf->mD,SetTable->mE,firstArgMember->mF,sliceBounds->nV,wpAny_execs_nil->oT,codeAny_mono->pK,pickOrder->qf,tupleKind_room_in1->qk,getItem->rN,wpAny_pyIter_enum->rP,assign->rT,wpAny_comprehension_free->rX,tupleKind->ua,DictEntry->ub,raiseNew->uc,newExc->uG,pushCells_keeps->vp,builtinLookup_eq_fast->vF,isTrue->wR,IsPart->wS,newFunctionEnv->wU,relayAll->wV,codeAny_call_builtin->wW,unsupported->wX,isSubtype_stop->wY,IsZip->wZ,wpAny_updateSeq_pair->w_,standAt->xO,BindsTo->xP,callerA->xQ,swapsWithSole->yJ,swappedStores->yK,wpAny_onRaise->yP,pyIter->zi,wpAny_call->zk,typeLookup->zm,call_meets->zo,isInstance->zr,concat_meets->A_,valueAt->B0,wpAny_pyIter_slot->B6,collect->B8,wpAny_dictEntries->Bd,wpAny_eqBool_str->Da,noFill_tuple_add->Db,noteFrame->Dc,PyData->Df,subscripted->EM,codeAny_of_tree->EW,typeLookup_type->EX,wpAny_dictEpoch->EZ,holding->Ht,Keyword->Hu,Paired->HI,GenState->HL,bindName->HM,recursionLimit->HQ,bindL->HR,bindC->HS,wpAny_newFunctionEnv_cells->HU,stored->HW,atKey->HX,wpAny_runValue->HY,entryFor->HZ,entryFor_alias->H_,isSubtype_type->Ic,wpAny_fieldsOf->Ie,field->Ig,wpAny_letOwnedTupleGo_enum->Ih,assignInOrder->Lw,seq_tuple_add->Lz,attributeBase->LC,call->LD,wpAny_handled->LG,wpAny_newList->LH,Drawn->Nk,lastMarks->Nl,Walks->No,seqItems?->Nq,sub_set_self->NH,setNext->NI,wpAny_isTrue_Compare1->Rn,codeAny_call_function->Ro,wpAny_notOrdered_dict->Rt,wpAny_isOneOf_keyiter->Ru,again->RC,bindArgs->RE,keywordEach->RF,wpAny_alloc->RH,newTuple->RK,wpAny_throw->RL,ZipApart->RM,wpAny_letGo->RO,getAttr?->RQ,wpAny_pyIter_keyiter->RY
open PySem.W renaming Frag->a8,mroIn->cF,kia_one->cP,keepIn->cY,kitOne->dQ,fnOf->f9,nsMap_none_of_in->fe,cellsFrom_some->fL,nsIn->gP,clsIn->g_,findIn->i8,mg_of->jN,codeIn->kJ,isNs_of_in->nh,subIn->oW,looks_findIn->rZ,callWith_K->uE,codeRec_of->uF,methodObj->vy,specialIn->vz,kitx_list->vA,instObj->yp,takesIn->yr,OpenLaw->yt,lookIn->zj,typeIn->zt,excIn->Bb,hideAll_get->Hr,of_hideAll->HK,kitx_tuple->HN,mg_none_of->Im,kitx_dict->JP,plainGet->Ly,hideAll->Nj,kitCls->NL,nsOkIn->NO,WalkO->Rp,Looks->Rq
open PySem.Heap renaming get?_push_of_some->aa,lt_size->aq,get?_push_size->aw,SameBut->bI,size_push->cm,get?_update_other->fX,get?_update_self->gI,size_update->yQ,IsTuple->Hy,ExtBut->JQ,get?_push_ne->NS
open List renaming mem_cons_of_mem->ag,length_map->ah,getElem?_set_ne->ak,mem_cons_self->al,map_cons->ax,getElem?_eq_getElem->aE,getElem?_map->aF,getElem?_set_self->aJ,size_toArray->aK,mem_append_right->aM,mem_cons->aN,length_append->aO,length_cons->aW,not_mem_nil->aZ,map_append->bd,mem_append_left->bg,getElem?_append_left->bi,getElem?_append_right->br,mem_map_of_mem->bt,range->bE,map_map->bJ,append_nil->bT,length_nil->bU,getElem?_replicate->bW,mem_singleton->c9,find?_cons->cj,all_eq_true->cy,mem_of_getElem?->cC,getElem?_eq_none->cQ,foldl_cons->db,lookup_cons->dk,length_replicate->dq,length_singleton->du,append_assoc->dR,any_cons->eJ,mem_map->eL,extract_eq_drop_take'->eN,mem_append->eT,map_nil->ft,length_range->fG,getElem_of_mem->fR,nodup_nil->gC,getD_eq_getElem?_getD->gE,perm_ext_iff_of_nodup->gF,take_append_drop->gK,pairwise_append->i0,map_congr_left->il,getElem_mem->io,nodup_cons->iX,mem_filter->iY,length->jC,sublist_append_left->kh,forIn_cons->kw,nil_append->kC,pairwise_cons->kG,getElem?_cons_succ->kK,take_of_length_le->lr,mem_iff_getElem?->lY,pairwise_reverse->lZ,length_filter_le->l_,any_eq_true->mn,getElem_map->ms,mem_reverse->my,filterMap_cons->ng,all_map->nR,replicate->o6,filterMap_map->o7,forIn_nil->o9,contains_cons->oj,drop_eq_getElem_cons->pH,getElem?_eq_some_iff->pI,pairwise_iff_getElem->pJ,reverse_perm->pM,of_mem_zip->rV,length_zip->r_,foldl_map->ur,reverse_append->vv,filter_sublist->vw,all_cons->vD,getElem?_drop->wN,zip_cons_cons->wO,set_cons_zero->wP,set_cons_succ->wQ,ext_getElem?->xS,map->xT,any_map->xU,pairwise_of_forall_mem_list->xV,length_filterMap_eq_countP->yw,length_take->yL,length_drop->yM,ext_getElem->yN,zipIdx_cons->yO,lookup->zq,length_eraseIdx_of_lt->BX,drop_drop->B_,length_erase_of_mem->EQ,getElem?_cons_zero->EY,pairwise_singleton->E_,drop_of_length_le->Hx,reverse_singleton->HC,length_pos_of_mem->HE,mem_erase_of_ne->JX,getElem?_range->LJ,replicate_succ->LO,replicate_zero->LP,lookup_append->Nm,map_inj_right->Nv,getElem_range->Nw,getElem?_take->Nx,any_eq_false->ND,nodup_append->NG,take_add_one->NQ,mapM_toArray->NR,getElem_inj->Rm,countP_cons->Rv,map_snd_zip->Rw,cons_append->Rx,zipIdx_nil->RN
open Nat renaming le_refl->ap,ne_of_lt->aB,lt_of_lt_of_le->aC,le_of_lt->bw,le_trans->bL,lt_irrefl->bY,zero_le->cG,lt_or_ge->cZ,ne_of_gt->dv,lt_trans->e7,zero_add->e8,lt_succ_self->eu,lt_succ_of_lt->eP,eq_zero_or_pos->gJ,le_succ->iL,lt_succ_of_le->lz,not_lt_zero->ni,min_eq_left->nj,add_zero->nW,min_le_right->rH,lt_of_le_of_lt->wT,lt_asymm->yu,le_of_lt_succ->yv,le_succ_of_le->yA,mod_lt->Dd,mul_comm->Ij,succ_pos->Ik,lt_of_succ_lt_succ->Il,min_self->Ip,add_lt_add_right->LK,le_of_not_lt->RG,le_add_right->RP,reduceLeDiff->S0,reduceEqDiff->S1
open Array renaming length_toList->au,getElem?_toList->aL,getElem?_eq_getElem->bz,toList_append->cu,getElem?_eq_none->cB,getElem?_eq_some_iff->gy,toList_extract->hG,getElem?_extract->iG,toList_push->j0,getD_eq_getD_getElem?->j8,size_map->lf,eq_empty_of_size_eq_zero->lX,toList_reverse->ug,all_toList->yy,toList_inj->yz,replicate->zu,toList_setIfInBounds->Bc,size_setIfInBounds->Dg,toArray_toList->Ii,append_assoc->Lv,find?_toList->Lx,forIn_toList->LL,size_extract->LM,toList_zip->NT
open PyProof.Rows renaming wpS_bind->aA,arrOf->aR,wpS_pure->aT,boot_tuple->bx,pendingOf->bV,boot_all->cH,Keyed->cJ,wpS_forRange->df,SortSt->eQ,boot_sorted->eR,wpS_mono->eX,callWith_type1->fu,slot_tuple_getitem->gH,seqObj->jJ,boot_list->jW,envOfC->jZ,boot_isinstance->lm,wpS_get->nQ,SortKind->nX,wpS_modify->qm,AllBare->rM,StrsAre->rO,wpS_lift->uf,isBoolOf->xa,failedOf->xc,assignInOrder_cons->zh,boot_any->zw,mem_zip_self->Be,minRun'->HD,IsTup->HJ,mirror->Io,subscriptTail->LA,listUpdate_at->LN,subscriptTail_builtinR->NE,IntsAre->NF,seqEpoch_at->R_
open PySem.PyData renaming str->aU,eqv->bq,tuple->cn,canLayAll0->cz,bool->cU,int->d_,canLay0->eG,eqvAll->fi,list->fW,depthAll->yR,depth->ES,none->HA,dict->HB
open Bool renaming and_eq_true->aY,false_ne_true->a_,false_eq_true->bA,eq_iff_iff->iU,not_false->jE,not_true->kg,or_eq_true->kA,noConfusion->mq,and_self->mG,and_false->o8,beq_eq_decide_eq->tj,false_or->vE,true_and->vG,false_and->BV,or_eq_false_iff->JU,not_eq_true'->NK
open PySem.Value renaming ref->bf,none->e6,bool->jo,type->jq,str->kF,int->qi,isStrOf->vn
open PySem.Heap.SameBut renaming update->bP
open Option.some renaming inj->bR,injEq->EO
open PySem.NameKind renaming free->cD,cell->el,«local»->rR
open PySem.SetTable renaming sizeAbove->cE,grown->j5,below->j6,fits->og,bits->om,turns->rQ,layClean->vq,laid->AZ,orStandIn->Hw,relaid->LF,fill->NM,road->NN
open PySem.Builtin.SmallTypes renaming nextOf->cO,ownedTupleIsFree->fc,ownedTupleHandOut->oh
open Ne renaming symm->cV
open Option renaming map_some->da,getD_none->ij,getD_some->lO,bind_some->qg,isSome_some->vo,isSome_map->wM
open PySem.Around renaming under_plainId->dB
open PySem.SetTable.layClean renaming free->dX
open Or renaming inr->eF,inl->hZ
open PySem.Obj renaming mapFields->eM,mapSeq->i9,putSet->rY,data_mapFields->NJ
open Int renaming toNat_of_nonneg->eS,toNat_natCast->lw,emod_lt_of_pos->oX,eq_ofNat_of_zero_le->rJ,emod_nonneg->tm,reduceLT->Iq
open False renaming elim->e_
open List.Sublist renaming refl->fg
open PySem.F renaming plainAttrs_list->fv,slot_dict_keyiterator_next->f_,slot_tuple_iterator_next->jM,args_tuple_add_2->oU,entry_tuple_add->pL,slot_tuple_add->qj,plain_list_iadd->ro,args_dict_keyiterator_next_1->ue,slot_zip_next->uq,entry_dict_keyiterator_next->ut,slot_tuple_lt->uu,slot_list_append->B9,type_list_append->Ba,slot_list_extend->Bf,type_list_extend->Bg,slot_list_count->BY,slot_list_index->BZ,args_tuple_iterator_next_1->De,slot_dict_iter->Dh,entry_tuple_iterator_next->EN,entry_proto_collect->Nr,plain_proto_collect->Nt,slot_enumerate_next->Nu
open PySem.Heap.FunFrames renaming mem->fF
open ForInStep renaming yield->gD
open PySem.AutoSeq1 renaming wpAny_loadPart'->gN
open PySem.Str renaming ofString->i4
open Sum renaming inr->im,inl->yo
open PySem.Builtin.Slice renaming slicePlaces->iV,sliceAdjust->mC,sliceApplied->vB
open PyProof.Rows.F renaming plain_set_update_loop->iW,entry_set_update_loop->qe
open PySem.Builtin.Tuple renaming tupleExact->jg,tupleItemsOf->vC
open True renaming intro->jB
open PySem.Paired renaming length->jV
open PySem.Builtin.Frozenset renaming updateFrom->kz,isAnySet->ud,sizeOf->uH,copyOf->uI,newClass->RI,oneOther->RS,addrOf->RT,slot1->RU,baseOf->RV,merge->RW,unchanged->RX
open PySem.Builtin.List renaming listExtendWith->lN,listTooLong->n5,listSameRef->xR
open PySem.Builtin.Dict_items renaming ownsTuple->n6
open PySem.Calls renaming Name_function_global->nU,call_function_entry->oV,loadGlobal_global->EL,evalArgs_plain->HV
open List.Perm renaming trans->qh,of_eq->JV
open List.Pairwise renaming nil->rW
open And renaming intro->vt
open PySem.PassesOwn renaming never->xb
open List.cons renaming injEq->xg,inj->zv
open PyProof.Rows.IsTup renaming new->yq
open PySem.Builtin.Dict renaming updateFrom->yx
open PySem.Walks renaming list->B4
open PySem.pickOrder renaming go->B5
open PySem.SetTable.below renaming go->B7
open PySem.SeqAt.EqAt renaming bool_bool->BW,int_str->EJ,str_int->EK
open PySem.Heap.DictOf renaming new->Hv
open PySem.Shared renaming heap->Hz,TypeIs->RJ
open PySem.Value.type renaming inj->JR
open PySem.SeqAt renaming EqAt->LB
open PySem.Code renaming quiet_builtin->Np
open PySem.Builtin.ObjectAttr renaming attrName->Rr,find->Rs
open Eq renaming refl->RZ
local macro_rules|`(tactic|omega)=>`(tactic|first|lia|omega (config:={}))
namespace L2
open PySem PySem.Spec PyProof.Rows
abbrev eC:=Sum Int Str
def zx:eC->ac->Bool
 |.inl k,v=>Value.isInt k v
 |.inr x,v=>vn x v
def Zq (w:bQ):eC->Int
 |.inl k=>hashInt k
 |.inr x=>hashStr w x
theorem fS:∀ {k:eC}{v:ac},zx k v=true->(∃ i t,k=yo i/\v=qi i t)\/(∃ x t,k=im x/\v=kF x t)
 |.inl i,v,h=>by
  obtain ⟨t,e⟩:=Value.isInt_shape (k:=i) (v:=v) h;exact .inl ⟨i,t,rfl,e⟩
 |.inr x,v,h=>by
  obtain ⟨t,e⟩:=Value.isStrOf_shape (x:=x) (v:=v) h;exact .inr ⟨x,t,rfl,e⟩
theorem LQ (i:Int) (t:Tok):zx (.inl i) (.int i t)=true:=by simp [zx,Value.isInt]
theorem LR (x:Str) (t:Tok):zx (.inr x) (.str x t)=true:=by simp [zx,vn]
theorem Vt (a b:Int):decide ((yo a:eC)=yo b)=(a==b):=by
 by_cases e:a=b
 ·subst e;simp
 ·have h:¬ (yo a:eC)=yo b:=fun q=>e (Sum.inl.inj q);rw [decide_eq_false h];exact (beq_eq_false_iff_ne.mpr e).symm
theorem Vu (a b:Str):decide ((im a:eC)=im b)=decide (a=b):=by
 by_cases e:a=b
 ·subst e;simp
 ·have h:¬ (im a:eC)=im b:=fun q=>e (Sum.inr.inj q);rw [decide_eq_false h,decide_eq_false e]
theorem Vv (a:Int) (b:Str):decide ((yo a:eC)=im b)=false:=decide_eq_false (fun q=>nomatch q)
theorem Vw (a:Str) (b:Int):decide ((im a:eC)=yo b)=false:=decide_eq_false (fun q=>nomatch q)
def dG (prog:bu) (w:bQ):PySem.KeyKind prog w eC where
 is:=zx
 hash:=Zq w
 inj:=fun v a b ha hb=>by
  rcases fS ha with ⟨i,t,rfl,rfl⟩|⟨x,t,rfl,rfl⟩
  ·rcases fS hb with ⟨j,u,rfl,e⟩|⟨y,u,rfl,e⟩
   ·injection e with e1 _;rw [e1]
   ·exact nomatch e
  ·rcases fS hb with ⟨j,u,rfl,e⟩|⟨y,u,rfl,e⟩
   ·exact nomatch e
   ·injection e with e1 _;rw [e1]
 byValue:=fun k v h=>by
  rcases fS h with ⟨i,t,rfl,rfl⟩|⟨x,t,rfl,rfl⟩<;>rfl
 pyHash:=fun hv h=>by
  rcases fS hv with ⟨i,t,rfl,rfl⟩|⟨x,t,rfl,rfl⟩
  ·exact wpAny_pyHash_int h
  ·exact wpAny_pyHash_str h
 eqBool:=fun hu hv h=>by
  rcases fS hu with ⟨i,t,rfl,rfl⟩|⟨x,t,rfl,rfl⟩
  ·rcases fS hv with ⟨j,u,rfl,rfl⟩|⟨y,u,rfl,rfl⟩
   ·rw [Vt] at h;exact wpAny_eqBool_int h
   ·rw [Vv] at h;exact EJ i t y u _ _ _ _ h
  ·rcases fS hv with ⟨j,u,rfl,rfl⟩|⟨y,u,rfl,rfl⟩
   ·rw [Vw] at h;exact EK x t j u _ _ _ _ h
   ·rw [Vu] at h;exact Da h
 «strs»:=fun k x t v h=>by
  rcases fS h with ⟨i,u,rfl,e⟩|⟨y,u,rfl,e⟩
  ·exact nomatch e
  ·injection e with e1 _
   subst e1
   cases v<;>rfl
theorem F4 (prog:bu) (w:bQ) (i:Int) (t:Tok):(dG prog w).is (.inl i) (.int i t)=true:=LQ i t
theorem F5 (prog:bu) (w:bQ) (x:Str) (t:Tok):(dG prog w).is (.inr x) (.str x t)=true:=LR x t
end L2
namespace L2
open PySem PySem.Spec PyProof.Rows
inductive V where
 |non|bl (b:Bool)|int (i:Int)|str (x:Str)|byt (b:Array UInt8)|flt (b:UInt64)|ref (a:aj)|ty (n:String)
 deriving DecidableEq
def dI:V->ac->Prop
 |.non,u=>u=e6
 |.bl b,u=>u=jo b
 |.int i,u=>∃ t,u=qi i t
 |.str x,u=>∃ t,u=kF x t
 |.byt b,u=>∃ t,u=Value.bytes b t
 |.flt b,u=>∃ t,u=Value.float b t
 |.ref a,u=>u=bf a
 |.ty n,u=>u=jq n
abbrev dH:List V->List ac->Prop:=HI dI
theorem dH.length (r:dH xs us):xs.length=us.length:=jV r
theorem dH.get (h:dH xs us):∀ {i:Nat}{x:V},xs[i]?=some x->∃ u,us[i]?=some u/\dI x u:=by
 induction h with
 |nil=>intro i x e;cases e
 |cons r t a =>
  intro i x e;cases i with
  |zero=>cases e;exact ⟨_,rfl,r⟩
  |succ i=>have q:=a (i:=i) e;exact q
theorem dH.append (h:dH xs us) (s:dH ys ws):dH (xs++ys) (us++ws):=by
 induction h with
 |nil=>exact s
 |cons r t a=>exact .cons r a
theorem dH.take:∀ {xs:List V}{a:List ac} (n:Nat),dH xs a->dH (xs.take n) (a.take n)
 |_,_,0,_=>.nil
 |_,_,_+1,.nil=>.nil
 |_,_,n+1,.cons r t=>.cons r (dH.take n t)
theorem dH.drop:∀ {xs:List V}{a:List ac} (n:Nat),dH xs a->dH (xs.drop n) (a.drop n)
 |_,_,0,r=>r
 |_,_,_+1,.nil=>.nil
 |_,_,n+1,.cons _ t=>dH.drop n t
def zy:Option V->Option ac->Prop
 |some v,some u=>dI v u
 |none,none=>True
 |_,_=>False
def KV {κ:Type}:List (κ×V)->List (κ×ac)->Prop:=HI fun (p:κ×V) (q:κ×ac)=>p.1=q.1/\dI p.2 q.2
def kV:eC->V
 |.inl i=>.int i
 |.inr x=>.str x
inductive HO where
 |lst (xs:List V)
 |tup (xs:List V)
 |dK (kvs:List (eC×V))|dT (kvs:List (List eC×V))
 |set (S:Int->Bool) (n:Nat)
 |ins (C dx:aj) (fs:List (Str×V))
 |own (x:aj)
 |xd (fs:List (Str×V))
 |met (f x:aj)
 |rng (lo hi:Int)
 |frz (o:Obj) (u:HO)
 |tbl (ps:Array ac)
 |ext (φ:bK->Prop)
abbrev Hp:=aj->Option HO
def upd (H:Hp) (a:aj) (o:HO):Hp:=fun b=>if b=a then some o else H b
theorem aS : upd H a o a=some o:=by unfold upd;rw [if_pos rfl]
theorem aV (h:b≠a):upd H a o b=H b:=by unfold upd;rw [if_neg h]
theorem NU {H:Hp}{a b:aj}{o u:HO} (h:H a=some o) (h':H b=some u) (d:o≠u):a≠b:=by
 intro e;subst e;rw [h] at h';exact d (bR h')
theorem bh {H:Hp}{a b:aj}{o:HO} (h:H a=some o) (h':H b=none):a≠b:=by
 intro e;subst e;rw [h] at h';cases h'
section
variable (P:bu) (w:bQ)
def de (H:Hp) (h:bK) (a:aj):HO->Prop
 |.lst xs=>xs.length<=sizeLine/\∃ (b:List ac) (n:Nat),dH xs b/\h.get? a=some { cls:=.type "list",data:=.seq b.toArray n }
 |.tup xs=>xs.length<=sizeLine/\∃ b:List ac,dH xs b/\HJ h a b.toArray
 |.dK kvs=>kvs.length<=sizeLine/\(a==fA)=false/\∃ i,KV kvs i/\h.DictOf (dG P w) a i
 |.dT kvs=>kvs.length<=sizeLine/\(a==fA)=false/\∃ xs:List (List eC×aj×ac),
   HI (fun (p:List eC×V) (q:List eC×aj×ac)=>p.1=q.1/\H q.2.1=some (.tup (p.1.map kV))/\dI p.2 q.2.2) kvs xs /\
   ∃ o es k,h.get? a=some o/\o.ExactDict/\o.data=.dict es k/\es.toList=xs.map (entryOfKey (ua (dG P w)))/\(xs.map (·.1)).Nodup
 |.set S n=>h.SetOf (intKind P w) a S n
 |.ins C d fs=>H d=some (.own a)/\fs.length<=1000/\d≠a/\h.get? a=some (yp C d) /\
   ∃ c,h.Ns1 d c/\(∀ f,zy (fs.lookup f) (c f))/\PySem.Within c (fs.map (·.1))
 |.own _=>∃ o,h.get? a=some o
 |.xd fs=>∃ c,h.Ns1 a c/\∀ f,zy (fs.lookup f) (c f)
 |.rng lo l=>∃ t u v,h.get? a=some { cls:=.type "range",data:=.fields #[.int lo t,.int l u,.int 1 v] }
 |.frz o u=>h.get? a=some o/\de H h a u
 |.tbl j=>h.get? a=some { cls:=.none,data:=.fields j }
 |.met f x=>h.get? a=some (vy (.ref f) (.ref x))
 |.ext φ=>φ h/\(∃ o,h.get? a=some o)/\∀ e g:bK,φ e->(∀ o,e.get? a=some o->g.get? a=some o)->φ g
def rq (H:Hp) (h:bK):Prop:=∀ a o,H a=some o->de P w H h a o
end
theorem de.lt (x:de P w H h a o):a<h.objs.size:=by
 cases o with
 |lst xs=>obtain ⟨_,_,_,_,e⟩:=x;exact aq e
 |tup xs=>obtain ⟨_,_,_,p⟩:=x;exact p.lt
 |dK kvs=>obtain ⟨_,_,_,_,o,_,_,e,_⟩:=x;exact aq e
 |dT kvs=>obtain ⟨_,_,_,_,o,_,_,e,_⟩:=x;exact aq e
 |set S n=>obtain ⟨o,_,_,_,e,_⟩:=x;exact aq e
 |ins C b fs=>obtain ⟨_,_,_,e,_⟩:=x;exact aq e
 |own y=>obtain ⟨_,e⟩:=x;exact aq e
 |xd fs=>obtain ⟨_,⟨_,_,_,e,_⟩,_⟩:=x;exact aq e
 |rng lo d=>obtain ⟨_,_,_,e⟩:=x;exact aq e
 |frz ob u=>obtain ⟨e,_⟩:=x;exact aq e
 |tbl c=>exact aq (show h.get? a=some _ from x)
 |met f y=>exact aq (show h.get? a=some _ from x)
 |ext φ=>obtain ⟨_,⟨_,e⟩,_⟩:=x;exact aq e
theorem Paired.mapP {d e:Type}{F G:d->e->Prop}{l₁:List d}{c:List e} (h:HI F l₁ c) (f:∀ a b,F a b->G a b):HI G l₁ c:=by
 induction h with
 |nil=>exact .nil
 |cons r t g=>exact .cons (f _ _ r) g
theorem de.stay (x:de P w H h a o) (k:∀ b u,(b=a\/H b=some (.own a))->h.get? b=some u->h'.get? b=some u)
  (ho:∀ b,H b=some (.own a)->H' b=some (.own a)) (A:∀ b xs,H b=some (.tup xs)->H' b=some (.tup xs)):de P w H' h' a o:=by
 induction o with
 |lst xs=>obtain ⟨z,i,n,r,e⟩:=x;exact ⟨z,i,n,r,k _ _ (.inl rfl) e⟩
 |tup xs=>obtain ⟨z,i,r,ob,e,c⟩:=x;exact ⟨z,i,r,ob,k _ _ (.inl rfl) e,c⟩
 |dK kvs=>obtain ⟨z,y,E,r,ob,es,g,e,c⟩:=x;exact ⟨z,y,E,r,ob,es,g,k _ _ (.inl rfl) e,c⟩
 |dT kvs =>
  obtain ⟨z,y,xs,r,ob,es,g,e,c⟩:=x;exact ⟨z,y,xs,Paired.mapP r fun p q z=>⟨z.1,A _ _ z.2.1,z.2.2⟩,ob,es,g,k _ _ (.inl rfl) e,c⟩
 |set S n=>obtain ⟨ob,es,g,t,e,c⟩:=x;exact ⟨ob,es,g,t,k _ _ (.inl rfl) e,c⟩
 |ins C I fs =>
  obtain ⟨d,z,ne,e,j,⟨l,es,g,B,c⟩,r⟩:=x;exact ⟨ho _ d,z,ne,k _ _ (.inl rfl) e,j,⟨l,es,g,k _ _ (.inr d) B,c⟩,r⟩
 |own y=>obtain ⟨ob,e⟩:=x;exact ⟨ob,k _ _ (.inl rfl) e⟩
 |xd fs=>obtain ⟨j,⟨l,es,g,e,c⟩,r⟩:=x;exact ⟨j,⟨l,es,g,k _ _ (.inl rfl) e,c⟩,r⟩
 |rng lo G=>obtain ⟨t,u,v,e⟩:=x;exact ⟨t,u,v,k _ _ (.inl rfl) e⟩
 |frz ob u s=>obtain ⟨e,q⟩:=x;exact ⟨k _ _ (.inl rfl) e,s q⟩
 |tbl m =>
  have e:h.get? a=some { cls:=.none,data:=.fields m }:=x;show h'.get? a=some { cls:=.none,data:=.fields m };exact k a _ (.inl rfl) e
 |met f y =>
  have e:h.get? a=some (vy (.ref f) (.ref y)):=x;show h'.get? a=some (vy (.ref f) (.ref y));exact k a _ (.inl rfl) e
 |ext φ=>obtain ⟨p,⟨o,e⟩,st⟩:=x;exact ⟨st _ _ p fun o q=>k _ _ (.inl rfl) q,⟨o,k _ _ (.inl rfl) e⟩,st⟩
theorem rq.lt (x:rq P w H h) (e:H a=some o):a<h.objs.size:=(x a o e).lt
theorem rq.fresh (x:rq P w H h) (e:h.objs.size<=a):H a=none:=by
 cases q:H a with
 |none=>rfl
 |some u=>exact absurd (aC (x.lt q) e) (bY _)
theorem rq.kept (x:rq P w H h) (k:∀ b u,h.get? b=some u->h'.get? b=some u):rq P w H h':=fun a o e =>
 (x a o e).stay (fun b u _ q=>k b u q) (fun _ q=>q) fun _ _ q=>q
theorem rq.laid (x:rq P w H h) (k:∀ b u,h.get? b=some u->h'.get? b=some u) (g:h.objs.size<=a) (new:de P w (upd H a o) h' a o):rq P w (upd H a o) h':=fun b u e=>by
 have d:=x.fresh g;by_cases f:b=a
 ·subst f;rw [aS] at e;cases e;exact new
 ·rw [aV f] at e;exact (x b u e).stay (fun c v _ q=>k c v q) (fun c q=>by rw [aV (bh q d)];exact q) fun c xs q=>by rw [aV (bh q d)];exact q
def Rd (H:Hp) (a:aj) (u:HO):Prop:=H a=some u\/∃ o,H a=some (.frz o u)
theorem Rd.of (h:H a=some u):Rd H a u:=.inl h
theorem Rd.ok (r:Rd H a u) (x:rq P w H h):de P w H h a u:=by
 rcases r with r|⟨o,r⟩
 ·exact x a u r
 ·obtain ⟨_,q⟩:=x a _ r;exact q
def Xg:Option HO->Prop
 |some (.lst _)=>True
 |some (.dK _)=>True
 |some (.dT _)=>True
 |some (.set _ _)=>True
 |some (.ins _ _ _)=>True
 |some (.ext _)=>True
 |_=>False
theorem rq.write (ok:rq P w H h) (j:Xg (H x)) (he:e=x\/H e=some (.own x)) (k:∀ b u,b≠e->h.get? b=some u->h'.get? b=some u) (l:∃ u,h'.get? e=some u)
  (new:de P w (upd H x o') h' x o'):rq P w (upd H x o') h':=fun b u q=>by
 have d:∀ c y,H c=some (.own y)->c≠x:=fun c y r z=>by subst z;rw [r] at j;exact j
 have f:∀ c xs,H c=some (.tup xs)->c≠x:=fun c xs r z=>by subst z;rw [r] at j;exact j
 by_cases i:b=x
 ·subst i;rw [aS] at q;cases q;exact new
 ·rw [aV i] at q;by_cases a:b=e
  ·have q':H b=some (.own x):=by
    rcases he with z|z
    ·exact absurd (a.trans z) i
    ·rw [a];exact z
   rw [q] at q';cases q';obtain ⟨v,m⟩:=l;exact ⟨v,by rw [a];exact m⟩
  ·refine (ok b u q).stay (fun c v g r=>k c v ?_ r) (fun c r=>by rw [aV (d c b r)];exact r) fun c xs r=>by rw [aV (f c xs r)];exact r
   rcases g with rfl|g
   ·exact a
   ·rintro rfl;rcases he with z|z
    ·exact d c b g z
    ·rw [g] at z;cases z;exact i rfl
structure Un (fs ex:List aj) (H H':Hp) (h h':bK):Prop where
 keep:∀ b o,h.get? b=some o->H b=none->b∉fs->b∉ex->h'.get? b=some o
 slot:∀ b o,h.get? b=some o->H b=none->b∈fs->b∉ex->∃ sl,h'.get? b=some { o with slots:=sl }
 free:∀ b o,h.get? b=some o->H b=none->b∉ex->H' b=none
 there:∀ b o,h.get? b=some o->b∉ex->∃ o',h'.get? b=some o'
 tups:∀ b xs,H b=some (.tup xs)->H' b=some (.tup xs)
 frzs:∀ b o u,H b=some (.frz o u)->H' b=some (.frz o u)
 tbls:∀ b ps,H b=some (.tbl ps)->∃ more,H' b=some (.tbl (ps++more))
theorem Un.any (u:Un fs ex H H1 h h1) (q:h.get? b=some ob) (n:H b=none) (a:b∉ex):∃ d,h1.get? b=some { ob with slots:=d }:=by
 by_cases c:b∈fs
 ·exact u.slot b ob q n c a
 ·exact ⟨ob.slots,u.keep b ob q n c a⟩
theorem Un.kept (k:∀ b u,h.get? b=some u->h'.get? b=some u):Un fs ex H H h h' :=
 ⟨fun b ob q _ _ _=>k b ob q,fun b ob q _ _ _=>⟨ob.slots,k b ob q⟩,fun _ _ _ n _=>n,fun b ob q _=>⟨ob,k b ob q⟩,fun _ _ q=>q,fun _ _ _ q=>q,fun _ a q=>⟨#[],by rw [q];simp⟩⟩
theorem Un.refl:Un fs ex H H h h:=Un.kept fun _ _ q=>q
theorem Un.laid (k:∀ b u,h.get? b=some u->h'.get? b=some u) (d:h.objs.size<=a) (c:H a=none):Un fs ex H (upd H a o) h h' where
 keep:=fun b u q _ _ _=>k b u q
 slot:=fun b u q _ _ _=>⟨u.slots,k b u q⟩
 free:=fun b u q n _=>by rw [aV (aB (aC (aq q) d))];exact n
 there:=fun b u q _=>⟨u,k b u q⟩
 tups:=fun b xs q=>by rw [aV (bh q c)];exact q
 frzs:=fun b u xs q=>by rw [aV (bh q c)];exact q
 tbls:=fun b e q=>⟨#[],by rw [aV (bh q c),q];simp⟩
theorem Un.write (c:Xg (H x)) (he:e=x\/H e=some (.own x)) (k:∀ b u,b≠e->h.get? b=some u->h'.get? b=some u) (f:∃ u,h'.get? e=some u):Un fs ex H (upd H x o) h h':=by
 have g:∀ b,H b=none->b≠x:=fun b n z=>by subst z;rw [n] at c;exact c
 have i:∀ b,H b=none->b≠e:=fun b n z=>by
  subst z;rcases he with r|r
  ·exact g b n r
  ·rw [n] at r;cases r
 have d:∀ b u,H b=some u->¬ Xg (some u)->b≠x:=fun b u q nm z=>by subst z;rw [q] at c;exact nm c
 refine ⟨fun b u q n _ _=>k b u (i b n) q,fun b u q n _ _=>⟨u.slots,k b u (i b n) q⟩,fun b u q n _=>by rw [aV (g b n)];exact n,fun b u q _=>?_,
  fun b xs q=>by rw [aV (d b _ q fun z=>z)];exact q,fun b u xs q=>by rw [aV (d b _ q fun z=>z)];exact q,fun b j q=>⟨#[],by rw [aV (d b _ q fun z=>z),q];simp⟩⟩
 by_cases a:b=e
 ·subst a;exact f
 ·exact ⟨u,k b u a q⟩
def Z9 (h:bK) (H:Hp):List aj:=(bE h.objs.size).filter fun a=>(H a).isSome
def Di (h:bK) (H:Hp):bK:=Nj h (Z9 h H)
theorem LS (h:bK) (H:Hp):(Di h H).objs.size=h.objs.size:=PySem.W.hideAll_size _ _
theorem NV (e:h.get? b=some o) (n:H b=none):(Di h H).get? b=some o :=
 Hr _ e fun a=>by
  have q:(H b).isSome=true:=(List.mem_filter.mp a).2;rw [n] at q;simp at q
theorem S2 (e:(Di h H).get? b=some o):h.get? b=some o/\H b=none:=by
 have a:h.get? b=some o:=HK (Z9 h H) e;refine ⟨a,?_⟩;cases q:H b with
 |none=>rfl
 |some x =>
  have c:b∈Z9 h H:=List.mem_filter.mpr ⟨List.mem_range.mpr (aq a),by simp [q]⟩;have z:(Di h H).get? b=none:=PySem.W.hideAll_none (Z9 h H) c;rw [z] at e;cases e
def S3 (g h:bK) (L:aj):List (aj×Obj):=(bE h.objs.size).filterMap fun a=>if a=L\/(g.get? a).isSome=true then none else (h.get? a).map fun o=>(a,o)
def c7 (g h:bK) (L d:aj):List (aj×Obj):=(S3 g h L).filter fun p=>decide (p.1≠d)
end L2
namespace L2
open PySem PySem.Spec PyProof.Rows
structure Mod (K:a8) (mg:Str->Option ac) (base:bK):Prop where
 kin:K.In base
 glob:base.Ns bC mg
 blt:∃ mb,base.Ns builtinsNs mb/\∀ x:Str,x≠"__name__"->mb x=ja x
 nolimit:base.NoLimit
structure Cx where
 prog:bu
 w:bQ
 K:a8
 mg:Str->Option ac
 base:bK
 A:cf
 N:List Str
 s₀:ao
 H₀:Hp
 env:Env
 outer:List Env
 stack:List Env
 ex:List aj
 fn:Str->Bool
 calm:Bool
 pn:List (aj×Obj)
 xe:ac->ao->Prop
def tq (l:List Env):List aj:=l.filterMap (·.frame)
abbrev Cx.fs (X:Cx):List aj:=tq X.outer
def Ny (a:i5) (x:Str):Prop:=a.names.lookup x=some .local\/a.names.lookup x=some .cell\/a.names.lookup x=some .free
def Ue (a:i5) (x:Str):Prop:=a.names.lookup x=some .local\/a.names.lookup x=some .cell
def Zr (env:Env) (h:bK) (m:Str->Option ac) (x:Str) (u:ac):Prop :=
 (env.kindOf x=some .local/\m x=some u)\/((env.kindOf x=some .cell\/env.kindOf x=some .free)/\∃ c,env.cells.lookup x=some c/\h.IsCell c (some u))
structure Cx.Ok (X:Cx):Prop where
 mod:Mod X.K X.mg X.base
 kind:X.env.scope.kind=.function
 glob:X.env.globals=bC
 blt:X.env.builtins=builtinsNs
 above:X.s₀.heap.objs.size<=X.env.locals
 inj:∀ x y c,X.env.cells.lookup x=some c->X.env.cells.lookup y=some c->x=y
 has:∀ x,(X.env.kindOf x=some .cell\/X.env.kindOf x=some .free)->∃ c,X.env.cells.lookup x=some c
 cab:∀ x c,X.fn x=true->X.env.cells.lookup x=some c->X.s₀.heap.objs.size<=c
 hd:X.calm=true->X.A.handled=none
 frames:X.A.frames=some X.stack
 stk:X.stack=X.outer\/(X.stack=X.env::X.outer/\X.env.frame=some X.env.locals)
 exf:∀ b∈X.ex,b≠X.env.locals/\∀ x c,X.env.cells.lookup x=some c->c≠b
 bs:∀ b o,X.base.get? b=some o->X.s₀.heap.get? b=some o/\X.H₀ b=none
 bsz:X.base.objs.size<=X.s₀.heap.objs.size
 noex:∀ b o,X.base.get? b=some o->b∉X.ex
 exfs:∀ b∈X.ex,b∉X.fs
 funs:X.s₀.heap.FunFrames X.base X.outer
 frf:∀ b∈X.fs,X.H₀ b=none
structure bH (X:Cx) (pins:List (aj×Obj)) (σ:List (Option V)) (H:Hp) (s:ao):Prop where
 ok:X.Ok
 os:s.os=X.s₀.os
 bare:rM s.gens
 base:Un X.fs X.ex X.H₀ H X.s₀.heap s.heap
 loc:∃ m,s.heap.Ns X.env.locals m/\∀ (i:Nat) (x:Str) (v:V),X.N[i]?=some x->σ[i]?=some (some v)->Ny X.env.scope x->∃ u,dI v u/\Zr X.env s.heap m x u
 cell:∀ x c,X.env.cells.lookup x=some c->∃ v,s.heap.IsCell c v
 free:H X.env.locals=none
 freeC:∀ x c,X.env.cells.lookup x=some c->H c=none
 pin:∀ p∈X.pn++pins,s.heap.get? p.1=some p.2/\H p.1=none/\p.1≠X.env.locals/\p.1∉X.fs/\∀ v,p.2.data≠.cell v
 hok:rq X.prog X.w H s.heap
 len:σ.length=X.N.length
section
variable {X:Cx}{pins:List (aj×Obj)}{σ:List (Option V)}{H H':Hp}{s:ao}{h':bK}
theorem Cx.Ok.nofr (ok:X.Ok) (e:X.base.get? b=some o):b∉X.fs:=fun a=>by
 have:=(ok.funs.mem a).1;rw [e] at this;cases this
theorem bH.bs (I:bH X pins σ H s):∀ b o,X.base.get? b=some o->s.heap.get? b=some o/\H b=none:=fun b o e =>
 ⟨I.base.keep b o (I.ok.bs b o e).1 (I.ok.bs b o e).2 (I.ok.nofr e) (I.ok.noex b o e),I.base.free b o (I.ok.bs b o e).1 (I.ok.bs b o e).2 (I.ok.noex b o e)⟩
theorem bH.bk (I:bH X pins σ H s):∀ b o,X.base.get? b=some o->s.heap.get? b=some o:=fun b o e=>(I.bs b o e).1
theorem bH.mod (I:bH X pins σ H s):Mod X.K X.mg X.base:=I.ok.mod
theorem bH.kIn (I:bH X pins σ H s):X.K.In s.heap:=I.ok.mod.kin.keeps I.bk
theorem bH.fr (I:bH X pins σ H s):∃ m,Fr X.base X.env.locals s.heap m :=
 let ⟨m,hn,_⟩:=I.loc
 ⟨m,hn,I.bk,bL I.ok.bsz I.ok.above⟩
theorem bH.lt (I:bH X pins σ H s):X.env.locals<s.heap.objs.size:=let ⟨_,hn,_⟩:=I.loc;hn.lt
theorem bH.sz (I:bH X pins σ H s):X.s₀.heap.objs.size<=s.heap.objs.size:=bL I.ok.above (bw I.lt)
theorem bH.nofs (I:bH X pins σ H s) (h:s.heap.objs.size<=a):a∉X.fs:=fun b=>by
 obtain ⟨_,o,ho,_⟩:=I.ok.funs.mem b;exact absurd (aC (aq ho) (bL I.sz h)) (bY _)
theorem bH.cne (I:bH X pins σ H s):∀ x c,X.env.cells.lookup x=some c->c≠X.env.locals:=fun x c e z=>by
 obtain ⟨v,o,ho,d⟩:=I.cell x c e;obtain ⟨m,⟨g,es,f,b,a,_⟩,_⟩:=I.loc;rw [z,b] at ho;cases ho;rw [a] at d;cases d
theorem bH.funs (I:bH X pins σ H s):s.heap.FunFrames X.base X.outer:=by
 have all:∀ (l:List Env),(∀ b∈tq l,b∈X.fs)->X.s₀.heap.FunFrames X.base l->s.heap.FunFrames X.base l:=by
  intro l;induction l with
  |nil=>intro _ _;trivial
  |cons env r f =>
   intro hs g;obtain ⟨k,⟨L,o,a,i,ho,j⟩,h⟩:=g;have d:L∈X.fs:=hs L (by unfold tq;rw [ng,a];exact al);obtain ⟨m,e⟩:=I.base.slot L o ho (I.ok.frf L d) d fun z=>I.ok.exfs L z d;exact ⟨k,⟨L,_,a,i,e,j⟩,f (fun b c=>hs b (by unfold tq;rw [ng,a];exact ag _ c)) h⟩
 exact all X.outer (fun _ c=>c) I.ok.funs
theorem bH.stack (I:bH X pins σ H s):s.heap.FunFrames X.base X.stack:=by
 rcases I.ok.stk with e|⟨e,hf⟩
 ·rw [e];exact I.funs
 ·rw [e];obtain ⟨m,a,_⟩:=I.loc;refine .cons (by rw [I.ok.kind];decide) hf a ?_ I.funs;exact Heap.get?_none_of_le (bL I.ok.bsz I.ok.above)
theorem bH.stkSub (I:bH X pins σ H s):∀ b∈tq X.stack,b∈X.env.locals::X.fs:=fun b a=>by
 rcases I.ok.stk with e|⟨e,hf⟩
 ·rw [e] at a;exact ag _ a
 ·rw [e] at a;unfold tq at a;rw [ng,hf] at a;exact a
theorem bH.stkFree (I:bH X pins σ H s):∀ b∈tq X.stack,H b=none:=fun b hb=>by
 rcases List.mem_cons.mp (I.stkSub b hb) with e|hb
 ·rw [e];exact I.free
 ·obtain ⟨_,o,ho,_⟩:=I.ok.funs.mem hb;exact I.base.free b o ho (I.ok.frf b hb) fun z=>I.ok.exfs b z hb
theorem bH.step {g':Array HL}{t':Nat}{d':Nk}{ch:List aj} (I:bH X pins σ H s)
  (f:∀ b∈ch,(b∈X.ex\/X.s₀.heap.objs.size<=b)/\b≠X.env.locals/\(∀ x c,X.env.cells.lookup x=some c->c≠b)/\∀ p∈X.pn++pins,p.1≠b)
  (keep:∀ b o,b≠X.env.locals->b∉X.fs->b∉ch->s.heap.get? b=some o->H b=none->h'.get? b=some o)
  (y:∀ b o,b≠X.env.locals->b∈X.fs->b∉ch->s.heap.get? b=some o->H b=none->∃ T,h'.get? b=some { o with slots:=T }) (free:∀ b o,b∉ch->s.heap.get? b=some o->H b=none->H' b=none)
  (there:∀ b o,b∉ch->s.heap.get? b=some o->∃ L,h'.get? b=some L)
  (E:∀ b xs,H b=some (.tup xs)->H' b=some (.tup xs)) (B:∀ b o u,H b=some (.frz o u)->H' b=some (.frz o u)) (G:∀ b N,H b=some (.tbl N)->∃ more,H' b=some (.tbl (N++more)))
  (ns:∀ m,s.heap.Ns X.env.locals m->h'.Ns X.env.locals m) (Q:rq X.prog X.w H' h') (hg:rM g') :
  bH X pins σ H' { s with heap:=h',gens:=g',drawn:=d',toks:=t' }:=by
 have K:∀ b o,X.s₀.heap.get? b=some o->b≠X.env.locals:=fun b o e=>aB (aC (aq e) I.ok.above);have t:∀ b o,X.s₀.heap.get? b=some o->b∉X.ex->b∉ch:=fun b o e a A=>by
  rcases (f b A).1 with z|z
  ·exact a z
  ·exact absurd (aC (aq e) z) (bY _)
 have g:∀ x c,X.env.cells.lookup x=some c->∀ v,s.heap.IsCell c v->h'.IsCell c v:=fun x c e v O=>by
  obtain ⟨o,ho,S⟩:=O;have h:c∉ch:=fun z=>(f c z).2.2.1 x c e rfl;by_cases U:c∈X.fs
  ·obtain ⟨T,q⟩:=y c o (I.cne x c e) U h ho (I.freeC x c e);exact ⟨_,q,S⟩
  ·exact ⟨o,keep c o (I.cne x c e) U h ho (I.freeC x c e),S⟩
 refine ⟨I.ok,I.os,hg,⟨fun b o e n A a=>?_,fun b o e n A a=>?_,fun b o e n a=>?_,fun b o e a=>?_,fun b xs e=>E b xs (I.base.tups b xs e),fun b o xs e=>B b o xs (I.base.frzs b o xs e),fun b N e=>?_⟩,?_,fun x c e=>?_,?_,fun x c e=>?_,fun p Y=>?_,Q,I.len⟩
 ·exact keep b o (K b o e) A (t b o e a) (I.base.keep b o e n A a) (I.base.free b o e n a)
 ·obtain ⟨T,j⟩:=I.base.slot b o e n A a;obtain ⟨P,M⟩:=y b _ (K b o e) A (t b o e a) j (I.base.free b o e n a);exact ⟨P,M⟩
 ·obtain ⟨L,j⟩:=I.base.there b o e a;exact free b L (t b o e a) j (I.base.free b o e n a)
 ·obtain ⟨L,j⟩:=I.base.there b o e a;exact there b L (t b o e a) j
 ·obtain ⟨m1,j⟩:=I.base.tbls b N e;obtain ⟨m2,M⟩:=G b _ j;exact ⟨m1++m2,by rw [M,Lv]⟩
 ·obtain ⟨m,hn,hl⟩:=I.loc;refine ⟨m,ns m hn,fun i x v j M e3=>?_⟩;obtain ⟨u,r,l⟩:=hl i x v j M e3;refine ⟨u,r,?_⟩;rcases l with l|⟨k,c,e,z⟩
  ·exact .inl l
  ·exact .inr ⟨k,c,e,g x c e _ z⟩
 ·obtain ⟨v,z⟩:=I.cell x c e;exact ⟨v,g x c e v z⟩
 ·obtain ⟨m,⟨o,_,_,ho,_⟩,_⟩:=I.loc;exact free _ o (fun z=>(f _ z).2.1 rfl) ho I.free
 ·obtain ⟨v,o,ho,S⟩:=I.cell x c e;exact free c o (fun z=>(f c z).2.2.1 x c e rfl) ho (I.freeC x c e)
 ·obtain ⟨e,n,ne,nf,d⟩:=I.pin p Y;have h:p.1∉ch:=fun z=>(f p.1 z).2.2.2 p Y rfl;exact ⟨keep p.1 p.2 ne nf h e n,free p.1 p.2 h e n,ne,nf,d⟩
theorem bH.un {t':Nat} (I:bH X pins σ H s) (u:Un X.fs [] H H' s.heap h') (f:rq X.prog X.w H' h'):bH X pins σ H' { s with heap:=h',toks:=t' }:=by
 obtain ⟨m,⟨o,es,j,ho,r⟩,_⟩:=id I.loc;obtain ⟨p,i⟩:=u.any ho I.free (by simp);exact I.step (g':=s.gens) (d':=s.drawn) (ch:=[]) (fun _ z=>nomatch z) (fun b o _ c _ e n=>u.keep b o e n c (by simp)) (fun b o _ c _ e n=>u.slot b o e n c (by simp)) (fun b o _ e n=>u.free b o e n (by simp)) (fun b o _ e=>u.there b o e (by simp)) u.tups u.frzs u.tbls (fun k g=>by
  obtain ⟨l,es',d,a,h⟩:=g;rw [ho] at a;cases a;exact ⟨_,es',d,i,h⟩) f I.bare
theorem bH.call {g':Array HL}{t':Nat}{d':Nk}{ch:List aj} (I:bH X pins σ H s) (u:Un (tq X.stack) ch H H' s.heap h') (h:rq X.prog X.w H' h') (q:rM g')
  (d:∀ b∈ch,(b∈X.ex\/X.s₀.heap.objs.size<=b)/\b≠X.env.locals/\(∀ x c,X.env.cells.lookup x=some c->c≠b)/\∀ p∈X.pn++pins,p.1≠b) :
  bH X pins σ H' { s with heap:=h',gens:=g',drawn:=d',toks:=t' }:=by
 obtain ⟨m,⟨o,es,t,ho,r⟩,_⟩:=id I.loc;obtain ⟨A,i⟩:=u.any ho I.free fun z=>(d _ z).2.1 rfl;exact I.step (ch:=ch) d (fun b o i j a e n=>u.keep b o e n (fun z=>(List.mem_cons.mp (I.stkSub b z)).elim i j) a) (fun b o _ _ a e n=>u.any e n a) (fun b o a e n=>u.free b o e n a) (fun b o a e=>u.there b o e a) u.tups u.frzs u.tbls (fun v k=>by
  obtain ⟨y,es',g,f,l⟩:=k;rw [ho] at f;cases f;exact ⟨_,es',g,i,l⟩) h q
theorem bH.turned {t':Nat}{it:aj} (I:bH X pins σ H s) (k:∀ b o,b≠it->s.heap.get? b=some o->h'.get? b=some o) (t:H it=none) (f:it≠X.env.locals)
  (g:it∈X.ex\/X.s₀.heap.objs.size<=it) (w:∀ x c,X.env.cells.lookup x=some c->c≠it) (h:∀ p∈X.pn++pins,p.1≠it):bH X pins σ H { s with heap:=h',toks:=t' }:=by
 have d:∀ b u,H b=some u->b≠it:=fun b u e z=>by rw [z,t] at e;cases e
 refine I.step (g':=s.gens) (d':=s.drawn) (ch:=[it]) (fun b j=>?_) (fun b o _ _ a e _=>k b o (fun z=>a (by simp [z])) e) (fun b o _ _ a e _=>⟨o.slots,k b o (fun z=>a (by simp [z])) e⟩) (fun _ _ _ _ n=>n)
  (fun b o a e=>⟨o,k b o (fun z=>a (by simp [z])) e⟩) (fun _ _ e=>e) (fun _ _ _ e=>e) (fun b y e=>⟨#[],by rw [e];simp⟩) (fun m l=>?_) (fun b u e=>?_) I.bare
 ·have e:b=it:=by simpa using j
  subst e;exact ⟨g,f,w,h⟩
 ·obtain ⟨o,es,i,ho,r⟩:=l;exact ⟨o,es,i,k _ o (cV f) ho,r⟩
 ·refine (I.hok b u e).stay (fun c v a q=>k c v ?_ q) (fun _ q=>q) fun _ _ q=>q;rcases a with z|z
  ·rw [z];exact d b u e
  ·exact d c _ z
theorem bH.tok (I:bH X pins σ H s) (t:Nat):bH X pins σ H { s with toks:=t }:=I.un (h':=s.heap) (t':=t) Un.refl I.hok
theorem bH.kept (I:bH X pins σ H s) (k:∀ b u,s.heap.get? b=some u->h'.get? b=some u):bH X pins σ H { s with heap:=h',toks:=t' }:=I.un (Un.kept k) (I.hok.kept k)
theorem bH.laid (I:bH X pins σ H s) (k:∀ b u,s.heap.get? b=some u->h'.get? b=some u) (c:s.heap.objs.size<=a) (new:de X.prog X.w (upd H a o) h' a o) :
  bH X pins σ (upd H a o) { s with heap:=h',toks:=t' }:=I.un (Un.laid k c (I.hok.fresh c)) (I.hok.laid k c new)
theorem bH.write (I:bH X pins σ H s) (c:Xg (H x)) (he:e=x\/H e=some (.own x)) (k:∀ b u,b≠e->s.heap.get? b=some u->h'.get? b=some u) (a:∃ u,h'.get? e=some u)
  (new:de X.prog X.w (upd H x o) h' x o):bH X pins σ (upd H x o) { s with heap:=h',toks:=t' }:=I.un (Un.write c he k a) (I.hok.write c he k a new)
theorem bH.weak (I:bH X pins σ H s) (b:σ'.length=σ.length) (w:∀ (i:Nat) v,σ'[i]?=some (some v)->σ[i]?=some (some v)):bH X pins σ' H s :=
 ⟨I.ok,I.os,I.bare,I.base,let ⟨m,hn,hl'⟩:=I.loc;⟨m,hn,fun i x v a c d=>hl' i x v a (w i v c) d⟩,I.cell,I.free,I.freeC,I.pin,I.hok,b.trans I.len⟩
theorem bH.pins_of (I:bH X pins σ H s) (h:∀ p∈pins',s.heap.get? p.1=some p.2/\H p.1=none/\p.1≠X.env.locals/\p.1∉X.fs/\∀ v,p.2.data≠.cell v):bH X pins' σ H s :=
 ⟨I.ok,I.os,I.bare,I.base,I.loc,I.cell,I.free,I.freeC,fun p a=>(List.mem_append.mp a).elim (fun z=>I.pin p (bg _ z)) (h p),I.hok,I.len⟩
theorem F6 {N:List Str} (c:N.Nodup) {i j:Nat}{x:Str} (a:N[i]?=some x) (b:N[j]?=some x):i=j:=by
 obtain ⟨f,d⟩:=List.getElem?_eq_some_iff.mp a;obtain ⟨g,e⟩:=List.getElem?_eq_some_iff.mp b;exact (Rm c).mp (d.trans e.symm)
theorem C0 {M:Model}{A:cf}{E:ac->ao->Prop}{i:Nat}{x:Str}{v:V}{u:ac}{Q:Unit->ao->Prop} (I:bH X pins σ H s) (hN:X.N.Nodup) (U:X.N[i]?=some x) (t:Ue X.env.scope x) (r:dI v u)
  (h:∀ s',bH X pins (σ.set i (some v)) H s'->(∃ a,bI a s.heap s'.heap/\(a=X.env.locals\/X.env.cells.lookup x=some a))->Q () s') (hf:X.fn x=true\/X.env.scope.names.lookup x=some .local:=by first|exact .inl rfl|exact .inr rfl|assumption):ar M A (storeName X.env x u) Q E s:=by
 obtain ⟨m,hn,hl⟩:=id I.loc;have S:(X.env.scope.kind == .class||(X.env.scope.kind == .module&&X.env.locals != X.env.globals))=false:=by rw [I.ok.kind];rfl
 have K:i<σ.length:=by rw [I.len];exact (List.getElem?_eq_some_iff.mp U).1
 have cne:=I.cne;have g:∀ {a:aj}{h':bK},(∃ o,s.heap.get? a=some o/\H a=none)->bI a s.heap h'->rq X.prog X.w H h':=fun {a h'} ha hs b ob e=>by
  obtain ⟨_,_,B⟩:=ha;refine (I.hok b ob e).stay (fun c w' l q=>(hs.2 c ?_).trans q) (fun _ q=>q) fun _ _ q=>q;rintro rfl;rcases l with rfl|l
  ·rw [B] at e;cases e
  ·rw [B] at l;cases l
 rcases t with hk|hk
 ·refine wpAny_storeName_local hk hn (fun h' a3 hs=>?_) S;obtain ⟨oL,_,_,a2,_⟩:=id hn;refine h _ ⟨I.ok,I.os,I.bare,⟨fun b o e n O t=>?_,fun b o e n O t=>?_,I.base.free,fun b o e t=>?_,I.base.tups,I.base.frzs,I.base.tbls⟩,⟨_,a3,fun j y v' f G e3=>?_⟩,fun y c e=>?_,I.free,I.freeC,fun p hp=>?_,g ⟨oL,a2,I.free⟩ hs,by simpa using I.len⟩ ⟨_,hs,.inl rfl⟩
  ·exact (hs.2 b (aB (aC (aq e) I.ok.above))).trans (I.base.keep b o e n O t)
  ·obtain ⟨sl,f⟩:=I.base.slot b o e n O t;exact ⟨sl,(hs.2 b (aB (aC (aq e) I.ok.above))).trans f⟩
  ·obtain ⟨o',f⟩:=I.base.there b o e t;exact ⟨o',(hs.2 b (aB (aC (aq e) I.ok.above))).trans f⟩
  ·by_cases P:j=i
   ·subst P;rw [U] at f;cases f;rw [aJ K] at G;cases G;exact ⟨u,r,.inl ⟨hk,by simp⟩⟩
   ·rw [ak (cV P)] at G;obtain ⟨u',r',q⟩:=hl j y v' f G e3;refine ⟨u',r',?_⟩;rcases q with ⟨k,e⟩|⟨k,c,e,z⟩
    ·refine .inl ⟨k,?_⟩;have:y≠x:=fun e=>P (F6 hN f (e ▸ U))
     simp [this,e]
    ·exact .inr ⟨k,c,e,z.sameBut hs (cne y c e)⟩
  ·obtain ⟨w',z⟩:=I.cell y c e;exact ⟨w',z.sameBut hs (cne y c e)⟩
  ·obtain ⟨e,n,ne,nf,d⟩:=I.pin p hp;exact ⟨(hs.2 p.1 ne).trans e,n,ne,nf,d⟩
 ·have L:X.fn x=true:=by
   rcases hf with z|z
   ·exact z
   ·rw [z] at hk;cases hk
  obtain ⟨c,l⟩:=I.ok.has x (.inl hk);obtain ⟨w',z⟩:=I.cell x c l;refine wpAny_storeName_cell I.ok.kind hk l z (fun h' a1 hs=>?_);obtain ⟨oc,a0,Y⟩:=id z;refine h { s with heap:=h' } ⟨I.ok,I.os,I.bare,⟨fun b o e n O t=>?_,fun b o e n O t=>?_,I.base.free,fun b o e t=>?_,I.base.tups,I.base.frzs,I.base.tbls⟩,⟨m,hn.sameBut hs (cV (cne x c l)),fun j y v' f G e3=>?_⟩,fun y c' e=>?_,I.free,I.freeC,fun p hp=>?_,g ⟨oc,a0,I.freeC x c l⟩ hs,by simpa using I.len⟩ ⟨c,hs,.inr l⟩
  ·exact (hs.2 b (aB (aC (aq e) (I.ok.cab x c L l)))).trans (I.base.keep b o e n O t)
  ·obtain ⟨sl,f⟩:=I.base.slot b o e n O t;exact ⟨sl,(hs.2 b (aB (aC (aq e) (I.ok.cab x c L l)))).trans f⟩
  ·obtain ⟨o',f⟩:=I.base.there b o e t;exact ⟨o',(hs.2 b (aB (aC (aq e) (I.ok.cab x c L l)))).trans f⟩
  ·by_cases P:j=i
   ·subst P;rw [U] at f;cases f;rw [aJ K] at G;cases G;exact ⟨u,r,.inr ⟨.inl hk,c,l,a1⟩⟩
   ·rw [ak (cV P)] at G;obtain ⟨u',r',q⟩:=hl j y v' f G e3;refine ⟨u',r',?_⟩;rcases q with q|⟨k,c',e,z'⟩
    ·exact .inl q
    ·refine .inr ⟨k,c',e,z'.sameBut hs ?_⟩;rintro rfl;exact P (F6 hN f (I.ok.inj _ _ _ e l ▸ U))
  ·by_cases T:c'=c
   ·subst T;exact ⟨_,a1⟩
   ·obtain ⟨w2,z2⟩:=I.cell y c' e;exact ⟨w2,z2.sameBut hs T⟩
  ·obtain ⟨e,n,ne,nf,d⟩:=I.pin p hp;refine ⟨(hs.2 p.1 ?_).trans e,n,ne,nf,d⟩;intro q;rw [q,a0] at e;have q':oc=p.2:=bR e;exact d w' (by rw [<- q'];exact Y)
theorem s9 (I:bH X pins σ H s) (a:X.N.Nodup) (d:X.N[i]?=some x) (c:Ue X.env.scope x) (r:dI v u)
  (h:∀ s',bH X pins (σ.set i (some v)) H s'->Q () s') (e:X.fn x=true\/X.env.scope.names.lookup x=some .local:=by first|exact .inl rfl|exact .inr rfl|assumption):ar M A (storeName X.env x u) Q E s :=
 C0 I a d c r (fun s' b _=>h s' b) e
theorem bH.call' (I:bH X pins σ H s) (ho:s'.os=s.os) (u:Un (tq X.stack) ch H H' s.heap s'.heap) (d:rq X.prog X.w H' s'.heap) (f:rM s'.gens)
  (a:∀ b∈ch,(b∈X.ex\/X.s₀.heap.objs.size<=b)/\b≠X.env.locals/\(∀ x c,X.env.cells.lookup x=some c->c≠b)/\∀ p∈X.pn++pins,p.1≠b):bH X pins σ H' s':=by
 obtain ⟨h',g',d',t',g⟩:=s';have e:g=s.os:=ho;subst e;exact I.call (g':=g') (t':=t') (d':=d') u d f a
end
abbrev XK:=ac->Option aj->Hp->Prop
abbrev St:=List (Option V)
abbrev VK:=V->Hp->Prop
abbrev TE:=St->Hp->VK->Prop
abbrev TT:=St->Hp->(Bool->Hp->Prop)->Prop
abbrev TA:=St->Hp->(List V->Hp->Prop)->Prop
structure Dj where
 nx:St->Hp->Prop
 rt:VK
 bk:St->Hp->Prop:=fun _ _=>False
 ct:St->Hp->Prop:=fun _ _=>False
abbrev TS:=Dj->St->Hp->Prop
inductive EP (X:Cx) (pins:List (aj×Obj)) (σ:St) (Q:VK) (u:ac) (s':ao):Prop
 |mk (v H':_) (h0:bH X pins σ H' s') (h1:dI v u) (h2:Q v H'):EP X pins σ Q u s'
inductive TP (X:Cx) (pins:List (aj×Obj)) (σ:St) (Q:Bool->Hp->Prop) (b:Bool) (s':ao):Prop
 |mk (H':_) (h0:bH X pins σ H' s') (h1:Q b H'):TP X pins σ Q b s'
inductive AP (X:Cx) (pins:List (aj×Obj)) (σ:St) (Q:List V->Hp->Prop) (us:List ac) (s':ao):Prop
 |mk (vs H':_) (h0:bH X pins σ H' s') (h1:dH vs us) (h2:Q vs H'):AP X pins σ Q us s'
inductive SN (X:Cx) (pins:List (aj×Obj)) (k:St->Hp->Prop) (s':ao):Prop
 |mk (σ':St) (H':Hp) (I:bH X pins σ' H' s') (q:k σ' H'):SN X pins k s'
inductive SV (X:Cx) (pins:List (aj×Obj)) (k:V->Hp->Prop) (u:ac) (s':ao):Prop
 |mk (v:V) (σ':St) (H':Hp) (I:bH X pins σ' H' s') (r:dI v u) (q:k v H'):SV X pins k u s'
def SP (X:Cx) (a:List (aj×Obj)) (D:Dj) (f:Flow) (s':ao):Prop :=
 match f with
 |.next=>SN X a D.nx s'
 |.brk=>SN X a D.bk s'
 |.cont=>SN X a D.ct s'
 |.ret u=>SV X a D.rt u s'
def PE (X:Cx) (e:bZ) (t:TE):Prop :=
 ∀ (a:List (aj×Obj)) (s:ao) (b:St) (H:Hp) (Q:VK),bH X a b H s->t b H Q->ar (av X.prog X.w) X.A (dO e X.env) (EP X a b Q) X.xe s
def PT (X:Cx) (e:bZ) (t:TT):Prop :=
 ∀ (a:List (aj×Obj)) (s:ao) (b:St) (H:Hp) (Q:Bool->Hp->Prop),bH X a b H s->t b H Q->ar (av X.prog X.w) X.A (wR e X.env (dO e X.env)) (TP X a b Q) X.xe s
def PW (X:Cx) (e:bZ) (t:TT):Prop :=
 ∀ (b:Sem ac) (a:List (aj×Obj)) (s:ao) (c:St) (H:Hp) (Q:Bool->Hp->Prop),bH X a c H s->t c H Q->ar (av X.prog X.w) X.A (wR e X.env b) (TP X a c Q) X.xe s
theorem PW.pt (h:PW X e t):PT X e t:=h _
def PA (X:Cx) (es:List bZ) (t:TA):Prop :=
 ∀ (c:Pos) (a:List (aj×Obj)) (s:ao) (b:St) (H:Hp) (Q:List V->Hp->Prop),bH X a b H s->t b H Q->ar (av X.prog X.w) X.A (spliced (gG c (az es X.env))) (AP X a b Q) X.xe s
def PS (X:Cx) (st:dY) (t:TS):Prop :=
 ∀ (a:List (aj×Obj)) (s:ao) (b:St) (H:Hp) (D:Dj),bH X a b H s->t D b H->ar (av X.prog X.w) X.A (exec st X.env) (SP X a D) X.xe s
def Bh (X:Cx) (st:List dY) (t:TS):Prop :=
 ∀ (a:List (aj×Obj)) (s:ao) (b:St) (H:Hp) (D:Dj),bH X a b H s->t D b H->ar (av X.prog X.w) X.A (execs st X.env) (SP X a D) X.xe s
theorem fZ {b:Type}{t:Sem b}{Q Q':b->ao->Prop}{M:Model}{A:cf}{E:ac->ao->Prop}{s:ao} (h:ar M A t Q E s) (c:∀ a s,Q a s->Q' a s):ar M A t Q' E s:=bB h c fun _ _ x=>x
end L2
namespace L2
open PySem PySem.Spec PyProof.Rows
section
variable {X:Cx}
inductive Uf (i:Nat) (σ:St) (H:Hp) (Q:VK):Prop
 |mk (v:_) (h0:σ[i]?=some (some v)) (h1:Q v H):Uf i σ H Q
def LU (i:Nat):TE:=Uf i
def tC (v:V):TE:=fun _ H Q=>Q v H
theorem oY (f:X.N[i]?=some x) (o:Ny X.env.scope x) (d:(x==("__debug__" : Str))=false:=by decide) (b:(x==("__classdict__" : Str))=false:=by decide):PE X (.Name x pos) (LU i):=by
 intro a s j H Q I h;obtain ⟨v,e,h⟩:=h;obtain ⟨m,n,g⟩:=I.loc;obtain ⟨u,r,l⟩:=g i x v f e o;have fin:EP X a j Q u s:=⟨v,H,I,r,h⟩;rcases l with ⟨hk,k⟩|⟨hk,c,hc,hcell⟩
 ·exact wpAny_Name (wpAny_loadName_local I.ok.kind hk n k fin) d
 ·rcases hk with hk|hk
  ·exact wpAny_Name (wpAny_loadName_cell I.ok.kind hk hc hcell fin) d
  ·exact wpAny_Name (wpAny_loadName_free I.ok.kind hk hc hcell fin b) d
theorem NW {i j pos}:PE X (.Constant (.int i) j pos) (tC (.int i)):=fun _ _ _ H _ I h=>wpAny_Constant_int ⟨.int i,H,I.tok _,⟨_,rfl⟩,h⟩
theorem NX {b j pos}:PE X (.Constant (.bool b) j pos) (tC (.bl b)):=fun _ _ _ H _ I h=>Constant_bool ⟨.bl b,H,I,rfl,h⟩
theorem Vx {j pos}:PE X (.Constant .none j pos) (tC .non):=fun _ _ _ H _ I h=>Constant_none ⟨.non,H,I,rfl,h⟩
theorem NY {x j pos}:PE X (.Constant (.str x) j pos) (tC (.str x)):=fun _ _ _ H _ I h=>Calls.Constant_str ⟨.str x,H,I.tok _,⟨_,rfl⟩,h⟩
def Gl (X:Cx) (x:Str):Prop:=X.env.kindOf x=some .globalImplicit
theorem yS (I:bH X pins σ H s) (b:Gl X x) (a:X.mg x=some u) (h:Q u s)
  (c:(x==("__debug__" : Str))=false:=by decide):ar (av X.prog X.w) X.A (dO (.Name x pos) X.env) Q E s :=
 nU I.ok.kind b (EL (by rw [I.ok.glob];exact I.mod.glob.keeps I.bk) a h) c
theorem uJ (I:bH X pins σ H s) (e:Gl X x) (b:X.mg x=none) (d:ja x=some u) (h:Q u s)
  (c:x≠"__name__":=by decide) (f:(x==("__debug__" : Str))=false:=by decide):ar (av X.prog X.w) X.A (dO (.Name x pos) X.env) Q E s:=by
 obtain ⟨i,a,g⟩:=I.mod.blt;exact nU I.ok.kind e (Calls.loadGlobal_builtin (by rw [I.ok.glob];exact I.mod.glob.keeps I.bk) b (by rw [I.ok.blt];exact a.keeps I.bk) ((g x c).trans d) h) f
theorem Dk (b:Gl X x) (a:X.mg x=some u) (r:dI v u) (c:(x==("__debug__" : Str))=false:=by decide):PE X (.Name x pos) (tC v) :=
 fun _ _ _ H _ I h=>yS I b a ⟨v,H,I,r,h⟩ c
theorem JY (d:Gl X x) (a:X.mg x=none) (c:ja x=some u) (r:dI v u) (b:x≠"__name__":=by decide) (e:(x==("__debug__" : Str))=false:=by decide):PE X (.Name x pos) (tC v) :=
 fun _ _ _ H _ I h=>uJ I d a c ⟨v,H,I,r,h⟩ b e
variable {a b:bZ}{ta tb:TE}{pos:Pos}
def PC (X:Cx) (op:CmpOp) (a b:bZ) (t:TE):Prop :=
 ∀ (c:List (aj×Obj)) (s:ao) (f:St) (H:Hp) (Q:VK),bH X c f H s->t f H Q ->
  ar (av X.prog X.w) X.A (dO a X.env) (fun v d=>ar (av X.prog X.w) X.A (dO b X.env) (fun u e=>ar (av X.prog X.w) X.A (bG op v u) (EP X c f Q) X.xe e) X.xe d) X.xe s
theorem N_ (b:bZ) (h:op≠.In) (c:op≠.NotIn):ir op b=false:=by
 have e:(op==CmpOp.In)=false:=by cases op<;>first|rfl|exact absurd rfl h
 have d:(op==CmpOp.NotIn)=false:=by cases op<;>first|rfl|exact absurd rfl c
 cases b<;>simp [ir,e,d]
def tB (t:TE):TT:=fun d H Q=>t d H fun x e=>∃ c,x=.bl c/\Q c e
theorem Zt (h:PC X op a b t) (f:ir op b=false:=by first|exact N_ _ (by decide) (by decide)|rfl):PT X (.Compare a [op] [b] pos) (tB t):=by
 intro e s i H Q I k;refine Rn (fZ (h e s i H _ I k) fun v o f=>fZ f fun u w m=>fZ m fun c p ⟨x,g,n,l,j⟩=>?_) f;obtain ⟨d,rfl,q⟩:=j;cases l;exact dC ⟨g,n,q⟩
theorem O0 (h:PE X e t) (he:∀ whole,wR e X.env whole=(do let v <- whole;xO e.pos;Ht [v] (truthy v)):=by intro _;rfl):PT X e (tB t):=by
 intro pins s σ H Q I hw;refine isTrue_plain (fZ (h pins s σ H _ I hw) fun v s1 ⟨x,H1,I1,r1,q1⟩=>?_) (he _);obtain ⟨d,rfl,q⟩:=q1;cases r1;exact dC ⟨H1,I1,q⟩
variable {tA tB':TT}{c7:List bZ}
def Zu (t u:TT):TT:=fun d H Q=>t d H fun c e=>if c=true then u d e Q else Q false e
def tOr (t u:TT):TT:=fun d H Q=>t d H fun c e=>if c=true then Q true e else u d e Q
def Zv (t:TT):TT:=fun d H Q=>t d H fun c e=>Q (!c) e
theorem S4 (f:PT X a tA):PW X (.BoolOp .And [a] pos) tA:=by
 intro j d s g H Q I h;refine isTrue_and (fZ (f d s g H Q I h) fun c i e=>?_);cases c with
 |true=>exact isTrue_and_nil e
 |false=>exact e
theorem O1 (f:PT X a tA):PW X (.BoolOp .Or [a] pos) tA:=by
 intro j d s g H Q I h;refine isTrue_or (fZ (f d s g H Q I h) fun c i e=>?_);cases c with
 |false=>exact isTrue_or_nil e
 |true=>exact e
theorem Vy (k:PT X a tA) (m:PW X (.BoolOp .And (b::c7) pos) tB'):PW X (.BoolOp .And (a::b::c7) pos) (Zu tA tB'):=by
 intro l d s e H Q I h;refine isTrue_and (fZ (k d s e H _ I h) fun c j ⟨f,i,g⟩=>?_);cases c with
 |true=>exact m l d j e f Q i g
 |false=>exact ⟨f,i,g⟩
theorem Ug (k:PT X a tA) (m:PW X (.BoolOp .Or (b::c7) pos) tB'):PW X (.BoolOp .Or (a::b::c7) pos) (tOr tA tB'):=by
 intro l d s e H Q I h;refine isTrue_or (fZ (k d s e H _ I h) fun c j ⟨f,i,g⟩=>?_);cases c with
 |true=>exact ⟨f,i,g⟩
 |false=>exact m l d j e f Q i g
theorem O3 (e:PT X a tA):PT X (.UnaryOp .Not a pos) (Zv tA):=by
 intro d s f H Q I h;exact isTrue_not (fZ (e d s f H (fun c g=>Q (!c) g) I h) fun _ _ x=>by obtain ⟨a,b,c⟩:=x;exact ⟨a,b,c⟩)
def Xh (ta tb:TE):TE:=fun d H Q=>ta d H fun x e=>∃ c,x=.bl c/\if c=true then tb d e Q else Q (.bl false) e
def Xi (ta:TE):TE:=fun d H Q=>ta d H fun x e=>∃ c,x=.bl c/\Q (.bl (!c)) e
theorem Vz {op} (h:PE X a t):PE X (.BoolOp op [a] pos) t:=fun c s d H Q I e=>BoolOp_one (h c s d H Q I e)
theorem VA (l:PE X a ta) (m:PE X (.BoolOp .And (b::c7) pos) tb):PE X (.BoolOp .And (a::b::c7) pos) (Xh ta tb):=by
 intro d s g H Q I h;refine BoolOp_and (fZ (l d s g H _ I h) fun v j ⟨x,f,i,k,e⟩=>?_);obtain ⟨c,rfl,e⟩:=e;cases k;refine dC ?_;cases c with
 |true=>exact m d j g f Q i e
 |false=>exact ⟨.bl false,f,i,rfl,e⟩
theorem VB (f:PE X a ta):PE X (.UnaryOp .Not a pos) (Xi ta):=by
 intro d s g H Q I h;refine UnaryOp_ (fZ (f d s g H _ I h) fun v l ⟨x,i,j,k,e⟩=>?_);obtain ⟨c,rfl,e⟩:=e;cases k;exact not_of (dC ⟨.bl (!c),i,j,rfl,e⟩)
end
end L2
namespace L2
open PySem PySem.Spec PyProof.Rows
inductive KqL (K:a8) (a:aj) (xs:List V):Prop
 |mk (o:Obj) (its:Array ac) (n:Nat) (h0:K.lookup a=some o) (h1:o.cls=.type "list") (h2:o.dict=none) (h3:o.data=.seq its n) (h4:its.size<=sizeLine) (h5:dH xs its.toList):KqL K a xs
def nl (K:a8) (H:Hp) (a:aj) (xs:List V):Prop :=
 Rd H a (.lst xs)\/KqL K a xs
inductive KqT (K:a8) (a:aj) (xs:List V):Prop
 |mk (o:Obj) (its:Array ac) (n:Nat) (h0:K.lookup a=some o) (h1:o.cls=.type "tuple") (h3:o.data=.seq its n) (h4:its.size<=sizeLine) (h5:dH xs its.toList):KqT K a xs
def m5 (K:a8) (H:Hp) (a:aj) (xs:List V):Prop :=
 Rd H a (.tup xs)\/KqT K a xs
def Zw:ac->Option V
 |.none=>some .non
 |.bool b=>some (.bl b)
 |.int i _=>some (.int i)
 |.str x _=>some (.str x)
 |.bytes b _=>some (.byt b)
 |.float b _=>some (.flt b)
 |.ref a=>some (.ref a)
 |.type n=>some (.ty n)
 |_=>none
theorem dI.abs (r:dI x u):Zw u=some x:=by
 cases x with
 |non=>cases r;rfl
 |bl _=>cases r;rfl
 |int _=>obtain ⟨t,rfl⟩:=r;rfl
 |str _=>obtain ⟨t,rfl⟩:=r;rfl
 |byt _=>obtain ⟨t,rfl⟩:=r;rfl
 |flt _=>obtain ⟨t,rfl⟩:=r;rfl
 |ref _=>cases r;rfl
 |ty _=>cases r;rfl
theorem dI.inj (r:dI x u) (q:dI y u):x=y:=bR (r.abs.symm.trans q.abs)
theorem dH.inj (h:dH xs us):∀ {ys:List V},dH ys us->xs=ys:=by
 induction h with
 |nil=>intro ys k;cases k;rfl
 |cons r t a=>intro ys k;cases k with|cons b t'=>rw [r.inj b,a t']
theorem nl.of {K:a8} (h:H a=some (.lst xs)):nl K H a xs:=.inl (.inl h)
theorem m5.of {K:a8} (h:H a=some (.tup xs)):m5 K H a xs:=.inl (.inl h)
inductive InL (h:bK) (a:aj) (xs:List V):Prop
 |mk (its:List ac) (r:dH xs its) (p:PlainL h a its.toArray) (z:xs.length<=sizeLine):InL h a xs
inductive InT (h:bK) (a:aj) (xs:List V):Prop
 |mk (its:List ac) (r:dH xs its) (p:HJ h a its.toArray) (z:xs.length<=sizeLine):InT h a xs
inductive InM (h:bK) (l:aj) (xs:List V):Prop
 |mk (z:xs.length<=sizeLine) (its:List ac) (n:Nat) (r:dH xs its) (hl:xs.length=its.length) (e:h.get? l=some { cls:=.type "list",data:=.seq its.toArray n }):InM h l xs
theorem bH.list (I:bH X pins σ H s) (h:nl X.K H a xs):InL s.heap a xs:=by
 rcases h with h|⟨o,b,n,hk,hc,hd,hs,hz,r⟩
 ·obtain ⟨z,b,n,r,e⟩:=h.ok I.hok;exact ⟨b,r,⟨_,n,e,rfl,rfl,rfl⟩,z⟩
 ·refine ⟨b.toList,r,⟨o,n,I.kIn a o hk,hc,hd,by simpa using hs⟩,?_⟩;have e:=r.length;simp only [au] at e;omega
theorem bH.tuple (I:bH X pins σ H s) (h:m5 X.K H a xs):InT s.heap a xs:=by
 rcases h with h|⟨o,b,n,hk,hc,hs,hz,r⟩
 ·obtain ⟨z,b,r,p⟩:=h.ok I.hok;exact ⟨b,r,p,z⟩
 ·refine ⟨b.toList,r,⟨o,I.kIn a o hk,hc,n,by simpa using hs⟩,?_⟩;have e:=r.length;simp only [au] at e;omega
theorem bH.list_inj (I:bH X pins σ H s) (h:nl X.K H a xs) (h':nl X.K H a ys):xs=ys:=by
 obtain ⟨b,r,⟨o,n,e,_,_,d⟩,_⟩:=I.list h;obtain ⟨its',f,⟨i,j,c,_,_,d'⟩,_⟩:=I.list h';rw [e] at c;cases c;rw [d] at d';injection d' with g _;have:b=its':=by simpa using congrArg Array.toList g
 subst this;exact r.inj f
theorem bH.tuple_inj (I:bH X pins σ H s) (h:m5 X.K H a xs) (h':m5 X.K H a ys):xs=ys:=by
 obtain ⟨b,r,⟨o,e,_,n,d⟩,_⟩:=I.tuple h;obtain ⟨its',f,⟨i,c,_,j,d'⟩,_⟩:=I.tuple h';rw [e] at c;cases c;rw [d] at d';injection d' with g _;have:b=its':=by simpa using congrArg Array.toList g
 subst this;exact r.inj f
abbrev Cx.wish (X:Cx) (E:ac->ao->Prop):Cx:={ X with xe:=E }
abbrev Cx.nox (X:Cx):Cx:=X.wish fun _ _=>False
theorem Cx.Ok.wish {X:Cx} (ok:X.Ok) (E:ac->ao->Prop):(X.wish E).Ok :=
 ⟨ok.mod,ok.kind,ok.glob,ok.blt,ok.above,ok.inj,ok.has,ok.cab,ok.hd,ok.frames,ok.stk,ok.exf,ok.bs,ok.bsz,ok.noex,ok.exfs,ok.funs,ok.frf⟩
theorem Cx.Ok.unwish {X:Cx}{E:ac->ao->Prop} (ok:(X.wish E).Ok):X.Ok :=
 ⟨ok.mod,ok.kind,ok.glob,ok.blt,ok.above,ok.inj,ok.has,ok.cab,ok.hd,ok.frames,ok.stk,ok.exf,ok.bs,ok.bsz,ok.noex,ok.exfs,ok.funs,ok.frf⟩
theorem bH.wish (I:bH X pins σ H s) (E:ac->ao->Prop):bH (X.wish E) pins σ H s:=⟨I.ok.wish E,I.os,I.bare,I.base,I.loc,I.cell,I.free,I.freeC,I.pin,I.hok,I.len⟩
theorem bH.unwish (I:bH (X.wish E) pins σ H s):bH X pins σ H s:=⟨I.ok.unwish,I.os,I.bare,I.base,I.loc,I.cell,I.free,I.freeC,I.pin,I.hok,I.len⟩
theorem SP.unwish (h:SP (X.wish E) pins D f s'):SP X pins D f s':=by
 cases f with
 |next=>obtain ⟨σ',H',I,q⟩:=h;exact ⟨σ',H',I.unwish,q⟩
 |brk=>obtain ⟨σ',H',I,q⟩:=h;exact ⟨σ',H',I.unwish,q⟩
 |cont=>obtain ⟨σ',H',I,q⟩:=h;exact ⟨σ',H',I.unwish,q⟩
 |ret u=>obtain ⟨v,σ',H',I,r,q⟩:=h;exact ⟨v,σ',H',I.unwish,r,q⟩
section
variable {X:Cx}{st:dY}{c7:List dY}{t u:TS}{e:bZ}{te:TE}{pos:Pos}
def Xj:TS:=fun D a H=>D.nx a H
def Zx (t u:TS):TS:=fun D a H=>t { D with nx:=u D } a H
theorem JZ:Bh X [] Xj:=fun _ _ a H _ I h=>oT ⟨a,H,I,h⟩
theorem kL (b:PS X st t) (i:Bh X c7 u):Bh X (st::c7) (Zx t u):=by
 intro a s g H D I h;refine wpAny_execs_cons (fZ (b a s g H { D with nx:=u D } I h) fun f c q=>?_);cases f with
 |next =>
  obtain ⟨σ',H',d,q⟩:=q;exact i a c σ' H' D d q
 |ret v=>exact q
 |brk=>exact q
 |cont=>exact q
theorem vH (b:PS X st t):Bh X [st] t:=by
 intro a s c H D I h;refine wpAny_execs_cons (fZ (b a s c H D I h) fun f d q=>?_);cases f with
 |next=>exact oT q
 |ret v=>exact q
 |brk=>exact q
 |cont=>exact q
theorem bH.quiet (I:bH X pins σ H s):interactive X.env=false:=by simp [interactive,I.ok.kind]
def Xk (te:TE):TS:=fun D a H=>te a H fun _ b=>D.nx a b
theorem vI (he:PE X e te) (hs:iO e none pos.line X.env=pure false:=by rfl):PS X (.Expr e pos) (Xk te):=by
 intro a s c H D I h;exact wpAny_Expr_any (fZ (he a s c H _ I h) fun v i b=>by obtain ⟨x,d,g,j,f⟩:=b;exact ⟨c,d,g,f⟩) I.quiet hs
def Xl (te:TE):TS:=fun D a H=>te a H D.rt
theorem Dl (he:PE X e te):PS X (.Return (some e) pos) (Xl te):=by
 intro a s c H D I h;exact wpAny_Return_some (fZ (he a s c H _ I h) fun v j b=>by obtain ⟨x,d,g,i,f⟩:=b;exact ⟨x,c,d,g,i,f⟩)
def Zy (c:TT) (t u:TS):TS:=fun D a H=>c a H fun b d=>if b=true then t D a d else u D a d
theorem Uh (n:PT X c tc) (m:Bh X a t) (o:Bh X b u):PS X (.If c a b pos) (Zy tc t u):=by
 intro f s g H D I h;refine wpAny_If (fZ (n f s g H _ I h) fun d i ⟨j,l,k⟩=>?_);cases d with
 |true=>exact m f i g j D l k
 |false=>exact o f i g j D l k
def VC:TS:=fun _ _ _=>False
theorem pO:Bh X sts VC:=fun _ _ _ _ _ _ h=>h.elim
end
abbrev TG:=V->St->Hp->(St->Hp->Prop)->Prop
abbrev S5:=List V->St->Hp->(St->Hp->Prop)->Prop
def PG (X:Cx) (a:bZ) (t:TG):Prop :=
 ∀ (b:List (aj×Obj)) (s:ao) (c:St) (H:Hp) (v:V) (u:ac) (Q:St->Hp->Prop),bH X b c H s->dI v u->t v c H Q ->
  ar (av X.prog X.w) X.A (rT a X.env u) (fun _ s'=>SN X b Q s') X.xe s
def Ui (X:Cx) (e:List bZ) (t:S5):Prop :=
 ∀ (a:List (aj×Obj)) (s:ao) (c:St) (H:Hp) (d:List V) (b:List ac) (Q:St->Hp->Prop),bH X a c H s->dH d b->t d c H Q ->
  ar (av X.prog X.w) X.A (Lw ((jb e X.env).map (·.2)) b) (fun _ s'=>SN X a Q s') X.xe s
def xW (i:Nat):TG:=fun v a H Q=>Q (a.set i (some v)) H
theorem dm (b:X.N.Nodup) (e:X.N[i]?=some x) (d:Ue X.env.scope x) (f:X.fn x=true\/X.env.scope.names.lookup x=some .local:=by first|exact .inl rfl|exact .inr rfl|assumption):PG X (.Name x pos) (xW i):=by
 intro a s g H v u Q I r h;exact wpAny_assign_Name (s9 I b e d r (fun s' c=>⟨_,H,c,h⟩) f)
def aQ:S5:=fun b a H Q=>b=[]/\Q a H
inductive O4 (t:TG) (u:S5) (vs:List V) (σ:St) (H:Hp) (Q:St->Hp->Prop):Prop
 |mk (v r:_) (h0:vs=v::r) (h1:t v σ H fun σ' H'=>u r σ' H' Q):O4 t u vs σ H Q
def af (t:TG) (u:S5):S5:=O4 t u
theorem Dm:Ui X [] aQ:=by
 intro a s b H d c Q I r h;obtain ⟨e,h⟩:=h;subst e;cases r;exact assignInOrder_nil ⟨b,H,I,h⟩
theorem sd (c:PG X e t) (l:Ui X es u)
  (hs:(jb (e::es) X.env).map (·.2)=rT e X.env::(jb es X.env).map (·.2):=by rfl):Ui X (e::es) (af t u):=by
 intro a s g H p o Q I r h;obtain ⟨v,n,k,h⟩:=h;subst k;cases r with
 |cons r i =>
  rw [hs];refine zh (fZ (c a s g H _ _ _ I r h) fun _ d ⟨b,f,m,j⟩=>?_);exact l a d b f _ _ Q m i j
inductive Uj (K:a8) (n:Nat) (t:S5) (v:V) (σ:St) (H:Hp) (Q:St->Hp->Prop):Prop
 |mk (a xs:_) (h0:v=.ref a) (h1:m5 K H a xs) (h2:xs.length=n) (h3:t xs σ H Q):Uj K n t v σ H Q
def VD (K:a8) (n:Nat) (t:S5):TG:=Uj K n t
theorem Ir (m:X.calm=true) (h:Ui X es t)
  (w:(jb es X.env).length=n:=by rfl) (d:(jb es X.env).findIdx? (·.1)=none:=by rfl):PG X (.Tuple es k pos) (VD X.K n t):=by
 intro c s g H v u Q I r f;obtain ⟨a,xs,x,p,l,f⟩:=f;subst x;cases r;obtain ⟨q,i,j,A⟩:=I.tuple p;refine assign_Tuple_tuple (I.ok.hd m) j (by simp [w,<- l,i.length]) d fun h' y=>?_;have z:bH X c g H { s with heap:=h' }:=I.kept (t':=s.toks) fun b o e=>y b o (aB (aq e)) e;exact h c _ g H xs _ Q z (by simpa using i) f
def Xm (b:TE) (g:TG):TS:=fun D a H=>b a H fun x c=>g x a c D.nx
theorem O5 (he:PE X e te) (m:PG X tg g) (hs:yJ [tg] e pos.line X.env=pure false:=by rfl) (j:yK [tg] e X.env=pure none:=by rfl)
  (c:(jb [tg] X.env).map (·.2)=[rT tg X.env]:=by rfl):PS X (.Assign [tg] e pos) (Xm te g):=by
 intro a s b H D I h;refine wpAny_Assign_stores (fZ (he a s b H _ I h) fun v d ⟨x,f,l,k,i⟩=>?_) hs j;rw [c];exact fZ (m a d b f x v _ l k i) fun _ n q=>q
theorem Do (b:X.N.Nodup) (j:X.N[i]?=some x) (m:Ue X.env.scope x) (he:PE X e te) (hs:iO e (some (.Name x pos')) pos.line X.env=pure false:=by rfl) (g:X.fn x=true\/X.env.scope.names.lookup x=some .local:=by first|exact .inl rfl|exact .inr rfl|assumption) :
  PS X (.Assign [.Name x pos'] e pos) (Xm te (xW i)):=by
 intro a s d H D I h;refine wpAny_Assign_Name (fZ (he a s d H _ I h) fun v o ⟨y,c,n,l,f⟩=>?_) hs;exact s9 n b j m l (fun p k=>⟨_,c,k,f⟩) g
def ZA (i j:Nat) (c:TA):TS:=fun D a H=>c a H fun d b=>∃ v w,d=[v,w]/\D.nx ((a.set i (some v)).set j (some w)) b
theorem VE {kt k2 pt2} (hc:X.calm=true) (hN:X.N.Nodup) (hi:X.N[i]?=some x) (hj:X.N[j]?=some y) (hij:i≠j)
  (hx:X.env.scope.names.lookup x=some .local) (hy:X.env.scope.names.lookup y=some .local) (ha:PA X [a,b] ta)
  (hw:yK [.Tuple [.Name x px,.Name y py] kt pt] (.Tuple [a,b] k2 pt2) X.env=pure (some [x,y]))
  (hs:yJ [.Tuple [.Name x px,.Name y py] kt pt] (.Tuple [a,b] k2 pt2) pos.line X.env=pure false:=by rfl) :
  PS X (.Assign [.Tuple [.Name x px,.Name y py] kt pt] (.Tuple [a,b] k2 pt2) pos) (ZA i j ta):=by
 intro pins s σ H D I h;rw [exec_Assign_arm];refine a7 (jA ?_);rw [hs];refine a7 (a9 ?_);rw [if_neg (by decide)];refine a7 (Tuple_ (fZ (ha _ pins s σ H _ I h) fun us s1 ⟨vs,H1,I1,r1,q1⟩=>?_));obtain ⟨v,w,e1,q1⟩:=q1;subst e1;obtain ⟨u1,u2,rfl,rv,rw'⟩:∃ u1 u2,us=[u1,u2]/\dI v u1/\dI w u2:=by
  cases r1 with
  |cons p q =>
   cases q with
   |cons p' q' =>
    cases q';exact ⟨_,_,rfl,p,p'⟩
 refine bS ?_ (by show 2<=sizeLine;decide);have I2:bH X pins σ H1 { s1 with heap:=s1.heap.push { cls:=.type "tuple",data:=.seq [u1,u2].toArray } }:=I1.kept (t':=s1.toks) fun b o e=>aa _ e;rw [hw];refine a7 (a9 ?_);show ar (av X.prog X.w) X.A (do rule "assign.swapped-stores";let items <- unpackItems (.ref s1.heap.objs.size) 2 none;Lw [fun v=>HM X.env y v,fun v=>HM X.env x v] items.reverse;pure Flow.next) _ _ _;refine a7 (cW (a7 (unpackItems_tuple (items:=#[u1,u2]) (I.ok.hd hc) (yq s1.heap _) fun h' hx'=>?_)));have I3:=I2.kept (h':=h') (t':=s1.toks) fun b o e=>hx' b o (aB (aq e)) e;show ar _ _ (Lw [fun v=>HM X.env y v,fun v=>HM X.env x v] [u2,u1] >>= fun _=>pure Flow.next) _ _ _;refine a7 (zh (wpAny_bindName (s9 I3 hN hj (.inl hy) rw' (fun s2 I4=>?_) (.inr hy))));refine zh (wpAny_bindName (s9 I4 hN hi (.inl hx) rv (fun s3 I5=>assignInOrder_nil (a9 ?_)) (.inr hx)));rw [List.set_comm _ _ (cV hij)] at I5;exact ⟨_,H1,I5,q1⟩
def VF (c:TT) (tb:TS):TS:=fun D a H=>∃ W:Nat->St->Hp->Prop,(∃ m,W m a H)/\∀ m a H,W m a H ->
 c a H fun b d=>if b=true then ∃ N:St->Hp->Prop,(∀ σ' H',N σ' H'->∃ e,e<m/\W e σ' H')/\tb { D with nx:=N,ct:=N,bk:=D.nx } a d else D.nx a d
theorem O6 (z:PassesOwn (av X.prog X.w) X.A X.env X.xe) (L:PT X c tc) (O:Bh X body tb):PS X (.While c body [] pos) (VF tc tb):=by
 intro d s M H D I h;obtain ⟨W,⟨K,G⟩,g⟩:=h;refine wpAny_While (codeAny_whileLoop (fun n s'=>∃ σ' H',bH X d σ' H' s'/\W n σ' H') ?_ K ⟨M,H,I,G⟩);rintro n E ⟨e,u,Q,B⟩;refine jr z (fZ (L d E e u _ Q (g n e u B)) fun b P ⟨y,x,j⟩=>?_);cases b with
 |true =>
  obtain ⟨N,t,j⟩:=j;rw [if_pos rfl];refine jr z (fZ (O d P e y _ x j) fun f S k=>?_);cases f with
  |next =>
   obtain ⟨a,i,l,p⟩:=k;obtain ⟨m,o,q⟩:=t a i p;exact ⟨m,o,a,i,l,q⟩
  |cont =>
   obtain ⟨a,i,l,p⟩:=k;obtain ⟨m,o,q⟩:=t a i p;exact ⟨m,o,a,i,l,q⟩
  |brk=>exact k
  |ret v=>exact k
 |false =>
  rw [if_neg a_];exact oT ⟨e,y,x,j⟩
structure It where
 go:Nat->Hp->Prop
 yld:Nat->Hp->V->Hp->Prop
 stop:Nat->Hp->Prop
structure se (X:Cx) (pins:List (aj×Obj)) (H:Hp) (b:aj):Prop where
 f0:H b=none
 f1:b≠X.env.locals
 f2:b∉X.fs
 f3:b∈X.ex\/X.s₀.heap.objs.size<=b
 f4:∀ x c,X.env.cells.lookup x=some c->c≠b
 f5:∀ p∈X.pn++pins,p.1≠b
theorem bH.fpOk (I:bH X pins σ H s) (a:s.heap.objs.size<=b) (f:H' b=none):se X pins H' b:=by
 refine ⟨f,dv (aC I.lt a),I.nofs a,.inr (bL I.sz a),fun x c e z=>?_,fun p d z=>?_⟩
 ·obtain ⟨v,q⟩:=I.cell x c e;exact absurd (aC q.lt (by rw [z];exact a)) (bY _)
 ·exact absurd (aC (aq (I.pin p d).1) (by rw [z];exact a)) (bY _)
structure zz (P:bu) (w:bQ) (K:a8) (tg:bZ) (J:It) (fp:List aj) (it:aj) (tn:Nat->bK->Prop):Prop where
 mem:it∈fp
 obj:∀ i h,tn i h->∀ b∈fp,∃ o,h.get? b=some o/\∀ v,o.data≠.cell v
 keep:∀ i h h',tn i h->(∀ b∈fp,∀ o,h.get? b=some o->h'.get? b=some o)->tn i h'
 item:∀ (X:Cx),X.prog=P->X.w=w->X.K=K->X.calm=true->∀ (i:Nat) (pins:List (aj×Obj)) (s:ao) (σ:St) (H:Hp) (E:ac->ao->Prop),bH X pins σ H s->(∀ b∈fp,se X pins H b)->tn i s.heap->J.go i H ->
  ar (av P w) X.A (kH (.ref it)) (fun r s1=>∃ u,r=some u /\
   ar (av P w) X.A (ii tg (.ref it) u) (fun _ s2=>∃ x H',bH X pins σ H' s2/\dI x u/\J.yld i H x H'/\tn (i+1) s2.heap/\∀ b∈fp,H' b=none) E s1) E s
 done:∀ (X:Cx),X.prog=P->X.w=w->X.K=K->X.calm=true->∀ (i:Nat) (pins:List (aj×Obj)) (s:ao) (σ:St) (H:Hp) (E:ac->ao->Prop),bH X pins σ H s->(∀ b∈fp,se X pins H b)->tn i s.heap->J.stop i H ->
  ar (av P w) X.A (kH (.ref it)) (fun r s1=>r=none/\bH X pins σ H s1) E s
 self:∀ (A:cf) (i:Nat) (s:ao) (Q:ac->ao->Prop) (E:ac->ao->Prop),tn i s.heap->Q (.ref it) s->ar (av P w) A (zi (.ref it)) Q E s
abbrev TI:=St->Hp->(It->Hp->Prop)->Prop
inductive ZB (X:Cx) (pins:List (aj×Obj)) (σ:St) (tg:bZ) (R:It->Hp->Prop) (itv:ac) (s2:ao):Prop
 |mk (it:aj) (fp:List aj) (tn:Nat->bK->Prop) (J:It) (H':Hp) (h0:itv=.ref it) (I:bH X pins σ H' s2) (T:zz X.prog X.w X.K tg J fp it tn) (t0:tn 0 s2.heap) (f:∀ b∈fp,se X pins H' b) (q:R J H'):ZB X pins σ tg R itv s2
inductive ZC (X:Cx) (pins:List (aj×Obj)) (tn:Nat->bK->Prop) (fp:List aj) (W:Nat->Nat->St->Hp->Prop) (n:Nat) (s':ao):Prop
 |mk (i:Nat) (σ':St) (H':Hp) (I:bH X pins σ' H' s') (t:tn i s'.heap) (f:∀ b∈fp,H' b=none) (q:W i n σ' H'):ZC X pins tn fp W n s'
def PI (X:Cx) (tg b:bZ) (e:TI):Prop :=
 ∀ (a:List (aj×Obj)) (s:ao) (c:St) (H:Hp) (R:It->Hp->Prop),bH X a c H s->e c H R ->
  ar (av X.prog X.w) X.A (dO b X.env) (fun v d=>ar (av X.prog X.w) X.A (zi v) (ZB X a c tg R) X.xe d) X.xe s
theorem J_ (ho : s.heap.get? it = some o) (b : o.cls = .type n) (d : o.data = .fields vs)
    (c : ["enumerate", "zip", "dict_itemiterator", "dict_reverseitemiterator", "odict_iterator", "itertools.zip_longest", "itertools.pairwise"].contains n = false) (a : Q () s) : ar M A (ii tg (.ref it) u) Q E s := by
  unfold ii;cases tg <;> first
    | exact a9 a
    | (cases u <;> first
        | exact a9 a
        | (refine a7 (wpAny_load ho ?_)
           rw [b, d];show ar M A (if (["enumerate", "zip", "dict_itemiterator", "dict_reverseitemiterator", "odict_iterator", "itertools.zip_longest", "itertools.pairwise"].contains n && vs[0]? == some (cq _)) = true then _ else _) Q E s;rw [if_neg (by intro h; rw [c, BV] at h; cases h)];exact a9 a))
def ZD (K:a8) (a:aj):It :=
 ⟨fun i H=>∃ xs x,nl K H a xs/\xs[i]?=some x,fun i H x H'=>H'=H/\∀ xs,nl K H a xs->xs[i]?=some x,fun i H=>∃ xs,nl K H a xs/\xs.length<=i⟩
def ZE (K:a8) (a:aj):It :=
 ⟨fun i H=>∃ xs x,m5 K H a xs/\xs[i]?=some x,fun i H x H'=>H'=H/\∀ xs,m5 K H a xs->xs[i]?=some x,fun i H=>∃ xs,m5 K H a xs/\xs.length<=i⟩
def Za (lo:Int) (n:Nat):It:=⟨fun i _=>i<n,fun i H x H'=>H'=H/\x=.int (lo+i),fun i _=>n<=i⟩
theorem LV {P:bu}{w:bQ}{K:a8}{tg:bZ} (a it:aj):zz P w K tg (ZD K a) [it] it (fun i h=>h.IsListIter it a i) where
 mem:=by simp
 obj:=fun i h st b g=>by
  have e:b=it:=by simpa using g
  subst e;obtain ⟨o,e,c,d⟩:=st;exact ⟨o,e,fun v z=>by rw [d] at z;cases z⟩
 keep:=fun i h h' st k=>st.at fun o e=>k it (by simp) o e
 item:=by
  intro X B t n S i f s T H E I m st O;subst B t n;obtain ⟨xs,x,l,Q⟩:=O;obtain ⟨y,M,p,Y⟩:=I.list l;obtain ⟨u,hu,ru⟩:=M.get Q;obtain ⟨N,L,f2,G,q,A⟩:=m it (by simp);refine wpAny_pyNext_list_item st p.isList (x:=u) (by simpa using hu) fun h' j sb=>?_;have I1:bH X f T H { s with heap:=h' }:=I.turned (t':=s.toks) (fun b o g e=>(sb.2 b g).trans e) N L G q A;obtain ⟨o,e,c,d⟩:=id j;exact ⟨u,rfl,J_ (s:={ s with heap:=h' }) e c d (by decide) ⟨x,H,I1,ru,⟨rfl,fun ys U=>by rw [I.list_inj U l];exact Q⟩,j,fun b g=>(m b g).1⟩⟩
 done:=by
  intro X B t n S i f s T H E I m st O;subst B t n;obtain ⟨xs,l,Q⟩:=O;obtain ⟨y,M,p,Y⟩:=I.list l;obtain ⟨N,L,f2,G,q,A⟩:=m it (by simp);have hl:=M.length;exact wpAny_pyNext_list_end (I.ok.hd S) st p.isList (by simp;omega) fun h' eb=>⟨rfl,I.turned (t':=s.toks) (fun b o g e=>eb b o g e) N L G q A⟩
 self:=fun _ _ _ _ _ st h=>wpAny_pyIter_listiter st h
theorem Iu {P:bu}{w:bQ}{K:a8}{tg:bZ} (a it:aj):zz P w K tg (ZE K a) [it] it (fun i h=>h.IsTupleIter it a i) where
 mem:=by simp
 obj:=fun i h st b j=>by
  have e:b=it:=by simpa using j
  subst e;obtain ⟨o,e,c,d⟩:=st;exact ⟨o,e,fun v z=>by rw [d] at z;cases z⟩
 keep:=fun i h h' st k=>st.at fun o e=>k it (by simp) o e
 item:=by
  intro X B y q S i f s T H E I n st O;subst B y q;obtain ⟨xs,x,m,Q⟩:=O;obtain ⟨g,M,p,Y⟩:=I.tuple m;obtain ⟨u,hu,ru⟩:=M.get Q;obtain ⟨N,L,f2,G,t,A⟩:=n it (by simp);refine wpAny_pyNext_tuple_item st (show s.heap.IsTuple a g.toArray from p) (x:=u) (by simpa using hu) fun h' l sb=>?_;have I1:bH X f T H { s with heap:=h' }:=I.turned (t':=s.toks) (fun b o j e=>(sb.2 b j).trans e) N L G t A;obtain ⟨o,e,c,d⟩:=id l;exact ⟨u,rfl,J_ (s:={ s with heap:=h' }) e c d (by decide) ⟨x,H,I1,ru,⟨rfl,fun ys U=>by rw [I.tuple_inj U m];exact Q⟩,l,fun b j=>(n b j).1⟩⟩
 done:=by
  intro X B y q S i f s T H E I n st O;subst B y q;obtain ⟨xs,m,Q⟩:=O;obtain ⟨g,M,p,Y⟩:=I.tuple m;obtain ⟨N,L,f2,G,t,A⟩:=n it (by simp);have hl:=M.length;exact wpAny_pyNext_tuple_end (I.ok.hd S) st (show s.heap.IsTuple a g.toArray from p) (by simp;omega) fun h' eb=>⟨rfl,I.turned (t':=s.toks) (fun b o j e=>eb b o j e) N L G t A⟩
 self:=fun _ _ _ _ _ st h=>wpAny_pyIter_tupleiter st h
theorem Iv {P:bu}{w:bQ}{K:a8}{tg:bZ} (it:aj) (lo:Int) (n:Nat):zz P w K tg (Za lo n) [it] it (fun i h=>IsRangeIter h it (lo+(i:Nat)*1) ((n:Int)-(i:Nat)) 1) where
 mem:=by simp
 obj:=fun i h st b c=>by
  have e:b=it:=by simpa using c
  subst e;exact ⟨_,st,fun v z=>by
   have N:Data.fields _=Data.cell v:=z;cases N⟩
 keep:=fun i h h' st k=>k it (by simp) _ st
 item:=by
  intro X q m g l i a s G H E I f st A;subst q m g;obtain ⟨y,x,M,u,j,p⟩:=f it (by simp);have W:=Walks.range (prog:=X.prog) (w:=X.w) (I.ok.hd l) it lo 1 n;refine W.item i s _ _ A st fun v h' B Q d L=>?_;obtain ⟨t,rfl⟩:=Q;have S:bH X a G H { s with heap:=h',toks:=B }:=I.turned (fun b o c e=>L b o (by simpa using c) e) y x u j p;refine ⟨_,rfl,J_ (s:={ s with heap:=h',toks:=B }) (n:="range_iterator") d rfl rfl (by decide) ⟨.int (lo+i),H,S,⟨t,?_⟩,⟨rfl,rfl⟩,d,fun b c=>(f b c).1⟩⟩;rw [Int.mul_one]
 done:=by
  intro X q m g l i a s G H E I f st A;subst q m g;obtain ⟨y,x,M,u,j,p⟩:=f it (by simp);exact wpAny_pyNext_range_end (I.ok.hd l) st (by have:n<=i:=A;omega) fun h' O=>⟨rfl,I.turned (t':=s.toks) (fun b o c e=>O b o c e) y x u j p⟩
 self:=fun _ _ _ _ _ st h=>wpAny_pyIter_rangeiter st h
end L2
namespace L2
open PySem PySem.Spec PyProof.Rows
def Xn (K:a8) (tl:TE):TI:=fun c H R=>tl c H fun x b=>∃ a,x=.ref a/\(∃ xs,nl K b a xs)/\R (ZD K a) b
def ZF (K:a8) (tl:TE):TI:=fun c H R=>tl c H fun x b=>∃ a,x=.ref a/\(∃ xs,m5 K b a xs)/\R (ZE K a) b
theorem vJ {l:bZ}{tl:TE} (j:PE X l tl):PI X tg l (Xn X.K tl):=by
 intro d s m H R I h;refine fZ (j d s m H _ I h) fun v f c=>?_;obtain ⟨x,i,g,w,n⟩:=c;obtain ⟨a,e,⟨xs,k⟩,q⟩:=n;subst e;cases w;obtain ⟨t,z,p,y⟩:=g.list k;refine mz p.isList ?_;refine ⟨f.heap.objs.size,[f.heap.objs.size],_,_,i,rfl,g.kept (t':=f.toks) fun b o e=>aa _ e,LV a _,⟨_,aw _ rfl,rfl,rfl⟩,fun b u=>?_,q⟩;have e:b=f.heap.objs.size:=by simpa using u
 subst e;exact g.fpOk (ap _) (g.hok.fresh (ap _))
theorem O7 {l:bZ}{tl:TE} (k:PE X l tl):PI X tg l (ZF X.K tl):=by
 intro d s n H R I h;refine fZ (k d s n H _ I h) fun v c f=>?_;obtain ⟨x,j,g,w,t⟩:=f;obtain ⟨a,e,⟨xs,m⟩,q⟩:=t;subst e;cases w;obtain ⟨i,z,p,y⟩:=g.tuple m;refine gX (show c.heap.IsTuple a i.toArray from p) ?_;refine ⟨c.heap.objs.size,[c.heap.objs.size],_,_,j,rfl,g.kept (t':=c.toks) fun b o e=>aa _ e,Iu a _,⟨_,aw _ rfl,rfl,rfl⟩,fun b u=>?_,q⟩;have e:b=c.heap.objs.size:=by simpa using u
 subst e;exact g.fpOk (ap _) (g.hok.fresh (ap _))
theorem O8 {c:List (aj×Obj)}{d:St}{H:Hp}{s:ao}{R:It->Hp->Prop}{E:ac->ao->Prop}{lo a:Int}{t u v:Tok}{g:Nat} (I:bH X c d H s) (h:-(2 ^ 62)<=lo) (j:lo<2 ^ 62) (k:-(2 ^ 62)<=a) (l:a<2 ^ 62)
  (q:R (Za lo (a-lo).toNat) H):ar (av X.prog X.w) X.A (zi (.ref s.heap.objs.size)) (ZB X c d tg R) E { s with heap:=s.heap.push { cls:=.type "range",data:=.fields #[.int lo t,.int a u,.int 1 v] },toks:=g }:=by
 refine wpAny_pyIter_range (IsRange.new ..) (small_one h j k l) ?_;have f:bH X c d H { s with heap:=s.heap.push { cls:=.type "range",data:=.fields #[.int lo t,.int a u,.int 1 v] },toks:=g }:=I.kept fun b o e=>aa _ e;refine ⟨(s.heap.push { cls:=.type "range",data:=.fields #[.int lo t,.int a u,.int 1 v] }).objs.size,[(s.heap.push { cls:=.type "range",data:=.fields #[.int lo t,.int a u,.int 1 v] }).objs.size],_,_,H,rfl,
  f.kept (t':=g) fun b o e=>aa _ e,Iv _ lo (a-lo).toNat,?_,fun b m=>?_,q⟩
 ·have i:lo+((0:Nat):Int)*1=lo:=by simp
  have n:(((a-lo).toNat:Nat):Int)-((0:Nat):Int)=Builtin.Range.rangeSize lo a 1:=by rw [rangeSize_one];split<;>omega
  show IsRangeIter _ _ (lo+((0:Nat):Int)*1) ((((a-lo).toNat:Nat):Int)-((0:Nat):Int)) 1;rw [i,n];exact aw _ rfl
 ·have e:b=(s.heap.push { cls:=.type "range",data:=.fields #[.int lo t,.int a u,.int 1 v] }).objs.size:=by simpa using m
  subst e;exact f.fpOk (ap _) (f.hok.fresh (ap _))
def Xo (c:TA):TI:=fun a H R=>c a H fun d b=>∃ j:Int,d=[.int j]/\-(2 ^ 62)<=j/\j<2 ^ 62/\R (Za 0 j.toNat) b
theorem LW {a:bZ}{f:TA}{p c:Pos} (u:Gl X "range") (l:X.mg "range"=none) (g:PA X [a] f) (hs:az [a] X.env=[(false,dO a X.env)]:=by rfl):PI X tg (.Call (.Name "range" p) [a] [] c) (Xo f):=by
 intro b s i H R I h;refine Call_ (uJ I u l boot_range (fu (fZ (g c b s i H _ I h) fun x v ⟨y,w,o,m,d⟩=>?_) hs rfl));obtain ⟨j,e,d,n,q⟩:=d;subst e;cases m with
 |cons r k =>
  cases k;obtain ⟨t,rfl⟩:=r;exact call_range_1 (O8 o (by omega) (by omega) d n (by simpa using q))
inductive ZG (g:TG) (tb:TS) (D:Dj) (σ:St) (J:It) (H1:Hp):Prop
 |mk (W:Nat->Nat->St->Hp->Prop) (w0:∃ m,W 0 m σ H1) (turn:∀ i m σ H,W i m σ H ->
 (J.stop i H/\D.nx σ H)\/(J.go i H/\∃ N:St->Hp->Prop,(∀ σ' H',N σ' H'->∃ m',m'<m/\W (i+1) m' σ' H')/\∀ x H',J.yld i H x H'->g x σ H' fun σ2 H2=>tb { D with nx:=N,ct:=N,bk:=D.nx } σ2 H2)):ZG g tb D σ J H1
def ZH (b:TI) (g:TG) (tb:TS):TS:=fun D a H=>b a H (ZG g tb D a)
def xh (a:List aj) (h:bK):List (aj×Obj):=a.filterMap fun b=>(h.get? b).map fun o=>(b,o)
theorem lB (a:b∈fp) (e:h.get? b=some o):(b,o)∈xh fp h:=List.mem_filterMap.mpr ⟨b,a,by rw [e];rfl⟩
theorem LX (c:p∈xh fp h):p.1∈fp/\h.get? p.1=some p.2:=by
 obtain ⟨b,d,e⟩:=List.mem_filterMap.mp c;cases q:h.get? b with
 |none=>rw [q] at e;cases e
 |some o =>
  rw [q] at e;have a:(b,o)=p:=bR e;subst a;exact ⟨d,q⟩
theorem bH.pinned (I:bH X pins σ H s) (i:∀ b∈fp,se X pins H b) (ho:∀ b∈fp,∃ o,s.heap.get? b=some o/\∀ v,o.data≠.cell v):bH X (pins++xh fp s.heap) σ H s :=
 I.pins_of fun p f=>(List.mem_append.mp f).elim (fun z=>I.pin p (aM _ z)) fun z=>by
  obtain ⟨c,e⟩:=LX z;obtain ⟨j,g,h,_⟩:=i p.1 c;obtain ⟨o,a,d⟩:=ho p.1 c;rw [e] at a;cases a;exact ⟨e,j,g,h,d⟩
theorem bH.unpinned (I:bH X (pins++pl) σ H s):bH X pins σ H s:=I.pins_of fun p a=>I.pin p (aM _ (bg _ a))
theorem O9 (M:PassesOwn (av X.prog X.w) X.A X.env X.xe) (hc:X.calm=true) (hi:PI X tg iter wi) (hg:PG X tg g) (j:Bh X body tb)
  (hs:∀ x,eV iter X.env x=pure x:=by intro _;rfl):PS X (.For tg iter body [] pos) (ZH wi g tb):=by
 intro c s σ H D I h
 refine wpAny_For (fZ (hi c s σ H _ I h) fun v s1 h1=>fZ h1 fun a0 s2 h2=>?_) hs
 obtain ⟨it,B,tn,J,H2,e,I2,T,U,z,W,⟨m0,w0⟩,K⟩:=h2
 subst e
 have q:∀ {H':Hp},(∀ b∈B,H' b=none)->∀ b∈B,se X c H' b:=fun hn b j=>⟨hn b j,(z b j).f1,(z b j).f2,(z b j).f3,(z b j).f4,(z b j).f5⟩
 refine codeAny_forLoop_any (ZC X c tn B W) ?_ m0 ⟨0,σ,H2,I2,U,fun b j=>(z b j).1,w0⟩
 rintro n s3 ⟨i,l,P,I3,O,L,w3⟩
 rcases K i n l P w3 with ⟨G,qn⟩|⟨go,N,hN,step⟩
 ·refine jr M (fZ (T.done X rfl rfl rfl hc i c s3 l P X.xe I3 (q L) O G) fun r s4 ⟨hr,I4⟩=>?_)
  subst hr
  exact oT ⟨l,P,I4,qn⟩
 ·refine jr M (fZ (T.item X rfl rfl rfl hc i c s3 l P X.xe I3 (q L) O go) fun r s4 ⟨u,hr,h4⟩=>?_)
  subst hr
  refine jr M (fZ h4 fun _ s5 ⟨x,H5,I5,r5,y5,y,Y⟩=>?_)
  have Q:=I5.pinned (q Y) (T.obj _ _ y)
  refine jr M (fZ (hg _ s5 l H5 x u _ Q r5 (step x H5 y5)) fun _ s6 ⟨S,H6,I6,q6⟩=>?_)
  refine jr M (fZ (j _ s6 S H6 _ I6 q6) fun f s7 t=>?_)
  have RC:∀ {a:St}{p:Hp},bH X (c++xh B s5.heap) a p s7->N a p->∃ m,m<n/\ZC X c tn B W m s7:=fun {a p} k E=>by
   obtain ⟨m',hm,w7⟩:=hN a p E
   refine ⟨m',hm,i+1,a,p,k.unpinned,T.keep _ _ _ y fun b j o e=>(k.pin (b,o) (aM _ (aM _ (lB j e)))).1,fun b j=>?_,w7⟩
   obtain ⟨o,e,d⟩:=T.obj _ _ y b j
   exact (k.pin (b,o) (aM _ (aM _ (lB j e)))).2.1
  cases f with
  |next=>obtain ⟨a,p,k,E⟩:=t;exact RC k E
  |cont=>obtain ⟨a,p,k,E⟩:=t;exact RC k E
  |brk=>obtain ⟨a,p,k,t⟩:=t;exact ⟨a,p,k.unpinned,t⟩
  |ret v=>obtain ⟨x7,a,p,k,r7,t⟩:=t;exact ⟨x7,a,p,k.unpinned,r7,t⟩
end L2
namespace L2
open PySem PySem.Spec PyProof.Rows
abbrev R2:=V->V->Hp->VK->Prop
def rK (X:Cx) (f:ac->ac->Sem ac) (r:R2):Prop :=
 ∀ (a:List (aj×Obj)) (s:ao) (b:St) (H:Hp) (x y:V) (v u:ac) (Q:VK),bH X a b H s->dI x v->dI y u->r x y H Q ->
  ar (av X.prog X.w) X.A (f v u) (EP X a b Q) X.xe s
def ZI (X:Cx) (f:ac->Sem ac) (r:V->Hp->VK->Prop):Prop :=
 ∀ (a:List (aj×Obj)) (s:ao) (b:St) (H:Hp) (x:V) (v:ac) (Q:VK),bH X a b H s->dI x v->r x H Q ->
  ar (av X.prog X.w) X.A (f v) (EP X a b Q) X.xe s
def jF (X:Cx) (f:ac) (r:List V->Hp->VK->Prop):Prop :=
 ∀ (a:List (aj×Obj)) (s:ao) (c:St) (H:Hp) (xs:List V) (b:List ac) (Q:VK),bH X a c H s->dH xs b->r xs H Q ->
  ar (av X.prog X.w) X.A (call f b) (EP X a c Q) X.xe s
def ZJ (X:Cx) (r:V->Hp->(Bool->Hp->Prop)->Prop):Prop :=
 ∀ (a:List (aj×Obj)) (s:ao) (b:St) (H:Hp) (x:V) (v:ac) (Q:Bool->Hp->Prop),bH X a b H s->dI x v->r x H Q ->
  ar (av X.prog X.w) X.A (truthy v) (TP X a b Q) X.xe s
def Xp (r:R2) (d tb:TE):TE:=fun a H Q=>d a H fun x c=>tb a c fun y b=>r x y b Q
def tUn (r:V->Hp->VK->Prop) (c:TE):TE:=fun a H Q=>c a H fun x b=>r x b Q
inductive rII (C:Int->Int->Prop) (g:Int->Int->V) (x:V) (y:V) (H:Hp) (Q:VK):Prop
 |mk (i j:_) (h0:x=.int i) (h1:y=.int j) (h2:C i j) (h3:Q (g i j) H):rII C g x y H Q
def rI (C:Int->Int->Prop) (g:Int->Int->V):R2:=rII C g
inductive Xq (g:Int->Int->V) (x:V) (y:V) (H:Hp) (Q:VK):Prop
 |mk (i j:_) (h0:x=.int i) (h1:y=.int j) (h2:Q (g i j) H):Xq g x y H Q
def VG (g:Int->Int->V):R2:=Xq g
inductive rUI (g:Int->V) (x:V) (H:Hp) (Q:VK):Prop
 |mk (i:_) (h0:x=.int i) (h1:Q (g i) H):rUI g x H Q
def rU (g:Int->V):V->Hp->VK->Prop:=rUI g
theorem VH (o:PE X a ta) (t:PE X b tb) {c:List (aj×Obj)}{s:ao}{d:St}{H:Hp}{R:V->V->Hp->Prop} (I:bH X c d H s)
  (h:ta d H fun x m=>tb d m fun y e=>R x y e) {Q:ac->ao->Prop}{f:ac->ac->Sem ac}
  (q:∀ v u l x y e,bH X c d e l->dI x v->dI y u->R x y e->ar (av X.prog X.w) X.A (f v u) Q X.xe l) :
  ar (av X.prog X.w) X.A (dO a X.env) (fun v g=>ar (av X.prog X.w) X.A (dO b X.env) (fun u j=>ar (av X.prog X.w) X.A (f v u) Q X.xe j) X.xe g) X.xe s:=by
 refine fZ (o c s d H _ I h) fun v n i=>?_;obtain ⟨x,m,K,B,p⟩:=i;refine fZ (t c n d m _ K p) fun u l k=>?_;obtain ⟨y,e,z,G,E⟩:=k;exact q v u l x y e z B G E
theorem Uk {op:Operator}{r:R2} (ho:rK X (gY op) r) (e:PE X a ta) (g:PE X b tb):PE X (.BinOp a op b pos) (Xp r ta tb):=by
 intro c s f H Q I h;exact wpAny_BinOp (VH e g I h fun v u l x y j i d k q=>ho c l f j x y v u Q i d k q)
theorem Xr (ho:ZI X (unaryOp op) r) (f:PE X a ta):PE X (.UnaryOp op a pos) (tUn r ta):=by
 intro b s d H Q I h;exact UnaryOp_ (fZ (f b s d H _ I h) fun v e c=>by obtain ⟨x,g,j,k,i⟩:=c;exact ho b e d g x v Q j k i)
theorem ZK {f:ac->ac->Sem ac}{C:Int->Int->Prop}{g:Int->Int->Int}
  (a:∀ (i j:Int) (t u:Tok) (s:ao) (Q:ac->ao->Prop) (E:ac->ao->Prop),C i j->Q (.int (g i j) s.toks) { s with toks:=s.toks+1 }->ar (av X.prog X.w) X.A (f (.int i t) (.int j u)) Q E s) :
  rK X f (rI C fun i j=>.int (g i j)):=by
 intro b s k H x y v u Q I c e h;obtain ⟨i,j,rfl,rfl,d,q⟩:=h;obtain ⟨t,rfl⟩:=c;obtain ⟨t',rfl⟩:=e;exact a i j t t' s _ _ d ⟨.int (g i j),H,I.tok _,⟨_,rfl⟩,q⟩
theorem ZL {f:ac->ac->Sem ac}{g:Int->Int->Int}
  (a:∀ (i j:Int) (t u:Tok) (s:ao) (Q:ac->ao->Prop) (E:ac->ao->Prop),Q (.int (g i j) s.toks) { s with toks:=s.toks+1 }->ar (av X.prog X.w) X.A (f (.int i t) (.int j u)) Q E s) :
  rK X f (VG fun i j=>.int (g i j)):=by
 intro b s e H x y v u Q I c d h;obtain ⟨i,j,rfl,rfl,q⟩:=h;obtain ⟨t,rfl⟩:=c;obtain ⟨t',rfl⟩:=d;exact a i j t t' s _ _ ⟨.int (g i j),H,I.tok _,⟨_,rfl⟩,q⟩
theorem VI {f:ac->ac->Sem ac}{g:Int->Int->Bool}
  (a:∀ (i j:Int) (t u:Tok) (s:ao) (Q:ac->ao->Prop) (E:ac->ao->Prop),Q (.bool (g i j)) s->ar (av X.prog X.w) X.A (f (.int i t) (.int j u)) Q E s) :
  rK X f (VG fun i j=>.bl (g i j)):=by
 intro b s e H x y v u Q I c d h;obtain ⟨i,j,rfl,rfl,q⟩:=h;obtain ⟨t,rfl⟩:=c;obtain ⟨t',rfl⟩:=d;exact a i j t t' s _ _ ⟨.bl (g i j),H,I,rfl,q⟩
def ZM (i j:Int):Prop:=0<j/\j<1073741824
def VJ (i j:Int):Prop:=(-(2 ^ 64)<i/\i<2 ^ 64)\/(-(2 ^ 64)<j/\j<2 ^ 64)
theorem VJ.ok (h:VJ i j):IntMulOk i j:=by
 rcases h with ⟨a,b⟩|⟨a,b⟩
 ·exact .of_left (intBits_le_64 a b)
 ·exact .of_right (intBits_le_64 a b)
theorem VL:rK X (gY .Add) (VG fun i j=>.int (i+j)):=ZL fun _ _ _ _ _ _ _ q=>add_int q
theorem VM:rK X (gY .Mult) (rI VJ fun i j=>.int (i*j)):=ZK fun _ _ _ _ _ _ _ a q=>mul_int q a.ok
theorem S6:rK X (gY .FloorDiv) (rI ZM fun i j=>.int (i / j)):=ZK fun i j _ _ _ _ _ a q=>by
 have b:(0:Int)<j:=a.1;have c:j<1073741824:=a.2;exact floordiv_int (by omega) (by rw [Int.fdiv_eq_ediv_of_nonneg i (by omega)];exact q) (.inl (PyProof.noPylong_small (by omega)))
theorem VN:rK X (gY .Mod) (rI (fun _ j=>0<j) fun i j=>.int (i % j)):=ZK fun i j _ _ _ _ _ a q=>by
 have b:(0:Int)<j:=a;exact mod_int' (by omega) (by rw [Int.fmod_eq_emod_of_nonneg i (by omega)];exact q)
theorem unI {f:ac->Sem ac}{g:Int->Int}
  (a:∀ (i:Int) (t:Tok) (s:ao) (Q:ac->ao->Prop) (E:ac->ao->Prop),Q (.int (g i) s.toks) { s with toks:=s.toks+1 }->ar (av X.prog X.w) X.A (f (.int i t)) Q E s) :
  ZI X f (rU fun i=>.int (g i)):=by
 intro b s d H x v Q I c h;obtain ⟨i,rfl,q⟩:=h;obtain ⟨t,rfl⟩:=c;exact a i t s _ _ ⟨.int (g i),H,I.tok _,⟨_,rfl⟩,q⟩
theorem VO:ZI X (unaryOp .USub) (rU fun i=>.int (-i)):=unI fun _ _ _ _ _ q=>neg_int q
def ZN:V->V->Bool
 |.non,.non=>true | .non,.int _=>true | .int _,.non=>true | .non,.bl _=>true | .bl _,.non=>true | .non,.str _=>true | .str _,.non=>true
 |.int _,.int _=>true | .bl _,.bl _=>true | .str _,.str _=>true | .byt _,.byt _=>true
 |.int _,.str _=>true | .str _,.int _=>true | .bl _,.str _=>true | .str _,.bl _=>true
 |_,_=>false
def rNe:R2:=fun x y H Q=>ZN x y=true/\Q (.bl (!decide (x=y))) H
theorem S7:decide (V.int i=V.int j)=(i==j):=by
 rw [iU];simp
theorem VP:decide (V.bl i=V.bl j)=(i==j):=by
 rw [iU];simp
theorem S8:decide (V.str i=V.str j)=(i==j):=by
 rw [iU];simp
theorem S9:decide (V.byt i=V.byt j)=(i.toList==j.toList):=by
 rw [iU];cases i;cases j;simp
theorem iw (I:bH X pins σ H s) (q:Q (.bl k) H) (e:k=k'):EP X pins σ Q (.bool k') s:=by
 subst e;exact ⟨.bl k,H,I,rfl,q⟩
theorem Xs:rK X (bG .NotEq) rNe:=by
 intro c s d H x y v u Q I b a h;obtain ⟨hs,q⟩:=h;cases x with
 |non =>
  cases b;cases y with
  |non=>cases a;exact PySem.EqNone.ne_none_none (iw I q (by simp))
  |bl j=>cases a;exact PySem.EqNone.ne_none_bool (iw I q (by simp))
  |int j=>obtain ⟨t',rfl⟩:=a;exact PySem.EqNone.ne_none_int (iw I q (by simp))
  |str j=>obtain ⟨t',rfl⟩:=a;exact PySem.EqNone.ne_none_str (iw I q (by simp))
  |_=>exact absurd (show false=true from hs) a_
 |bl i =>
  cases b;cases y with
  |non=>cases a;exact PySem.EqNone.ne_bool_none (iw I q (by simp))
  |bl j=>cases a;exact ne_bool (iw I q (congrArg not VP))
  |str j=>obtain ⟨t',rfl⟩:=a;exact PySem.EqMixed.ne_bool_str (iw I q (by simp))
  |_=>exact absurd (show false=true from hs) a_
 |int i =>
  obtain ⟨t,rfl⟩:=b;cases y with
  |non=>cases a;exact PySem.EqNone.ne_int_none (iw I q (by simp))
  |int j=>obtain ⟨t',rfl⟩:=a;exact ne_int (iw I q (congrArg not S7))
  |str j=>obtain ⟨t',rfl⟩:=a;exact PySem.EqMixed.ne_int_str (iw I q (by simp))
  |_=>exact absurd (show false=true from hs) a_
 |str i =>
  obtain ⟨t,rfl⟩:=b;cases y with
  |non=>cases a;exact PySem.EqNone.ne_str_none (iw I q (by simp))
  |bl j=>cases a;exact PySem.EqMixed.ne_str_bool (iw I q (by simp))
  |int j=>obtain ⟨t',rfl⟩:=a;exact PySem.EqMixed.ne_str_int (iw I q (by simp))
  |str j=>obtain ⟨t',rfl⟩:=a;exact ne_str (iw I q (congrArg not S8))
  |_=>exact absurd (show false=true from hs) a_
 |byt i =>
  obtain ⟨t,rfl⟩:=b;cases y with
  |byt j=>obtain ⟨t',rfl⟩:=a;exact PySem.W.ne_bytes (iw I q (congrArg not S9))
  |_=>exact absurd (show false=true from hs) a_
 |_=>cases y<;>exact absurd (show false=true from hs) a_
theorem Xt:rK X (bG .Lt) (VG fun i j=>.bl (decide (i<j))):=VI fun _ _ _ _ _ _ _ q=>lt_int q
theorem Xu:rK X (bG .LtE) (VG fun i j=>.bl (decide (i<=j))):=VI fun _ _ _ _ _ _ _ q=>le_int q
theorem Xv:rK X (bG .Gt) (VG fun i j=>.bl (decide (j<i))):=VI fun _ _ _ _ _ _ _ q=>gt_int q
theorem LY:rK X (bG .Lt) (fun x y H Q=>∃ i j,x=.str i/\y=.str j/\Q (.bl (decide (i.cps.toList<j.cps.toList))) H):=by
 intro a s d H x y v u Q I b c h;obtain ⟨i,j,rfl,rfl,q⟩:=h;obtain ⟨t,rfl⟩:=b;obtain ⟨t',rfl⟩:=c;exact lt_str (iw I q rfl)
theorem VQ:rK X (bG .Is) (fun x y H Q=>y=.non/\Q (.bl (decide (x=.non))) H):=by
 intro b s d H x y v u Q I a c h;obtain ⟨rfl,q⟩:=h;cases c;refine is_none_gen (iw I q ?_);cases x<;>first
  |(cases a;rfl)
  |(obtain ⟨t,rfl⟩:=a;rfl)
theorem Sc:rK X (bG .IsNot) (fun x y H Q=>y=.non/\Q (.bl (!decide (x=.non))) H):=by
 intro b s d H x y v u Q I a c h;obtain ⟨rfl,q⟩:=h;cases c;refine isnot_none_gen (iw I q ?_);cases x<;>first
  |(cases a;rfl)
  |(obtain ⟨t,rfl⟩:=a;rfl)
theorem Iw (b:bZ) (h:op≠.In:=by decide) (a:op≠.NotIn:=by decide):ir op b=false:=by
 have d:(op==CmpOp.In)=false:=by cases op<;>first|rfl|exact absurd rfl h
 have c:(op==CmpOp.NotIn)=false:=by cases op<;>first|rfl|exact absurd rfl a
 cases b<;>simp [ir,d,c]
theorem Sd (ho:rK X (bG op) r) (e:PE X a ta) (g:PE X b tb) (i:ir op b=false):PE X (.Compare a [op] [b] pos) (Xp r ta tb):=by
 intro c s f H Q I h;exact wpAny_Compare1 (VH e g I h fun v u m x y k j d l q=>ho c m f k x y v u Q j d l q) i
def Ul (t:TE):TT:=fun a H Q=>t a H fun x H'=>∃ k,x=.bl k/\Q k H'
theorem K0 (ho:rK X (bG op) r) (l:PE X a ta) (n:PE X b tb) (p:ir op b=false):PT X (.Compare a [op] [b] pos) (Ul (Xp r ta tb)):=by
 intro d s f H Q I h;refine Rn (fZ (l d s f H _ I h) fun v g ⟨x,i,K,w,m⟩=>fZ (n d g f i _ K m) fun u A ⟨y,t,q,E,B⟩ =>
  fZ (ho d A f t x y v u _ q w E B) fun c M ⟨z,o,j,G,k,e,L⟩=>?_) p
 subst e;cases G;exact dC ⟨o,j,L⟩
def Ix (r g:R2) (e tb tc:TE):TE:=fun a H Q=>e a H fun x d=>tb a d fun y c=>r x y c fun z b=>∃ k,z=.bl k /\
 (if k=true then tc a b fun h f=>g y h f Q else Q (.bl false) b)
theorem Oa (ho:rK X (bG op) r) (j:rK X (bG op') r') (B:PE X a ta) (K:PE X b tb) (A:PE X c tc)
  (M:Nl [op,op'] [b,c]=false:=by with_unfolding_all rfl):PE X (.Compare a [op,op'] [b,c] pos) (Ix r r' ta tb tc):=by
 intro f s i H Q I h;refine Compare_chain (fZ (B f s i H _ I h) fun v p ⟨x,t,I1,S,E⟩=>chain_link (fZ (K f p i t _ I1 E) fun u U ⟨y,O,N,n,Y⟩ =>
  fZ (ho f U i O x y v u _ N S n Y) fun d T ⟨z,m,l,r3,k,e,o⟩=>?_)) M
 subst e;cases r3;refine dC ?_;cases k with
 |false=>exact ite_ff ⟨.bl false,m,l,rfl,o⟩
 |true=>exact ite_tt (chain_last (fZ (A f T i m _ l o) fun w' q g=>by obtain ⟨P,w,I4,L,G⟩:=g;exact j f q i w y P u w' Q I4 n L G))
theorem Ob (ho:rK X (bG op) r) (i:rK X (bG op') r') (A:PE X a ta) (G:PE X b tb) (w:PE X c tc)
  (M:Nl [op,op'] [b,c]=false:=by with_unfolding_all rfl):PT X (.Compare a [op,op'] [b,c] pos) (Ul (Ix r r' ta tb tc)):=by
 intro f s g H Q I h;refine isTrue_chain (fZ (A f s g H _ I h) fun v o ⟨x,q,I1,T,B⟩=>test_link (fZ (G f o g q _ I1 B) fun u Y ⟨y,O,N,m,q2⟩ =>
  fZ (ho f Y g O x y v u _ N T m q2) fun d U ⟨z,l,j,r3,k,e,n⟩=>?_)) M
 subst e;cases r3;refine dC ?_;cases k with
 |false =>
  obtain ⟨k',L,q'⟩:=n;cases L;exact ite_ff ⟨l,j,q'⟩
 |true =>
  refine ite_tt (test_last (fZ (w f U g l _ j n) fun w' p ⟨P,t,I4,K,E⟩=>fZ (i f p g t y P u w' _ I4 m K E) fun d' s5 ⟨z2,S,I5,r5,k2,e2,q5⟩=>?_));subst e2;cases r5;exact dC ⟨S,I5,q5⟩
def Xw (K:a8) (x:V) (H:Hp) (k:Bool):Prop :=
 match x with
 |.non=>k=false
 |.bl b=>k=b
 |.int i=>k=(i != 0)
 |.str y=>y.length<=sizeLine/\k=((y.length:Int) != 0)
 |.byt y=>y.size<=sizeLine/\k=((y.size:Int) != 0)
 |.ref p=>(∃ xs,nl K H p xs/\k=!xs.isEmpty)\/(∃ xs,m5 K H p xs/\k=!xs.isEmpty)\/∃ kvs,H p=some (.dK kvs)/\k=!kvs.isEmpty
 |_=>False
theorem Iy {κ:Type}{kvs:List (κ×V)}{a:List (κ×ac)} (r:KV kvs a):(!a.isEmpty)=!kvs.isEmpty:=by
 cases r<;>rfl
theorem zA (r:dH xs its):(!its.toArray.isEmpty)=!xs.isEmpty:=by
 cases r<;>simp
theorem xi:(sizeLine:Nat)<2 ^ 63:=by rw [ik];decide
theorem VR:ZJ X (fun x H Q=>∃ k,Xw X.K x H k/\Q k H):=by
 intro o s B H x v Q I d h;obtain ⟨k,e,q⟩:=h;have A:=xi;have hs:sizeLine=16777216:=ik;cases x with
 |non =>
  cases d;have a:k=false:=e;subst a;exact truthy_none ⟨H,I,q⟩
 |bl b =>
  cases d;have a:k=b:=e;subst a;exact dC ⟨H,I,q⟩
 |int i =>
  obtain ⟨t,rfl⟩:=d;have a:k=(i != 0):=e;subst a;exact PySem.P.truthy_int ⟨H,I,q⟩
 |str y =>
  obtain ⟨t,rfl⟩:=d;obtain ⟨u,a⟩:y.length<=sizeLine/\k=((y.length:Int) != 0):=e;subst a;exact PySem.P.truthy_str (by omega) ⟨H,I.tok _,q⟩
 |byt y =>
  obtain ⟨t,rfl⟩:=d;obtain ⟨u,a⟩:y.size<=sizeLine/\k=((y.size:Int) != 0):=e;subst a;exact PySem.W.truthy_bytes (by omega) ⟨H,I.tok _,q⟩
 |ref p =>
  cases d;have a:(∃ xs,nl X.K H p xs/\k=!xs.isEmpty)\/(∃ xs,m5 X.K H p xs/\k=!xs.isEmpty)\/∃ kvs,H p=some (.dK kvs)/\k=!kvs.isEmpty:=e;rcases a with ⟨xs,f,a⟩|⟨xs,f,a⟩|⟨kvs,f,a⟩
  ·subst a;obtain ⟨j,r,l,n⟩:=I.list f;have c:=r.length;exact wpAny_truthy_list l.isList (by simp only [aK];omega) ⟨H,I.tok _,by rw [zA r];exact q⟩
  ·subst a;obtain ⟨j,r,l,n⟩:=I.tuple f;have c:=r.length;exact truthy_tuple l (by simp only [aK];omega) ⟨H,I.tok _,by rw [zA r];exact q⟩
  ·subst a;obtain ⟨n,z,g,r,m⟩:kvs.length<=sizeLine/\(p==fA)=false/\∃ g,KV kvs g/\s.heap.DictOf (dG X.prog X.w) p g:=I.hok p _ f;have c:kvs.length=g.length:=jV r;exact wpAny_truthy_dict z m (by omega) ⟨H,I.tok _,by rw [Iy r];exact q⟩
 |_=>exact (show False from e).elim
theorem Oc (ha:PE X a ta) (he:∀ whole,wR a X.env whole=(do let v <- whole;xO a.pos;Ht [v] (truthy v))) :
  PT X a (fun σ H Q=>ta σ H fun x H'=>∃ k,Xw X.K x H' k/\Q k H'):=by
 intro pins s σ H Q I h;exact isTrue_plain (fZ (ha pins s σ H _ I h) fun v s1 h_23=>by obtain ⟨x,H1,I1,r1,q1⟩:=h_23;exact VR pins s1 σ H1 x v Q I1 r1 q1) (he _)
theorem Iz:rK X (gY .Add) (fun x y H Q=>∃ i j,x=.str i/\y=.str j/\i.length+j.length<=sizeLine/\Q (.str (i++j)) H):=by
 intro a s f H x y v u Q I b d h;obtain ⟨i,j,rfl,rfl,c,q⟩:=h;obtain ⟨t,rfl⟩:=b;obtain ⟨t',rfl⟩:=d;exact add_str (fun t' e=>⟨.str (i++j),H,I.tok _,⟨_,rfl⟩,q⟩) c
theorem kM (r:dH [x] us):∃ u,us=[u]/\dI x u:=by
 cases r with
 |cons b a=>cases a;exact ⟨_,rfl,b⟩
theorem Od (r:dH [x,y] us):∃ u a,us=[u,a]/\dI x u/\dI y a:=by
 cases r with
 |cons b c =>
  cases c with
  |cons d e=>cases e;exact ⟨_,_,rfl,b,d⟩
end L2
namespace L2
open PySem PySem.Spec PyProof.Rows
structure VS (h:bK) (x dx C:aj) (mA:Str->Option ac):Prop where
 obj:h.get? x=some (yp C dx)
 ns:h.Ns1 dx mA
 ne:dx≠x
theorem L_ {h:bK}{d:aj}{c:Str->Option ac} (n:h.Ns1 d c):∃ f,h.get? d=some f/\∀ name,zj name f=some (c name):=by
 obtain ⟨o,es,m,ho,k,l,_,i⟩:=n;refine ⟨o,ho,fun name=>?_⟩;have e:=i name;unfold nsFind findBy at e;rw [<- Lx] at e;unfold zj;rw [k];dsimp only;split
 ·rename_i y q
  rw [q] at e;exact congrArg some e
 ·rename_i q
  rw [q] at e;have a:es.toList.any (·.refKey)=false:=by
   rw [ND];intro y g;obtain ⟨z,t,b⟩:=l y (Array.mem_toList_iff.mp g);simp [DictEntry.refKey,b]
  have j:¬ es.toList.any (·.refKey)=true:=by rw [a];exact a_
  rw [if_neg j];exact congrArg some e
theorem VS.look (I:VS h x dx C mA):∃ a,PySem.W.InstAt h x (yp C dx) C (some a)/\∀ name,zj name a=some (mA name) :=
 let ⟨a,ho,hl⟩:=L_ I.ns
 ⟨a,⟨I.obj,rfl,rfl,ho⟩,hl⟩
section
variable {prog:bu}{w:bQ}{A:cf}{E:ac->ao->Prop}{s:ao}{K:a8}{x dx C f:aj}{mA:Str->Option ac}{name:Str}{v:ac}
end
theorem zy.some_of (r:zy (some v) o):∃ u,o=some u/\dI v u:=by
 cases o with
 |none=>exact (show False from r).elim
 |some u=>exact ⟨u,rfl,r⟩
theorem Se (c:rq P w H h) (e:H a=some (.ins C dx fs)):∃ b,VS h a dx C b/\(∀ f,zy (fs.lookup f) (b f))/\PySem.Within b (fs.map (·.1))/\fs.length<=1000/\H dx=some (.own a):=by
 obtain ⟨d,z,ne,ob,b,n,r,q⟩:=(show de P w H h a (.ins C dx fs) from c a _ e);exact ⟨b,⟨ob,n,ne⟩,r,q,z,d⟩
structure ZO (K:a8) (C:aj):Prop where
 pg:Ly K C Str.empty=true
 hd:PySem.W.hasDictIn K C=true
 po:PySem.W.plainOver K C=true
 sa:i8 K (.ref C) "__setattr__"=some (some (.builtin "object.__setattr__"))
theorem ZO.get {K:a8}{C:aj} (c:ZO K C) (f:Str):Ly K C f=true:=c.pg
inductive xj (K:a8) (H:Hp):V->ac->Prop where
 |non:xj K H .non (.type "NoneType")
 |bl (x:Bool):xj K H (.bl x) (.type "bool")
 |int (i:Int):xj K H (.int i) (.type "int")
 |str (x:Str):xj K H (.str x) (.type "str")
 |flt (x:UInt64):xj K H (.flt x) (.type "float")
 |lst {a:aj}{xs:List V} (e:H a=some (.lst xs)):xj K H (.ref a) (.type "list")
 |frz {a:aj}{o:Obj}{xs:List V} (e:H a=some (.frz o (.lst xs))):xj K H (.ref a) (.type "list")
 |tup {a:aj}{xs:List V} (e:H a=some (.tup xs)):xj K H (.ref a) (.type "tuple")
 |dK {a:aj}{kvs:List (eC×V)} (e:H a=some (.dK kvs)):xj K H (.ref a) (.type "dict")
 |dT {a:aj}{kvs:List (List eC×V)} (e:H a=some (.dT kvs)):xj K H (.ref a) (.type "dict")
 |ins {a C dx:aj}{fs:List (Str×V)} (e:H a=some (.ins C dx fs)) (cl:ZO K C) (ha:i8 K (.ref C) "__class__"=some (some (.builtin "object.__class__")))
   (hn:vz K (.builtin "object.__class__") "__get__"=some (some (.builtin "getset_descriptor.__get__"))) (htk:yr K (.builtin "object.__class__")=some true)
   (hm:cF K C (.type "object")=some true):xj K H (.ref a) (.ref C)
theorem pP (I:bH X pins σ H s) (d:dI x u) (ty:xj X.K H x t) (e:dQ X.K t c=some b) (h:∀ L,Q (.bool b) { s with toks:=L }) :
  ar (av X.prog X.w) A (call (.builtin "isinstance") [u,c]) Q E s:=by
 cases ty with
 |non=>cases (show u=e6 from d);exact cP PySem.W.kitx_none I.kIn jB e (fun z=>nomatch z) h
 |bl y=>cases (show u=jo y from d);exact cP PySem.W.kitx_bool I.kIn jB e (fun z=>nomatch z) h
 |int i=>obtain ⟨t,q⟩:=(show ∃ t,u=qi i t from d);cases q;exact cP PySem.W.kitx_int I.kIn jB e (fun z=>nomatch z) h
 |str y=>obtain ⟨t,q⟩:=(show ∃ t,u=kF y t from d);cases q;exact cP PySem.W.kitx_str I.kIn jB e (fun z=>nomatch z) h
 |flt y=>obtain ⟨t,q⟩:=(show ∃ t,u=Value.float y t from d);cases q;exact cP PySem.W.kitx_float I.kIn jB e (fun z=>nomatch z) h
 | @lst a xs f =>
  cases (show u=bf a from d);obtain ⟨_,_,n,_,g⟩:=(show de X.prog X.w H s.heap a (.lst xs) from I.hok a _ f);exact cP vA I.kIn ⟨_,g,rfl⟩ e (fun z=>nomatch z) h
 | @frz a ob xs f =>
  cases (show u=bf a from d);obtain ⟨_,_,_,n,_,g⟩:=(show de X.prog X.w H s.heap a (.frz ob (.lst xs)) from I.hok a _ f);exact cP vA I.kIn ⟨_,g,rfl⟩ e (fun z=>nomatch z) h
 | @tup a xs f =>
  cases (show u=bf a from d);obtain ⟨_,_,_,p⟩:=(show de X.prog X.w H s.heap a (.tup xs) from I.hok a _ f);obtain ⟨o,g,j,_⟩:=p;exact cP HN I.kIn ⟨o,g,j⟩ e (fun z=>nomatch z) h
 | @dK a kvs f =>
  cases (show u=bf a from d);obtain ⟨_,_,S,_,p⟩:=(show de X.prog X.w H s.heap a (.dK kvs) from I.hok a _ f);obtain ⟨o,es,v,g,j,_⟩:=p;exact cP JP I.kIn ⟨o,g,j.1⟩ e (fun z=>nomatch z) h
 | @dT a kvs f =>
  cases (show u=bf a from d);obtain ⟨_,_,xs,_,o,es,v,g,j,_⟩:=(show de X.prog X.w H s.heap a (.dT kvs) from I.hok a _ f);exact cP JP I.kIn ⟨o,g,j.1⟩ e (fun z=>nomatch z) h
 | @ins a C N fs f l m G k B =>
  cases (show u=bf a from d);obtain ⟨M,O,_⟩:=Se I.hok f;obtain ⟨P,J,_⟩:=O.look;exact cP (PySem.W.kitx_own (l.get _) l.hd m G k B) I.kIn J e (fun z=>nomatch z) h
end L2
namespace L2
open PySem PySem.Spec PyProof.Rows
structure jO (k:Nat) (A:cf):Prop where
 hd:A.handled=none
 dp:A.depth+3*k+5<HQ
 un:A.units+16*k+200<gM
theorem jO.mono (r:jO k A) (h:j<=k):jO j A:=⟨r.hd,by have:=r.dp;omega,by have:=r.un;omega⟩
theorem jO.deeper (r:jO (k+1) A) (env:Env):jO k (A.deeper env) :=
 ⟨r.hd,by have:=r.dp;show A.depth+1+3*k+5<_;omega,by have:=r.un;show A.units+3+16*k+200<_;omega⟩
theorem jO.depth (r:jO k A):A.depth<HQ:=by have:=r.dp;omega
theorem jO.units (r:jO k A):A.units+64<gM:=by have:=r.un;omega
def Oe:TA:=fun _ H Q=>Q [] H
def F7 (d:TE) (e:TA):TA:=fun a H Q=>d a H fun x c=>e a c fun xs b=>Q (x::xs) b
theorem fB:PA X [] Oe:=fun _ _ _ _ H Q I h=>Calls.spliced_nil ⟨[],H,I,.nil,h⟩
theorem ck (i:PE X e te) (k:PA X es t) (hs:az (e::es) X.env=(false,dO e X.env)::az es X.env:=by rfl):PA X (e::es) (F7 te t):=by
 intro c a s d H Q I h;rw [hs];show ar _ _ (spliced ((false,dO e X.env)::gG c (az es X.env))) _ _ s;refine Calls.spliced_cons (fZ (i a s d H _ I h) fun u f ⟨x,g,q,n,j⟩=>?_);exact fZ (k c a f d g _ q j) fun w v b=>by obtain ⟨xs,m,l,p,o⟩:=b;exact ⟨x::xs,m,l,.cons n p,o⟩
def ZP (t:TA):TE:=fun b H Q=>t b H fun xs a=>xs.length<=sizeLine/\∀ p,a p=none->Q (.ref p) (upd a p (.tup xs))
def ZQ (t:TA):TE:=fun b H Q=>t b H fun xs a=>xs.length<=sizeLine/\∀ p,a p=none->Q (.ref p) (upd a p (.lst xs))
theorem Of {x1} (h:PA X es t):PE X (.Tuple es x1 pos) (ZP t):=by
 intro a s i H Q I g;refine wpAny_Tuple_spliced (fZ (h pos a s i H _ I g) fun k c ⟨xs,d,f,r,z,q⟩=>⟨by rw [<- r.length];exact z,?_⟩);have j:d c.heap.objs.size=none:=f.hok.fresh (ap _);refine ⟨.ref c.heap.objs.size,upd d c.heap.objs.size (.tup xs),f.laid (t':=c.toks) (fun b u e=>aa _ e) (ap _) ?_,rfl,q _ j⟩;exact ⟨z,k,r,⟨_,aw _ rfl,rfl,_,rfl⟩⟩
theorem oZ (h:PA X es t):PE X (.List es pos) (ZQ t):=by
 intro a s i H Q I g;refine wpAny_List_spliced (fZ (h pos a s i H _ I g) fun k c ⟨xs,d,f,r,z,q⟩=>⟨by rw [<- r.length];exact z,?_⟩);have j:d c.heap.objs.size=none:=f.hok.fresh (ap _);refine ⟨.ref c.heap.objs.size,upd d c.heap.objs.size (.lst xs),f.laid (t':=c.toks) (fun b u e=>aa _ e) (ap _) ?_,rfl,q _ j⟩;exact ⟨z,k,0,r,aw _ rfl⟩
abbrev Sp:=List V->Hp->VK->XK->Prop
abbrev M0:=List Env->Hp->ao->XK->ac->ao->Prop
structure IA (P:bu) (w:bQ) (K:a8) (mg:Str->Option ac) (base:bK) (A:cf) (outer:List Env) (s:ao) (H:Hp):Prop where
 frames:A.frames=some outer
 mod:Mod K mg base
 bs:∀ b o,base.get? b=some o->s.heap.get? b=some o/\H b=none
 bsz:base.objs.size<=s.heap.objs.size
 funs:s.heap.FunFrames base outer
 frf:∀ b∈tq outer,H b=none
 hok:rq P w H s.heap
 bare:rM s.gens
inductive CE (outer:List Env) (P:bu) (w:bQ) (H:Hp) (s:ao) (Q:VK) (u:ac) (s':ao):Prop
 |mk (v H':_) (h0:s'.os=s.os) (h1:rM s'.gens) (h2:Un (tq outer) [] H H' s.heap s'.heap) (h3:rq P w H' s'.heap) (h4:dI v u) (h5:Q v H'):CE outer P w H s Q u s'
def CR (CX:M0) (outer:List Env) (P:bu) (w:bQ) (H:Hp) (s:ao) (Q:VK) (E:XK) (r:Result) (s':ao):Prop :=
 match r with
 |.ok (.ret u)=>CE outer P w H s Q u s'
 |.ok _=>False
 |.error e=>CX outer H s E e s'
structure qo (P:bu) (w:bQ) (K:a8) (mg:Str->Option ac) (base:bK) (CX:M0) (k:Nat) (f:aj) (fd:eI) (ps:List Str) (sp:Sp):Prop where
 len:∀ vs H Q E,sp vs H Q E->vs.length=ps.length
 run:∀ (A:cf) (outer:List Env) (s:ao) (H:Hp) (args:Args) (us:List ac) (vs:List V) (Q:VK) (E:XK),jO k A->IA P w K mg base A outer s H->xP s fd args (ps.zip us)->dH vs us->sp vs H Q E ->
  iK (av P w) A (.call (.ref f) args) (CR CX outer P w H s Q E) s
theorem qo.imp {P:bu}{w:bQ}{K:a8}{g:Str->Option ac}{base:bK}{CX:M0}{k:Nat}{f:aj}{d:eI}{e:List Str}{sp b:Sp} (F:qo P w K g base CX k f d e sp)
  (h:∀ a H Q E,b a H Q E->sp a H Q E):qo P w K g base CX k f d e b :=
 ⟨fun a H Q E q=>F.len a H Q E (h _ _ _ _ q),fun A outer s H c l a Q E i he j m hs=>F.run A outer s H c l a Q E i he j m (h _ _ _ _ hs)⟩
theorem bH.env0 (I:bH X pins σ H s):IA X.prog X.w X.K X.mg X.base X.A X.stack s H :=
 ⟨I.ok.frames,I.ok.mod,I.bs,bL I.ok.bsz I.sz,I.stack,I.stkFree,I.hok,I.bare⟩
theorem bH.after (I:bH X pins σ H s) (h:CE X.stack X.prog X.w H s Q u s'):EP X pins σ Q u s':=by
 obtain ⟨v,H',i,a,un,e,r,q⟩:=h;obtain ⟨f,g,d,t,c⟩:=s';obtain rfl:c=s.os:=i;exact ⟨v,H',I.call (h':=f) (g':=g) (d':=d) (t':=t) (ch:=[]) un e a (fun b z=>absurd z (by simp)),r,q⟩
def F8 (sp:Sp) (a:List V) (E:XK) (t:TA):TE:=fun b H Q=>t b H fun d c=>sp (d++a) c Q E
def jG (K:a8) (c:eI) (b:List Str) (ds:List ac):Prop :=
 ∀ (s:ao) (a:List ac),K.In s.heap->(a++ds).length=b.length->xP s c ⟨a,[]⟩ (b.zip (a++ds))
theorem jG.all {K:a8}{c:eI}{b:List Str} (h:∀ a:List ac,a.length=b.length->RE c ⟨a,[]⟩=pure (b.zip a)):jG K c b []:=fun s a _ d=>by
 rw [bT] at d ⊢;exact .of_eq (h a d)
def kO (CX:M0) (X:Cx) (E:XK):Prop:=∀ (a:List (aj×Obj)) (b:St) (H:Hp) (s:ao) (e:ac) (s':ao),bH X a b H s->CX X.stack H s E e s'->X.xe e s'
theorem Og (F:qo X.prog X.w X.K X.mg X.base CX k f fd ps sp) (d:jO k X.A) (i:jG X.K fd ps ds) (l:dH dvs ds) (g:kO CX X E)
  (I:bH X pins σ H s) (r:dH vs us) (h:sp (vs++dvs) H Q E):ar (av X.prog X.w) X.A (call (.ref f) us) (EP X pins σ Q) X.xe s:=by
 have b:dH (vs++dvs) (us++ds):=r.append l;have j:(us++ds).length=ps.length:=by rw [<- b.length];exact F.len _ _ _ _ h
 refine zk (pK (F.run X.A X.stack s H ⟨us,[]⟩ (us++ds) (vs++dvs) Q E d I.env0 (i s us I.kIn j) b h) fun r s' a=>?_);cases r with
 |error e=>exact g pins σ H s e s' I a
 |ok c =>
  cases c with
  |ret u=>exact I.after a
  |next=>exact e_ a
  |brk=>exact e_ a
  |cont=>exact e_ a
theorem K1 (F:qo X.prog X.w X.K X.mg X.base CX k f fd ps sp) (j:jO k X.A) (v:Gl X x) (m:X.mg x=some (.ref f)) (o:cY X.K (.ref f)=true) (l:jG X.K fd ps ds) (n:dH dvs ds) (u:kO CX X E)
  (g:PA X (e::es) t) (b:(x==("__debug__" : Str))=false:=by decide) (he:az (e::es) X.env=(false,dO e X.env)::az es X.env:=by rfl) (c:(gG pos (az es X.env)).any (·.1)=false:=by rfl) :
  PE X (.Call (.Name x p) (e::es) [] pos) (F8 sp dvs E t):=by
 intro a s i H Q I h;refine lv (yS I v m ?_ b);refine uE (h₀:=X.base) I.ok.mod.kin o (fZ (g pos a s i H _ I h) fun B y ⟨G,z,d,r,q⟩=>⟨d.kIn,?_⟩) he c;exact Og F j l n u d r q
structure bM (N P:List Str) (sc:i5):Prop where
 kind:sc.kind=.function
 co:sc.isCoroutine=false
 gen:sc.isGenerator=false
 nd:N.Nodup
 pre:N.take P.length=P
 par:∀ x∈P,sc.names.lookup x=some .local\/sc.names.lookup x=some .cell
 nofree:∀ y∈sc.names,y.2≠.free
theorem C1 {a:Str->Option mB}{x:Str}:∀ {binds:List (Str×ac)}{m:Str->Option ac},(∀ v,(x,v)∉binds)->HR a binds m x=m x
 |[],_,_=>rfl
 |(n,v)::r,m,h=>by
  unfold HR;rw [C1 fun w b=>h w (ag _ b)];split
  ·have:x≠n:=by rintro rfl;exact h v al
   simp [this]
  ·rfl
theorem C2 {a:Str->Option mB}{x:Str}:∀ {binds:List (Str×ac)}{m:Str->Option ac},(∀ v,(x,v)∉binds)->HS a binds m x=m x
 |[],_,_=>rfl
 |(n,v)::r,m,h=>by
  unfold HS;rw [C2 fun w b=>h w (ag _ b)];split
  ·rfl
  ·have:x≠n:=by rintro rfl;exact h v al
   simp [this]
theorem C3 {a:Str->Option mB}{x:Str}{v:ac}:∀ {P:List Str}{b:List ac}{i:Nat}{m:Str->Option ac},P.Nodup->P[i]?=some x->b[i]?=some v->a x=some .local ->
  HR a (P.zip b) m x=some v
 |[],_,_,_,_,h,_,_=>by simp at h
 |_::_,[],_,_,_,_,h,_=>by simp at h
 |p::P,w::b,0,m,e,c,d,f=>by
  simp at c d;subst c;subst d;show HR a ((p,w)::P.zip b) m p=_;unfold HR;rw [C1 fun v g=>(List.nodup_cons.mp e).1 (rV g).1,if_pos f];simp
 |p::P,w::b,i+1,m,e,c,d,f=>by
  show HR a ((p,w)::P.zip b) m x=_;unfold HR;exact C3 (i:=i) (List.nodup_cons.mp e).2 (by simpa using c) (by simpa using d) f
theorem C4 {a:Str->Option mB}{x:Str}{v:ac}:∀ {P:List Str}{b:List ac}{i:Nat}{m:Str->Option ac},P.Nodup->P[i]?=some x->b[i]?=some v->a x≠some .local ->
  HS a (P.zip b) m x=some v
 |[],_,_,_,_,h,_,_=>by simp at h
 |_::_,[],_,_,_,_,h,_=>by simp at h
 |p::P,w::b,0,m,e,c,d,f=>by
  simp at c d;subst c;subst d;show HS a ((p,w)::P.zip b) m p=_;unfold HS;rw [C2 fun v g=>(List.nodup_cons.mp e).1 (rV g).1,if_neg f];simp
 |p::P,w::b,i+1,m,e,c,d,f=>by
  show HS a ((p,w)::P.zip b) m x=_;unfold HS;exact C4 (i:=i) (List.nodup_cons.mp e).2 (by simpa using c) (by simpa using d) f
def start (N:List Str) (a:List V):St:=a.map some++o6 (N.length-a.length) none
def j_ (CX:M0) (P:bu) (w:bQ) (K:a8) (mg:Str->Option ac) (base:bK) (N:List Str) (qual:Str) (scope:i5) (f:aj) (cd:ac) (A:cf) (outer:List Env) (s:ao) (H:Hp) (E:XK):Cx where
 prog:=P
 w:=w
 K:=K
 mg:=mg
 base:=base
 A:=A.deeper (jZ qual scope s.heap.objs.size f cd)
 N:=N
 s₀:=s
 H₀:=H
 env:=jZ qual scope s.heap.objs.size f cd
 outer:=outer
 stack:=jZ qual scope s.heap.objs.size f cd::outer
 ex:=[]
 calm:=true
 fn:=fun _=>true
 pn:=[]
 xe:=fun e s'=>ar (av P w) (A.deeper (jZ qual scope s.heap.objs.size f cd)) (leaving (jZ qual scope s.heap.objs.size f cd) e) (fun _ s''=>CX outer H s E e s'') (fun e' s''=>CX outer H s E e' s'') s'
theorem F9 {a:i5}{n:Nat}{x:Str} (h:a.names.lookup x=some .cell):∃ c,(bn n a.names []).lookup x=some c:=by
 have q:=fL a.names n [] (.inl h);exact Option.isSome_iff_exists.mp q
theorem C5 {CX:M0}{P:bu}{w:bQ}{K:a8}{O:Str->Option ac}{base:bK}{N m:List Str}{d:Str}{scope:i5}{f:aj}{L:ac}{A:cf}{outer:List Env}{s T:ao}{H:Hp}{E:XK}{Q:List ac}{t:List V}
  (S:bM N m scope) (hd:A.handled=none) (j:IA P w K O base A outer s H) (hl:t.length=m.length) (r:dH t Q)
  (x:InCallC s s.heap.objs.size (HR (jZ d scope s.heap.objs.size f L).kindOf (m.zip Q) fun _=>none) (bn (s.heap.objs.size+1) scope.names []) (HS (jZ d scope s.heap.objs.size f L).kindOf (m.zip Q) fun _=>none) T) :
  bH (j_ CX P w K O base N d scope f L A outer s H E) [] (start N t) H T:=by
 have a0:m.length<=N.length:=by have:=congrArg jC S.pre;rw [yL] at this;omega
 obtain ⟨I,tk,rfl,X⟩:=x.done;have o:∀ b:aj,b∉(j_ CX P w K O base N d scope f L A outer s H E).ex:=fun b z=>absurd (show b∈([] : List aj) from z) (by simp);refine ⟨⟨j.mod,S.kind,rfl,rfl,ap _,fun y z c I g=>?_,fun y l=>?_,fun y c _ h=>?_,fun _=>hd,Around.frames_deeper j.frames,.inr ⟨rfl,rfl⟩,fun b z=>absurd z (o b),j.bs,j.bsz,fun b _ _=>o b,fun b z=>absurd z (o b),j.funs,j.frf⟩,
  rfl,j.bare,Un.kept X,⟨_,x.toInCall.ns,fun i y v I g h3=>?_⟩,fun y c h=>⟨_,x.cell y c h⟩,j.hok.fresh (ap _),fun y c h=>?_,fun p G=>absurd (show p∈([] : List (aj×Obj)) from G) (by simp),j.hok.kept X,?_⟩
 ·exact name_of_addr x.apart (dL I) (dL g)
 ·have l:scope.names.lookup y=some .cell\/scope.names.lookup y=some .free:=l;rcases l with l|l
  ·exact F9 l
  ·exact absurd rfl (S.nofree _ (dL l))
 ·exact bw (x.above y c (dL h))
 ·have M:i<t.length:=by
   unfold start at g;by_cases M:i<t.length
   ·exact M
   ·rw [br (by simpa using M)] at g;rw [bW] at g;split at g<;>cases g
  have Y:t[i]?=some v:=by
   unfold start at g;rw [bi (by simpa using M),aF] at g;cases e:t[i]? with
   |none=>rw [e] at g;cases g
   |some a=>rw [e] at g;cases g;rfl
  obtain ⟨u,U,rv⟩:=r.get Y;have G:m[i]?=some y:=by
   rw [<- S.pre,List.getElem?_take_of_lt (by omega)];exact I
  have B:m.Nodup:=by rw [<- S.pre];exact S.nd.sublist (List.take_sublist _ _)
  refine ⟨u,rv,?_⟩;rcases S.par y (cC G) with k|k
  ·exact .inl ⟨k,C3 B G U k⟩
  ·obtain ⟨c,e⟩:=F9 (n:=s.heap.objs.size+1) k;refine .inr ⟨.inl k,c,e,?_⟩;have q:=x.cell y c e;rw [C4 B G U (by show scope.names.lookup y≠_;rw [k];decide)] at q;exact q
 ·exact j.hok.fresh (bw (x.above y c (dL h)))
 ·unfold start;show _=N.length;rw [aO,ah,dq];omega
theorem Um {CX:M0}{P:bu}{w:bQ}{K:a8}{B:Str->Option ac}{base:bK}{k:Nat}{f:aj}{name a:Str}{d:Arguments}{g:List dY}{scope:i5}{X kV l pm c ct oc:ac}{an od:Option aj}
  {M:Array (Option ac)}{N z:List Str}{sp:Sp} (lk:K.lookup f=some ⟨oc,od,.func (f9 name a d g scope X kV l pm an c ct),M⟩) (G:kJ K c a=true) (S:bM N z scope)
  (len:∀ h H Q E,sp h H Q E->h.length=z.length)
  (j:∀ (A:cf) (outer:List Env) (s:ao) (H:Hp) (h:List V) (Q:VK) (E:XK),jO k (A.deeper (jZ a scope s.heap.objs.size f c))->sp h H Q E ->
   ∃ t,Bh (j_ CX P w K B base N a scope f c A outer s H E) g t/\t { nx:=fun _ H'=>Q .non H',rt:=Q } (start N h) H) :
  qo P w K B base CX (k+1) f (f9 name a d g scope X kV l pm an c ct) z sp:=by
 refine ⟨len,fun A outer s H a0 us h Q E L m hb r p=>?_⟩;have hl:=len _ _ _ _ p;have Y:K.In s.heap:=m.mod.kin.keeps fun b o e=>(m.bs b o e).1;have O:s.heap.NoLimit:=m.mod.nolimit.keeps fun b o e=>(m.bs b o e).1;have i:∀ y∈z.zip us,scope.names.lookup y.1=some .local\/(scope.names.lookup y.1=some .cell/\((bn (s.heap.objs.size+1) scope.names []).lookup y.1).isSome=true):=fun ⟨n,v⟩ hy=>by
  rcases S.par n (rV hy).1 with q|q
  ·exact .inl q
  ·exact .inr ⟨q,fL _ _ _ (.inl q)⟩
 refine Ro L.depth (Y _ _ lk) rfl S.co S.gen rfl (uF Y G) (hb _ _ _ _ ?_);refine HU S.kind i fun env he U x=>?_;subst he;refine ⟨O.keeps x.toInCall.keep,codeAny_func ?_⟩;obtain ⟨t,ht,hq⟩:=j A outer s H h Q E (L.deeper _) p;have I:bH (j_ CX P w K B base N a scope f c A outer s H E) [] (start N h) H U:=C5 S L.hd m hl r x;refine bB (ht [] U (start N h) H _ I hq) (fun fl s' hs=>?_) fun e s' hs=>hs;have fin:∀ {σ':St}{H':Hp}{v:V}{u:ac},bH (j_ CX P w K B base N a scope f c A outer s H E) [] σ' H' s'->dI v u->Q v H'->CE outer P w H s Q u s' :=
  fun {σ' H' v u} J T q=>⟨v,H',J.os,J.bare,J.base,J.hok,T,q⟩
 cases fl with
 |ret u =>
  obtain ⟨v,σ',H',J,T,q⟩:=hs;exact fin J T q
 |next =>
  obtain ⟨σ',H',J,q⟩:=hs;exact fin (v:=V.non) (u:=e6) J rfl q
 |brk =>
  obtain ⟨_,_,_,q⟩:=hs;exact e_ q
 |cont =>
  obtain ⟨_,_,_,q⟩:=hs;exact e_ q
end L2
namespace L2
open PySem PySem.Spec PyProof.Rows
section
variable {X:Cx}{x:Str}{p pos:Pos}{e:bZ}{es:List bZ}{t:TA}{id T:String}{r:List V->Hp->VK->Prop}
def X7 (r:List V->Hp->VK->Prop) (t:TA):TE:=fun a H Q=>t a H fun c b=>r c b Q
theorem pQ (k:jF X (.builtin id) r) (v:Gl X x) (m:X.mg x=none) (u:ja x=some (.builtin id)) (j:PA X (e::es) t) (n:x≠"__name__":=by decide) (c:(x==("__debug__" : Str))=false:=by decide)
  (he:az (e::es) X.env=(false,dO e X.env)::az es X.env:=by rfl) (d:(gG pos (az es X.env)).any (·.1)=false:=by rfl):PE X (.Call (.Name x p) (e::es) [] pos) (X7 r t):=by
 intro a s f H Q I h;refine lv (uJ I v m u ?_ n c);exact PyProof.Rows.callWith_builtin1 (fZ (j pos a s f H _ I h) fun q g b=>by obtain ⟨y,i,w,o,l⟩:=b;exact k a g f i y q Q w o l) he d
theorem xk (k:jF X (.type T) r) (w:Gl X x) (m:X.mg x=none) (u:ja x=some (.type T)) (j:PA X (e::es) t) (n:x≠"__name__":=by decide) (c:(x==("__debug__" : Str))=false:=by decide)
  (he:az (e::es) X.env=(false,dO e X.env)::az es X.env:=by rfl) (d:(gG pos (az es X.env)).any (·.1)=false:=by rfl):PE X (.Call (.Name x p) (e::es) [] pos) (X7 r t):=by
 intro a s f H Q I h;refine lv (uJ I w m u ?_ n c);exact fu (fZ (j pos a s f H _ I h) fun q g b=>by obtain ⟨y,i,v,o,l⟩:=b;exact k a g f i y q Q v o l) he d
end
end L2
namespace HT
open PySem PyProof.Rows
section
open PySem.SeqAt
open PySem.AutoSeq1 (wpAny_loadPart')
open PySem.MeetsSeq PySem.MeetsSeq2 PySem.MeetsSeq3
end
theorem Sf (u:HJ s.heap t vs.toArray) (v:HJ s.heap b ws.toArray) (p:vs≠[])
  (q:ws=[]->Q (.ref t) s) (x:ws≠[]->Q (.ref s.heap.objs.size) { s with heap:=s.heap.push { cls:=.type "tuple",data:=.seq (vs++ws).toArray } })
  (hsz:vs.length+ws.length<=sizeLine):ar (av prog w) A (gY .Add (.ref t) (.ref b)) Q E s:=by
 obtain ⟨⟨cls,dd,data,o⟩,ho,j,n,m⟩:=id u;obtain ⟨⟨l,c,i,d⟩,a,f,k,g⟩:=id v;simp only at j m f g;subst j m f g;have e:vs.toArray++ws.toArray=(vs++ws).toArray:=by simp
 by_cases h:ws=[]
 ·exact A_ ⟨_,ho,rfl⟩ ⟨_,a,rfl⟩ Db Lz qj pL (oU _ _)
   (tuple_addW1 t b vs.toArray ws.toArray n k dd c o d (by simpa using p) (by simp [h])) ⟨ho,a,q h⟩
 ·refine A_ ⟨_,ho,rfl⟩ ⟨_,a,rfl⟩ Db Lz qj pL (oU _ _)
   (tuple_addW2 t b vs.toArray ws.toArray n k dd c o d (by simpa using p) (by simpa using h) (by rw [aK,aK];exact hsz)) ⟨ho,a,?_⟩
  rw [e];exact x h
def jH (n d:Nat):Option Int->Nat
 |none=>d
 |some v=>if v<0 then (v+(n:Int)).toNat else min v.toNat n
theorem Fa (n d:Nat):jH n d none=d:=rfl
theorem K2 (n d k:Nat):jH n d (some (k:Int))=min k n:=by
 show (if (k:Int)<0 then ((k:Int)+(n:Int)).toNat else min (k:Int).toNat n)=min k n;rw [if_neg (by omega),lw]
theorem VT (n d:Nat) (b:d<=n) (o:Option Int):jH n d o<=n:=by
 cases o with
 |none=>exact b
 |some v =>
  show (if v<0 then (v+(n:Int)).toNat else min v.toNat n)<=n;by_cases a:v<0
  ·rw [if_pos a];omega
  ·rw [if_neg a];exact rH _ _
theorem K3 (v:Int) (n d:Nat):(if v<0 then max (v+(n:Int)) 0 else min v (n:Int))=((jH n d (some v):Nat):Int):=by
 show (if v<0 then max (v+(n:Int)) 0 else min v (n:Int))=(((if v<0 then (v+(n:Int)).toNat else min v.toNat n):Nat):Int);by_cases a:v<0
 ·simp only [if_pos a];omega
 ·simp only [if_neg a];omega
theorem IB (lo a:Option Int) (n:Nat):mC lo a 1 (n:Int)=(((jH n 0 lo:Nat):Int),((jH n n a:Nat):Int)):=by
 have b:¬ ((1:Int)<0):=by omega
 unfold mC;simp only [b,if_false];refine Prod.ext ?_ ?_
 ·cases lo with
  |none=>rfl
  |some v=>exact K3 v n 0
 ·cases a with
  |none=>rfl
  |some v=>exact K3 v n n
theorem IC (i j:Nat):iV (i:Int) (j:Int) 1=j-i:=by
 unfold iV;have a:(1:Int) > 0:=by omega
 simp only [a,if_true,Int.ediv_one];split<;>omega
theorem zB (p:wS v o) (h:Q o s):ar (av prog w) A (Builtin.Slice.slicePartIndex v) Q E s:=by
 cases p with
 |none=>exact slicePart_none h
 |int i t=>exact slicePart_int h
theorem pR {f:aj}{e d:ac}{lo c:Option Int}{n:Nat}{Q:Int×Int×Nat->ao->Prop} (hs:s.heap.IsSliceOf f e d .none) (j:wS e lo) (g:wS d c)
  (h:Q (((jH n 0 lo:Nat):Int),1,jH n n c-jH n 0 lo) s):ar (av prog w) A (vB (.ref f) (pure (n:Int))) Q E s:=by
 obtain ⟨k,a,i,b⟩:=id hs;unfold vB Builtin.Slice.sliceFields;refine a7 (a7 (dZ a b (x:=e) rfl (a7 (dZ a b (x:=d) rfl (a7 (dZ a b (x:=.none) rfl (a9 ?_)))))));refine a7 (slicePart_none ?_);show ar _ _ (if ((1:Int)==0)=true then _ else _) _ _ s;rw [if_neg (by decide)];refine a7 (zB j (a7 (zB g (a7 (a9 ?_)))));show ar _ _ (match mC lo c 1 (n:Int) with|(lo,c)=>pure (lo,(1:Int),iV lo c 1)) _ _ s;rw [IB lo c n];show ar _ _ (pure (((jH n 0 lo:Nat):Int),(1:Int),iV ((jH n 0 lo:Nat):Int) ((jH n n c:Nat):Int) 1)) _ _ s;rw [IC];exact a9 h
theorem Oh (xs:Array ac) (i k:Nat):((bE k).filterMap fun (m:Nat)=>xs[((i:Int)+(m:Int)*1).toNat]?).toArray=((xs.toList.drop i).take k).toArray:=by
 have e:(fun (m:Nat)=>xs[((i:Int)+(m:Int)*1).toNat]?)=fun m=>xs[i+m]?:=by
  funext m;have:((i:Int)+(m:Int)*1).toNat=i+m:=by omega
  rw [this]
 rw [e];have:=pick_run xs i k;rw [o7] at this;have a:((fun x=>xs[x]?)∘fun x=>i+x)=fun m=>xs[i+m]?:=rfl;rw [a] at this;rw [this]
theorem vK {t g:aj}{items:Array ac}{j k:ac}{lo b:Option Int}{Q:ac->ao->Prop} (c:HJ s.heap t items) (hs:s.heap.IsSliceOf g j k .none) (u:wS j lo) (p:wS k b)
  (n:¬ (jH items.size 0 lo=0/\jH items.size items.size b=items.size))
  (h:Q (.ref s.heap.objs.size) { s with heap:=s.heap.push { cls:=.type "tuple",data:=.seq ((items.toList.drop (jH items.size 0 lo)).take (jH items.size items.size b-jH items.size 0 lo)).toArray } })
  (hsz:items.size<=sizeLine):ar (av prog w) A (rN (.ref t) (.ref g)) Q E s:=by
 have a:sizeOk (.seq ((items.toList.drop (jH items.size 0 lo)).take (jH items.size items.size b-jH items.size 0 lo)).toArray):=by
  show ((items.toList.drop (jH items.size 0 lo)).take (jH items.size items.size b-jH items.size 0 lo)).toArray.size<=sizeLine;rw [aK,yL,yM,au];omega
 have y:jH items.size items.size b<=items.size:=VT _ _ (ap _) b;obtain ⟨o,f,d,l⟩:=id hs;have e:s.TypeIs (.ref g) "slice":=⟨o,f,d⟩;unfold rN;try with_reducible refine cc ?_
 first|refine a7 (a9 ?_)|skip
 refine a7 (wpAny_sequenceKey c.typeIs (by decide) ?_);refine a7 (cx (name:=i4 "__getitem__") c.typeIs gH
  (bO gH c.typeIs entry_tuple_getitem ?_ (args_tuple_getitem _ _)))
 show ar _ _ (vC (.ref t) >>= _) _ _ s;refine a7 (tupleItemsOf_ c ?_);refine a7 (mD e ?_);rw [if_pos (by decide)];refine a7 (pR hs u p ?_);have i:¬ ((((jH items.size 0 lo:Nat):Int)==0&&(1:Int)==1&&(jH items.size items.size b-jH items.size 0 lo)==items.size)=true):=by
  intro q;rw [aY,aY] at q;have v:((jH items.size 0 lo:Nat):Int)=0:=eq_of_beq q.1.1;have x:jH items.size items.size b-jH items.size 0 lo=items.size:=eq_of_beq q.2;exact n ⟨by omega,by omega⟩
 show ar _ _ (if (((jH items.size 0 lo:Nat):Int)==0&&(1:Int)==1&&(jH items.size items.size b-jH items.size 0 lo)==items.size)=true then _ else _) _ _ s;rw [if_neg i,Oh];first
  |exact a7 (m:=jg _) (bS (a9 ⟨_,rfl,a9 h⟩) a)
  |exact a7 (m:=jg _) (bS (a7 (a9 (a9 ⟨_,rfl,a9 h⟩))) a)
  |exact a7 (a7 (m:=jg _) (bS (a9 (a9 ⟨_,rfl,a9 h⟩)) a))
  |exact a7 (a7 (m:=jg _) (bS (a9 ⟨_,rfl,a9 h⟩) a))
end HT
namespace L2
open PySem PySem.Spec PyProof.Rows
abbrev TO:=St->Hp->(Option Int->Hp->Prop)->Prop
def PO (X:Cx) (e:Option bZ) (t:TO):Prop :=
 ∀ (a:List (aj×Obj)) (s:ao) (b:St) (H:Hp) (Q:Option Int->Hp->Prop),bH X a b H s->t b H Q ->
  ar (av X.prog X.w) X.A (evalPart e X.env) (fun u s'=>∃ o H',bH X a b H' s'/\wS u o/\Q o H') X.xe s
def Sg:TO:=fun _ H Q=>Q none H
def Xx (t:TE):TO:=fun a H Q=>t a H fun x b=>∃ i,x=.int i/\Q (some i) b
section
variable {X:Cx}{e:bZ}{te:TE}{lo hi:Option bZ}{tl th:TO}{pos p2:Pos}
theorem Sh:PO X none Sg:=by
 intro a s b H Q I h;rw [evalPart_none];exact a9 ⟨none,H,I,.none,h⟩
theorem Si (h:PE X e te):PO X (some e) (Xx te):=by
 intro b s d H Q I g;rw [evalPart_some];refine fZ (h b s d H _ I g) fun u l a=>?_;obtain ⟨x,c,k,j,f⟩:=a;obtain ⟨i,rfl,q⟩:=f;obtain ⟨t,rfl⟩:=j;exact ⟨some i,c,k,.int i t,q⟩
def Xy (X:Cx) (r:V->Option Int->Option Int->Hp->VK->Prop):Prop :=
 ∀ (a:List (aj×Obj)) (s:ao) (c:St) (H:Hp) (x:V) (v f d:ac) (lo hi:Option Int) (b:aj) (Q:VK),bH X a c H s->dI x v->s.heap.IsSliceOf b f d .none->wS f lo->wS d hi->r x lo hi H Q ->
  ∃ T id,zm (.type T) "__getitem__"=pure (some (.builtin id))/\s.TypeIs v T/\ar (av X.prog X.w) X.A (rN v (.ref b)) (EP X a c Q) X.xe s
def tSl (r:V->Option Int->Option Int->Hp->VK->Prop) (te:TE) (tl th:TO):TE:=fun a H Q=>te a H fun x d=>tl a d fun l c=>th a c fun u b=>r x l u b Q
theorem Oi (y:Xy X r) (he:PE X e te) (n:PO X lo tl) (p:PO X hi th):PE X (.Subscript e (.Slice lo hi none p2) pos) (tSl r te tl th):=by
 intro a s d H Q I h;refine Subscript_ (fZ (he a s d H _ I h) fun v j ⟨x,k,O,E,t⟩=>?_);refine wpAny_Slice (fZ (n a j d k _ O t) fun f G ⟨l,B,z,S,K⟩=>fZ (p a G d B _ z K) fun g c ⟨u,i,o,N,U⟩=>?_);rw [evalPart_none];refine a9 ?_;have L:bH X a d i { c with heap:=c.heap.push { cls:=.type "slice",data:=.fields #[f,g,.none] } }:=o.kept (t':=c.toks) fun b ob q=>aa _ q;obtain ⟨T,id,M,m,P⟩:=y a { c with heap:=c.heap.push { cls:=.type "slice",data:=.fields #[f,g,.none] } } d i x v f g l u c.heap.objs.size Q L E (Heap.IsSliceOf.new ..) S N U;show ar (av X.prog X.w) X.A (LA e (.Slice lo hi none p2) v (.ref c.heap.objs.size)) (EP X a d Q) X.xe { c with heap:=c.heap.push { cls:=.type "slice",data:=.fields #[f,g,.none] } };exact tail_any (ops:=[.ref c.heap.objs.size,v]) m M P (by with_unfolding_all rfl)
def Fb (xs:List V) (lo hi:Option Int):List V:=(xs.drop (HT.jH xs.length 0 lo)).take (HT.jH xs.length xs.length hi-HT.jH xs.length 0 lo)
theorem xX (xs:List V) (lo hi:Option Int):(Fb xs lo hi).length<=xs.length:=by
 unfold Fb;rw [yL,yM];omega
def ZR (K:a8):V->Option Int->Option Int->Hp->VK->Prop:=fun x lo hi H Q=>∃ a xs,x=.ref a/\m5 K H a xs /\
 ¬ (HT.jH xs.length 0 lo=0/\HT.jH xs.length xs.length hi=xs.length)/\∀ p,H p=none->Q (.ref p) (upd H p (.tup (Fb xs lo hi)))
theorem VU:Xy X (ZR X.K):=by
 intro i s p H x v t u lo hi w Q I j hs n l h;obtain ⟨a,xs,rfl,m,k,q⟩:=h;cases j;obtain ⟨d,r,f,g⟩:=I.tuple m;have c:d.toArray.size=xs.length:=by rw [aK];exact r.length.symm
 refine ⟨"tuple",_,PyProof.Rows.slot_tuple_getitem.lookup,f.typeIs,?_⟩;refine HT.vK f hs n l (by rw [c];exact k) ?_ (by rw [c];exact g);rw [c];refine ⟨.ref s.heap.objs.size,_,I.laid (t':=s.toks) (o:=.tup (Fb xs lo hi)) (fun b ob q=>aa _ q) (ap _) ?_,rfl,q _ (I.hok.fresh (ap _))⟩;exact ⟨bL (xX xs lo hi) g,_,(r.drop (HT.jH xs.length 0 lo)).take (HT.jH xs.length xs.length hi-HT.jH xs.length 0 lo),yq _ _⟩
inductive Oj (K:a8) (x:V) (y:V) (H:Hp) (Q:VK):Prop
 |mk (a b xs ys:_) (h0:x=.ref a) (h1:y=.ref b) (h2:m5 K H a xs) (h3:m5 K H b ys) (h4:xs≠[]) (h5:xs.length+ys.length<=sizeLine) (h6:(ys=[]->Q (.ref a) H)) (h7:(ys≠[]->∀ p,H p=none->Q (.ref p) (upd H p (.tup (xs++ys))))):Oj K x y H Q
def Xz (K:a8):R2:=Oj K
theorem dH.nil_iff (r:dH xs us):us=[]↔xs=[]:=by
 cases r with
 |nil=>simp
 |cons _ _=>simp
theorem Sj:rK X (gY .Add) (Xz X.K):=by
 intro i s E H x y v u Q I j t h;obtain ⟨a,b,xs,ys,rfl,rfl,k,n,B,g,l,A⟩:=h;cases j;cases t;obtain ⟨m,d,p,_⟩:=I.tuple k;obtain ⟨f,c,p2,_⟩:=I.tuple n;refine HT.Sf p p2 (fun z=>B (d.nil_iff.mp z)) (fun z=>⟨.ref a,H,I,rfl,l (c.nil_iff.mp z)⟩) (fun z=>?_) (by rw [<- d.length,<- c.length];exact g);refine ⟨.ref s.heap.objs.size,_,I.laid (t':=s.toks) (o:=.tup (xs++ys)) (fun b ob q=>aa _ q) (ap _) ?_,rfl,A (fun w=>z (c.nil_iff.mpr w)) _ (I.hok.fresh (ap _))⟩;exact ⟨by rw [aO];exact g,_,d.append c,yq _ _⟩
end
end L2
namespace L2
open PySem PySem.Spec PyProof.Rows
def Uo (n:Nat) (i:Int):Option Nat:=if 0<=i then (if i<n then some i.toNat else none) else if -(n:Int)<=i then some (i+n).toNat else none
def ET {a:Type} (xs:List a) (i:Int):Option a:=(Uo xs.length i).bind fun j=>xs[j]?
theorem Sk (h:Uo n i=some j):seqIndex? i n=some j/\j<n/\-(n:Int)<=i/\i<n:=by
 unfold Uo at h;by_cases b:0<=i
 ·rw [if_pos b] at h;by_cases a:i<n
  ·rw [if_pos a] at h;have e:i.toNat=j:=bR h;exact ⟨by rw [seqIndex_of b a,e],by omega,by omega,a⟩
  ·rw [if_neg a] at h;cases h
 ·rw [if_neg b] at h;by_cases a:-(n:Int)<=i
  ·rw [if_pos a] at h;have e:(i+n).toNat=j:=bR h;exact ⟨by rw [seqIndex_neg (by omega) a,e],by omega,a,by omega⟩
  ·rw [if_neg a] at h;cases h
theorem Dp {a:Type}{xs:List a}{i:Int}{v:a} (h:ET xs i=some v):∃ j,seqIndex? i xs.length=some j/\xs[j]?=some v/\j<xs.length/\-(xs.length:Int)<=i/\i<xs.length:=by
 unfold ET at h;cases e:Uo xs.length i with
 |none=>rw [e] at h;cases h
 |some j =>
  rw [e] at h;obtain ⟨b,f,c,d⟩:=Sk e;exact ⟨j,b,h,f,c,d⟩
theorem tw {a:Type}{xs:List a}{j:Nat}{v:a} (h:xs[j]?=some v):ET xs (j:Int)=some v:=by
 have b:j<xs.length:=(List.getElem?_eq_some_iff.mp h).1;have e:Uo xs.length (j:Int)=some j:=by
  unfold Uo;rw [if_pos (by omega),if_pos (by omega)];simp
 unfold ET;rw [e];exact h
def vL (b:bZ):Prop:=∀ o i,EM b false o i=operate [o,i] (rN o i)
def XA (X:Cx) (r:R2):Prop :=
 ∀ (c a:bZ) (b:List (aj×Obj)) (s:ao) (d:St) (H:Hp) (x y:V) (v u:ac) (Q:VK),bH X b d H s->dI x v->dI y u->r x y H Q ->
  EM a false v u=operate [v,u] (rN v u)->ar (av X.prog X.w) X.A (LA c a v u) (EP X b d Q) X.xe s
def ZS (X:Cx) (id:String) (r:V->List V->Hp->VK->Prop):Prop :=
 ∀ (a:List (aj×Obj)) (s:ao) (c:St) (H:Hp) (x:V) (xs:List V) (v:ac) (b:List ac) (Q:VK),bH X a c H s->dI x v->dH xs b->r x xs H Q ->
  ar (av X.prog X.w) X.A (call (.builtin id) (v::b)) (EP X a c Q) X.xe s
section
variable {X:Cx}{a b:bZ}{ta tb:TE}{pos:Pos}
theorem Uq (g:XA X r) (e:PE X a ta) (i:PE X b tb) (hs:vL b):PE X (.Subscript a b pos) (Xp r ta tb):=by
 intro c s f H Q I h;exact Subscript_ (VH e i I h fun v u m x y k j d l q=>g a b c m f k x y v u Q j d l q (hs _ _))
inductive Ur (K:a8) (x:V) (y:V) (H:Hp) (Q:VK):Prop
 |mk (p xs i v:_) (h0:x=.ref p) (h1:y=.int i) (h2:nl K H p xs) (h3:ET xs i=some v) (h4:Q v H):Ur K x y H Q
def XB (K:a8):R2:=Ur K
inductive Us (K:a8) (x:V) (y:V) (H:Hp) (Q:VK):Prop
 |mk (p xs i v:_) (h0:x=.ref p) (h1:y=.int i) (h2:m5 K H p xs) (h3:ET xs i=some v) (h4:Q v H):Us K x y H Q
def ZT (K:a8):R2:=Us K
inductive Ut (x:V) (y:V) (H:Hp) (Q:VK):Prop
 |mk (z i c:_) (h0:x=.str z) (h1:y=.int i) (h2:z.length<=sizeLine) (h3:ET z.cps.toList i=some c) (h4:Q (.str ⟨#[c]⟩) H):Ut x y H Q
def ZU:R2:=Ut
theorem vM:XA X (XB X.K):=by
 intro e l c s n H x y v u Q I B M h hs;obtain ⟨p,xs,i,z,rfl,rfl,G,he,q⟩:=h;cases B;obtain ⟨t,rfl⟩:=M;obtain ⟨f,r,m,P⟩:=I.list G;obtain ⟨j,d,O,S,L,N⟩:=Dp he;obtain ⟨w,o,g⟩:=r.get O;have E:=r.length;have T:=xi;have fin:EP X c n Q w s:=⟨z,H,I,g,q⟩;by_cases A:0<=i
 ·have k:i.toNat=j:=by
   rw [seqIndex_of A N] at d;exact bR d
  exact item_listR m.isList A (by omega) (by rw [k];simpa using o) fin hs
 ·have k:(i+(f.toArray.size:Int)).toNat=j:=by
   rw [seqIndex_neg (by omega) L] at d;rw [aK,<- E];exact bR d
  exact NE (x:=w) m.isList.typeIs slot_list_getitem.lookup
   (wpAny_getItem_list_neg (Q:=fun r s'=>r=w/\EP X c n Q r s') m.isList (by omega) (by rw [aK]<;>omega) (by omega) (by rw [k];simpa using o) ⟨rfl,fin⟩) hs
theorem VV:XA X (ZT X.K):=by
 intro d f c s g H x y v u Q I m B h hs;obtain ⟨p,xs,i,z,rfl,rfl,o,he,q⟩:=h;cases m;obtain ⟨t,rfl⟩:=B;obtain ⟨A,r,k,L⟩:=I.tuple o;obtain ⟨j,l,E,M,N,P⟩:=Dp he;obtain ⟨w,G,e⟩:=r.get E;have n:=r.length;have O:=xi;have fin:EP X c g Q w s:=⟨z,H,I,e,q⟩;exact NE (x:=w) k.typeIs slot_tuple_getitem.lookup
  (getItem_tuple (j:=j) (Q:=fun r s'=>r=w/\EP X c g Q r s') k (by omega) (by omega) (by rw [aK,<- n];exact l) (by simpa using G) ⟨rfl,fin⟩) hs
theorem VW:XA X ZU:=by
 intro d e g s G H x y v u Q I k o h hs;obtain ⟨z,i,c,rfl,rfl,B,he,q⟩:=h;obtain ⟨t,rfl⟩:=k;obtain ⟨t',rfl⟩:=o;obtain ⟨j,f,w,E,m,p⟩:=Dp he;have l:z.cps.toList.length=z.length:=by simp [Str.length]
 rw [l] at f m p;have K:=xi;exact tail_any (typeIs_str s z t) slot_str_getitem.lookup (getItem_str (c:=c) (by
  have n:decide (i < -(2 ^ 63:Int))=false:=decide_eq_false (by omega);have A:decide (i ≥ 2 ^ 63)=false:=decide_eq_false (by omega);rw [n,A,Bool.or_false]) (by rw [f];simpa using w) ⟨.str ⟨#[c]⟩,H,I.tok _,⟨_,rfl⟩,q⟩) hs
theorem Dq (lo c:Option Int) (n:Nat):(nV lo c none n).1=((HT.jH n 0 lo:Nat):Int)/\(nV lo c none n).2.1=((HT.jH n n c:Nat):Int)/\(nV lo c none n).2.2=1:=by
 refine ⟨?_,?_,rfl⟩
 ·cases lo with
  |none=>simp [nV,HT.jH]
  |some i =>
   simp only [nV,HT.jH,ij,show (1:Int) > 0 by decide,if_true];by_cases h:i<0
   ·simp only [h,if_true]<;>omega
   ·simp only [h,if_false]<;>omega
 ·cases c with
  |none=>simp [nV,HT.jH]
  |some i =>
   simp only [nV,HT.jH,ij,show (1:Int) > 0 by decide,if_true];by_cases h:i<0
   ·simp only [h,if_true]<;>omega
   ·simp only [h,if_false]<;>omega
theorem Bj (c:List ac) (lo d:Option Int):slicePick c.toArray lo d none=((c.drop (HT.jH c.length 0 lo)).take (HT.jH c.length c.length d-HT.jH c.length 0 lo)).toArray:=by
 obtain ⟨e,g,f⟩:=Dq lo d c.toArray.size;unfold slicePick;rw [e,g,f];simp only [sliceRange_one,pick_run,aK]<;>rfl
def ZV (K:a8):V->Option Int->Option Int->Hp->VK->Prop:=fun x lo c H Q=>∃ a xs,x=.ref a/\nl K H a xs/\∀ p,H p=none->Q (.ref p) (upd H p (.lst (Fb xs lo c)))
theorem Sn:Xy X (ZV X.K):=by
 intro f s n H x v p t lo d u Q I g hs m k h;obtain ⟨a,xs,rfl,l,q⟩:=h;cases g;obtain ⟨j,r,e,i⟩:=I.list l;have c:=r.length;refine ⟨"list",_,slot_list_getitem.lookup,e.isList.typeIs,?_⟩;refine wpAny_getItem_list_slice e.isList hs m k .none (by simp) ?_ (by rw [aK]<;>omega);rw [Bj,<- c];refine ⟨.ref s.heap.objs.size,_,I.laid (t':=s.toks) (o:=.lst (Fb xs lo d)) (fun b ob q=>aa _ q) (ap _) ?_,rfl,q _ (I.hok.fresh (ap _))⟩;exact ⟨bL (xX xs lo d) i,_,0,(r.drop (HT.jH xs.length 0 lo)).take (HT.jH xs.length xs.length d-HT.jH xs.length 0 lo),aw _ rfl⟩
def sf:V->Bool
 |.non=>true
 |.bl _=>true
 |.int _=>true
 |.str _=>true
 |_=>false
def So:V->V->Bool
 |.non,.non=>true
 |.bl a,.bl b=>a==b
 |.bl a,.int b=>(if a then 1 else 0)==b
 |.int a,.bl b=>a==(if b then 1 else 0)
 |.int a,.int b=>a==b
 |.str a,.str b=>a==b
 |_,_=>false
theorem VX (e:dI y u) (c:dI x v) (f:sf y=true) (d:sf x=true):LB A s u v (So y x):=by
 cases y with
 |non =>
  cases e;cases x with
  |non=>cases c;exact SeqAt.EqAt.same _
  |bl b=>cases c;exact SeqAt.EqAt.none_bool b
  |int b=>obtain ⟨t,rfl⟩:=c;exact SeqAt.EqAt.none_int b t
  |str b=>obtain ⟨t,rfl⟩:=c;exact SeqAt.EqAt.none_str b t
  |_=>exact absurd (show false=true from d) a_
 |bl a =>
  cases e;cases x with
  |non=>cases c;exact SeqAt.EqAt.bool_none a
  |bl b=>cases c;exact BW a b
  |int b=>obtain ⟨t,rfl⟩:=c;exact SeqAt.EqAt.bool_int a b t
  |str b=>obtain ⟨t,rfl⟩:=c;exact SeqAt.EqAt.bool_str a b t
  |_=>exact absurd (show false=true from d) a_
 |int a =>
  obtain ⟨t',rfl⟩:=e;cases x with
  |non=>cases c;exact SeqAt.EqAt.int_none a t'
  |bl b=>cases c;exact SeqAt.EqAt.int_bool a t' b
  |int b=>obtain ⟨t,rfl⟩:=c;exact SeqAt.EqAt.int_int a t' b t
  |str b=>obtain ⟨t,rfl⟩:=c;exact EJ a t' b t
  |_=>exact absurd (show false=true from d) a_
 |str a =>
  obtain ⟨t',rfl⟩:=e;cases x with
  |non=>cases c;exact SeqAt.EqAt.str_none a t'
  |bl b=>cases c;exact SeqAt.EqAt.str_bool a t' b
  |int b=>obtain ⟨t,rfl⟩:=c;exact EK a t' b t
  |str b=>obtain ⟨t,rfl⟩:=c;exact SeqAt.EqAt.str_str a t' b t
  |_=>exact absurd (show false=true from d) a_
 |_=>exact absurd (show false=true from f) a_
def ID (x:V) (u:ac):Bool:=match u with
 |.none=>So .non x
 |.bool b=>So (.bl b) x
 |.int i _=>So (.int i) x
 |.str z _=>So (.str z) x
 |_=>false
theorem Ol (r:dI y u) (f:sf y=true):ID x u=So y x:=by
 cases y with
 |non=>cases r;rfl
 |bl b=>cases r;rfl
 |int i=>obtain ⟨t,rfl⟩:=r;rfl
 |str z=>obtain ⟨t,rfl⟩:=r;rfl
 |_=>exact absurd (show false=true from f) a_
theorem vN:∀ {xs:List V}{c:List ac},dH xs c->xs.all sf=true->c.any (ID x)=xs.any fun y=>So y x
 |_,_,.nil,_=>rfl
 |y::xs,u::c,.cons r t,f=>by
  rw [vD,aY] at f;rw [eJ,eJ,Ol r f.1,vN t f.2]
theorem sg (g:dI x v) (e:sf x=true):∀ {xs:List V}{d:List ac},dH xs d->xs.all sf=true->∀ u∈d,LB A s u v (ID x u)
 |_,_,.nil,_=>fun u c=>by cases c
 |y::xs,u::d,.cons r t,f=>fun h c=>by
  rw [vD,aY] at f;rcases List.mem_cons.mp c with rfl|c
  ·rw [Ol r f.1];exact VX r g f.1 e
  ·exact sg g e t f.2 h c
def Zb (x:V) (xs:List V):Bool:=xs.any fun y=>So y x
inductive XC (K:a8) (neg:Bool) (x:V) (y:V) (H:Hp) (Q:VK):Prop
 |mk (p xs:_) (h0:y=.ref p) (h1:(nl K H p xs\/m5 K H p xs)) (h2:sf x=true) (h3:xs.all sf=true) (h4:Q (.bl (if neg then !Zb x xs else Zb x xs)) H):XC K neg x y H Q
def ZW (K:a8) (c:Bool):R2:=XC K c
theorem M1:rK X (bG .In) (ZW X.K false):=by
 intro i s m H x y v u Q I g l h;obtain ⟨p,xs,rfl,d,j,fs,q⟩:=h;cases l;rcases d with d|d
 ·obtain ⟨c,r,f,k⟩:=I.list d;refine SeqAt.in_listAt (ID x) f.isList (fun w e=>sg g j r fs w (by simpa using e)) ⟨.bl _,H,I,rfl,?_⟩;rw [show c.toArray.any (ID x)=c.any (ID x) by simp,vN r fs];exact q
 ·obtain ⟨c,r,f,k⟩:=I.tuple d;refine SeqAt.in_tupleAt (ID x) f (fun w e=>sg g j r fs w (by simpa using e)) ⟨.bl _,H,I,rfl,?_⟩;rw [show c.toArray.any (ID x)=c.any (ID x) by simp,vN r fs];exact q
theorem Dr:rK X (bG .NotIn) (ZW X.K true):=by
 intro i s m H x y v u Q I g l h;obtain ⟨p,xs,rfl,d,j,fs,q⟩:=h;cases l;rcases d with d|d
 ·obtain ⟨c,r,f,k⟩:=I.list d;refine SeqAt.notIn_listAt (ID x) f.isList (fun w e=>sg g j r fs w (by simpa using e)) ⟨.bl _,H,I,rfl,?_⟩;rw [show c.toArray.any (ID x)=c.any (ID x) by simp,vN r fs];exact q
 ·obtain ⟨c,r,f,k⟩:=I.tuple d;refine SeqAt.notIn_tupleAt (ID x) f (fun w e=>sg g j r fs w (by simpa using e)) ⟨.bl _,H,I,rfl,?_⟩;rw [show c.toArray.any (ID x)=c.any (ID x) by simp,vN r fs];exact q
theorem vO:jF X (.builtin "len") (fun xs H Q=>∃ p ys,xs=[.ref p]/\(nl X.K H p ys\/m5 X.K H p ys)/\Q (.int ys.length) H):=by
 intro i s l H xs n Q I r h;obtain ⟨p,ys,rfl,d,q⟩:=h;obtain ⟨u,rfl,j⟩:=kM r;cases j;have m:=xi;rcases d with d|d
 ·obtain ⟨e,f,g,k⟩:=I.list d;have c:=f.length;exact Calls.call_len_list g.isList (by simp only [aK]<;>omega) ⟨.int ys.length,H,I.tok _,⟨s.toks+1,by rw [aK,c]⟩,q⟩
 ·obtain ⟨e,f,g,k⟩:=I.tuple d;have c:=f.length;exact len_tuple g (by simp only [aK]<;>omega) ⟨.int ys.length,H,I.tok _,⟨s.toks+1,by rw [aK,c]⟩,q⟩
theorem Ds:jF X (.builtin "len") (fun xs H Q=>∃ z,xs=[.str z]/\z.length<=sizeLine/\Q (.int z.length) H):=by
 intro c s e H xs d Q I r h;obtain ⟨z,rfl,g,q⟩:=h;obtain ⟨u,rfl,t,rfl⟩:=kM r;have f:=xi;exact len_str (by omega) ⟨.int z.length,H,I.tok _,⟨_,rfl⟩,q⟩
theorem vP:jF X (.type "list") (fun xs H Q=>∃ p ys,xs=[.ref p]/\(nl X.K H p ys\/m5 X.K H p ys)/\∀ l,H l=none->Q (.ref l) (upd H l (.lst ys))):=by
 intro j s z H xs A Q I r h;obtain ⟨p,ys,rfl,i,q⟩:=h;obtain ⟨u,rfl,y⟩:=kM r;cases y;have fin:∀ (c:List ac),dH ys c->ys.length<=sizeLine->∀ (h':bK) (d:Nat),(∀ b x,s.heap.get? b=some x->h'.get? b=some x) ->
   h'.get? s.heap.objs.size=some { cls:=.type "list",dict:=none,data:=.seq c.toArray d,slots:=#[] }->EP X j z Q (.ref s.heap.objs.size) { s with heap:=h' }:=fun c f g h' d kp e =>
  ⟨.ref s.heap.objs.size,_,I.laid (t':=s.toks) kp (ap _) (show de X.prog X.w _ h' _ (.lst ys) from ⟨g,c,d,f,e⟩),rfl,q _ (I.hok.fresh (ap _))⟩
 rcases i with i|i
 ·obtain ⟨c,f,v,g⟩:=I.list i;have k:=f.length;obtain ⟨o,ho,m,n,t⟩:=v.isList;exact call_list_seq p (.inl rfl) ho m t (fun h' d kp e=>fin c f g h' d kp e) (by simp only [aK]<;>omega)
 ·obtain ⟨c,f,v,g⟩:=I.tuple i;have k:=f.length;obtain ⟨o,ho,m,n,t⟩:=v;exact call_list_seq p (.inr rfl) ho m t (fun h' d kp e=>fin c f g h' d kp e) (by simp only [aK]<;>omega)
theorem uv:jF X (.type "tuple") (fun xs H Q=>∃ p ys,xs=[.ref p]/\((nl X.K H p ys/\∀ l,H l=none->Q (.ref l) (upd H l (.tup ys)))\/(m5 X.K H p ys/\Q (.ref p) H))):=by
 intro c s k H xs x Q I r h;obtain ⟨p,ys,rfl,h⟩:=h;obtain ⟨u,rfl,t⟩:=kM r;cases t;rcases h with ⟨f,q⟩|⟨f,q⟩
 ·obtain ⟨d,g,i,j⟩:=I.list f;have m:=g.length;refine call_tuple_list i.isList (fun h' kp=>?_) (by simp only [aK]<;>omega);have n:bH X c k H { s with heap:=h' }:=I.kept (t':=s.toks) kp;have v:bH X c k (upd H h'.objs.size (.tup ys)) { s with heap:=h'.push { cls:=.type "tuple",data:=.seq d.toArray } } :=
   n.laid (t':=s.toks) (fun b o e=>aa _ e) (ap _) (show de X.prog X.w _ _ _ (.tup ys) from ⟨j,d,g,yq _ _⟩)
  exact ⟨.ref h'.objs.size,_,v,rfl,q _ (n.hok.fresh (ap _))⟩
 ·obtain ⟨d,g,i,j⟩:=I.tuple f;exact call_tuple_same i ⟨.ref p,H,I,rfl,q⟩
def tyV (K:a8) (T:String) (x:V) (H:Hp):Prop:=match x with
 |.str _=>T="str"
 |.int _=>T="int"
 |.ref p=>(T="list"/\∃ xs,nl K H p xs)\/(T="tuple"/\∃ o,K.lookup p=some o/\o.cls=.type "tuple"/\o.dict=none) \/
   (T="dict"/\((∃ kvs,H p=some (.dK kvs))\/∃ kvs,H p=some (.dT kvs)))\/(T="set"/\∃ S n,H p=some (.set S n))
 |_=>False
theorem VY (I:bH X pins σ H s) (r:dI x v) (ty:tyV X.K T x H) :
  s.TypeIs v T/\∀ a,v=.ref a->∃ ob,s.heap.get? a=some ob/\ob.dict=none:=by
 cases x with
 |str z =>
  obtain ⟨t,rfl⟩:=r;cases (show T="str" from ty);exact ⟨typeIs_str s z t,fun _ e=>nomatch e⟩
 |int i =>
  obtain ⟨t,rfl⟩:=r;cases (show T="int" from ty);exact ⟨typeIs_int s i t,fun _ e=>nomatch e⟩
 |ref p =>
  cases r;rcases ty with ⟨rfl,xs,k⟩|⟨rfl,o,d,hc,g⟩|⟨rfl,d⟩|⟨rfl,S,n,d⟩
  ·obtain ⟨l,_,j,_⟩:=I.list k;refine ⟨j.isList.typeIs,fun a e=>?_⟩;cases e;obtain ⟨o,n,e,c,g,_⟩:=j;exact ⟨o,e,g⟩
  ·refine ⟨⟨o,I.kIn p o d,hc⟩,fun a e=>?_⟩;cases e;exact ⟨o,I.kIn _ o d,g⟩
  ·have z:∃ o,s.heap.get? p=some o/\o.ExactDict:=by
    rcases d with ⟨kvs,d⟩|⟨kvs,d⟩
    ·obtain ⟨_,_,_,_,o,_,_,e,f,_⟩:=I.hok p _ d;exact ⟨o,e,f⟩
    ·obtain ⟨_,_,_,_,o,_,_,e,f,_⟩:=I.hok p _ d;exact ⟨o,e,f⟩
   obtain ⟨o,e,f⟩:=z;refine ⟨⟨o,e,f.1⟩,fun a h=>?_⟩;cases h;exact ⟨o,e,f.2.1⟩
  ·obtain ⟨o,_,_,_,e,f,_⟩:=I.hok p _ d;refine ⟨⟨o,e,f.1⟩,fun a h=>?_⟩;cases h;exact ⟨o,e,f.2.1⟩
 |_=>exact e_ ty
def tBM (K:a8) (T:String) (r:V->List V->Hp->VK->Prop) (e:TE) (t:TA):TE:=fun c H Q=>e c H fun x d=>tyV K T x d/\t c d fun xs f=>r x xs f Q
variable {o e:bZ}{es:List bZ}{to:TE}{t:TA}{name:Str}{apos cpos:Pos}{T id:String}{r:V->List V->Hp->VK->Prop}
theorem C6 (pa:PlainAttrs T) (k:Slot T name id) (m:typeOf (.builtin id)=pure (.type "method_descriptor")) (B:ZS X id r) (ho:PE X o to) (z:PA X (e::es) t)
  (g:LC o name X.env (dO o X.env)=dO o X.env:=by rfl)
  (j:((gG cpos (az (e::es) X.env)).all (fun x=>!x.1)&&(backToKw cpos (RF [] X.env)).all (fun x=>x.1.isSome)
   && decide ((e::es).length+([] : List Hu).length+(if ([] : List Hu).isEmpty then 0 else 1)<30))=true:=by rfl)
  (f:(apos.endLine==cpos.line)=true:=by rfl) (hs:az (e::es) X.env=(false,dO e X.env)::az es X.env:=by rfl) (d:(gG cpos (az es X.env)).any (·.1)=false:=by rfl) :
  PE X (.Call (.Attribute o name apos) (e::es) [] cpos) (tBM X.K T r to t):=by
 intro c s l H Q I h;refine wpAny_Call_method_late g j f rfl (fZ (ho c s l H _ I h) fun v w ⟨x,y,q,p,ty,A⟩=>?_);obtain ⟨u,N⟩:=VY q p ty;refine ⟨T,id,pa,k,m,u,N,?_⟩;have n:=z cpos c w l y _ q A;rw [hs] at n ⊢;refine Calls.callWith_builtin (by show (false||(gG cpos (az es X.env)).any (·.1))=false;rw [d]<;>rfl) (HV ?_);exact fZ n fun O L i=>by obtain ⟨S,G,E,P,M⟩:=i;exact B c L l G x S v O Q E p P M
end
end L2
namespace L2
open PySem PySem.Spec PyProof.Rows
def MtM (X:Cx) (id:String) (r:V->List V->Hp->VK->Prop):Prop :=
 ∀ (a:List (aj×Obj)) (s:ao) (c:St) (H:Hp) (x:V) (xs:List V) (v:ac) (b:List ac) (Q:VK),bH X a c H s->dI x v->dH xs b->r x xs H Q ->
  ar (av X.prog X.w) X.A (call (.builtin id) (v::b)) (EP X a c Q) X.xe s
theorem dH.one (h:dH [x] us):∃ u,us=[u]/\dI x u:=by
 cases h with|cons r t=>cases t;exact ⟨_,rfl,r⟩
theorem bH.lset {a its':List ac}{n:Nat}{f:Array ac->Array ac}{t':Nat} (I:bH X pins σ H s) (h:H l=some (.lst xs))
  (e:s.heap.get? l=some { cls:=.type "list",data:=.seq a.toArray n }) (d:f a.toArray=its'.toArray) (c:dH ys its') (i:ys.length<=sizeLine) :
  bH X pins σ (upd H l (.lst ys)) { s with heap:=s.heap.update l (i9 f),toks:=t' }:=by
 have q:=PySem.IsL.update e f;rw [d] at q;refine I.write (x:=l) (e:=l) (by rw [h];exact trivial) (.inl rfl) (fun j u g b=>(fX s.heap (i9 f) (cV g)).trans b) ⟨_,q⟩ ?_;exact ⟨i,its',_,c,q⟩
theorem bH.lnew (I:bH X pins σ H s) (a:dH ys its) (b:ys.length<=sizeLine) :
  bH X pins σ (upd H s.heap.objs.size (.lst ys)) { s with heap:=s.heap.push { cls:=.type "list",data:=.seq its.toArray },toks:=t' } :=
 I.laid (fun _ _ q=>aa _ q) (ap _) ⟨b,its,0,a,aw _ rfl⟩
theorem bH.fresh (I:bH X pins σ H s):H s.heap.objs.size=none:=I.hok.fresh (ap _)
theorem bH.lstM (I:bH X pins σ H s) (b:H l=some (.lst xs)):InM s.heap l xs:=by
 obtain ⟨z,a,n,r,e⟩:=I.hok l _ b;exact ⟨z,a,n,r,r.length,e⟩
theorem Om (h:n<=sizeLine):n5 n=false:=by
 unfold n5;exact decide_eq_false (by omega)
inductive Fc (x:V) (vs:List V) (H:Hp) (Q:VK):Prop
 |mk (l xs y:_) (h0:x=.ref l) (h1:vs=[y]) (h2:H l=some (.lst xs)) (h3:xs.length<sizeLine) (h4:Q .non (upd H l (.lst (xs++[y])))):Fc x vs H Q
def Sq:V->List V->Hp->VK->Prop:=Fc
theorem C7:MtM X "list.append" Sq:=by
 intro b s k H x o v m Q I d f h;obtain ⟨l,xs,y,rfl,rfl,c,j,q⟩:=h;cases d;obtain ⟨u,rfl,g⟩:=f.one;obtain ⟨z,a,n,r,i,e⟩:=I.lstM c;refine zo F.slot_list_append ⟨_,e,rfl⟩ F.entry_list_append (F.args_list_append_2 _ _) (PySem.list_append l a.toArray n u (by rw [aK];omega)) ⟨e,?_⟩;refine ⟨.non,_,I.lset (its':=a++[u]) c e (by simp) (r.append (.cons g .nil)) ?_,rfl,q⟩;rw [aO,du];omega
inductive Fd (x:V) (vs:List V) (H:Hp) (Q:VK):Prop
 |mk (l b xs zs:_) (h0:x=.ref l) (h1:vs=[.ref b]) (h2:H l=some (.lst xs)) (h3:H b=some (.lst zs)) (h4:xs.length+zs.length<=sizeLine) (h5:Q .non (upd H l (.lst (xs++zs)))):Fd x vs H Q
def Sr:V->List V->Hp->VK->Prop:=Fd
theorem C8:MtM X "list.extend" Sr:=by
 intro f s E H x L v K Q I i k h;obtain ⟨l,b,xs,A,rfl,rfl,g,w,B,q⟩:=h;cases i;obtain ⟨u,rfl,m⟩:=k.one;cases m;obtain ⟨z,c,n,r,y,e⟩:=I.lstM g;obtain ⟨G,a,j,o,p,t⟩:=I.lstM w;have hsz:c.toArray.size+a.toArray.size<=sizeLine:=by rw [aK,aK];omega
 have d:¬ (!c.toArray.isEmpty&&n5 (c.toArray.size+a.toArray.size))=true:=by
  rw [Om hsz,o8];exact a_
 refine zo F.slot_list_extend ⟨_,e,rfl⟩ F.entry_list_extend (F.args_list_extend_2 _ _)
  (AutoSeq1.list_extend_list_list_0 l c.toArray n b a.toArray j d (by rw [aK];omega) (by omega)) ⟨e,t,?_⟩
 refine ⟨.non,_,I.lset (its':=c++a) g e (by simp) (r.append o) ?_,rfl,q⟩;rw [aO];omega
end L2
namespace Att
open PySem PySem.W PySem.Calls PyProof.Rows
theorem yB : ∀ (c:List Int) (d:List ac),WellAll P h d (c.map WData.int)->NF d c:=by
 intro c;induction c with
 |nil =>
  intro d w;rw [ft] at w;cases w;exact .nil
 |cons n c e =>
  intro d w;rw [ax] at w;cases w with
  |cons a b =>
   cases a;exact .cons _ _ (e _ b)
theorem M2 {l:OpenLaw}{n:Nat} (w:l.most=some n) {P:Params}{h:bK}{args:List WData}{c:List ac}
  (e:l.row.toRowW.claim.pre args=true) (k:WellAll P h c args) :
  ∃ a p b,c=[bf a]/\args=[WData.list (b.map WData.int)]/\h.get? a=some { cls:=.type "list",data:=.seq p.toArray }/\NF p b/\b.length<=n:=by
 have m:WShape.hasAll [] args [.list .int]=true:=(pre_splitW e).1;have o:l.pre.holds [] { args:=args }=true:=(pre_splitW e).2;obtain ⟨d,r,rfl,t,x⟩:=hasAllW_cons m;obtain rfl:=hasAllW_nil x;obtain ⟨xs,rfl,v⟩:=hasW_list t;obtain ⟨b,rfl⟩:=items_int v;have g:b.length<=n:=by
  unfold OpenLaw.pre at o;have i:(WTm.not (.lt (.lit (.int (n:Int))) (.len (.arg 0)))).holds [] { args:=[.list (b.map .int)] }=true:=by
   have i:=(holds_andW o).1;rw [w] at i;exact i
  have j:=condW_of i (w_not (w_lt w_lit (w_len_list (w_arg rfl))));rw [ah] at j;refine RG fun q=>?_;have q':(n:Int)<((b.length:Nat):Int):=by omega
  first
   |(rw [decide_eq_true q'] at j;exact absurd j (by decide))
   |(simp at j;omega)
 cases k with
 |cons s u =>
  cases u;cases s with
  |list ho f=>exact ⟨_,_,b,rfl,rfl,ho,yB b _ f,g⟩
theorem M3 (l:OpenLaw) (args:List WData):l.row.toRowW.claim.post args (.bool true) args=true :=
 postW_of (r:=l.row.toRowW) (X:=(true==true))
  (show WShape.has [] (.bool true) .bool=true by first|rfl|decide|simp [WShape.has,WShape.arms,WShape.armsAll])
  (show (WTm.eq .res (.lit (.bool true))).value [] { args:=args,res:=some (.bool true),after:=args }=some (.bool (true==true)) from w_eq_bool (w_res rfl) w_lit) rfl
theorem attach_call {l:OpenLaw}{n:Nat}{q:bu}{c:List Str}{M:(Str->Option ac)->bK->Prop}{E:bQ->bK->Prop}{d:DefRec}
  (U:l.most=some n) (A:d.params.defaults=[])
  (call:∀ (w:bQ) (e b:ao) (u x:Str->Option ac) (j:aj) (o:Obj) (B s g:ac) (a:aj) (i:List ac) (t:List Int),
   Ground q c [] M w e u x b.heap->E w b.heap ->
   b.heap.get? j=some o->o.data=.func (docDef d.name d.params d.body d.scope B s g)->b.heap.CodeRec s d.name->u d.name=some (.ref j) ->
   b.heap.get? a=some { cls:=.type "list",data:=.seq i.toArray }->NF i t->t.length<=n->b.gens=#[] ->
   iK (av l.prog w) xQ (.call (.ref j) ⟨[.ref a],[]⟩) (fun r s'=>r=.ok (.ret (.bool true))/\OldK b.heap s'.heap/\s'.os=b.os/\rM s'.gens) b) :
  WalkO q c M E l.row.toRowW d [] (fun f i=>LD f i):=by
 intro w e b u x G Y j o B s g N kV ho hd v L z hg K I as k H X y S;obtain rfl:N=.none:=Dflts.none L A;obtain rfl:kV=.none:=Dflts.noKw L;obtain ⟨a,i,t,rfl,rfl,m,h,p⟩:=M2 U k y;refine enter_call (pK (call w e b u x j o B s g a i t G Y ho (fd_plain hd) v z m h p hg) fun r s' P=>?_);obtain ⟨rfl,h2,O,Q⟩:=P;exact ⟨.inl ⟨.bool true,.bool true,[],rfl,fun _=>rfl,.bool true,M3 l _,fun _=>⟨rW,fun _ T=>(nomatch T)⟩⟩,h2,O,Q⟩
section
variable {prog:bu}{w:bQ}{A:cf}{E:ac->ao->Prop}{s:ao}{K:Frag}
def ZX (h:bK) (L d:aj):List (aj×Obj):=(bE h.objs.size).filterMap fun a=>if a=L\/a=d then none else (h.get? a).map fun o=>(a,o)
end
end Att
namespace L2
open PySem PySem.Spec PyProof.Rows
theorem M4 (h:NF vs ns):dH (ns.map V.int) vs:=by
 induction h with
 |nil=>exact .nil
 |cons n t h a=>exact .cons ⟨t,rfl⟩ a
def VZ (H:Hp):Prop:=∀ b,H b=none\/∃ o xs,H b=some (.frz o (.lst xs))
theorem On {P:bu}{w:bQ}{K:a8}{E S:Str->Option ac}{CX:M0}{k:Nat}{T a:aj}{fd:eI}{x:Str}{sp:Sp}{c:ao}{p:List ac}{y:List Int}
  (KX:K.In c.heap) (I:c.heap.Ns bC E) (g:c.heap.Ns builtinsNs S) (a0:∀ x:Str,x≠"__name__"->S x=ja x) (O:c.heap.NoLimit) (hg:c.gens=#[])
  (Q:c.heap.get? a=some { cls:=.type "list",data:=.seq p.toArray }) (hi:NF p y) (hl:y.length<=sizeLine) (hr:jO k xQ)
  (F:∀ base:bK,K.In base->base.Ns bC E->qo P w K E base CX k T fd [x] sp) (l:∀ (s:ao) (u:ac),xP s fd ⟨[u],[]⟩ [(x,u)])
  (X:∀ H:Hp,VZ H->nl K H a (y.map V.int)->sp [.ref a] H (fun v _=>v=.bl true) fun _ _ _=>False)
  (Y:∀ H e s',CX [] H c (fun _ _ _=>False) e s'->False) :
  iK (av P w) xQ (.call (.ref T) ⟨[.ref a],[]⟩) (fun r s'=>r=.ok (.ret (.bool true))/\OldK c.heap s'.heap/\s'.os=c.os/\rM s'.gens) c:=by
 have rv:=M4 hi
 have L:=hi.length
 have j:∀ H:Hp,VZ H->nl K H a (y.map V.int)->rq P w H c.heap->(∀ b,H b≠none->b=a)->(H a≠none->K.lookup a=none) ->
   iK (av P w) xQ (.call (.ref T) ⟨[.ref a],[]⟩) (fun r s'=>r=.ok (.ret (.bool true))/\OldK c.heap s'.heap/\s'.os=c.os/\rM s'.gens) c:=by
  intro H hO hS M hA hK
  have f:∀ {b:aj}{o:Obj},c.heap.get? b=some o->H b=none->(Di c.heap H).get? b=some o:=fun e n=>NV e n
  have a1:∀ {b:aj}{o:Obj}{es:Array ub}{t:Nat},c.heap.get? b=some o->o.data=.dict es t->H b=none:=fun {b o es t} e d=>by
   cases q:H b with
   |none=>rfl
   |some u =>
    have U:b=a:=hA b (by rw [q];simp)
    subst U
    rw [Q] at e;cases e
    have d':Data.seq p.toArray _=Data.dict es t:=d
    cases d'
  have i:∀ {b:aj}{m:Str->Option ac},c.heap.Ns b m->(Di c.heap H).Ns b m:=fun {b m} ⟨o,es,t,e,d,r⟩=>⟨o,es,t,f e (a1 e d),d,r⟩
  have A:K.In (Di c.heap H):=fun b o e=>f (KX b o e) (by
   cases q:H b with
   |none=>rfl
   |some u =>
    have U:b=a:=hA b (by rw [q];simp)
    subst U
    rw [hK (by rw [q];simp)] at e;cases e)
  have hM:Mod K E (Di c.heap H):=⟨A,i I,⟨S,i g,a0⟩,let ⟨mc,h1,h2⟩:=O;⟨mc,i h1,h2⟩⟩
  have e0:IA P w K E (Di c.heap H) xQ [] c H:=⟨rfl,hM,fun b o e=>S2 e,Nat.le_of_eq (LS _ _),trivial,fun b g=>absurd (show b∈([] : List aj) from g) (by simp),M,.of_eq hg⟩
  refine pK ((F _ A (i I)).run xQ [] c H ⟨[.ref a],[]⟩ [.ref a] [.ref a] _ _ hr e0 (l c (.ref a)) (.cons rfl .nil) (X H hO hS)) fun r s' h=>?_
  cases r with
  |error e=>exact (Y H e s' h).elim
  |ok fl =>
   cases fl with
   |next=>exact e_ h
   |brk=>exact e_ h
   |cont=>exact e_ h
   |ret u =>
    obtain ⟨v,H',os,N,un,G,r',q⟩:=h
    have q':v=.bl true:=q
    subst q'
    obtain rfl:u=jo true:=r'
    refine ⟨rfl,OldK.of_keep fun b o e=>?_,os,N⟩
    cases q:H b with
    |none=>exact un.keep b o e q (by intro z;exact absurd (show b∈([] : List aj) from z) (by simp)) (by simp)
    |some u =>
     rcases hO b with z|⟨ob,xs,z⟩
     ·rw [q] at z;cases z
     ·have z2:=un.frzs b ob _ z
      obtain ⟨e1,_⟩:=M b _ z
      obtain ⟨e2,_⟩:=G b _ z2
      rw [e] at e1;cases e1
      exact e2
 cases hk:K.lookup a with
 |some o =>
  have e:=KX a o hk
  rw [Q] at e
  cases e
  refine j (fun _=>none) (fun _=>.inl rfl) (.inr ⟨_,p.toArray,_,hk,rfl,rfl,rfl,by rw [aK,L];exact hl,by simpa using rv⟩) (fun b u z=>by have B:(none:Option HO)=some u:=z;cases B) (fun b z=>absurd rfl z) fun z=>absurd rfl z
 |none =>
  refine j (fun b=>if b=a then some (.frz { cls:=.type "list",data:=.seq p.toArray } (.lst (y.map V.int))) else none) (fun b=>?_) (.inl (.inr ⟨{ cls:=.type "list",data:=.seq p.toArray },if_pos rfl⟩)) (fun b u z=>?_) (fun b z=>?_) fun _=>hk
  ·by_cases g:b=a
   ·exact .inr ⟨_,_,if_pos g⟩
   ·exact .inl (if_neg g)
  ·by_cases g:b=a
   ·have B:=(if_pos g).symm.trans z
    cases B
    subst g
    exact ⟨Q,by rw [ah];exact hl,p,_,rv,Q⟩
   ·have B:=(if_neg g).symm.trans z
    cases B
  ·by_cases g:b=a
   ·exact g
   ·exact absurd (if_neg g) z
end L2
namespace L2
open PySem PySem.Spec PyProof.Rows
abbrev KOf {K:a8}{h:bK} (_:K.In h):a8:=K
theorem Su {l:yt}{n k:Nat}{q:bu}{i:List Str}{XP:(Str->Option ac)->bK->Prop}{N:bQ->bK->Prop}{d:DefRec}{K:Params->a8}{CX:bQ->M0}{sp:bQ->Sp}{x:Str}
  (hn:l.most=some n) (I:n<=sizeLine) (E:d.params.defaults=[]) (hr:jO k xQ)
  (S:∀ (w:bQ) (h:bK),N w h->(K w.params).In h)
  (F:∀ (w:bQ) (m:Str->Option ac) (y:aj) (h:bK),(K w.params).In h->h.Ns bC m->m d.name=some (.ref y) ->
   ∃ A:eI,(∀ (s:ao) (u:ac),xP s A ⟨[u],[]⟩ [(x,u)]) /\
    ∀ base:bK,(K w.params).In base->base.Ns bC m->qo l.prog w (K w.params) m base (CX w) k y A [x] (sp w))
  (L:∀ (w:bQ) (H:Hp) (a:aj) (z:List Int),z.length<=n->VZ H->nl (K w.params) H a (z.map V.int)->sp w [.ref a] H (fun v _=>v=.bl true) fun _ _ _=>False)
  (M:∀ (w:bQ) (H:Hp) (s:ao) (e:ac) (s':ao),CX w [] H s (fun _ _ _=>False) e s'->False) :
  Rp q i XP N l.row.toRowW d [] (fun f Q=>LD f Q):=by
 refine Att.attach_call hn E fun w P p m mb y o pm cd a0 a Q z G Y ho hd X B t j c hg=>?_;have O:=S w _ Y;obtain ⟨A,hb,U⟩:=F w m y _ O G.T.g B;exact On O G.T.g G.T.b G.T.builtins G.T.nolimit hg t j (bL c I) hr U hb (fun H hO hS=>L w H a z c hO hS) fun H e s'=>M w H p e s'
end L2
namespace L2
open PySem PySem.Spec PyProof.Rows
def lP (s:dY):Arguments:=match s with
 |.FunctionDef _ a _ _ _ _ _ _ _ _=>a
 |_=>{ posonlyargs:=[],args:=[],vararg:=none,kwonlyargs:=[],kw_defaults:=[],kwarg:=none,defaults:=[] }
def i6 (s:dY):List dY:=match s with
 |.FunctionDef _ _ b _ _ _ _ _ _ _=>b
 |_=>[]
def ay (s:dY):i5:=match s with
 |.FunctionDef _ _ _ _ _ _ a _ _ _=>a
 |_=>{ kind:=.function,names:=[],isGenerator:=false,isCoroutine:=false }
abbrev CX0:M0:=fun _ _ _ _ _ _=>False
abbrev E0:XK:=fun _ _ _=>False
structure Fe (K:a8) (x qual:Str) (st:dY) (f:aj) (fd:eI):Prop where
 ex:∃ (oc:ac) (od:Option aj) (kV doc pm:ac) (an:Option aj) (cdv ct:ac) (osl:Array (Option ac)),
  fd=f9 x qual (lP st) (i6 st) (ay st) .none kV doc pm an cdv ct/\K.lookup f=some ⟨oc,od,.func fd,osl⟩/\kJ K cdv qual=true
 kp:cY K (.ref f)=true
section
variable {P:bu}{w:bQ}{K:a8}{mg:Str->Option ac}{base:bK}
theorem Fe.binds {x a:Str}{st:dY}{f:aj}{k:eI}{d:List Str} (F:Fe K x a st f k)
  (h:∀ (kV b e:ac) (i:Option aj) (c j:ac) (g:List ac),g.length=d.length->RE (f9 x a (lP st) (i6 st) (ay st) .none kV b e i c j) ⟨g,[]⟩=pure (d.zip g)):jG K k d []:=by
 obtain ⟨n,p,kV,b,e,i,c,j,m,rfl,o,l⟩:=F.ex;exact .all (h kV b e i c j)
theorem Oo {x a:Str}{st:dY}{f:aj}{j:ac}{m h:Option aj}{e:Array (Option ac)}{kV d i b g:ac} (l:K.lookup f=some ⟨j,m,.func (f9 x a (lP st) (i6 st) (ay st) .none kV d i h b g),e⟩)
  (c:kJ K b a=true) (k:cY K (.ref f)=true):Fe K x a st f (f9 x a (lP st) (i6 st) (ay st) .none kV d i h b g):=⟨⟨j,m,kV,d,i,h,b,g,e,rfl,l,c⟩,k⟩
end
theorem ki (a:jO k A):A.units+1<gM:=wT (Nat.add_le_add_left (by decide:1<=64) _) a.units
theorem cK (h:n<=1000):n<sizeLine:=wT h (by decide)
theorem pv (i:Nat) (b:X.N[i]?=some x:=by rfl) (c:Ny X.env.scope x:=by first|exact hZ rfl|exact eF (hZ rfl)|exact eF (eF rfl)) (d:(x==("__debug__" : Str))=false:=by decide)
  (a:(x==("__classdict__" : Str))=false:=by decide):PE X (.Name x pos) (LU i):=oY b c d a
theorem Bk {A B:Prop} (h:B):if false=true then A else B:=by
 rw [if_neg a_];exact h
theorem Ff {A B:Prop} (h:A):if true=true then A else B:=by
 rw [if_pos rfl];exact h
def dD (H H':Hp):Prop:=∀ b o,H b=some o->H' b=some o
theorem dD.refl (H:Hp):dD H H:=fun _ _ h=>h
theorem dD.trans (a:dD H H1) (b:dD H1 H2):dD H H2:=fun c o h=>b c o (a c o h)
theorem dD.free (e:dD H H') (h:H' l=Option.none):H l=Option.none:=by
 cases q:H l with
 |none=>rfl
 |some o =>
  rw [e l o q] at h;cases h
theorem dD.seq {K:a8}{H H':Hp}{a:aj}{xs:List V} (e:dD H H') (h:nl K H a xs):nl K H' a xs:=by
 rcases h with (h|⟨o,h⟩)|h
 ·exact .inl (.inl (e _ _ h))
 ·exact .inl (.inr ⟨o,e _ _ h⟩)
 ·exact .inr h
end L2
namespace L2
open PySem PySem.Spec PyProof.Rows
section
variable {κ:Type} [DecidableEq κ]
def o_ (kvs:List (κ×V)) (k:κ):Option V:=(kvs.find? fun a=>decide (a.1=k)).map (·.2)
def m6 (kvs:List (κ×V)) (k:κ) (v:V):List (κ×V) :=
 if (kvs.any fun a=>decide (a.1=k))=true then kvs.map (fun a=>if a.1=k then (a.1,v) else a) else kvs++[(k,v)]
def Op (kvs:List (κ×V)) (k:κ):List (κ×V):=kvs.filter fun a=>decide (a.1≠k)
theorem zC {p:κ×V}{r:List (κ×V)}{k:κ} (e:p.1=k):o_ (p::r) k=some p.2:=by simp [o_,cj,e]
theorem zD {p:κ×V}{r:List (κ×V)}{k:κ} (e:¬ p.1=k):o_ (p::r) k=o_ r k:=by simp [o_,cj,e]
theorem Fg (k:κ):∀ kvs:List (κ×V),(kvs.any fun a=>decide (a.1=k))=(o_ kvs k).isSome
 |[]=>rfl
 |p::r=>by
  rw [eJ];by_cases e:p.1=k
  ·simp only [zC e,decide_eq_true e,Bool.true_or,vo]
  ·rw [zD e,decide_eq_false e,vE];exact Fg k r
theorem oo (kvs:List (κ×V)) (k:κ) (v:V):(m6 kvs k v).length<=kvs.length+1:=by
 unfold m6;split
 ·rw [ah];omega
 ·rw [aO,aW,bU];omega
theorem zy.isSome_eq (r:zy o u):o.isSome=u.isSome:=by
 cases o with
 |none=>cases u with
  |none=>rfl
  |some _=>exact (show False from r).elim
 |some _=>cases u with
  |none=>exact (show False from r).elim
  |some _=>rfl
theorem KV.val {kvs:List (κ×V)}{f:List (κ×ac)} (r:KV kvs f) (k:κ):zy (o_ kvs k) (B0 f k):=by
 unfold KV at r;induction r with
 |nil=>exact jB
 | @cons p q j c h t g =>
  obtain ⟨d,i⟩:=h;by_cases e:p.1=k
  ·have a:q.1=k:=d.symm.trans e;have b:B0 (q::c) k=some q.2:=by simp [B0,cj,a]
   rw [zC e,b];exact i
  ·have a:¬ q.1=k:=fun z=>e (d.trans z);have b:B0 (q::c) k=B0 c k:=by simp [B0,cj,a]
   rw [zD e,b];exact g
theorem KV.any (r:KV kvs vs) (k:κ):(kvs.any fun a=>decide (a.1=k))=vs.any fun a=>decide (a.1=k):=by
 unfold KV at r;induction r with
 |nil=>rfl
 |cons h t b=>rw [eJ,eJ,b,h.1]
theorem KV.repl (r:KV kvs vs) (k:κ) (d:dI y u) :
  KV (kvs.map fun a=>if a.1=k then (a.1,y) else a) (vs.map fun a=>if a.1=k then (a.1,u) else a):=by
 unfold KV at r ⊢;induction r with
 |nil=>exact .nil
 | @cons p q i g h t c =>
  rw [ax,ax];refine .cons ?_ c;obtain ⟨b,f⟩:=h;by_cases e:p.1=k
  ·rw [if_pos e,if_pos (b.symm.trans e)];exact ⟨b,d⟩
  ·rw [if_neg e,if_neg (fun z=>e (b.trans z))];exact ⟨b,f⟩
theorem KV.put (r:KV kvs vs) (k:κ) (a:dI y u):KV (m6 kvs k y) (HW vs k u):=by
 unfold m6 HW;rw [r.any k];by_cases e:(vs.any fun b=>decide (b.1=k))=true
 ·rw [if_pos e,if_pos e];exact r.repl k a
 ·rw [if_neg e,if_neg e];exact Paired.snoc r ⟨rfl,a⟩
theorem KV.length (r:KV kvs vs):kvs.length=vs.length:=jV r
end
theorem C9 (r:dI (kV k) u):(dG P w).is k u=true:=by
 cases k with
 |inl i=>obtain ⟨t,e⟩:=(show ∃ t,u=qi i t from r);subst e;exact F4 P w i t
 |inr x=>obtain ⟨t,e⟩:=(show ∃ t,u=kF x t from r);subst e;exact F5 P w x t
theorem Ca : ∀ {a:List eC}{b:List ac},dH (a.map kV) b->ItemsAre (dG P w) a b
 |[],_,r=>by rw [ft] at r;cases r;exact .nil
 |k::a,_,r=>by
  rw [ax] at r;cases r with
  |cons h t=>exact .cons (C9 h) (Ca t)
abbrev KT (H:Hp):List (List eC×V)->List (List eC×aj×ac)->Prop:=HI fun p q=>p.1=q.1/\H q.2.1=some (.tup (p.1.map kV))/\dI p.2 q.2.2
theorem KT.val {H:Hp}{kvs:List (List eC×V)}{xs:List (List eC×aj×ac)} (r:KT H kvs xs) (k:List eC):zy (o_ kvs k) ((HX xs k).map (·.2)):=by
 induction r with
 |nil=>exact jB
 | @cons p q i c h t f =>
  obtain ⟨d,_,g⟩:=h;by_cases e:p.1=k
  ·have a:q.1=k:=d.symm.trans e;have b:HX (q::c) k=some q.2:=by simp [HX,cj,a]
   rw [zC e,b];exact g
  ·have a:¬ q.1=k:=fun z=>e (d.trans z);have b:HX (q::c) k=HX c k:=by simp [HX,cj,a]
   rw [zD e,b];exact f
theorem KT.repl (r:KT H kvs xs) (k:List eC) (g:dI y u) :
  KT H (kvs.map fun b=>if b.1=k then (b.1,y) else b) (xs.map (putAt k u)):=by
 induction r with
 |nil=>exact .nil
 | @cons p q j i h t d =>
  rw [ax,ax];refine .cons ?_ d;obtain ⟨a,c,f⟩:=h;unfold putAt;by_cases e:p.1=k
  ·rw [if_pos e,if_pos (a.symm.trans e)];exact ⟨a,c,g⟩
  ·rw [if_neg e,if_neg (fun z=>e (a.trans z))];exact ⟨a,c,f⟩
theorem KT.put (r:KT H kvs xs) (k:List eC) (d:H b=some (.tup (k.map kV))) (a:dI y u) :
  KT H (m6 kvs k y) (storedH xs k b u):=by
 have e:(kvs.any fun c=>decide (c.1=k))=(HX xs k).isSome:=by
  rw [Fg,(r.val k).isSome_eq,wM]
 unfold m6 storedH;rw [e];by_cases q:(HX xs k).isSome=true
 ·rw [if_pos q,if_pos q];exact r.repl k a
 ·rw [if_neg q,if_neg q];exact Paired.snoc r ⟨rfl,d,a⟩
theorem KT.keeps (r:KT H kvs xs) (a:∀ b ys,H b=some (.tup ys)->H' b=some (.tup ys)):KT H' kvs xs :=
 Paired.mapP r fun _ _ z=>⟨z.1,a _ _ z.2.1,z.2.2⟩
theorem Uu (ok:rq P w H h) (e:Rd H a u):de P w H h a u:=e.ok ok
theorem Fh (ok:rq P w H h) (e:Rd H a (.dK kvs)):kvs.length<=sizeLine/\(a==fA)=false/\∃ b,KV kvs b/\h.DictOf (dG P w) a b :=
 show de P w H h a (.dK kvs) from Uu ok e
theorem XD (ok:rq P w H h) (e:H a=some (.dK kvs)):kvs.length<=sizeLine/\(a==fA)=false/\∃ b,KV kvs b/\h.DictOf (dG P w) a b:=Fh ok (.inl e)
theorem xl (ok:rq P w H h) (e:H a=some (.tup (ks.map kV))):(ua (dG P w)).is h ks a:=by
 obtain ⟨_,b,r,o,c,f,n,d⟩:=(show de P w H h a (.tup (ks.map kV)) from ok a _ e);exact ⟨o,b.toArray,n,c,f,d,by simpa using Ca r⟩
theorem Fi (ok:rq P w H h) (e:Rd H a (.dT kvs)):kvs.length<=sizeLine/\(a==fA)=false /\
  ∃ xs,KT H kvs xs/\h.DictOfH (ua (dG P w)) a xs:=by
 obtain ⟨z,y,xs,r,o,es,k,d,i,j,n,g⟩:=(show de P w H h a (.dT kvs) from Uu ok e);refine ⟨z,y,xs,r,o,es,k,d,i,j,n,fun x b=>?_,g⟩;have all:∀ {l:List (List eC×V)}{m:List (List eC×aj×ac)},KT H l m->∀ x∈m,(ua (dG P w)).is h x.1 x.2.1:=by
  intro l m q;induction q with
  |nil=>intro x b;exact nomatch b
  | @cons p q u s c t f =>
   intro x b;rcases List.mem_cons.mp b with e|b
   ·subst e;exact xl ok (by rw [<- c.1];exact c.2.1)
   ·exact f x b
 exact all r x b
theorem Uv (ok:rq P w H h) (e:H a=some (.dT kvs)):kvs.length<=sizeLine/\(a==fA)=false /\
  ∃ xs,KT H kvs xs/\h.DictOfH (ua (dG P w)) a xs:=Fi ok (.inl e)
def yC (H:Hp) (a:aj) (y:V) (r:Option V):Prop :=
 (∃ kvs k,Rd H a (.dK kvs)/\y=kV k/\r=o_ kvs k)\/∃ kvs k b,Rd H a (.dT kvs)/\y=.ref b/\H b=some (.tup (k.map kV))/\r=o_ kvs k
def Fj (H:Hp) (a:aj) (y v:V) (H':Hp):Prop :=
 (∃ kvs k,H a=some (.dK kvs)/\y=kV k/\kvs.length<sizeLine/\H'=upd H a (.dK (m6 kvs k v))) \/
 ∃ kvs k b,H a=some (.dT kvs)/\y=.ref b/\H b=some (.tup (k.map kV))/\kvs.length<sizeLine/\H'=upd H a (.dT (m6 kvs k v))
theorem yC.k {H:Hp}{a:aj}{kvs:List (eC×V)}{k:eC} (e:H a=some (.dK kvs)):yC H a (kV k) (o_ kvs k):=.inl ⟨kvs,k,.inl e,rfl,rfl⟩
theorem yC.t {H:Hp}{a b:aj}{kvs:List (List eC×V)}{k:List eC} (e:H a=some (.dT kvs)) (c:H b=some (.tup (k.map kV))):yC H a (.ref b) (o_ kvs k):=.inr ⟨kvs,k,b,.inl e,rfl,c,rfl⟩
theorem Fj.k {H:Hp}{a:aj}{kvs:List (eC×V)}{k:eC}{v:V} (e:H a=some (.dK kvs)) (b:kvs.length<sizeLine):Fj H a (kV k) v (upd H a (.dK (m6 kvs k v))):=.inl ⟨kvs,k,e,rfl,b,rfl⟩
theorem Fj.t {H:Hp}{a b:aj}{kvs:List (List eC×V)}{k:List eC}{v:V} (e:H a=some (.dT kvs)) (c:H b=some (.tup (k.map kV))) (d:kvs.length<sizeLine) :
  Fj H a (.ref b) v (upd H a (.dT (m6 kvs k v))):=.inr ⟨kvs,k,b,e,rfl,c,d,rfl⟩
theorem bH.big (I:bH X pins σ H s):fA<s.heap.objs.size:=by
 have h:bC<s.heap.objs.size:=(I.mod.glob.keeps I.bk).lt;exact e7 (by decide) h
theorem M5 (q:A.units+1<gM) (I:bH X pins σ H s) (g:yC H a y (some v)) (n:dI y u) (h:∀ f s',bH X pins σ H s'->dI v f->Q f s') :
  ar (av X.prog X.w) A (rN (.ref a) u) Q E s:=by
 rcases g with ⟨kvs,k,e,j,l⟩|⟨kvs,k,b,e,j,eb,l⟩
 ·subst j;obtain ⟨z,t,B,d,dd⟩:=Fh I.hok e;obtain ⟨f,i,c⟩:=zy.some_of (v:=v) (o:=B0 B k) (by rw [l];exact d.val k);exact wpAny_getItem_of (C9 n) dd.mapOf i (h f _ (I.tok _) c)
 ·subst j;cases (show u=bf b from n);obtain ⟨z,t,xs,d,dd⟩:=Fi I.hok e;obtain ⟨f,i,c⟩:=zy.some_of (v:=v) (o:=(HX xs k).map (·.2)) (by rw [l];exact d.val k);obtain ⟨p,x,m⟩:=Option.map_eq_some_iff.mp i;refine wpAny_getItem_heap (qk q) (xl I.hok eb) dd x ?_;rw [m];exact h f _ (I.tok _) c
theorem d_in (j:A.units+1<gM) (I:bH X pins σ H s) (g:yC H a y o) (i:dI y u) (h:∀ s',bH X pins σ H s'->Q (.bool o.isSome) s') :
  ar (av X.prog X.w) A (bG .In u (.ref a)) Q E s:=by
 rcases g with ⟨kvs,k,e,d,l⟩|⟨kvs,k,b,e,d,eb,l⟩
 ·subst d;obtain ⟨z,f,m,c,dd⟩:=Fh I.hok e;refine wpAny_in_of (C9 i) f dd.mapOf ?_;rw [<- (c.val k).isSome_eq,<- l];exact h _ (I.tok _)
 ·subst d;cases (show u=bf b from i);obtain ⟨z,f,xs,c,dd⟩:=Fi I.hok e;refine wpAny_in_heap (qk j) (xl I.hok eb) f dd ?_;have q:=(c.val k).isSome_eq;rw [wM] at q;rw [<- q,<- l];exact h _ (I.tok _)
theorem Sv (j:A.units+1<gM) (I:bH X pins σ H s) (g:yC H a y o) (i:dI y u) (h:∀ s',bH X pins σ H s'->Q (.bool (!o.isSome)) s') :
  ar (av X.prog X.w) A (bG .NotIn u (.ref a)) Q E s:=by
 rcases g with ⟨kvs,k,e,d,l⟩|⟨kvs,k,b,e,d,eb,l⟩
 ·subst d;obtain ⟨z,f,m,c,dd⟩:=Fh I.hok e;refine wpAny_notIn_of (C9 i) f dd.mapOf ?_;rw [<- (c.val k).isSome_eq,<- l];exact h _ (I.tok _)
 ·subst d;cases (show u=bf b from i);obtain ⟨z,f,xs,c,dd⟩:=Fi I.hok e;refine wpAny_notIn_heap (qk j) (xl I.hok eb) f dd ?_;have q:=(c.val k).isSome_eq;rw [wM] at q;rw [<- q,<- l];exact h _ (I.tok _)
theorem Dt (I:bH X pins σ H s) (c:Xg (H a)) (hs:bI a s.heap h') (he:∃ q,h'.get? a=some q) (new:de X.prog X.w (upd H a ob) h' a ob) :
  bH X pins σ (upd H a ob) { s with heap:=h',toks:=t' } :=
 I.write (x:=a) (e:=a) c (.inl rfl) (fun b q d z=>(hs.2 b d).trans z) he new
theorem Oq (z:kvs.length<=sizeLine) (c:(a==fA)=false) (b:KV kvs vs) (dd:h'.DictOf (dG P w) a vs) :
  de P w H' h' a (.dK kvs):=⟨z,c,vs,b,dd⟩
theorem M6 (G:A.units+1<gM) (I:bH X pins σ H s) (g:Fj H a y v H') (t:dI y u) (x:dI v r) (h:∀ s',bH X pins σ H' s'->Q () s') :
  ar (av X.prog X.w) A (setItem (.ref a) u r) Q E s:=by
 rcases g with ⟨kvs,k,e,p,l,m⟩|⟨kvs,k,b,e,p,eb,l,m⟩
 ·subst p m;obtain ⟨z,o,P,d,dd⟩:=XD I.hok e;have n:P.length<=sizeLine:=by rw [<- d.length];exact z
  have j:(m6 kvs k v).length<=sizeLine:=by have:=oo kvs k v;omega
  refine wpAny_setItem_pairs (hsz:=n) (C9 t) dd fun h' f hs=>h _ ?_;have he:∃ q,h'.get? a=some q:=let ⟨q,_,_,i,_⟩:=f;⟨q,i⟩
  exact Dt I (by rw [e];exact jB) hs he (Oq j o (d.put k x) f)
 ·subst p m;cases (show u=bf b from t);obtain ⟨z,o,xs,d,dd⟩:=Uv I.hok e;have n:xs.length<=sizeLine:=by rw [<- jV d];exact z
  have j:(m6 kvs k v).length<=sizeLine:=by have:=oo kvs k v;omega
  refine wpAny_setItem_heap (hsz:=n) (qk G) (xl I.hok eb) dd fun h' f hs=>h _ ?_;obtain ⟨q,es,L,i,O,K,M,_,N⟩:=f;refine Dt I (by rw [e];exact jB) hs ⟨q,i⟩ ⟨j,o,_,(d.put k eb x).keeps fun c ys B=>?_,q,es,L,i,O,K,M,N⟩;rw [aV (NU B e (fun z=>nomatch z))];exact B
def XE (i:bZ):Prop:=∀ b a,EM i false b a=operate [b,a] (rN b a)
theorem Sw {prog:bu}{w:bQ}{A:cf}{E:ac->ao->Prop}{s:ao}{env:Env}{b a:bZ}{k:Pos}{T id:String}{Q:ac->ao->Prop}
  (m:zm (.type T) "__getitem__"=pure (some (.builtin id))) (hs:XE a)
  (h:ar (av prog w) A (dO b env) (fun o e=>ar (av prog w) A (dO a env) (fun i c=>c.TypeIs o T/\ar (av prog w) A (rN o i) Q E c) E e) E s) :
  ar (av prog w) A (dO (.Subscript b a k) env) Q E s:=by
 refine Subscript_ (bB h (fun o e g=>bB g (fun i c d=>?_) fun _ _ x=>x) fun _ _ x=>x);obtain ⟨l,d⟩:=d;unfold LA;refine a7 ?_;rw [getitemInPython_of_ne l.not_modules];refine a7 (wpAny_specialOf l m ?_);have fin:ar (av prog w) A (EM a false o i) (fun r f=>ar (av prog w) A (letTemporaryGo b o r >>= fun _=>pure r) Q E f) E c:=by
  rw [hs o i];exact wpAny_operating (bB d (fun r f j=>a7 (wpAny_letTemporaryGo (a9 j))) fun _ _ x=>x)
 first
  |exact a9 (a7 fin)
  |exact a7 (a9 (a7 fin))
  |exact a7 fin
theorem Fk (I:bH X pins σ H s) (g:yC H a y o):s.TypeIs (.ref a) "dict":=by
 rcases g with ⟨kvs,k,e,_,_⟩|⟨kvs,k,b,e,_,_,_⟩
 ·obtain ⟨_,_,c,_,dd⟩:=Fh I.hok e;exact dd.typeIs
 ·obtain ⟨_,_,xs,_,dd⟩:=Fi I.hok e;exact dd.typeIs
def XF (d ty:TE):TE:=fun b H Q=>d b H fun x e=>ty b e fun y c=>∃ a v,x=.ref a/\yC c a y (some v)/\Q v c
def Uw (e ty h:TE):TS:=fun D b H=>h b H fun v g=>e b g fun x f=>ty b f fun y d=>∃ a c,x=.ref a/\Fj d a y v c/\D.nx b c
theorem K4 (m:X.A.units+1<gM) (ho:PE X o td) (p:PE X i ty) (hs:XE i):PE X (.Subscript o i pos) (XF td ty):=by
 intro b s d H Q I h;refine Sw PySem.F.slot_dict_getitem.lookup hs (fZ (ho b s d H _ I h) fun u f ⟨x,k,z,j,n⟩=>fZ (p b f d k _ z n) fun E K ⟨y,q,e,t,a,v,B,g,w⟩=>?_);subst B;obtain rfl:u=bf a:=j;exact ⟨Fk e g,M5 m e g t fun L G l c=>⟨v,q,l,c,w⟩⟩
theorem K5 (k:X.A.units+1<gM) (ho:PE X o td) (n:PE X i ty) (G:PE X value tv) (hs:iO value (some (.Subscript o i pos')) pos.line X.env=pure false) :
  PS X (.Assign [.Subscript o i pos'] value pos) (Uw td ty tv):=by
 intro b s c H D I h;refine wpAny_Assign_Subscript (fZ (G b s c H _ I h) fun r d ⟨v,f,K,B,m⟩=>fZ (ho b d c f _ K m) fun u w ⟨x,q,p,e,z⟩=>fZ (n b w c q _ p z) fun O Q ⟨y,P,j,t,a,l,L,g,M⟩=>?_) hs;subst L;obtain rfl:u=bf a:=e;exact M6 k j g t B fun N E=>⟨c,l,E,M⟩
theorem Os (h:bK) (a:fA<h.objs.size):de P w H (h.push { cls:=.type "dict",data:=.dict #[] }) h.objs.size (.dK []) :=
 ⟨cG _,beq_eq_false_iff_ne.mpr (cV (aB a)),[],.nil,Hv h⟩
theorem Ot (h:bK) (a:fA<h.objs.size):de P w H (h.push { cls:=.type "dict",data:=.dict #[] }) h.objs.size (.dT []) :=
 ⟨cG _,beq_eq_false_iff_ne.mpr (cV (aB a)),[],.nil,_,#[],0,aw _ rfl,⟨rfl,rfl,rfl⟩,rfl,rfl,gC⟩
def V_:TE:=fun _ H Q=>∀ p,H p=none->Q (.ref p) (upd H p (.dK []))
theorem Ou:PE X (.Dict [] [] pos) V_:=fun b s c H Q I h =>
 wpAny_Dict_empty ⟨.ref s.heap.objs.size,_,I.laid (a:=s.heap.objs.size) (o:=.dK []) (t':=s.toks) (fun _ _ q=>aa _ q) (ap _) (Os s.heap I.big),rfl,h _ (I.hok.fresh (ap _))⟩
def zE (kvs more:List (eC×V)):List (eC×V):=more.foldl (fun a b=>m6 a b.1 b.2) kvs
theorem KV.merge:∀ {more:List (eC×V)}{b:List (eC×ac)}{kvs:List (eC×V)}{a:List (eC×ac)},KV more b->KV kvs a->KV (zE kvs more) (merged a b):=by
 intro more b kvs a r;unfold KV at r;induction r generalizing kvs a with
 |nil=>intro q;exact q
 | @cons p q g f h t d =>
  intro c;have e:KV (m6 kvs p.1 p.2) (HW a q.1 q.2):=by
   have:=c.put p.1 h.2;rw [<- h.1];exact this
  exact d e
theorem uw:∀ (more kvs:List (eC×V)),(zE kvs more).length<=kvs.length+more.length
 |[],kvs=>by show kvs.length<=kvs.length+0;omega
 |p::r,kvs=>by
  have a:=uw r (m6 kvs p.1 p.2);have b:=oo kvs p.1 p.2;show (zE (m6 kvs p.1 p.2) r).length<=_;rw [aW];omega
end L2
namespace L2
open PySem PySem.Spec PyProof.Rows
section
variable {κ:Type} [DecidableEq κ]
theorem yT:∀ {l:List κ}{k:κ},l.Nodup->¬ k∈l->(l++[k]).Nodup
 |[],k,_,_=>by simp
 |a::r,k,h,b=>by
  obtain ⟨c,d⟩:=List.nodup_cons.mp h;show (a::(r++[k])).Nodup;refine List.nodup_cons.mpr ⟨fun m=>?_,yT d fun m=>b (List.mem_cons.mpr (eF m))⟩;rcases List.mem_append.mp m with q|q
  ·exact c q
  ·exact b (List.mem_cons.mpr (hZ (List.mem_singleton.mp q).symm))
end
end L2
namespace L2
open PySem PySem.Spec PyProof.Rows
theorem Du (I:Nat->ao->Prop)
  (turn:∀ n s,I n s->ar (av prog w) A (kH it) (fun r s₁=>match r with
   |none=>R (.ok .next) s₁
   |some v=>ar (av prog w) A (ii target it v) (fun _ s₁'=>ar (av prog w) A (rT target env v) (fun _ s₂ =>
     ar (av prog w) A (forIn ifs true fun c r=>if r=true then do let ok <- wR c env (dO c env);pure (gD ok) else pure (gD r)) (fun ok s₃ =>
      if ok=true then ar (av prog w) A (dO elt env) (fun x s₄ =>
       ar (av prog w) A (call (.builtin "list.append") [acc,x]) (fun _ s₅=>∃ m,m<n/\I m s₅) (fun _ _=>False) s₄) (fun _ _=>False) s₃
      else ∃ m,m<n/\I m s₃) (fun _ _=>False) s₂) (fun _ _=>False) s₁') (fun _ _=>False) s₁) (fun _ _=>False) s)
  (n:Nat) (h:I n s) :
  iK (av prog w) A (.compLoop (.ListComp elt [⟨target,iter,ifs,0⟩] scope pos) 0 it acc env) R s:=by
 refine codeAny_loop rfl I (fun n s hI=>?_) n h;show ar _ A ((compTurn (.ListComp elt [⟨target,iter,ifs,0⟩] scope pos) 0 it acc env).onRaise (fun x=>do Dc x env;theTreesLotGoes x)) _ _ s;refine wpAny_noted ?_;rw [compTurn_list];have nf:∀ {α:Type}{t:Sem α}{Q:α->ao->Prop}{E':ac->ao->Prop}{s:ao},ar (av prog w) A t Q (fun _ _=>False) s->ar (av prog w) A t Q E' s :=
  fun h=>bB h (fun _ _ q=>q) fun _ _ f=>f.elim
 refine a7 (jA (a7 (nf (bB (turn n s hI) (fun r s₁ h₁=>?_) fun _ _ h'=>h'))));cases r with
 |none=>exact a9 h₁
 |some v =>
  refine a7 (nf (bB h₁ (fun _ s₁' h₁'=>?_) fun _ _ h'=>h'));refine a7 (nf (bB h₁' (fun _ s₂ h₂=>a7 (nf (bB h₂ (fun ok s₃ h₃=>?_) fun _ _ h'=>h'))) fun _ _ h'=>h'));cases ok with
  |false=>exact a9 ⟨rfl,h₃⟩
  |true =>
   exact a7 (a7 (nf (bB h₃ (fun x s₄ h₄=>a7 (nf (bB h₄ (fun _ s₅ h₅=>a9 (a9 ⟨rfl,h₅⟩)) fun _ _ h'=>h'))) fun _ _ h'=>h')))
theorem IE (names : List (Str × mB)) : ∀ (cs : List (Str × aj)), (∀ y ∈ names, y.2 = .free -> ∃ c, env.cells.lookup y.1 = some c) ->
    (∀ x c, cs.lookup x = some c -> env.cells.lookup x = some c) ->
    ∃ cl, (forIn names cs fun (x : Str × mB) (cs : List (Str × aj)) => match x with
        | (name, kind) => if (kind == cD) = true then do let a <- cellOf env name; pure (gD ((name, a) :: cs)) else pure (gD cs) : Sem (List (Str × aj))) = pure cl /\
      (∀ x c, cl.lookup x = some c -> env.cells.lookup x = some c) /\ (∀ y ∈ names, y.2 = .free -> ∃ c, cl.lookup y.1 = some c) /\ (∀ x c, cs.lookup x = some c -> ∃ c', cl.lookup x = some c') := by
  induction names with
  | nil => intro cs _ h2; exact ⟨cs, rfl, h2, fun _ h => absurd h (by simp), fun x c h => ⟨c, h⟩⟩
  | cons nk r ih =>
    obtain ⟨n, k⟩ := nk;intro cs h1 h2;by_cases hk : k = .free
    · subst hk;obtain ⟨a, ha⟩ := h1 (n, .free) al rfl;have h2' : ∀ x c, ((n, a) :: cs).lookup x = some c -> env.cells.lookup x = some c := fun x c h => by
        rw [dk] at h;cases e : x == n with
        | true => rw [e] at h; have : x = n := by simpa using e
                  subst this; cases h; exact ha
        | false => rw [e] at h; exact h2 x c h
      obtain ⟨cl, e1, e2, e3, e4⟩ := ih ((n, a) :: cs) (fun y hy => h1 y (ag _ hy)) h2';refine ⟨cl, ?_, e2, fun y hy hf => ?_, fun x c h => ?_⟩
      · rw [kw];have hc : cellOf env n = pure a := by unfold cellOf; rw [ha]
        simp only [beq_self_eq_true, if_true, hc];exact e1
      · rcases List.mem_cons.mp hy with rfl | hy
        · exact e4 n a (by simp)
        · exact e3 y hy hf
      · cases e : x == n with
        | true => exact e4 x a (by rw [dk, e])
        | false => exact e4 x c (by rw [dk, e]; exact h)
    · obtain ⟨cl, e1, e2, e3, e4⟩ := ih cs (fun y hy => h1 y (ag _ hy)) h2;refine ⟨cl, ?_, e2, fun y hy hf => ?_, e4⟩
      · rw [kw];have hk' : (k == cD) = false := by simpa using hk
        simp only [hk', bA, if_false];exact e1
      · rcases List.mem_cons.mp hy with rfl | hy
        · exact absurd hf hk
        · exact e3 y hy hf
theorem uK (h:∀ y∈scope.names,y.2=.free->∃ c,env.cells.lookup y.1=some c):∃ a,closureFor scope env=pure a /\
  (∀ x c,a.lookup x=some c->env.cells.lookup x=some c)/\(∀ y∈scope.names,y.2=.free->∃ c,a.lookup y.1=some c):=by
 obtain ⟨a,b,d,e,_⟩:=IE (env:=env) scope.names [] h (fun x c h=>by simp at h);refine ⟨a,?_,d,e⟩;simp only [closureFor];rw [show (forIn scope.names ([] : List (Str×aj)) fun x r=>_)=(pure a:Sem (List (Str×aj))) from b];rfl
def dg (X:Cx) (N':List Str) (scope:i5) (a:List (Str×aj)) (C:aj) (s₀:ao) (H₀:Hp) (ex:List aj) (pn:List (aj×Obj)):Cx :=
 { X with N:=N',s₀:=s₀,H₀:=H₀,env:=compEnvC scope a C X.env,outer:=X.stack,stack:=X.stack,ex:=ex,fn:=fun y=>scope.names.lookup y==some .cell,pn:=pn,xe:=fun _ _=>False }
def Ry (X:Cx) (ifs:List bZ) (t:TT):Prop :=
 ∀ (pins:List (aj×Obj)) (s:ao) (σ:St) (H:Hp) (Q:Bool->Hp->Prop),bH X pins σ H s->t σ H Q ->
  ar (av X.prog X.w) X.A (forIn ifs true fun c r=>if r=true then do let ok <- wR c X.env (dO c X.env);pure (gD ok) else pure (gD r)) (TP X pins σ Q) X.xe s
def ZY:TT:=fun _ H Q=>Q true H
theorem Sx:Ry X [] ZY:=fun a s b H Q I h=>wpAny_tests_nil ⟨H,I,h⟩
theorem Sy (h:PT X c t):Ry X [c] t:=fun a s b H Q I d=>wpAny_tests_one (h a s b H Q I d)
structure pc (X:Cx) (scope:i5) (N':List Str) (nt:Nat) (ix:List Nat):Prop where
 kind:scope.kind=.function
 cel:∀ y∈scope.names,y.2=.cell->scope.names.lookup y.1=some .cell
 loc:∀ y∈scope.names,y.2=.local->scope.names.lookup y.1=some .local
 free:∀ y∈scope.names,y.2=.free->X.env.scope.names.lookup y.1=some .cell\/X.env.scope.names.lookup y.1=some .free
 cap:∀ k i,ix[k]?=some i->∃ x,X.N[i]?=some x/\N'[nt+k]?=some x/\scope.names.lookup x=some .free
 len:N'.length=nt+ix.length
def kE (nt:Nat) (ix:List Nat) (a:St):St:=o6 nt none++ix.map fun i=>(a[i]?).join
theorem uh {env:Env}{x:Str}{names:List (Str×mB)}:names.lookup x=some .free ->
  (names.map fun (n,k)=>if (k==cD&&env.scope.kind == .function&&env.kindOf n==some .cell) then (n,el) else (n,k)).lookup x=some .free \/
  (names.map fun (n,k)=>if (k==cD&&env.scope.kind == .function&&env.kindOf n==some .cell) then (n,el) else (n,k)).lookup x=some .cell:=by
 induction names with
 |nil=>intro h;simp at h
 |cons d r c =>
  obtain ⟨n,k⟩:=d;intro h;show zq x ((if (k==cD&&env.scope.kind == .function&&env.kindOf n==some .cell)=true then (n,el) else (n,k))::_)=_ \/
   zq x ((if (k==cD&&env.scope.kind == .function&&env.kindOf n==some .cell)=true then (n,el) else (n,k))::_)=_
  cases a:x==n with
  |true =>
   simp only [dk,a] at h;cases h;by_cases b:(cD==cD&&env.scope.kind == .function&&env.kindOf n==some .cell)=true
   ·rw [if_pos b];right;simp [dk,a]
   ·rw [if_neg b];left;simp [dk,a]
  |false =>
   simp only [dk,a] at h;by_cases b:(k==cD&&env.scope.kind == .function&&env.kindOf n==some .cell)=true
   ·rw [if_pos b];simp only [dk,a];exact c h
   ·rw [if_neg b];simp only [dk,a];exact c h
theorem vQ {env:Env}{x:Str}{names:List (Str×mB)} :
  ((names.map fun (n,k)=>if (k==cD&&env.scope.kind == .function&&env.kindOf n==some .cell) then (n,el) else (n,k)).lookup x=some .free \/
  (names.map fun (n,k)=>if (k==cD&&env.scope.kind == .function&&env.kindOf n==some .cell) then (n,el) else (n,k)).lookup x=some .cell) ->
  (x,cD)∈names\/(x,el)∈names:=by
 induction names with
 |nil=>intro h;simp at h
 |cons d r c =>
  obtain ⟨n,k⟩:=d;intro h;have h:zq x ((if (k==cD&&env.scope.kind == .function&&env.kindOf n==some .cell)=true then (n,el) else (n,k))::_)=_ \/
   zq x ((if (k==cD&&env.scope.kind == .function&&env.kindOf n==some .cell)=true then (n,el) else (n,k))::_)=_:=h
  cases b:x==n with
  |true =>
   have e:x=n:=by simpa using b
   subst e;by_cases a:(k==cD&&env.scope.kind == .function&&env.kindOf x==some .cell)=true
   ·have:k=.free:=by simp at a;exact a.1.1
    subst this;left;exact al
   ·rw [if_neg a] at h;simp only [dk,b] at h;rcases h with h|h
    ·cases h;left;exact al
    ·cases h;right;exact al
  |false =>
   have h':=c (by
    by_cases a:(k==cD&&env.scope.kind == .function&&env.kindOf n==some .cell)=true
    ·rw [if_pos a] at h;simp only [dk,b] at h;exact h
    ·rw [if_neg a] at h;simp only [dk,b] at h;exact h)
   rcases h' with h' | h'
   ·left;exact ag _ h'
   ·right;exact ag _ h'
inductive Ux (nt:Nat) (ix:List Nat) (g:TG) (tt:TT) (te:TE) (σ:St) (Q:VK) (J:It) (H1:Hp):Prop
 |mk (W:Nat->Nat->List V->Hp->Prop) (w0:∃ m,W 0 m [] H1) (turn:∀ i m acc H,W i m acc H ->
 (J.stop i H/\∀ p,H p=none->Q (.ref p) (upd H p (.lst acc))) \/
 (J.go i H/\acc.length<sizeLine/\∀ x H',J.yld i H x H'->g x (kE nt ix σ) H' fun σ2 H2=>tt σ2 H2 fun b H3 =>
  if b=true then te σ2 H3 fun y H4=>∃ m',m'<m/\W (i+1) m' (acc++[y]) H4 else ∃ m',m'<m/\W (i+1) m' acc H3)):Ux nt ix g tt te σ Q J H1
def Ov (nt:Nat) (ix:List Nat) (d:TI) (g:TG) (c:TT) (b:TE):TE:=fun a H Q=>d a H (Ux nt ix g c b a Q)
theorem jP:∀ (names:List (Str×mB)) (n:Nat) (a:List (Str×aj)),bn n names a=bn n names []++a
 |[],_,_=>rfl
 |(y,k)::r,n,a=>by
  unfold bn;split
  ·rw [jP r (n+1) ((y,n)::a),jP r (n+1) [(y,n)],dR];rfl
  ·exact jP r n a
theorem pd : ∀ (names:List (Str×mB)) (n:Nat) (a:List (Str×aj)),(x,c)∈bn n names a->(x,el)∈names\/(x,c)∈a
 |[],_,_,h=>.inr h
 |(y,k)::r,n,a,h=>by
  unfold bn at h;split at h
  ·rename_i b
   have b:k=.cell:=by simpa using b
   rcases pd r _ _ h with z|z
   ·exact .inl (ag _ z)
   ·rcases List.mem_cons.mp z with z|z
    ·cases z;subst b;exact .inl al
    ·exact .inr z
  ·exact (pd r _ _ h).imp (ag _) id
theorem m7 (h:(bn n names cl).lookup x=some c) :
  (x,c)∈bn n names []\/((bn n names []).lookup x=none/\cl.lookup x=some c):=by
 rw [jP,Nm] at h;cases e:(bn n names []).lookup x with
 |some d=>rw [e] at h;cases h;exact .inl (dL e)
 |none=>rw [e] at h;exact .inr ⟨rfl,h⟩
theorem K6 {M:Model}{A:cf}{E:ac->ao->Prop}{s:ao}{scope:i5}{b:aj}{j:List (Str×aj)}{e:Str}{f:Option aj}{c:ac}{outer:Env}{a:aj}{Q:Env->ao->Prop}
  (k:∀ d,d=pushCells (s.heap.push { cls:=.type "dict",data:=.dict #[] }) scope.names->Q (newEnv scope s.heap.objs.size b (bn (s.heap.objs.size+1) scope.names j) e f c (some outer) a) { s with heap:=d }) :
  ar M A (wU scope b j [] e f c (some outer) a) Q E s:=by
 simp only [wU,vo,if_true];refine a7 (RH ?_);refine a7 (wpAny_layCells _ (fun name g i=>by cases h:g==el<;>simp [h]) _ _ _ _ ?_);rw [show ({ s with heap:=s.heap.push { cls:=.type "dict",data:=.dict #[] } }:ao).heap.objs.size=s.heap.objs.size+1 from cm ..];refine a7 ?_;rw [o9];exact a9 (a9 (k _ rfl))
theorem Cb (h:bK) (names:List (Str×mB)):CellsOk (pushCells (h.push { cls:=.type "dict",data:=.dict #[] }) names) (h.objs.size+1) (bn (h.objs.size+1) names []):=by
 have ok:=cellsFrom_ok names (h.push { cls:=.type "dict",data:=.dict #[] }) (h.objs.size+1) [] ⟨fun _ _ a=>(nomatch a),rW⟩ (by rw [cm];exact ap _);rw [cm] at ok;exact ok
theorem Fm {scope:i5}{N':List Str}{nt:Nat}{ix:List Nat}{G:List (Str×aj)}{C:aj}{fp:List aj}{t:bK}{t':Nat}{m:Str->Option ac}
  (S:pc X scope N' nt ix) (I:bH X pins σ H s) (E:∀ x c,G.lookup x=some c->X.env.cells.lookup x=some c) (c2:∀ y∈scope.names,y.2=.free->∃ c,G.lookup y.1=some c)
  (T:∀ b∈fp,se X pins H b) (ff:∀ b∈fp,b<s.heap.objs.size) (O:s.heap.objs.size<=C) (a0:t.Ns C m) (A:∀ b o,s.heap.get? b=some o->t.get? b=some o) (ok:CellsOk t (C+1) (bn (C+1) scope.names [])) :
  bH (dg X N' scope (bn (C+1) scope.names G) C s H fp (X.pn++pins)) [] (kE nt ix σ) H { s with heap:=t,toks:=t' }:=by
 have g:∀ {c v},s.heap.IsCell c v->t.IsCell c v:=fun {c v} ⟨o,ho,hd⟩=>⟨o,A _ _ ho,hd⟩;have L:∀ {x c},(x,c)∈bn (C+1) scope.names []->s.heap.objs.size<c:=fun {x c} h=>aC (lz O) (ok.empty x c h).2;have N:∀ {x c},G.lookup x=some c->c<s.heap.objs.size:=fun {x c} h=>by
  obtain ⟨v,q⟩:=I.cell x c (E x c h);exact q.lt
 refine ⟨⟨I.ok.mod,S.kind,I.ok.glob,I.ok.blt,O,fun x y c U K=>?_,fun x hx=>?_,fun x c h K=>?_,I.ok.hd,I.ok.frames,.inl rfl,fun b B=>⟨?_,fun x c h=>?_⟩,I.bs,bL I.ok.bsz I.sz,fun b o h B=>?_,fun b B z=>?_,I.stack,I.stkFree⟩,
  rfl,I.bare,Un.kept A,⟨m,a0,fun i x v U K h3=>?_⟩,fun x c h=>?_,I.hok.fresh O,fun x c h=>?_,fun p hp=>?_,I.hok.kept A,?_⟩
 ·rcases m7 U with a|⟨_,a⟩<;>rcases m7 K with b|⟨_,b⟩
  ·exact name_of_addr ok.apart a b
  ·exact absurd (L a) (yu (N b))
  ·exact absurd (L b) (yu (N a))
  ·exact I.ok.inj x y c (E x c a) (E y c b)
 ·have Y:(x,cD)∈scope.names\/(x,el)∈scope.names:=vQ (env:=X.env) (hx.elim .inr .inl);have hs:((bn (C+1) scope.names G).lookup x).isSome=true:=by
   rcases Y with z|z
   ·obtain ⟨c,e⟩:=c2 _ z rfl;exact fL _ _ _ (.inr (by rw [e];rfl))
   ·exact fL _ _ _ (.inl (S.cel _ z rfl))
  exact Option.isSome_iff_exists.mp hs
 ·rcases m7 K with a|⟨a,_⟩
  ·exact bw (L a)
  ·have:=fL (x:=x) scope.names (C+1) [] (.inl (by simpa [dg] using h));rw [a] at this;cases this
 ·exact aB (aC (ff b B) O)
 ·rcases m7 h with a|⟨_,a⟩
  ·exact dv (e7 (ff b B) (L a))
  ·exact (T b B).f4 x c (E x c a)
 ·rcases (T b B).f3 with z|z
  ·exact I.ok.noex b o h z
  ·exact absurd (aC (aq h) (bL I.ok.bsz z)) (bY _)
 ·rcases List.mem_cons.mp (I.stkSub b z) with e|e
  ·exact (T b B).f1 e
  ·exact (T b B).f2 e
 ·have M:nt<=i:=by
   refine RG fun Q=>?_;have f:(kE nt ix σ)[i]?=some (some v):=K;unfold kE at f;rw [bi (by simpa using Q),bW,if_pos Q] at f;cases f
  have f:(kE nt ix σ)[i]?=some (some v):=K;unfold kE at f;rw [br (by simpa using M),dq,aF] at f;cases e:ix[i-nt]? with
  |none=>rw [e] at f;cases f
  |some j =>
   rw [e] at f;have hj:σ[j]?=some (some v):=by
    have q:(σ[j]?).join=some v:=bR f;cases e3:σ[j]? with
    |none=>rw [e3] at q;cases q
    |some o=>rw [e3] at q;cases o with
     |none=>cases q
     |some v'=>cases q;rfl
   obtain ⟨x',n1,n2,fr⟩:=S.cap _ _ e;rw [Nat.add_sub_cancel' M] at n2;have a1:N'[i]?=some x:=U;rw [a1] at n2;cases n2;obtain ⟨mm,hn,hl⟩:=I.loc;have w:=S.free (x,.free) (dL fr) rfl;obtain ⟨u,r,l⟩:=hl j x v n1 hj (w.elim (fun z=>.inr (.inl z)) fun z=>.inr (.inr z));refine ⟨u,r,?_⟩;rcases l with ⟨k,_⟩|⟨k,c,hc,hcell⟩
   ·have k:X.env.scope.names.lookup x=some .local:=k;rcases w with z|z<;>(rw [z] at k;cases k)
   ·obtain ⟨c',P⟩:=c2 _ (dL fr) rfl;have:=E x c' P;rw [hc] at this;cases this;have a2:(bn (C+1) scope.names []).lookup x=none:=by
     cases e:(bn (C+1) scope.names []).lookup x with
     |none=>rfl
     |some d =>
      rcases pd _ _ _ (dL e) with z|z
      ·have q:=S.cel _ z rfl;rw [fr] at q;cases q
      ·cases z
    refine .inr ⟨?_,c,by show (bn (C+1) scope.names G).lookup x=some c;rw [jP,Nm,a2];exact P,g hcell⟩;rcases uh (env:=X.env) fr with z|z
    ·exact .inr z
    ·exact .inl z
 ·rcases m7 h with a|⟨_,a⟩
  ·exact ⟨none,(ok.empty x c a).1⟩
  ·obtain ⟨v,q⟩:=I.cell x c (E x c a);exact ⟨v,g q⟩
 ·rcases m7 h with a|⟨_,a⟩
  ·exact I.hok.fresh (bw (L a))
  ·exact I.freeC x c (E x c a)
 ·have hp:p∈X.pn++pins:=(List.mem_append.mp hp).elim id fun z=>absurd z (by simp);obtain ⟨e,n,ne,nf,d⟩:=I.pin p hp;refine ⟨A _ _ e,n,aB (aC (aq e) O),fun z=>?_,d⟩;rcases List.mem_cons.mp (I.stkSub p.1 z) with e|e
  ·exact ne e
  ·exact nf e
 ·show (kE nt ix σ).length=N'.length;rw [S.len];simp [kE]
theorem Un.grow (u:Un fs ex H H1 h h1) (f:bI C h1 h2) (d:h.objs.size<=C) (j:h.objs.size<=D) (c:H1 D=none):Un fs ex H (upd H1 D o) h h2 where
 keep:=fun b ob q n g a=>(f.2 b (aB (aC (aq q) d))).trans (u.keep b ob q n g a)
 slot:=fun b ob q n g a=>by
  obtain ⟨l,e⟩:=u.slot b ob q n g a;exact ⟨l,(f.2 b (aB (aC (aq q) d))).trans e⟩
 free:=fun b ob q n a=>by rw [aV (aB (aC (aq q) j))];exact u.free b ob q n a
 there:=fun b ob q a=>by
  obtain ⟨k,e⟩:=u.there b ob q a;exact ⟨k,(f.2 b (aB (aC (aq q) d))).trans e⟩
 tups:=fun b xs q=>by have z:=u.tups b xs q;rw [aV (bh z c)];exact z
 frzs:=fun b ob xs q=>by have z:=u.frzs b ob xs q;rw [aV (bh z c)];exact z
 tbls:=fun b i q=>by
  obtain ⟨m,z⟩:=u.tbls b i q;exact ⟨m,by rw [aV (bh z c)];exact z⟩
theorem zF (k:rq P w H h) (d:H C=none) (f:bI C h h'):rq P w H h':=fun b ob e=>by
 refine (k b ob e).stay (fun c g a q=>(f.2 c ?_).trans q) (fun _ q=>q) fun _ _ q=>q;rintro rfl;rcases a with rfl|a
 ·rw [d] at e;cases e
 ·rw [d] at a;cases a
theorem tx (k:rq P w H h) (d:H D=none) (new:de P w (upd H D o) h D o):rq P w (upd H D o) h:=fun b ob e=>by
 by_cases a:b=D
 ·subst a;rw [aS] at e;cases e;exact new
 ·rw [aV a] at e;exact (k b ob e).stay (fun c g f q=>q) (fun c q=>by rw [aV (bh q d)];exact q) fun c x q=>by rw [aV (bh q d)];exact q
theorem nf {M:Model}{A:cf}{a:Type}{t:Sem a}{Q:a->ao->Prop}{b:ac->ao->Prop}{s:ao} (h:ar M A t Q (fun _ _=>False) s):ar M A t Q b s :=
 bB h (fun _ _ q=>q) fun _ _ f=>f.elim
theorem bH.pin1 (I:bH X [] σ H s) (e:s.heap.get? D=some o) (n:H D=none) (ne:D≠X.env.locals) (nf:D∉X.fs) (d:∀ v,o.data≠.cell v):bH X [(D,o)] σ H s :=
 I.pins_of fun p a=>by
  have:p=(D,o):=by simpa using a
  subst this;exact ⟨e,n,ne,nf,d⟩
def Uy (nt:Nat) (g:TG):Prop:=∀ x a H (Q:St->Hp->Prop),g x a H Q->g x a H (fun b c=>Q b c/\b.length=a.length/\∀ j,nt<=j->b[j]?=a[j]?)
theorem Ow (h:i<nt):Uy nt (xW i):=fun x a H Q q=>⟨q,by simp,fun j b=>ak (by omega)⟩
theorem Sz {nt i k n:Nat}{K:a8} (h:i<nt) (h':k<nt):Uy nt (VD K n (af (xW i) (af (xW k) aQ))):=by
 rintro x d H Q ⟨a,xs,rfl,e,c,v,r,rfl,b,g,rfl,rfl,q⟩;exact ⟨a,_,rfl,e,c,v,_,rfl,b,_,rfl,rfl,q,by simp,fun j f=>by rw [ak (by omega),ak (by omega)]⟩
inductive CLI (X:Cx) (pins:List (aj×Obj)) (N':List Str) (scope:i5) (cl:List (Str×aj)) (C:aj) (s2:ao) (H2:Hp) (fp:List aj) (nt:Nat) (ix:List Nat) (σ:St) (tn:Nat->bK->Prop) (W:Nat->Nat->List V->Hp->Prop) (n:Nat) (s':ao):Prop
 |mk (i:Nat) (acc:List V) (its:List ac) (nn:Nat) (H':Hp) (I:bH (dg X N' scope cl C s2 H2 fp (X.pn++pins)) [(s2.heap.objs.size,{ cls:=.type "list",data:=.seq its.toArray nn })] (kE nt ix σ) H' s') (v:dH acc its) (l:acc.length<=sizeLine) (t:tn i s'.heap) (f:∀ b∈fp,H' b=none) (w:W i n acc H'):CLI X pins N' scope cl C s2 H2 fp nt ix σ tn W n s'
theorem zG {X:Cx}{b6 tg a2:bZ}{b7:List bZ}{scope:i5}{e0:Pos}{g:TG}{tt:TT}{te:TE}{N':List Str}{nt:Nat}{ix:List Nat}
  (hc:X.calm=true) (S:pc X scope N' nt ix) (lo:Uy nt g)
  (s:∀ I C N P ex pn,PG (dg X N' scope I C N P ex pn) tg g/\Ry (dg X N' scope I C N P ex pn) b7 tt/\PE (dg X N' scope I C N P ex pn) b6 te)
  {I:List (Str×aj)} (c1:∀ x c,I.lookup x=some c->X.env.cells.lookup x=some c) (c2:∀ y∈scope.names,y.2=.free->∃ c,I.lookup y.1=some c)
  {f:List (aj×Obj)}{σ:St}{L:Hp}{h:ao}{it:aj}{B:List aj}{tn:Nat->bK->Prop}{J:It}{Q:VK}{E:ac->ao->Prop}
  (I2:bH X f σ L h) (T:zz X.prog X.w X.K tg J B it tn) (d4:tn 0 h.heap) (f2:∀ b∈B,se X f L b)
  {W:Nat->Nat->List V->Hp->Prop} (w0:∃ m,W 0 m [] L)
  (d2:∀ i m k H,W i m k H->(J.stop i H/\∀ p,H p=none->Q (.ref p) (upd H p (.lst k))) \/
   (J.go i H/\k.length<sizeLine/\∀ x H',J.yld i H x H'->g x (kE nt ix σ) H' fun d7 L=>tt d7 L fun b H3 =>
    if b=true then te d7 H3 fun y H4=>∃ m',m'<m/\W (i+1) m' (k++[y]) H4 else ∃ m',m'<m/\W (i+1) m' k H3))
  {RR:ac->aj->Result->ao->Prop}
  (e4:∀ D C m s' (k:List V) H',H' D=none->se X f (upd H' D (.lst k)) C->Q (.ref D) (upd H' D (.lst k))->s'.heap.Ns C m->(∀ h',bI C s'.heap h'->bH X f σ (upd H' D (.lst k)) { s' with heap:=h' })->RR (.ref D) C (.ok .next) s') :
  ar (av X.prog X.w) X.A (newList []) (fun k e2=>ar (av X.prog X.w) X.A (wU scope X.env.globals I [] X.env.qual none .none (some X.env)) (fun a3 d0 =>
   iK (av X.prog X.w) X.A (.compStart (.ListComp b6 [⟨tg,a2,b7,0⟩] scope e0) 0 (.ref it) k { a3 with scope:=relabel scope X.env }) (RR k a3.locals) d0) E e2) E h:=by
 refine bS (K6 fun l t=>?_);dsimp only at t ⊢;generalize b8:h.heap.push { cls:=.type "list",dict:=none,data:=.seq ([] : List ac).toArray }=G2 at t ⊢;have hC:G2.objs.size=h.heap.objs.size+1:=by rw [<- b8,cm]
 have Y:h.heap.objs.size≠G2.objs.size:=by rw [hC];exact aB (eu _)
 have M:h.heap.objs.size<=G2.objs.size:=by rw [hC];exact iL _
 have below:∀ b,b<h.heap.objs.size->b≠G2.objs.size:=fun b s=>by rw [hC];exact aB (eP s)
 have kp:∀ b o,G2.get? b=some o->l.get? b=some o:=fun b o e=>by rw [t];exact vp _ _ b o (aa _ e)
 have a0:l.Ns G2.objs.size (fun _=>none):=by rw [t];exact (Heap.Ns.new G2 (.type "dict")).keeps (vp _ _)
 have O:CellsOk l (G2.objs.size+1) (bn (G2.objs.size+1) scope.names []):=by rw [t];exact Cb G2 scope.names
 have cne:∀ x c,(bn (G2.objs.size+1) scope.names I).lookup x=some c->X.env.cells.lookup x=some c\/h.heap.objs.size<c:=fun x c e=>by
  rcases m7 e with a|⟨_,a⟩
  ·exact .inr (aC (lz M) (O.empty x c a).2)
  ·exact .inl (c1 x c a)
 have d5:∀ b o,h.heap.get? b=some o->l.get? b=some o:=fun b o e=>kp b o (b8 ▸ aa _ e);have c3:l.get? h.heap.objs.size=some { cls:=.type "list",dict:=none,data:=.seq ([] : List ac).toArray }:=kp _ _ (b8 ▸ aw _ rfl);have ff:∀ b∈B,b<h.heap.objs.size:=fun b s=>by
  obtain ⟨o,e,_⟩:=T.obj _ _ d4 b s;exact aq e
 have I3:bH (dg X N' scope (bn (G2.objs.size+1) scope.names I) G2.objs.size h L B (X.pn++f)) [] (kE nt ix σ) L { h with heap:=l,toks:=h.toks }:=Fm S I2 c1 c2 f2 ff M a0 d5 O;obtain ⟨pg,pt,pe⟩:=s (bn (G2.objs.size+1) scope.names I) G2.objs.size h L B (X.pn++f);have a4:h.heap.objs.size∉tq X.stack:=fun z=>by
  rcases List.mem_cons.mp (I2.stkSub _ z) with e|e
  ·exact absurd I2.lt (by rw [<- e];exact bY _)
  ·exact I2.nofs (ap _) e
 have b9:∀ (G:List ac) (n:Nat) v,({ cls:=.type "list",data:=.seq G.toArray n }:Obj).data≠.cell v:=fun _ _ _ z=>nomatch z;have d1:tn 0 l:=T.keep _ _ _ d4 fun b _ o e=>d5 b o e;have c0:h.heap.objs.size∉B:=fun z=>absurd (ff _ z) (bY _);have U:∀ {H':Hp}{pl:List (aj×Obj)},(∀ p∈pl,p.1∉B)->(∀ b∈B,H' b=none)->∀ b∈B,se (dg X N' scope (bn (G2.objs.size+1) scope.names I) G2.objs.size h L B (X.pn++f)) pl H' b:=fun h0 hn b s=>by
  obtain ⟨f0,f1,e5,f3,f4,f5⟩:=f2 b s;refine ⟨hn b s,below b (ff b s),fun z=>?_,.inl s,fun x c e=>(cne x c e).elim (f4 x c) fun q z=>yu q (by rw [z];exact ff b s),fun p hp z=>?_⟩
  ·rcases List.mem_cons.mp (I2.stkSub _ z) with e|e
   ·exact f1 e
   ·exact e5 e
  ·rcases List.mem_append.mp hp with q|q
   ·exact f5 p q z
   ·exact h0 p q (z ▸ s)
 obtain ⟨m0,w0⟩:=w0;have a1:iK (av X.prog X.w) X.A (.compLoop (.ListComp b6 [⟨tg,a2,b7,0⟩] scope e0) 0 (.ref it) (.ref h.heap.objs.size) (compEnvC scope (bn (G2.objs.size+1) scope.names I) G2.objs.size X.env))
    (RR (.ref h.heap.objs.size) G2.objs.size) { h with heap:=l,toks:=h.toks }:=by
  refine Du (CLI X f N' scope (bn (G2.objs.size+1) scope.names I) G2.objs.size h L B nt ix σ tn W) ?_ m0
   ⟨0,[],[],0,L,I3.pin1 c3 (I2.hok.fresh (ap _)) Y a4 (b9 _ _),.nil,cG _,d1,fun b s=>(f2 b s).1,w0⟩
  rintro n s3 ⟨i,k,G,nn,H3,J3,rv,hz,d8,d3,w3⟩;have b0:∀ p∈[(h.heap.objs.size,({ cls:=.type "list",data:=.seq G.toArray nn }:Obj))],p.1∉B:=fun p hp=>by
   have:p=(h.heap.objs.size,({ cls:=.type "list",data:=.seq G.toArray nn }:Obj)):=by simpa using hp
   rw [this];exact c0
  rcases d2 i n k H3 w3 with ⟨c5,qn⟩|⟨go,hlt,step⟩
  ·refine fZ (T.done (dg X N' scope (bn (G2.objs.size+1) scope.names I) G2.objs.size h L B (X.pn++f)) rfl rfl rfl hc i _ s3 _ H3 _ J3 (U b0 d3) d8 c5) fun r s4 f6=>?_;obtain ⟨hr,I4⟩:=f6;subst hr;obtain ⟨pD,pN,_⟩:=I4.pin (h.heap.objs.size,_) (aM _ (List.mem_singleton.mpr rfl));obtain ⟨mm,hn,_⟩:=I4.loc;have d9:H3 G2.objs.size=none:=I4.free;refine e4 _ _ mm s4 k H3 pN (I2.fpOk M (by rw [aV (cV Y)];exact d9)) (qn _ pN) hn fun h' sb=>?_;have hu:Un (tq X.stack) B L (upd H3 h.heap.objs.size (.lst k)) h.heap h':=Un.grow I4.base sb M (ap _) pN;refine I2.call' (s':={ s4 with heap:=h' }) (ch:=B) I4.os hu ?_ I4.bare fun b s=>?_
   ·refine tx (zF I4.hok d9 sb) pN ⟨hz,G,nn,rv,(sb.2 _ Y).trans pD⟩
   ·obtain ⟨_,f1,_,f3,f4,f5⟩:=f2 b s;exact ⟨f3,f1,f4,f5⟩
  ·refine fZ (T.item (dg X N' scope (bn (G2.objs.size+1) scope.names I) G2.objs.size h L B (X.pn++f)) rfl rfl rfl hc i _ s3 _ H3 _ J3 (U b0 d3) d8 go) fun r s4 h2=>?_;obtain ⟨u,hr,h4⟩:=h2;subst hr;refine fZ h4 fun _ s5 g0=>?_;obtain ⟨x,H5,I5,r5,y5,a5,h1⟩:=g0;have e3:=I5.pinned (U b0 h1) (T.obj _ _ a5);refine fZ (pg _ s5 _ H5 x u _ e3 r5 (lo _ _ _ _ (step x H5 y5))) fun _ s6 g1=>?_;obtain ⟨a6,H6,I6,q6,l6,k6⟩:=g1;have hw:∀ (j:Nat) v,(kE nt ix σ)[j]?=some (some v)->a6[j]?=some (some v):=fun j v e=>by
    by_cases hj:nt<=j
    ·rw [k6 j hj];exact e
    ·unfold kE at e;rw [bi (by simpa using hj),bW,if_pos (by omega)] at e;cases e
   refine fZ (pt _ s6 a6 H6 _ I6 q6) fun b s7 g8=>?_;obtain ⟨H7,I7,q7⟩:=g8;have e1:∀ {s8:ao}{d6:St}{H8:Hp},bH (dg X N' scope (bn (G2.objs.size+1) scope.names I) G2.objs.size h L B (X.pn++f)) ([(h.heap.objs.size,{ cls:=.type "list",data:=.seq G.toArray nn })]++xh B s5.heap) d6 H8 s8 ->
     tn (i+1) s8.heap/\∀ b∈B,H8 b=none:=fun {s8 d6 H8} I8=>by
    refine ⟨T.keep _ _ _ a5 fun b s o e=>(I8.pin (b,o) (aM _ (aM _ (lB s e)))).1,fun b s=>?_⟩;obtain ⟨o,e,d⟩:=T.obj _ _ a5 b s;exact (I8.pin (b,o) (aM _ (aM _ (lB s e)))).2.1
   cases b with
   |false =>
    simp only [bA,if_false] at q7 ⊢;obtain ⟨m',hm,w7⟩:=q7;obtain ⟨t7,f7⟩:=e1 I7;exact ⟨m',hm,i+1,k,G,nn,H7,(I7.weak l6.symm hw).unpinned,rv,hz,t7,f7,w7⟩
   |true =>
    simp only [if_true] at q7 ⊢;refine fZ (pe _ s7 a6 H7 _ I7 q7) fun u8 s8 g4=>?_;obtain ⟨y,H8,I8,r8,m',hm,w8⟩:=g4;obtain ⟨t8,f8⟩:=e1 I8;obtain ⟨pD,pN,_⟩:=I8.pin (h.heap.objs.size,_) (aM _ (bg _ (List.mem_singleton.mpr rfl)));have hl:=rv.length;refine wpAny_list_append_plain ⟨nn,pD⟩ (hsz:=by rw [aK];omega) ?_;intro h9 g5 c4;obtain ⟨n9,e9⟩:=g5;have g7:h9.get? h.heap.objs.size=some { cls:=.type "list",data:=.seq (G++[u8]).toArray n9 }:=by rw [e9];simp
    refine ⟨m',hm,i+1,k++[y],G++[u8],n9,H8,?_,rv.append (.cons r8 .nil),by rw [aO,du];omega,T.keep _ _ _ t8 fun b s o e=>c4.extBut b o (fun z=>c0 (z ▸ s)) e,f8,w8⟩;have g3:bH (dg X N' scope (bn (G2.objs.size+1) scope.names I) G2.objs.size h L B (X.pn++f)) [] (kE nt ix σ) H8 s8:=(I8.weak l6.symm hw).pins_of fun p hp=>absurd hp (by simp);have I9:bH (dg X N' scope (bn (G2.objs.size+1) scope.names I) G2.objs.size h L B (X.pn++f)) [] (kE nt ix σ) H8 { s8 with heap:=h9,toks:=s8.toks } :=
     g3.turned (it:=h.heap.objs.size) (fun b o s e=>c4.extBut b o s e) pN Y (.inr (ap _)) (fun x c e z=>by
      rcases cne x c e with e|e
      ·obtain ⟨v,q⟩:=I2.cell x c e;exact absurd q.lt (by rw [z];exact bY _)
      ·exact absurd e (by rw [z];exact bY _)) fun p hp z=>by
      have hp:p∈X.pn++f:=(List.mem_append.mp hp).elim id fun z=>absurd z (by simp);exact absurd (aq (I2.pin p hp).1) (by rw [z];exact bY _)
    exact I9.pin1 g7 pN Y a4 (b9 _ _)
 exact codeAny_compStart_list a1 (T.self _ 0 _ _ _ d1 a1)
theorem Fo
  (G:X.calm=true) (S:pc X scope N' nt ix) (lo:Uy nt g) (K:PI X tg iter wi)
  (N:∀ i C b a l j,PG (dg X N' scope i C b a l j) tg g/\Ry (dg X N' scope i C b a l j) ifs tt/\PE (dg X N' scope i C b a l j) elt te)
  (hs:∀ x,eV iter X.env x=pure x:=by intro _;rfl):PE X (.ListComp elt [⟨tg,iter,ifs,0⟩] scope pos) (Ov nt ix wi g tt te):=by
 intro c s o H Q I h;obtain ⟨i,n,Y,z⟩:=uK (scope:=scope) (env:=X.env) fun y t L=>I.ok.has y.1 (S.free y t L);rw [eval_ListComp];refine rX (use:=none) rfl hs n S.kind S.loc (fZ (K c s o H _ I h) fun v s1 p=>fZ p fun B s2 U=>?_);obtain ⟨it,fp,tn,J,H2,e,O,T,k,M,W,u,f⟩:=U;subst e;refine zG (RR:=fun d C=>compPost (av X.prog X.w) X.A X.xe none (EP X c o Q) d C) G S lo N Y z O T k M u f ?_;intro D C m s' d H' hD _ q P E;exact ⟨m,P,fun h' sb=>⟨.ref D,_,E h' sb,rfl,q⟩⟩
def XG (i:Nat) (b:TE):TS:=fun D a H=>b a H fun x c=>D.nx (a.set i (some x)) c
theorem IF
  (hN:X.N.Nodup) (hiN:X.N[i]?=some y) (hy:X.env.scope.names.lookup y=some .local)
  (hc:X.calm=true) (S:pc X scope N' nt ix) (lo:Uy nt g) (hi:PI X tg iter wi)
  (hb:∀ cl C s₀ H₀ ex pn,PG (dg X N' scope cl C s₀ H₀ ex pn) tg g/\Ry (dg X N' scope cl C s₀ H₀ ex pn) ifs tt/\PE (dg X N' scope cl C s₀ H₀ ex pn) elt te)
  (hsw:iO (.ListComp elt [⟨tg,iter,ifs,0⟩] scope pos) (some (.Name y py)) spos.line X.env=pure true:=by rfl)
  (hs:∀ x,eV iter X.env x=pure x:=by intro _;rfl):PS X (.Assign [.Name y py] (.ListComp elt [⟨tg,iter,ifs,0⟩] scope pos) spos) (XG i (Ov nt ix wi g tt te)):=by
 intro pins s σ H D I h;obtain ⟨cl,hcl,c1,c2⟩:=uK (scope:=scope) (env:=X.env) fun y hy hf=>I.ok.has y.1 (S.free y hy hf);rw [exec_Assign_Name_used _ _ _ _ hsw];refine a7 (jA (a7 ?_));show ar _ X.A (do let _ <- comprehension (.ListComp elt [⟨tg,iter,ifs,0⟩] scope pos) scope X.env _ (newList []) false (dO iter X.env) (some (rT (.Name y py) X.env))) _ _ s;refine a7 (bB (rX (use:=some (rT (.Name y py) X.env)) (Q:=fun _ s'=>SP X pins D .next s') rfl hs hcl S.kind S.loc
  (fZ (hi pins s σ H _ I h) fun v s1 h1=>fZ h1 fun itv s2 h2=>?_)) (fun _ s' hq=>a9 (a9 hq)) fun _ _ e=>e)
 obtain ⟨it,fp,tn,J,H2,e,I2,T,st2,f2,W,w0,turn⟩:=h2;subst e;refine zG (Q:=fun x H1=>D.nx (σ.set i (some x)) H1) (RR:=fun acc C=>compPost (av X.prog X.w) X.A X.xe (some (rT (.Name y py) X.env)) (fun _ s'=>SP X pins D .next s') acc C) hc S lo hb c1 c2 I2 T st2 f2 w0 turn ?_;intro L C m s' acc H' hD fC q hn hI;show ar _ X.A (rT (.Name y py) X.env (.ref L)) _ _ _;have I3:bH X pins σ (upd H' L (.lst acc)) s':=hI s'.heap (.refl ..);refine wpAny_assign_Name (C0 I3 hN hiN (.inl hy) (v:=.ref L) rfl (fun s4 I4 ⟨a,sb,ha⟩=>?_) (.inr hy));obtain ⟨g0,g1,g2,g3,g4,g5⟩:=fC;have hCa:C≠a:=by
  rcases ha with z|z
  ·rw [z];exact g1
  ·exact fun e=>g4 y a z e.symm
 refine ⟨m,hn.sameBut sb hCa,fun h5 sb5=>?_⟩;exact ⟨_,_,I4.turned (t':=s4.toks) (fun b o hb e=>(sb5.2 b hb).trans e) g0 g1 g3 g4 g5,q⟩
def li (e:Int×ac):Str:=match e.2 with
 |.str x _=>x
 |_=>⟨#[]⟩
def uL (w:bQ) (e:Int×ac):Prop:=∃ x a,e=(hashStr w x,kF x a)
structure dn (w:bQ) (h:bK) (a:aj) (es:Array (Int×ac)) (ep:Nat) (t:mE):Prop where
 at_:h.get? a=some { cls:=.type "set",dict:=none,data:=.set es ep t }
 txt:∀ e∈es.toList,uL w e
 nd:(es.toList.map li).Nodup
 few:es.size<jD
 fits:t.fits es.size=true
 led:t.led=!w.params.followText "set-order"
 pl:es.size=0\/t.plain=false
inductive mH (w:bQ) (h:bK) (a:aj) (ss:List Str):Prop
 |mk (es ep t:_) (h0:dn w h a es ep t) (h1:(es.toList.map li).Perm ss):mH w h a ss
theorem IG (t:mE) (es:Array (Int×ac)) (h:Int) (x:ac):(layNew t es h x).2.1.led=t.led:=by
 unfold layNew;cases t.freeSlot h with
 |none=>rfl
 |some p =>
  obtain ⟨a,d⟩:=p;show ((t.put a).1.orStandIn _).led=_;unfold Hw;split<;>rfl
theorem Dv (t:mE) (es:Array (Int×ac)) (h:Int) (x:ac):t.plain=false->(layNew t es h x).2.1.plain=false:=by
 intro b;unfold layNew;cases t.freeSlot h with
 |none=>rfl
 |some p =>
  obtain ⟨a,d⟩:=p;show ((t.put a).1.orStandIn _).plain=_;unfold Hw;split
  ·exact b
  ·rfl
theorem Fp {t t':mE}{hs:Array Int}{n:Nat}{o:Array Nat} (h:t.relaid hs n=some (t',o)):t'.led=t.led/\t'.plain=t.plain:=by
 unfold LF AZ at h;cases e:vq (cE n-1) hs with
 |none=>rw [e] at h;cases h
 |some b =>
  rw [e] at h;have h:=bR h;have a:=congrArg Prod.fst h;subst a;exact ⟨rfl,rfl⟩
theorem M7 (t:mE) (es:Array (Int×ac)) (n:Nat):(wV t es n).2.1.led=t.led/\(t.plain=false->(wV t es n).2.1.plain=false):=by
 unfold wV;cases e:t.relaid (es.map (·.1)) n with
 |none=>exact ⟨rfl,fun _=>rfl⟩
 |some p =>
  obtain ⟨t',o⟩:=p;obtain ⟨a,b⟩:=Fp e;dsimp only;split
  ·exact ⟨a,fun h=>b.trans h⟩
  ·exact ⟨rfl,fun _=>rfl⟩
theorem Ox (h:∀ e∈l,uL w e):ElemsOf (strKind P w) l:=fun e he=>by
 obtain ⟨x,a,rfl⟩:=h e he;exact ⟨⟨x,by simp [PySem.strKind,vn],rfl⟩,rfl⟩
theorem Zc (P:bu) (w:bQ) (x:Str) (a:Tok):(strKind P w).is x (.str x a)=true:=by simp [PySem.strKind,vn]
theorem K7 (h:uL w e) (x:Str):(strKind P w).is x e.2=true↔li e=x:=by
 obtain ⟨y,a,rfl⟩:=h;constructor
 ·intro q;have:=(strKind P w).inj _ _ _ q (Zc P w y a);rw [this];rfl
 ·rintro rfl;exact Zc P w _ a
theorem tE (I:dn w h a es ep t):(h.update a (rY es' t')).get? a=some { cls:=.type "set",dict:=none,data:=.set es' (ep+1) t' }:=by
 have q:=gI (rY es' t') I.at_ rfl;exact q
theorem Cc (hS:mH w s.heap a ss) (hr:ss.length+1<jD)
  (h:∀ h' tk',bI a s.heap h'->mH w h' a (if x∈ss then ss else ss++[x])->Q (!decide (x∈ss)) { s with heap:=h',toks:=tk' }) :
  ar (av P w) A (setAddHashed a (.str x tk) ((strKind P w).hash x)) Q E s:=by
 obtain ⟨es,ep,t,I,pm⟩:=hS
 have hlen:es.size=ss.length:=by rw [<- pm.length_eq,ah,au]
 have hel:ElemsOf (strKind P w) es.toList:=Ox I.txt
 unfold setAddHashed setAddHashedIn
 refine cc (a7 (bD (s:=s) I.at_ rfl I.fits ?_))
 dsimp only
 rw [byScan_of rfl I.few hel]
 rw [if_pos rfl]
 unfold setAddByScan
 refine a7 (a7 (cW (a7 (wpAny_setScan_of (s:=s) (Zc P w x tk) I.at_ rfl I.fits hel ?_))))
 have inmem:x∈ss↔∃ e∈es.toList,(strKind P w).is x e.2=true:=by
  rw [<- pm.mem_iff,eL]
  constructor
  ·rintro ⟨e,he,q⟩;exact ⟨e,he,(K7 (I.txt e he) x).mpr q⟩
  ·rintro ⟨e,he,q⟩;exact ⟨e,he,(K7 (I.txt e he) x).mp q⟩
 cases hf:List.findIdx? (fun e=>(strKind P w).is x e.2) es.toList with
 |some j =>
  obtain ⟨hj,hp,_⟩:=List.findIdx?_eq_some_iff_getElem.mp hf
  have hin:x∈ss:=inmem.mpr ⟨_,io hj,hp⟩
  have q:=h s.heap s.toks (.refl ..) (by rw [if_pos hin];exact ⟨es,ep,t,I,pm⟩)
  rw [decide_eq_true hin] at q
  exact a9 (a9 q)
 |none =>
  have hout:x∉ss:=fun z=>by
   obtain ⟨e,he,q⟩:=inmem.mp z
   rw [List.findIdx?_eq_none_iff.mp hf e he] at q
   cases q
  have h:=fun h' tk' sb=>h h' tk' sb
  rw [decide_eq_false hout,if_neg hout] at h
  have p1:=layNew_perm t es ((strKind P w).hash x) (.str x tk)
  have f1:=layNew_fits t es ((strKind P w).hash x) (.str x tk)
  have l1:=IG t es ((strKind P w).hash x) (.str x tk)
  have q1:=Dv t es ((strKind P w).hash x) (.str x tk)
  generalize layNew t es ((strKind P w).hash x) (.str x tk)=L at p1 f1 l1 q1 ⊢
  obtain ⟨es1,t1,wd,gv⟩:=L
  dsimp only at p1 f1 l1 q1 ⊢
  rw [j0] at p1
  have tx1:∀ e∈es1.toList,uL w e:=fun e he=>by
   rcases List.mem_append.mp (p1.mem_iff.mp he) with z|z
   ·exact I.txt e z
   ·rw [c9] at z;exact ⟨x,tk,z⟩
  have km:(es1.toList.map li).Perm (ss++[x]):=(p1.map li).trans (by rw [bd];exact pm.append_right _)
  have nd1:(ss++[x]).Nodup:=by
   rw [NG]
   exact ⟨pm.nodup_iff.mp I.nd,by simp,fun y hy z hz e=>hout (by rw [c9] at hz;rw [<- hz,<- e];exact hy)⟩
  have sz1:es1.size=es.size+1:=by rw [<- au,p1.length_eq,aO,au];rfl
  have few1:es1.size<jD:=by omega
  have gw:∀ (b:Bool) {s₁:ao}{Q':Unit->ao->Prop},Q' () s₁->ar (av P w) A (match b with|true=>rule "set.scan.the-table-gave-way" | false=>pure ()) Q' E s₁ :=
   fun b _ _ z=>by cases b<;>first|exact a9 z|exact cW z
  have tail:∀ t2:mE,t2.fits es1.size=true->t2.led=t.led->t2.plain=false->ar (av P w) A (do
    storeSet a es1 t2
    if (!wd&&t2.tooFull)=true then do
      (match (wV t2 es1 (j5 es1.size)).2.2 with|true=>rule "set.scan.the-table-gave-way" | false=>pure ())
      storeSet a (wV t2 es1 (j5 es1.size)).1 (wV t2 es1 (j5 es1.size)).2.1
      pure (some true)
     else pure (some true)) (fun r s'=>r=some true/\Q true s') E s:=fun t2 f2 l2 n2=>by
   refine a7 (jL (s:=s) I.at_ rfl ?_ (fY few1))
   have at1:=tE (es':=es1) (t':=t2) I
   have sb1:=bP s.heap a (rY es1 t2)
   have I1:dn w (s.heap.update a (rY es1 t2)) a es1 (ep+1) t2:=⟨at1,tx1,km.nodup_iff.mpr nd1,few1,f2,l2.trans I.led,.inr n2⟩
   split
   ·have p2:=relayAll_perm t2 es1 (j5 es1.size)
    have f3:=relayAll_fits t2 es1 (j5 es1.size)
    have l3:=M7 t2 es1 (j5 es1.size)
    generalize wV t2 es1 (j5 es1.size)=R3 at p2 f3 l3 ⊢
    obtain ⟨es2,t3,gv2⟩:=R3
    dsimp only at p2 f3 l3 ⊢
    have few2:es2.size<jD:=by rw [<- au,p2.length_eq,au];exact few1
    have km2:=(p2.map li).trans km
    refine a7 (gw _ (a7 (jL (s:={ s with heap:=s.heap.update a (rY es1 t2) }) I1.at_ rfl ?_ (fY few2))))
    refine a9 ⟨rfl,h _ _ (sb1.trans (bP _ a _)) ⟨es2,ep+1+1,t3,⟨tE I1,fun e he=>tx1 e (p2.mem_iff.mp he),km2.nodup_iff.mpr nd1,few2,f3,l3.1.trans (l2.trans I.led),.inr (l3.2 n2)⟩,km2⟩⟩
   ·exact a9 ⟨rfl,h _ _ sb1 ⟨es1,ep+1,t2,I1,km⟩⟩
  refine a7 (gw gv ?_)
  cases hp:t1.plain with
  |true =>
   simp only [if_true]
   rw [hashByValue_scannable 8 (x:=.str x tk) rfl]
   refine a7 (a9 ?_)
   refine bB (tail { t1 with plain:=false } (by cases t1;exact f1) l1 rfl) (fun r s' z=>?_) fun _ _ z=>z
   obtain ⟨rfl,z⟩:=z
   exact a9 z
  |false =>
   simp only [bA,if_false]
   refine a7 (a9 ?_)
   refine bB (tail t1 f1 l1 hp) (fun r s' z=>?_) fun _ _ z=>z
   obtain ⟨rfl,z⟩:=z
   exact a9 z
theorem Fq (d:mH w s.heap a ss) (c:ss.length+1<jD)
  (h:∀ h' b,bI a s.heap h'->mH w h' a (if x∈ss then ss else ss++[x])->Q (!decide (x∈ss)) { s with heap:=h',toks:=b }) :
  ar (av P w) A (setAdd a (.str x tk)) Q E s:=by
 unfold setAdd;refine cc (a7 ((strKind P w).pyHash (k:=x) (Zc P w x tk) ?_));exact Cc (s:={ s with toks:=s.toks+1 }) d c h
abbrev fM (w:bQ):Obj:={ cls:=.type "set",dict:=none,data:=.set #[] 0 (.fresh 0 0 (!w.params.followText "set-order")) }
theorem Cd (w:bQ) (e:h.get? a=some (fM w)):mH w h a [] :=
 ⟨#[],0,_,⟨e,fun e he=>by simp at he,by simp,by decide,rfl,rfl,.inl rfl⟩,by simp⟩
def dJ:List Str->List Str->List Str
 |acc,[]=>acc
 |acc,x::r=>dJ (if x∈acc then acc else acc++[x]) r
theorem jt:∀ (l a:List Str) (x:Str),x∈dJ a l↔x∈a\/x∈l
 |[],a,x=>by simp [dJ]
 |y::r,a,x=>by
  rw [dJ,jt r];by_cases h:y∈a
  ·rw [if_pos h];simp only [aN];constructor
   ·exact fun z=>z.elim .inl fun z=>.inr (.inr z)
   ·rintro (z|z|z)
    ·exact .inl z
    ·exact .inl (z ▸ h)
    ·exact .inr z
  ·rw [if_neg h];simp [eT,or_assoc]
theorem ji:∀ (l c:List Str),c.Nodup->(dJ c l).Nodup
 |[],c,h=>h
 |y::r,c,h=>by
  rw [dJ];refine ji r _ ?_;by_cases d:y∈c
  ·rw [if_pos d];exact h
  ·rw [if_neg d,NG];exact ⟨h,by simp,fun a g b f e=>d (by rw [c9] at f;rw [<- f,<- e];exact g)⟩
theorem gQ:∀ (l a:List Str),(dJ a l).length<=a.length+l.length
 |[],a=>by simp [dJ]
 |y::r,a=>by
  rw [dJ];have:=gQ r (if y∈a then a else a++[y]);by_cases b:y∈a
  ·rw [if_pos b] at this ⊢;simp only [aW];omega
  ·rw [if_neg b] at this ⊢;simp only [aW,aO,du,bU] at this ⊢;omega
theorem mH.keep (x:mH w h a ss) (k:∀ o,h.get? a=some o->h'.get? a=some o):mH w h' a ss :=
 let ⟨es,ep,t,I,p⟩:=x;⟨es,ep,t,⟨k _ I.at_,I.txt,I.nd,I.few,I.fits,I.led,I.pl⟩,p⟩
theorem Bl {I:aj}{G l:List aj}{n:Nat}{E:Nat->ac->Prop}{St:Nat->bK->Prop} (W:No prog w A.in1 I G l n E St) (D:aj) (H:D∉G) (xs:List Str) (hx:xs.length=n)
  (Y:∀ i v,E i v->∃ x t,xs[i]?=some x/\v=.str x t) (c:n+1<jD) :
  ∀ (k i:Nat) (s:ao) (a:List Str),n-i=k->i<=n->a.length<=i->St i s.heap->mH w s.heap D a ->
   (∀ h' g,(∀ b o,b∉D::l->s.heap.get? b=some o->h'.get? b=some o)->mH w h' D (dJ a (xs.drop i))->R (.ok (.ret .none)) { s with heap:=h',toks:=g }) ->
   iK (av prog w) A (.builtin "set.update.loop" ⟨[.ref D,.ref I],[]⟩) R s:=by
 have d:D∉l:=fun z=>H (W.sub _ z);intro k;induction k with
 |zero =>
  intro i s a X Q O st u B;obtain rfl:i=n:=by omega
  refine eA qe ?_;rw [dB iW _];show ar _ A.in1 (kH (.ref I) >>= _) _ _ s;refine a7 (W.done s _ _ st fun h' g kp=>?_);refine a9 (B h' g (fun b o c e=>kp b o (fun z=>c (ag _ z)) e) ?_);rw [Hx (by omega)];exact u.keep fun o e=>kp D o d e
 |succ k M =>
  intro i s a X Q O st u B;have f:i<n:=by omega
  refine eA qe ?_;rw [dB iW _];show ar _ A.in1 (kH (.ref I) >>= _) _ _ s;refine a7 (W.item i s _ _ f st fun v h' g S q kp=>?_);obtain ⟨x,t,m,rfl⟩:=Y i v S;have h:mH w h' D a:=u.keep fun o e=>kp D o d e;refine a7 (cc (Fq (s:={ s with heap:=h',toks:=g }) h (by omega) fun K T L y=>?_));refine a9 ⟨lc iW _,M (i+1) _ (if x∈a then a else a++[x]) (by omega) f ?_ (W.frame _ _ _ q fun b c o e=>?_) y fun P p k3 j=>?_⟩
  ·by_cases z:x∈a
   ·rw [if_pos z];omega
   ·rw [if_neg z,aO,du];omega
  ·rw [L.2 b fun z=>H (z ▸ c)];exact e
  ·refine B P p (fun b o c e=>k3 b o c ?_) ?_
   ·rw [L.2 b fun z=>c (by rw [z];exact al)];exact kp b o (fun z=>c (ag _ z)) e
   ·have U:xs.drop i=x::xs.drop (i+1):=by
     obtain ⟨N,K⟩:=List.getElem?_eq_some_iff.mp m;rw [pH N,K]
    rw [U,dJ];exact j
theorem Oy (a:ac) (h:Q₁ (.ref s.heap.objs.size) { s with heap:=s.heap.push (fM w) }) :
  iK (av prog w) A (.call (.builtin "set.__new__") ⟨[.type "set",a],[]⟩) (wants Q₁ E) s:=by
 refine EW ?_;show ar _ A.in1 (do checkBuiltinCall "set.__new__" ⟨[.type "set",a],[]⟩;RC (.builtin "set.__new__" ⟨[.type "set",a],[]⟩)) _ _ s;refine a7 (eK (F.newCall_set_1 a) (a9 ⟨lc F.plain_set_new _,eA F.entry_set_new ?_⟩));rw [dB F.plain_set_new _];unfold h_.«set.__new__» RI;have hsub:=NH;obtain ⟨hp,g,d,tk,os⟩:=s;dsimp only;wp_walk;refine iP (a9 ?_);dsimp only;simp only [newObj];refine a7 (RH (a9 ?_));exact a9 h
structure W0 (prog:bu) (w:bQ) (A:cf) (T:String) (l:aj) (o:Obj) (items:Array ac):Prop where
 ty:o.cls=.type T
 s1:isSubtype (.type T) (.type "set")=pure false
 s2:isSubtype (.type T) (.type "frozenset")=pure false
 nd:(jq T==jq "dict")=false
 iter:∀ (s:ao) (Q:ac->ao->Prop) (E:ac->ao->Prop),s.heap.get? l=some o ->
  (∀ ob St,No prog w A.in1 s.heap.objs.size [s.heap.objs.size,l] [s.heap.objs.size] items.size (fun i v=>items[i]?=some v) St->St 0 (s.heap.push ob)->Q (.ref s.heap.objs.size) { s with heap:=s.heap.push ob })->ar (av prog w) A (zi (.ref l)) Q E s
theorem vR {T:String}{l:aj}{I:Obj}{items:Array ac}{xs:List Str}{Q:ac->ao->Prop}
  (G:W0 prog w A.in1.in1 T l I items) (z:s.heap.get? l=some I) (Y:∀ (i:Nat) (v:ac),items[i]?=some v->∃ x t,xs[i]?=some x/\v=kF x t) (hx:xs.length=items.size) (hb:items.size+1<jD)
  (h:∀ (h':bK) (k:Nat),mH w h' s.heap.objs.size (dJ [] xs)->(∀ b o,s.heap.get? b=some o->h'.get? b=some o)->Q (.ref s.heap.objs.size) { s with heap:=h',toks:=k }) :
  ar (av prog w) A (call (.type "set") [.ref l]) Q E s:=by
 obtain ⟨c,tl,S⟩:=F.called_set.mro;have H:=F.called_set.made;have P:=F.called_set.sub;refine zk (EW ?_);show ar _ _ (callAny (.type "set") _) _ _ _;refine a9 ⟨Np _ (by decide +kernel),eA F.entry_type_call ?_⟩;rw [Around.under_plain (weight_type_call_type "set" [.ref l] []) rfl];have h1:=F.called_set.notType;have h2:=F.called_set.canCreate;have a0:=F.typeCall_set_1 (.ref l);repeat (any_goals (first|assumption|wp_step))
 refine pK (Oy (.ref l) (E:=E) (Q₁:=fun m d=>m=.ref s.heap.objs.size/\d={ s with heap:=s.heap.push (fM w) }) ⟨rfl,rfl⟩) fun r d u=>?_;cases r with
 |error e=>exact u
 |ok X =>
  cases X with
  |ret m =>
   obtain ⟨rfl,rfl⟩:=u;have O:(s.heap.push (fM w)).get? s.heap.objs.size=some (fM w):=aw _ rfl;have hT:RJ { s with heap:=s.heap.push (fM w) } (.ref s.heap.objs.size) "set":=⟨_,O,rfl⟩;have U:=F.called_set.init.lookup;have a1:=F.called_set.init.bind (.ref s.heap.objs.size);repeat (any_goals (first|assumption|wp_step))
   refine pK (wW (R:=wants (fun r f=>r=.none/\∃ h' k,f={ s with heap:=h',toks:=k }/\mH w h' s.heap.objs.size (dJ [] xs) /\
     (∀ b o,s.heap.get? b=some o->h'.get? b=some o)) E) F.called_set.init.plain F.entry_set_init (check_set_init_1 hT ?_)) fun q f a=>?_
   ·obtain ⟨oc,od,K,M⟩:=I;obtain ⟨ty,s1,s2,nd,p⟩:=G;have ty:oc=.type T:=ty;subst ty;have y:(s.heap.push (fM w)).get? l=some { cls:=.type T,dict:=od,data:=K,slots:=M }:=aa _ z;unfold h_.«set.__init__» noKeywords kz;generalize L:zi=PI;wp_walk;subst L;refine p { s with heap:=s.heap.push (fM w) } _ _ y fun ob St W st=>?_;have B:l<s.heap.objs.size:=aq z;refine a7 (HY ?_);have n:(s.heap.push (fM w)).objs.size=s.heap.objs.size+1:=cm ..;refine Bl (A:=A.in1.in1) W s.heap.objs.size (by rw [n];simp only [aN,aZ,or_false,not_or];exact ⟨aB (eu _),dv B⟩) xs hx Y hb items.size 0 _ [] (by omega) (cG _) (ap _) st (Cd w (aa _ O)) fun h' k kp j=>?_;show ar _ _ _ _ _ _;refine a9 ?_;show ar _ _ (ret e6) _ _ _;refine a9 ⟨rfl,h',k,rfl,j,fun b o e=>kp b o ?_ (aa _ (aa _ e))⟩;have:=aq e;rw [n];simp only [aN,aZ,or_false,not_or];exact ⟨aB this,aB (eP this)⟩
   ·cases q with
    |error e=>exact a
    |ok g =>
     cases g with
     |ret r =>
      obtain ⟨rfl,h',k,rfl,j,N⟩:=a;repeat (any_goals (first|assumption|wp_step))
      exact h _ _ j N
     |next=>exact a.elim
     |brk=>exact a.elim
     |cont=>exact a.elim
  |next=>exact u.elim
  |brk=>exact u.elim
  |cont=>exact u.elim
theorem Oz {l:aj}{o:Obj}{a:List ac} (d:A.handled=none) (b:o.cls=.type "list") (c:∃ n,o.data=.seq a.toArray n):W0 prog w A "list" l o a.toArray :=
 ⟨b,F.sub_list_set,F.sub_list_frozenset,by decide,fun s Q E e h=>mz ⟨_,e,b,c⟩
  (h _ _ (B4 (by simpa using d) _ l (aB (aq e)) a.toArray) ⟨⟨_,aw _ rfl,rfl,rfl⟩,⟨_,aa _ e,b,c⟩⟩)⟩
theorem SA {l:aj}{o:Obj}{a:List ac} (d:A.handled=none) (b:o.cls=.type "tuple") (c:∃ n,o.data=.seq a.toArray n):W0 prog w A "tuple" l o a.toArray :=
 ⟨b,F.sub_tuple_set,F.sub_tuple_frozenset,by decide,fun s Q E e h=>gX ⟨_,e,b,c⟩
  (h _ _ (Walks.tuple (by simpa using d) _ l (aB (aq e)) a.toArray) ⟨⟨_,aw _ rfl,rfl,rfl⟩,⟨_,aa _ e,b,c⟩⟩)⟩
end L2
namespace L2
open PySem PySem.Spec PyProof.Rows
namespace SI
theorem entry_iter:HZ table "set.__iter__"=some h_.«frozenset.__iter__» :=
 H_ (id':="frozenset.__iter__") (by kernel_rfl) rfl (by decide +kernel) (by kernel_rfl)
theorem slot_next:Slot "set_iterator" "__next__" "set_iterator.__next__":=by
 refine .of (owner:="set_iterator") (n:="__next__") ?_ ?_ ?_ ?_ ?_ ?_
 ·rw [EX,vF];kernel_rfl
 ·decide +kernel
 ·decide +kernel
 ·decide +kernel
 ·first
   |exact .inl (by decide +kernel)
   |exact .inr (by decide +kernel)
 ·rw [Ic];kernel_rfl
theorem entry_next:HZ table "set_iterator.__next__"=some h_.«set_iterator.__next__» :=
 entryFor_of_tree (by kernel_rfl)
theorem Ft:Manifest.owners.lookup (String.ofList ['r','o','t','a','r','e','t','i','_','t','e','s'].reverse)=some Manifest.sig_set_iterator:=by kernel_rfl
theorem args_next (a:ac):argsOk "set_iterator.__next__" ⟨[a],[]⟩:=by
 unfold argsOk;rw [signature?_of (id:="set_iterator.__next__") (n:=['_','_','t','x','e','n','_','_']) (o:=['r','o','t','a','r','e','t','i','_','t','e','s']) (by kernel_rfl) Ft]
 kernel_rfl
theorem args_iter (a:ac):argsOk "set_iterator.__iter__" ⟨[a],[]⟩:=by
 unfold argsOk;rw [signature?_of (id:="set_iterator.__iter__") (n:=['_','_','r','e','t','i','_','_']) (o:=['r','o','t','a','r','e','t','i','_','t','e','s']) (by kernel_rfl) Ft]
 kernel_rfl
theorem entry_self:HZ table "set_iterator.__iter__"=some h_.«dict_keyiterator.__iter__» :=
 H_ (id':="dict_keyiterator.__iter__") (by kernel_rfl) rfl (by decide +kernel) (by kernel_rfl)
theorem slot_iter:Slot "set_iterator" "__iter__" "set_iterator.__iter__":=by
 refine .of (owner:="set_iterator") (n:="__iter__") ?_ ?_ ?_ ?_ ?_ ?_
 ·rw [EX,vF];kernel_rfl
 ·decide +kernel
 ·decide +kernel
 ·decide +kernel
 ·first
   |exact .inl (by decide +kernel)
   |exact .inr (by decide +kernel)
 ·rw [Ic];kernel_rfl
end SI
end L2
namespace L2
open PySem PySem.Spec PyProof.Rows
theorem uM {a:Type}:∀ {l:List a}{i:Nat} (h:i<l.length),(l[i]::l.eraseIdx i).Perm l
 |x::r,0,_=>.refl _
 |x::r,i+1,h=>by
  have q:=uM (l:=r) (i:=i) (by simpa using h);rw [List.getElem_cons_succ,List.eraseIdx_cons_succ];exact (List.Perm.swap _ _ _).trans (q.cons x)
theorem M8 (a:n≠0) (h:∀ i d,i<n->Q i { s with drawn:=d }):ar M A (choose src n) Q E s :=
 fun _ _ _=>⟨a,h _ _ (Dd _ (Nat.pos_of_ne_zero a))⟩
theorem vS {c:Type}:∀ (n:Nat) (xs:List c) (s:ao) (Q:List c->ao->Prop),n=xs.length->(∀ ys d,ys.Perm xs->Q ys { s with drawn:=d })->ar M A (drawOrder n xs) Q E s
 | 0,xs,s,Q,a,h=>by
  obtain rfl:xs=[]:=List.length_eq_zero_iff.mp a.symm;exact a9 (h [] s.drawn .nil)
 |n+1,[],s,Q,a,h=>by cases a
 |n+1,x::r,s,Q,a,h=>by
  show ar M A (choose .order (x::r).length >>= _) Q E s;refine a7 (M8 (by simp) fun i d b=>?_);rw [aE b];refine a7 (vS n _ _ _ (by rw [BX b];omega) fun ys d' p=>a9 ?_);exact h _ _ ((p.cons _).trans (uM b))
theorem Dw {b:Type} (next:Nat->Nat):∀ (n k:Nat) (left:List b) (out:Array b),n=left.length->(B5 next n k left out).toList.Perm (out.toList++left)
 | 0,k,left,out,hn=>by
  obtain rfl:left=[]:=List.length_eq_zero_iff.mp hn.symm;rw [B5,bT]
 |n+1,k,left,out,hn=>by
  have a:next k % left.length<left.length:=Dd _ (by omega)
  rw [B5,aE a];refine (Dw next n (k+1) _ _ (by rw [BX a];omega)).trans ?_;rw [j0,dR];exact (uM a).append_left _
theorem xm {a:Type} (next:Nat->Nat) (xs:Array a):(qf next xs).toList.Perm xs.toList:=by
 have:=Dw next xs.size 0 xs.toList #[] (by simp)
 simpa [qf] using this
def Dx (h:bK) (I S:aj) (first:ac) (i n a:Nat):Prop:=h.get? I=some { cls:=.type "set_iterator",data:=.fields #[first,.int i 0,.ref S,.int n 0,.int a 0] }
theorem Dx.put {f c:ac}{j b:Nat}{k:Nat}{x:ac}{h:bK} (a:Dx h I S f j n ep) (e:(#[f,.int j 0,.ref S,.int n 0,.int ep 0] : Array ac).setIfInBounds k x=#[c,.int b 0,.ref S,.int n 0,.int ep 0]) :
  Dx (h.update I (eM (·.setIfInBounds k x))) I S c b n ep:=by
 have q:=gI (eM (·.setIfInBounds k x)) a rfl;unfold Dx;rw [q];show some ({ cls:=.type "set_iterator",data:=.fields ((#[f,.int j 0,.ref S,.int n 0,.int ep 0] : Array ac).setIfInBounds k x) }:Obj)=_;rw [e]
theorem tF (hit:Dx s.heap I S first i n ep) (hS:dn w s.heap S es ep t) (hn:n=es.size)
  (h:ar (av prog w) A.in1 (do
   if let .int slot _:=first then
    match <- NI S slot.toNat i ep with
    |some (x,next) =>
     iQ (.ref I) 0 (cq next)
     iQ (.ref I) 1 (cq (i+1))
     ret x
    |none=>iQ (.ref I) 2 .none;uc (<- uG (.type "StopIteration") [])
   else
    let some places <- Nq first|wX "internal:set_iterator"
    match places[i]? with
    |some (.int place _) =>
     let x <- setNextDrawn S place.toNat ep
     iQ (.ref I) 1 (cq (i+1))
     ret x
    |some _=>wX "internal:set_iterator"
    |none=>iQ (.ref I) 0 (cq 0);iQ (.ref I) 2 .none;uc (<- uG (.type "StopIteration") []))
   (fun fin s'=>∃ v,fin=.done (.ret v)/\Q (some v) s') (fun e s'=>ar (av prog w) A (zr e (.type "StopIteration")) (fun b s''=>b=true/\Q none s'') E s') s) :
  ar (av prog w) A (kH (.ref I)) Q E s:=by
 unfold kH;refine a7 (iu ?_);refine cx (name:=i4 "__next__") ⟨_,hit,rfl⟩ SI.slot_next ?_;refine bO SI.slot_next ⟨_,hit,rfl⟩ SI.entry_next ?_ (SI.args_next _);show ar _ _ (fieldsOf (.ref I) >>= _) _ _ s;refine a7 (Ie hit rfl ?_);show ar _ _ (setEntries S >>= _) _ _ s;refine a7 (wpAny_setEntries_of hS.at_ rfl hS.fits ?_);rw [if_neg (by rw [hn];simp)];refine bB h (fun fin s' z=>?_) fun e s' z=>?_
 ·obtain ⟨v,rfl,q⟩:=z;exact ⟨v,rfl,a9 q⟩
 ·refine a7 (bB z (fun b s'' ⟨hb,q⟩=>?_) fun _ _ z=>z);subst hb;exact a9 q
theorem Dy {B:cf}{Q:Option ac->ao->Prop}{Q':Fin->ao->Prop}{o:Obj}{vs:Array ac} (hh:B.handled=none) (ho:s.heap.get? I=some o) (hd:o.data=.fields vs) (hz:2<vs.size)
  (h:∀ h',JQ I s.heap h'->Q none { s with heap:=h' }) :
  ar (av prog w) B (do iQ (.ref I) 2 .none;uc (<- uG (.type "StopIteration") []))
   Q' (fun e s'=>ar (av prog w) A (zr e (.type "StopIteration")) (fun b s''=>b=true/\Q none s'') E s') s:=by
 refine a7 (gZ ho hd hz ?_);show ar _ _ (uG (.type "StopIteration") [] >>= _) _ _ _;refine a7 ?_;simp only [uG,RK];refine a7 (bS ?_ (by size_fits));refine a7 (m:=mF _ _) (eK (a:=e6) ?_ ?_)
 ·first
   |rfl
   |(simp only [mF];rfl)
 refine bS ?_ (by size_fits);simp only [uc];refine a7 (LG ?_);rw [hh];refine a7 (a9 (RL ?_));refine gO (T:="StopIteration") (b:=true) ⟨_,aw _ rfl,rfl⟩ wY ⟨rfl,?_⟩;exact h _ (((bP ..).extBut.push _).push _)
section
variable {prog:bu}{w:bQ}{A:cf}{E:ac->ao->Prop}{s:ao}{I S:aj}{es:Array (Int×ac)}{ep:Nat}{t:mE}{i n:Nat}{first:ac}
theorem dn.keep (x:dn w h S es ep t) (k:∀ o,h.get? S=some o->h'.get? S=some o):dn w h' S es ep t:=⟨k _ x.at_,x.txt,x.nd,x.few,x.fits,x.led,x.pl⟩
theorem Dz {Q:ac->ao->Prop} (a:Dx s.heap I S first i n ep) (h:Q (.ref I) s):ar (av prog w) A (zi (.ref I)) Q E s:=by
 refine B6 ⟨_,a,rfl⟩ SI.slot_iter (bO SI.slot_iter ⟨_,a,rfl⟩ SI.entry_self ?_ (SI.args_iter _));show ar _ _ (ret (.ref I)) _ _ s;exact a9 ⟨_,rfl,"set_iterator",_,⟨_,a,rfl⟩,SI.slot_next.lookup,h⟩
theorem fU {Q:Bool->ao->Prop}{B:cf} (h:Q (w.params.followText "set-order") s):ar (av prog w) B setsByText Q E s:=by
 unfold setsByText;exact a7 (iP (a9 h))
theorem OA {B:cf}{Q':Fin->ao->Prop}{x:ac}{nx:Nat}{E':ac->ao->Prop} (hit:Dx s.heap I S first i n ep)
  (h:∀ h',Dx h' I S (.int nx 0) (i+1) n ep->bI I s.heap h'->Q' (.done (.ret x)) { s with heap:=h' }) :
  ar (av prog w) B (do iQ (.ref I) 0 (cq nx);iQ (.ref I) 1 (cq (i+1));ret x) Q' E' s:=by
 refine a7 (gZ hit rfl (by simp) ?_);have h1:Dx (s.heap.update I (eM (·.setIfInBounds 0 (cq nx)))) I S (.int nx 0) i n ep:=hit.put (by simp [cq]);refine a7 (gZ h1 rfl (by simp) ?_);have h2:Dx ((s.heap.update I (eM (·.setIfInBounds 0 (cq nx)))).update I (eM (·.setIfInBounds 1 (cq (i+1))))) I S (.int nx 0) (i+1) n ep:=h1.put (by simp [cq]);exact a9 (h _ h2 ((bP ..).trans (bP ..)))
theorem xn (f:Nat->Nat) (es:Array (Int×ac)):(qf f es).size=es.size:=by
 rw [<- au,(xm f es).length_eq,au]
theorem IH (hh:A.handled=none) (hw:w.params.followText "set-order"=true) (hne:S≠I) :
  No prog w A I [I,S] [I] es.size (fun i v=>((qf (w.params.setOrder S ep) es).toList.map (·.2))[i]?=some v) (fun i h=>Dx h I S (.int 0 0) i es.size ep/\dn w h S es ep t) where
 sub:=fun b hb=>by simp at hb;simp [hb]
 frame:=fun i h h' st k=>⟨k I (by simp) _ st.1,st.2.keep fun o e=>k S (by simp) o e⟩
 item:=fun i s Q E hi st hQ=>by
  obtain ⟨hit,hS⟩:=st;refine tF hit hS rfl ?_;dsimp only;unfold NI setWalk;refine a7 (a7 (bD hS.at_ rfl hS.fits (a7 (fU ?_))));rw [hw];simp only [if_true,bne_self_eq_false,bA,if_false];refine a7 (a7 (bD hS.at_ rfl hS.fits (a7 (fU ?_))));rw [hw];simp only [if_true];refine a7 (iP (a9 (a9 ?_)));have hi':i<(qf (w.params.setOrder S ep) es).size:=by rw [xn];exact hi
  show ar _ _ (match ((qf (w.params.setOrder S ep) es)[i]?).map fun e=>(e.2,(0:Int).toNat) with
   |some (x,next)=>do iQ (.ref I) 0 (cq next);iQ (.ref I) 1 (cq (i+1));ret x
   |none=>do iQ (.ref I) 2 .none;uc (<- uG (.type "StopIteration") [])) _ _ s
  rw [getElem?_pos _ i hi'];refine OA (nx:=0) hit fun h' h1 sb=>⟨_,rfl,hQ _ h' s.toks ?_ ⟨h1,hS.keep fun o e=>(sb.2 S hne).trans e⟩ fun b o hb e=>(sb.2 b fun z=>hb (by simp [z])).trans e⟩;simp [hi']
 done:=fun s Q E st hQ=>by
  obtain ⟨hit,hS⟩:=st;refine tF hit hS rfl ?_;dsimp only;unfold NI setWalk;refine a7 (a7 (bD hS.at_ rfl hS.fits (a7 (fU ?_))));rw [hw];simp only [if_true,bne_self_eq_false,bA,if_false];refine a7 (a7 (bD hS.at_ rfl hS.fits (a7 (fU ?_))));rw [hw];simp only [if_true];refine a7 (iP (a9 (a9 ?_)));show ar _ _ (match ((qf (w.params.setOrder S ep) es)[es.size]?).map fun e=>(e.2,(0:Int).toNat) with
   |some (x,next)=>do iQ (.ref I) 0 (cq next);iQ (.ref I) 1 (cq (es.size+1));ret x
   |none=>do iQ (.ref I) 2 .none;uc (<- uG (.type "StopIteration") [])) _ _ s
  rw [getElem?_neg _ es.size (by rw [xn];exact bY _)];exact Dy (by simpa using hh) hit rfl (by simp) fun h' eb=>hQ h' s.toks fun b o hb e=>eb b o (fun z=>hb (by simp [z])) e
 self:=fun i s Q E st h=>Dz st.1 h
inductive ZZ (h:bK) (T:aj) (ps:List Nat):Prop
 |mk (o k:_) (h0:h.get? T=some o) (h1:o.data=.seq (ps.map fun (p:Nat)=>qi (p:Int) 0).toArray k):ZZ h T ps
theorem Fv (B:A.handled=none) (u:S≠I) (K:T≠I) (G:∀ p∈ps,p<es.size) (y:ps.length=es.size) :
  No prog w A I [I,S,T] [I] es.size (fun i v=>(ps.map fun p=>(es.getD p (0,.none)).2)[i]?=some v) (fun i h=>Dx h I S (.ref T) i es.size ep/\dn w h S es ep t/\ZZ h T ps) where
 sub:=fun b f=>by simp at f;simp [f]
 frame:=fun i h h' st k=>⟨k I (by simp) _ st.1,st.2.1.keep fun o e=>k S (by simp) o e,let ⟨o,q,e,d⟩:=st.2.2;⟨o,q,k T (by simp) o e,d⟩⟩
 item:=fun i s Q E L st x=>by
  obtain ⟨a,g,o,q,e,d⟩:=st;refine tF a g rfl ?_;dsimp only;refine a7 (eW e d ?_);have c:i<ps.length:=by omega
  dsimp only;rw [show ((ps.map fun (p:Nat)=>qi (p:Int) 0).toArray)[i]?=some (.int (ps[i] : Nat) 0) by simp [c]];dsimp only;unfold setNextDrawn;refine a7 (a7 (bD g.at_ rfl g.fits ?_));have l:=G ps[i] (io c);simp only [bne_self_eq_false,bA,if_false,lw];rw [getElem?_pos es ps[i] l];refine a9 ?_;refine a7 (gZ a rfl (by simp) ?_);have m:Dx (s.heap.update I (eM (·.setIfInBounds 1 (cq (i+1))))) I S (.ref T) (i+1) es.size ep:=a.put (by simp [cq]);have j:bI I s.heap (s.heap.update I (eM (·.setIfInBounds 1 (cq (i+1))))):=bP ..;refine a9 ⟨_,rfl,x _ _ s.toks ?_ ⟨m,g.keep fun o e=>(j.2 S u).trans e,o,q,(j.2 T K).trans e,d⟩ fun b o f e=>(j.2 b fun z=>f (by simp [z])).trans e⟩;simp [c,l]
 done:=fun s Q E st x=>by
  obtain ⟨a,g,o,q,e,d⟩:=st;refine tF a g rfl ?_;dsimp only;refine a7 (eW e d ?_);dsimp only;rw [show ((ps.map fun (p:Nat)=>qi (p:Int) 0).toArray)[es.size]?=none by simp [<- y]];dsimp only;refine a7 (gZ a rfl (by simp) ?_);have m:Dx (s.heap.update I (eM (·.setIfInBounds 0 (cq 0)))) I S (.int 0 0) es.size es.size ep:=a.put (by simp [cq]);have j:bI I s.heap (s.heap.update I (eM (·.setIfInBounds 0 (cq 0)))):=bP ..;exact Dy (s:={ s with heap:=s.heap.update I (eM (·.setIfInBounds 0 (cq 0))) }) (by simpa using B) m rfl (by simp) fun h' H=>x h' s.toks fun b o f e=>H b o (fun z=>f (by simp [z])) ((j.2 b fun z=>f (by simp [z])).trans e)
 self:=fun i s Q E st h=>Dz st.1 h
theorem OB (h:p=#[j]):j6 p 0=0:=by subst h;simp [j6,B7]
theorem OC {p:Array Nat}{j:Nat} (h:p=#[j]):j6 p (j+1)=1:=by subst h;simp [j6,B7]
theorem M9 (h : t.fits 1 = true) : ∃ j, t.place = #[j] := by
  have a : t.place.size = 1 := by
    simp only [og, aY, beq_iff_eq] at h; exact h.1
  exact ⟨t.place[0], by apply Array.ext; · simp [a]
                        · intro i c b; have : i = 0 := by omega
                          subst this; simp⟩
theorem W2 (a:t.led=true) (h:ar (av prog w) B (k ()) Q E s) :
  ar (av prog w) B ((if (!t.led && !es.isEmpty)=true then wX "set:maker-not-led" else pure ()) >>= k) Q E s:=by
 rw [if_neg (by rw [a];simp)];exact a7 (a9 h)
theorem vT {B:cf}{a g:Nat}{Q:Option (ac×Nat)->ao->Prop} (c:w.params.followText "set-order"=false) (b:dn w s.heap S es ep t) (e:es.size<=1)
  (h:Q (match es[j6 t.place a]?,t.place[j6 t.place a]? with|some (_,x),some j=>some (x,j+1)|_,_=>none) s):ar (av prog w) B (NI S a g ep) Q E s:=by
 unfold NI;refine a7 (bD b.at_ rfl b.fits (a7 (fU ?_)));rw [c];simp only [bA,if_false];split
 ·rename_i z
  exact absurd (show (!t.plain&&decide (es.size > 1))=true from z) (by simp;omega)
 ·have d:t.led=true:=by rw [b.led,c];rfl
  exact W2 d (a9 h)
theorem Ma (L:A.handled=none) (x:w.params.followText "set-order"=false) (q:S≠I) (m:es.size<=1) :
  No prog w A I [I,S] [I] es.size (fun i v=>(es.toList.map (·.2))[i]?=some v)
   (fun i h=>∃ k,Dx h I S (.int (k:Nat) 0) i es.size ep/\dn w h S es ep t/\(i=0->k=0)/\(i=1->es.size=1->∃ j,t.place=#[j]/\k=j+1)) where
 sub:=fun b f=>by simp at f;simp [f]
 frame:=fun i h h' st k=>let ⟨c,a1,a2,a3⟩:=st;⟨c,k I (by simp) _ a1,a2.keep fun o e=>k S (by simp) o e,a3⟩
 item:=fun i s Q E N st u=>by
  obtain ⟨c,a,d,y,B⟩:=st;have p:i=0:=by omega
  subst p;obtain rfl:c=0:=y rfl;have g:es.size=1:=by omega
  obtain ⟨j,l⟩:=M9 (t:=t) (by rw [<- g];exact d.fits);refine tF a d rfl ?_;dsimp only;refine a7 (vT x d m ?_);rw [show (((0:Nat):Int).toNat)=0 from rfl,OB l,getElem?_pos es 0 (by omega),l];refine OA (nx:=j+1) a fun h' m G=>⟨_,rfl,u _ h' s.toks ?_ ⟨j+1,m,d.keep fun o e=>(G.2 S q).trans e,by simp,fun _ _=>⟨j,l,rfl⟩⟩ fun b o f e=>(G.2 b fun z=>f (by simp [z])).trans e⟩;simp [g]
 done:=fun s Q E st u=>by
  obtain ⟨c,a,d,y,B⟩:=st;refine tF a d rfl ?_;dsimp only;refine a7 (vT x d m ?_);have H:es[j6 t.place ((c:Nat):Int).toNat]?=none:=by
   rcases gJ es.size with z|z
   ·rw [getElem?_neg];omega
   ·have g:es.size=1:=by omega
    obtain ⟨j,l,K⟩:=B g g;rw [K,show (((j+1:Nat):Int).toNat)=j+1 from rfl,OC l,getElem?_neg];omega
  rw [H];exact Dy (by simpa using L) a rfl (by simp) fun h' M=>u h' s.toks fun b o f e=>M b o (fun z=>f (by simp [z])) e
 self:=fun i s Q E st h=>let ⟨_,a1,_⟩:=st;Dz a1 h
theorem II {Q:ac->ao->Prop} (hh:A.handled=none) (g:dn w s.heap S es ep t)
  (h:∀ (I:aj) (l:List aj) (a:List ac) (St:Nat->bK->Prop) (h':bK) (d:Nk),s.heap.objs.size<=I->(∀ b∈l,b=S\/s.heap.objs.size<=b)->(∀ b∈l,b<h'.objs.size)->a.Perm (es.toList.map (·.2))->(∀ B:cf,B.handled=none->No prog w B I l [I] a.length (fun i v=>a[i]?=some v) St)->St 0 h' ->
   (∀ b o,s.heap.get? b=some o->h'.get? b=some o)->RJ { s with heap:=h',drawn:=d } (.ref I) "set_iterator"->Q (.ref I) { s with heap:=h',drawn:=d }):ar (av prog w) A (zi (.ref S)) Q E s:=by
 have U:s.TypeIs (.ref S) "set":=⟨_,g.at_,rfl⟩;have m:=aq g.at_;refine B6 U F.slot_set_iter (bO F.slot_set_iter U SI.entry_iter ?_ (F.args_set_iter_1 _));show ar _ _ (uH S >>= _) _ _ s;unfold uH;refine a7 (a7 (wpAny_setEntries_of g.at_ rfl g.fits (a9 ?_)));show ar _ _ (setDrawn S >>= _) _ _ s;unfold setDrawn;refine a7 (a7 (bD g.at_ rfl g.fits (a7 (fU (a9 ?_)))));have fin:∀ (first:ac) (l:List aj) (a:List ac) (St:Nat->bK->Prop) (h':bK) (d:Nk),(∀ b o,s.heap.get? b=some o->h'.get? b=some o)->s.heap.objs.size<=h'.objs.size ->
   (∀ b∈l,b=S\/b=h'.objs.size\/(s.heap.objs.size<=b/\b<h'.objs.size))->a.Perm (es.toList.map (·.2))->(∀ B:cf,B.handled=none->No prog w B h'.objs.size l [h'.objs.size] a.length (fun i v=>a[i]?=some v) St) ->
   (∀ c:bK,(∀ b o,h'.get? b=some o->c.get? b=some o)->Dx c h'.objs.size S first 0 es.size ep->St 0 c) ->
   ar (av prog w) A.in1 (setEpoch S >>= fun e=>newFields "set_iterator" [first,cq 0,.ref S,cq es.size,cq e] >>= fun x=>ret x) (fun fin s'=>∃ v,fin=.done (.ret v)/\∃ T r,s'.TypeIs v T/\zm (.type T) "__next__"=pure (some r)/\Q v s') E { s with heap:=h',drawn:=d }:=by
  intro first l a St h' d kp hsz u K W st
  have G:dn w h' S es ep t:=g.keep fun o e=>kp S o e;refine a7 (wpAny_setEpoch_of (s:={ s with heap:=h',drawn:=d }) G.at_ rfl G.fits ?_);refine a7 (bS ?_ (by size_fits));have P:∀ b o,h'.get? b=some o->(h'.push { cls:=.type "set_iterator",dict:=none,data:=.fields #[first,cq 0,.ref S,cq es.size,cq ep] }).get? b=some o:=fun b o e=>aa _ e;have it:(h'.push { cls:=.type "set_iterator",dict:=none,data:=.fields #[first,cq 0,.ref S,cq es.size,cq ep] }).get? h'.objs.size=some { cls:=.type "set_iterator",dict:=none,data:=.fields #[first,cq 0,.ref S,cq es.size,cq ep] }:=aw _ rfl;refine a9 ⟨_,rfl,"set_iterator",_,⟨_,it,rfl⟩,SI.slot_next.lookup,h h'.objs.size l a St _ d hsz (fun b f=>?_) (fun b f=>?_) K W (st _ P it) (fun b o e=>P b o (kp b o e)) ⟨_,it,rfl⟩⟩
  ·rcases u b f with z|z|z
   ·exact .inl z
   ·exact .inr (by rw [z];exact hsz)
   ·exact .inr z.1
  ·rw [cm];rcases u b f with z|z|z
   ·rw [z];exact eP (aC m hsz)
   ·rw [z];exact eu _
   ·exact eP z.2
 dsimp only;split
 ·rename_i z
  have z:(!w.params.followText "set-order" && (!t.plain&&decide (es.size > 1)))=true:=z;refine a7 (vS _ _ _ _ (by simp) fun ys d K=>?_);simp only [RK];have L:ys.length=es.size:=by have:=K.length_eq;rwa [fG] at this
  have Y:=fY g.few;refine a7 (bS ?_ (by show (ys.map fun (i:Nat)=>cq i).toArray.size<=sizeLine;simp;omega));have q:∀ ob:Obj,(s.heap.push ob).objs.size=s.heap.objs.size+1:=fun ob=>cm ..;refine fin (.ref s.heap.objs.size) [s.heap.objs.size+1,S,s.heap.objs.size] (ys.map fun p=>(es.getD p (0,.none)).2)
   (fun i h=>Dx h (s.heap.objs.size+1) S (.ref s.heap.objs.size) i es.size ep/\dn w h S es ep t/\ZZ h s.heap.objs.size ys) (s.heap.push _) d
   (fun b o e=>aa _ e) (by rw [q];exact iL _) (fun b f=>?_) ?_ (fun B M=>?_) (fun c k it=>⟨by rw [q] at it;exact it,g.keep fun o e=>k S o (aa _ e),_,_,k _ _ (aw _ rfl),rfl⟩)
  ·simp only [aN,aZ,or_false] at f;rcases f with y|y|y
   ·exact .inr (.inl (by rw [q];exact y))
   ·exact .inl y
   ·exact .inr (.inr ⟨by rw [y];exact ap _,by rw [q,y];exact eu _⟩)
  ·refine (K.map _).trans (.of_eq ?_);apply yN
   ·simp
   ·intro k N h2;have:k<es.size:=by simpa using N
    simp [this]
  ·rw [ah,L,q];exact Fv M (aB (eP m)) (aB (eu _)) (fun p X=>List.mem_range.mp (K.mem_iff.mp X)) L
 ·rename_i z
  have z:¬ (!w.params.followText "set-order" && (!t.plain&&decide (es.size > 1)))=true:=z;refine a7 (a9 ?_);have H:S≠s.heap.objs.size:=aB m;cases O:w.params.followText "set-order" with
  |true =>
   refine fin (cq 0) [s.heap.objs.size,S] ((qf (w.params.setOrder S ep) es).toList.map (·.2)) (fun i h=>Dx h s.heap.objs.size S (.int 0 0) i es.size ep/\dn w h S es ep t) s.heap s.drawn (fun _ _ e=>e) (ap _) (fun b f=>?_) ((xm _ es).map _) (fun B M=>?_) (fun c k it=>⟨it,g.keep fun o e=>k S o e⟩)
   ·simp only [aN,aZ,or_false] at f;exact f.elim (fun z=>.inr (.inl z)) .inl
   ·rw [ah,au,xn];exact IH M O H
  |false =>
   have N:es.size<=1:=by
    rw [O] at z;rcases g.pl with y|y
    ·omega
    ·rw [y] at z;simpa using z
   refine fin (cq 0) [s.heap.objs.size,S] (es.toList.map (·.2)) (fun i h=>∃ k,Dx h s.heap.objs.size S (.int (k:Nat) 0) i es.size ep/\dn w h S es ep t/\(i=0->k=0)/\(i=1->es.size=1->∃ j,t.place=#[j]/\k=j+1)) s.heap s.drawn (fun _ _ e=>e) (ap _) (fun b f=>?_) (.refl _) (fun B M=>?_) (fun c k it=>⟨0,it,g.keep fun o e=>k S o e,fun _=>rfl,fun y=>by cases y⟩)
   ·simp only [aN,aZ,or_false] at f;exact f.elim (fun z=>.inr (.inl z)) .inl
   ·rw [ah,au];exact Ma M O H N
end
theorem Fx (Y:A.handled=none) (O:dn w s.heap S es ep t)
  (h:∀ (a:List ac) (h':bK) (d:Nk) (tk:Nat),a.Perm (es.toList.map (·.2))->(∀ b o,s.heap.get? b=some o->h'.get? b=some o)->s.heap.objs.size<=h'.objs.size->Q a { s with heap:=h',drawn:=d,toks:=tk }) :
  ar (av prog w) A (B8 (.ref S)) Q E s:=by
 have G:=aq O.at_;unfold B8;refine a7 (HY (eA Nr ?_));rw [dB Nt _];show ar _ A.in1 (newList [] >>= fun l=>RC (.builtin "list.__iadd__" ⟨[l,.ref S],[]⟩)) _ _ s;refine a7 (bS ?_);refine a9 ⟨lc ro _,eA F.entry_list_iadd ?_⟩;rw [dB ro _];let p:ao:={ s with heap:=s.heap.push { cls:=.type "list",data:=.seq ([] : List ac).toArray } }
 have u:p.heap.objs.size=s.heap.objs.size+1:=cm ..;have K:p.heap.get? s.heap.objs.size=some { cls:=.type "list",data:=.seq ([] : List ac).toArray }:=aw _ rfl;have k:dn w p.heap S es ep t:=O.keep fun o e=>aa _ e;show ar _ A.in1 (lN (.ref s.heap.objs.size) (.ref S) (.ref s.heap.objs.size)) _ _ p;have L:p.TypeIs (.ref S) "set":=⟨_,k.at_,rfl⟩;unfold lN;refine a7 (mD L ?_);have e1:xR (.ref s.heap.objs.size) (.ref S)=false:=by simp [xR,dv G]
 have e2:(jq "set" == jq "list")=false:=by decide
 have e3:(jq "set" == jq "tuple")=false:=by decide
 simp only [e1,e2,e3,Bool.or_false,bA,if_false];refine a7 (II (A:=A.in1) (by simpa using Y) k fun I fp a St h' d hI M a0 pm W st kp tI=>?_);let f:ao:={ p with heap:=h',drawn:=d }
 have P:dn w f.heap S es ep t:=k.keep fun o e=>kp S o e;have n:f.TypeIs (.ref S) "set":=⟨_,P.at_,rfl⟩;refine a7 (cc ?_);unfold Builtin.List.listLengthHint;refine a7 (wpAny_specialOf (s:=f) n F.slot_set_len.lookup ?_);dsimp only;rw [show splitId "set.__len__"=some ("set","__len__") from by decide +kernel];dsimp only;refine a7 (gO (b:=true) (s:=f) n (by rw [Ic];kernel_rfl) ?_);rw [if_neg (by decide),if_pos (by decide)];refine a7 (mD (s:=f) n (a9 ?_));rw [if_pos (by decide)];refine a7 (cW ?_);have nS:s.heap.objs.size∉fp:=fun z=>by
  rcases M _ z with q|q
  ·exact absurd G (by rw [<- q];exact bY _)
  ·rw [u] at q;exact absurd q (Nat.not_succ_le_self _)
 have B:f.heap.get? s.heap.objs.size=some { cls:=.type "list",data:=.seq ([] : List ac).toArray }:=kp _ _ K;refine a7 ?_;show ar _ A.in1 (updateSeq s.heap.objs.size (·.push .none) >>= fun _=>updateSeq s.heap.objs.size (·.pop)) _ _ f;refine a7 (wpAny_updateSeq B rfl ?_);have v:=gI (i9 (·.push e6)) B rfl;refine wpAny_updateSeq v rfl ?_;have T:=gI (i9 (·.pop)) v rfl;have y:∀ b o,b≠s.heap.objs.size->f.heap.get? b=some o->((f.heap.update s.heap.objs.size (i9 (·.push e6))).update s.heap.objs.size (i9 (·.pop))).get? b=some o :=
  fun b o g e=>(fX _ _ (cV g)).trans ((fX _ _ (cV g)).trans e)
 have zl:a.length<=sizeLine:=by rw [pm.length_eq,ah,au];exact fY O.few
 have W1:=W A.in1 (by simpa using Y);refine a9 ⟨lc F.plain_extend_loop _,codeAny_extend_loopS (A:=A) W1.toS zl _ nS _ a.length 0 { f with heap:=(f.heap.update s.heap.objs.size (i9 (·.push e6))).update s.heap.objs.size (i9 (·.pop)) } _ _ rfl (cG _) (W1.frame 0 _ _ st fun b g o e=>y b o (fun z=>nS (z ▸ g)) e) T (ItemsOf.nil _) fun s' c c' H x i=>?_⟩;show ar _ A (load s.heap.objs.size >>= _) _ _ s';refine a7 (wpAny_load x (a9 ?_));have m:c.toList=a:=by
  apply xS;intro j;rw [aL];by_cases U:j<c.size
  ·have:=i.2 j c[j] (by simp [U]);rw [this];simp [U]
  ·rw [getElem?_neg c j U,cQ (by rw [<- i.1];omega)]
 rw [m];obtain ⟨N,g3,d3,t3,o3⟩:=s';obtain rfl:g3=s.gens:=H.gens;obtain rfl:d3=d:=H.drawn;obtain rfl:o3=s.os:=H.os;have X:∀ b o,s.heap.get? b=some o->N.get? b=some o:=fun b o e=>by
  have g:=aq e;refine H.heap b o ?_ (y b o (aB g) (kp b o (aa _ e)));simp only [aN,aZ,or_false,not_or];exact ⟨aB g,aB (aC g (by have q:=hI;rw [u] at q;exact Nat.le_of_succ_le q))⟩
 refine h a N _ t3 pm X ?_;have:=aq (show N.get? s.heap.objs.size=some _ from x);exact bw this
theorem Fz (B:ar (av prog w) A.in1 (B8 x) (fun g c=>∃ k,rO g k/\g.length<64 /\
   ∀ (h':bK) (h:List ac) (a:List Str) (e:Nat),(∀ b o,c.heap.get? b=some o->h'.get? b=some o)->h'.get? c.heap.objs.size=some (jJ "list" h.toArray e)->rO h a->a.Perm k->sortedS a=true ->
    Q (.ref c.heap.objs.size) { c with heap:=h' }) E s):ar (av prog w) A (call (.builtin "sorted") [x]) Q E s:=by
 refine oV kind_sorted plain_sorted entry_sorted (args_sorted1 _) ?_;unfold h_.«sorted»;refine a7 (m:=checkCount "sorted" 1 1 _) (a9 ?_);refine a7 (bB B (fun g c z=>?_) fun _ _ z=>z);obtain ⟨k,f,i,G⟩:=z;refine a7 (LH ?_);have d:(c.heap.push (jJ "list" g.toArray 0)).get? c.heap.objs.size=some (jJ "list" g.toArray 0):=aw _ rfl;show ar _ _ _ _ _ { c with heap:=c.heap.push (jJ "list" g.toArray 0) };refine a7 (cc (bO slot_list_sort ⟨_,d,rfl⟩ entry_list_sort (list_sort_treeK strKind_oneLt d f.keysOf (fun n t c7 e=>keyKind_strs (by rw [<- e];exact f)) i fun j u I=>⟨_,rfl,?_⟩) (args_list_sort _)));obtain ⟨a,H,v,y⟩:=sorted_out_str f u I;obtain ⟨e,l⟩:=sortedHeap_at (out:=(aR j).map (·.2)) d;refine a9 ⟨_,rfl,G _ _ a e (fun b o q=>?_) l H v y⟩;have p:=aq q;rw [sortedHeap_old (aB p) (by rw [cm];exact eP p)];exact aa _ q
def rz (x y:Str):Bool:=decide (x.cps.toList<y.cps.toList)
def IJ (x:Str):List Str->List Str
 |[]=>[x]
 |y::r=>if rz y x then y::IJ x r else x::y::r
def kP:List Str->List Str
 |[]=>[]
 |x::r=>IJ x (kP r)
theorem xo (x:Str):∀ l,(IJ x l).Perm (x::l)
 |[]=>.refl _
 |y::r=>by
  rw [IJ];split
  ·exact ((xo x r).cons y).trans (.swap ..)
  ·exact .refl _
theorem iy:∀ l,(kP l).Perm l
 |[]=>.refl _
 |x::r=>(xo x _).trans ((iy r).cons x)
theorem uN (x:Str):rz x x=false:=decide_eq_false (List.lt_irrefl _)
theorem tG (a:rz x y=true) (b:rz y z=true):rz x z=true :=
 decide_eq_true (List.lt_trans (of_decide_eq_true a) (of_decide_eq_true b))
theorem yU (a:rz x y=false) (b:rz y x=false):x=y:=by
 have a:¬ x.cps.toList<y.cps.toList:=of_decide_eq_false a;have b:¬ y.cps.toList<x.cps.toList:=of_decide_eq_false b;have:x.cps.toList=y.cps.toList:=List.le_antisymm (List.not_lt.mp b) (List.not_lt.mp a)
 cases x;cases y;exact congrArg Str.mk (Array.toList_inj.mp this)
abbrev Rz (l:List Str):Prop:=l.Pairwise fun a b=>rz b a=false
theorem OD (x:Str):∀ l,Rz l->Rz (IJ x l)
 |[],_=>by simp [IJ,Rz]
 |y::r,h=>by
  obtain ⟨d,g⟩:=List.pairwise_cons.mp h;rw [IJ];split
  ·rename_i b
   refine List.pairwise_cons.mpr ⟨fun z c=>?_,OD x r g⟩;rcases List.mem_cons.mp ((xo x r).mem_iff.mp c) with e|e
   ·subst e;cases q:rz z y with
    |false=>rfl
    |true=>exact absurd (tG q b) (by rw [uN];decide)
   ·exact d z e
  ·rename_i b
   have b:rz y x=false:=by simpa using b
   refine List.pairwise_cons.mpr ⟨fun z c=>?_,h⟩;rcases List.mem_cons.mp c with e|e
   ·subst e;exact b
   ·cases q:rz z x with
    |false=>rfl
    |true =>
     have a:=d z e;cases f:rz x y with
     |true=>rw [tG q f] at a;cases a
     |false=>rw [<- yU b f,a] at q;cases q
theorem si:∀ l,Rz (kP l)
 |[]=>.nil
 |x::r=>OD x _ (si r)
theorem vU:∀ (p:Str) (l:List Str),risingS p l=true->Rz (p::l)
 |p,[],_=>by simp [Rz]
 |p,x::r,h=>by
  rw [risingS,aY] at h;obtain ⟨b,f⟩:=h;have b:rz x p=false:=by
   rw [ltCps_eq] at b;simpa [rz] using b
  have c:=vU x r f;refine List.pairwise_cons.mpr ⟨fun z g=>?_,c⟩;rcases List.mem_cons.mp g with e|e
  ·rw [e];exact b
  ·have a:=(List.pairwise_cons.mp c).1 z e;cases q:rz z p with
   |false=>rfl
   |true =>
    cases d:rz p x with
    |true=>rw [tG q d] at a;cases a
    |false=>rw [yU d b,a] at q;cases q
theorem DA:∀ (l:List Str),sortedS l=true->Rz l
 |[],_=>.nil
 |x::r,h=>vU x r h
theorem Ce:∀ {l a:List Str},l.Perm a->Rz l->Rz a->l=a
 |[],a,p,_,_=>by rw [List.nil_perm.mp p]
 |x::r,[],p,_,_=>by have:=p.length_eq;simp at this
 |x::r,y::f,p,h,h'=>by
  obtain ⟨d,i⟩:=List.pairwise_cons.mp h;obtain ⟨b1,b2⟩:=List.pairwise_cons.mp h';have e:x=y:=by
   have g:x∈y::f:=p.mem_iff.mp al;have c:y∈x::r:=p.mem_iff.mpr al;rcases List.mem_cons.mp g with e|e
   ·exact e
   ·rcases List.mem_cons.mp c with b | b
    ·exact b.symm
    ·exact yU (b1 x e) (d y b)
  subst e;rw [Ce (List.Perm.cons_inv p) i b2]
theorem FA (p:l'.Perm l) (h:sortedS l'=true):l'=kP l:=Ce (p.trans (iy l).symm) (DA _ h) (si l)
theorem xp (h:Rz l) (g:l.Nodup):l.Pairwise fun a b=>rz a b=true:=by
 induction l with
 |nil=>exact .nil
 |cons x r d =>
  obtain ⟨e,f⟩:=List.pairwise_cons.mp h;obtain ⟨i,j⟩:=List.nodup_cons.mp g;refine List.pairwise_cons.mpr ⟨fun y c=>?_,d f j⟩;cases q:rz x y with
  |true=>rfl
  |false=>exact absurd (yU q (e y c) ▸ c) i
theorem kQ:∀ {b:List Str}{a:List ac},dH (b.map V.str) a->rO a b
 |[],_,.nil=>.nil
 |x::r,_,.cons h t=>by obtain ⟨c,rfl⟩:=h;exact .cons x c (kQ t)
theorem qp:∀ {b:List Str}{a:List ac},rO a b->dH (b.map V.str) a
 |_,_,.nil=>.nil
 |_,_,.cons x t h=>.cons ⟨t,rfl⟩ (qp h)
theorem g6:∀ {b:List Str}{a:List ac},rO a b->a.length=b.length
 |_,_,.nil=>rfl
 |_,_,.cons x t h=>by simp [g6 h]
theorem zH (h:rO us ss) (i:Nat) (v:ac) (e:us[i]?=some v):∃ x t,ss[i]?=some x/\v=kF x t:=by
 induction h generalizing i with
 |nil=>simp at e
 |cons y t _ a =>
  cases i with
  |zero=>simp at e;exact ⟨y,t,by simp,e.symm⟩
  |succ i=>simp at e;simpa using a i e
theorem vV:∀ {l:List (Int×ac)},(∀ e∈l,uL w e)->rO (l.map (·.2)) (l.map li)
 |[],_=>.nil
 |e::r,h=>by
  obtain ⟨x,a,rfl⟩:=h e al;exact .cons x a (vV fun e he=>h e (ag _ he))
theorem DB (h:rO us ss) (p:us'.Perm us):∃ a,rO us' a/\a.Perm ss:=by
 refine ⟨us'.map strOf,strsAre_map _ fun v b=>h.all v (p.mem_iff.mp b),?_⟩;rw [<- h.strs];exact p.map _
def mL (w:bQ) (a:aj) (b:List Str):HO:=.ext fun h=>mH w h a b
theorem DC (x:mH w h a ss):de P w H h a (mL w a ss) :=
 ⟨x,let ⟨_,_,_,I,_⟩:=x;⟨_,I.at_⟩,fun _ _ y k=>y.keep k⟩
theorem FC (A:X.calm=true):jF X (.type "set") (fun xs H Q=>∃ p d,xs=[.ref p]/\(nl X.K H p (d.map V.str)\/m5 X.K H p (d.map V.str))/\d.length+1<jD/\∀ a,H a=none->Q (.ref a) (upd H a (mL X.w a (dJ [] d)))):=by
 intro g s B H xs L Q I r h;obtain ⟨p,d,rfl,f,x,q⟩:=h;obtain ⟨u,rfl,z⟩:=kM r;cases z;have y:=I.ok.hd A;have fin:∀ (h':bK) (k:Nat),mH X.w h' s.heap.objs.size (dJ [] d)->(∀ b o,s.heap.get? b=some o->h'.get? b=some o)->EP X g B Q (.ref s.heap.objs.size) { s with heap:=h',toks:=k }:=fun h' k E kp =>
  ⟨.ref s.heap.objs.size,_,I.laid (t':=k) kp (ap _) (DC E),rfl,q _ (I.hok.fresh (ap _))⟩
 rcases f with f|f
 ·obtain ⟨m,t,⟨o,n,ho,j,G,l⟩,_⟩:=I.list f;have c:=kQ t;exact vR (Oz (by simpa using y) j ⟨n,l⟩) ho (fun i v e=>zH c i v (by simpa using e)) (by simp [g6 c]) (by simp [g6 c];exact x) fin
 ·obtain ⟨m,t,⟨o,ho,j,n,l⟩,_⟩:=I.tuple f;have c:=kQ t;exact vR (SA (by simpa using y) j ⟨n,l⟩) ho (fun i v e=>zH c i v (by simpa using e)) (by simp [g6 c]) (by simp [g6 c];exact x) fin
theorem xq:jF X (.builtin "sorted") (fun xs H Q=>∃ p a,xs=[.ref p]/\nl X.K H p (a.map V.str)/\a.length<64/\∀ l,H l=none->Q (.ref l) (upd H l (.lst ((kP a).map V.str)))):=by
 intro f s z H xs A Q I r h;obtain ⟨p,a,rfl,n,m,q⟩:=h;obtain ⟨u,rfl,j⟩:=kM r;cases j;obtain ⟨c,v,y,k⟩:=I.list n;have d:=kQ v;refine sorted_strs y.isList d (by rw [g6 d];exact m) fun out x i t g=>?_;obtain ⟨e,he⟩:=sortedAll_at s.heap c out;have kp:∀ b o,s.heap.get? b=some o->(sortedAll s.heap c out).get? b=some o:=fun b o=>sortedAll_old;obtain rfl:=FA t g;refine ⟨.ref (s.heap.objs.size+1),upd H (s.heap.objs.size+1) (.lst ((kP a).map V.str)),I.laid (t':=s.toks) kp (iL _) (show de X.prog X.w _ _ _ (.lst _) from ⟨?_,out.toList,e,qp i,by simpa [jJ] using he⟩),rfl,q _ (I.hok.fresh (iL _))⟩;rw [ah,(iy a).length_eq];have:=k;rw [ah] at this;exact this
theorem yD (N:X.calm=true):jF X (.builtin "sorted") (fun xs H Q=>∃ p a,xs=[.ref p]/\H p=some (mL X.w p a)/\a.length<64/\∀ l,H l=none->Q (.ref l) (upd H l (.lst ((kP a).map V.str)))):=by
 intro A s σ H xs us Q I r h;obtain ⟨p,a,rfl,O,x,q⟩:=h;obtain ⟨u,rfl,K⟩:=kM r;cases K;have P:=I.ok.hd N;obtain ⟨⟨es,ep,t,S,E⟩,_⟩:=(show de X.prog X.w H s.heap p (mL X.w p a) from I.hok p _ O);refine Fz (Fx (by simpa using P) S fun M h' d G U kp sz=>?_);obtain ⟨c,v,B⟩:=DB (vV S.txt) U;have Y:c.length=a.length:=(B.trans E).length_eq;refine ⟨c,v,by rw [g6 v,Y];exact x,fun j f k e g i m L T=>?_⟩;have y:∀ b o,s.heap.get? b=some o->j.get? b=some o:=fun b o e=>g b o (kp b o e);have es':k=kP a:=FA (L.trans (B.trans E)) T;subst es';have fr:=I.hok.fresh sz;have n:de X.prog X.w (upd H h'.objs.size (.lst ((kP a).map V.str))) j h'.objs.size (.lst ((kP a).map V.str)) :=
  ⟨by rw [ah,(iy a).length_eq];exact bL (bw x) (by rw [ik];decide),f,e,qp m,i⟩
 exact ⟨.ref h'.objs.size,_,I.call' (s':={ s with heap:=j,drawn:=d,toks:=G }) (ch:=[]) rfl (Un.laid y sz fr) (I.hok.laid y sz n) I.bare (fun b z=>absurd z (by simp)),rfl,q _ fr⟩
theorem xY {prog:bu}{w:bQ}{B:cf}{bs:List Bool}{a:List ac} (r:dH (bs.map V.bl) a):TruthOf prog w B (fun i v=>a.toArray[i]?=some v) (fun i=>bs.getD i false):=by
 intro i v s Q E c b;have c:a[i]?=some v:=by simpa using c
 have f:=r.length;rw [ah] at f;obtain ⟨h,_⟩:=List.getElem?_eq_some_iff.mp c;have e:bs[i]?=some bs[i]:=aE (by omega);obtain ⟨u,d,g⟩:=r.get (i:=i) (x:=.bl bs[i]) (by rw [aF,e];rfl);rw [c] at d;cases d;cases g;have b:Q (bs.getD i false) s:=b;rw [gE,e] at b;exact dC b
theorem OE (bs:List Bool):(bE bs.length).all (fun i=>bs.getD i false)=bs.all id:=by
 rw [iU,cy,cy];constructor
 ·intro h b c;obtain ⟨i,a,rfl⟩:=fR c;have:=h i (List.mem_range.mpr a);simpa [gE,a] using this
 ·intro h i a;have a:=List.mem_range.mp a;have:=h bs[i] (io a);simpa [gE,a] using this
theorem OF (bs:List Bool):(bE bs.length).any (fun i=>bs.getD i false)=bs.any id:=by
 rw [iU,mn,mn];constructor
 ·rintro ⟨i,a,h⟩;have a:=List.mem_range.mp a;exact ⟨bs[i],io a,by simpa [gE,a] using h⟩
 ·rintro ⟨b,c,h⟩;obtain ⟨i,a,rfl⟩:=fR c;exact ⟨i,List.mem_range.mpr a,by simpa [gE,a] using h⟩
theorem zI (j:X.calm=true):jF X (.builtin "all") (fun xs H Q=>∃ p,∃ bs:List Bool,xs=[.ref p]/\nl X.K H p (bs.map V.bl)/\Q (.bl (bs.all id)) H):=by
 intro d s n H xs t Q I r h;obtain ⟨p,bs,rfl,k,q⟩:=h;obtain ⟨u,rfl,i⟩:=kM r;cases i;obtain ⟨a,f,c,m⟩:=I.list k;have l:a.toArray.size=bs.length:=by have:=f.length;simp at this ⊢;omega
 obtain ⟨o,ho,v⟩:=c.isList;refine call_all_walk (mz c.isList ⟨_,_,_,_,_,_,_,rfl,B4 (by simpa using I.ok.hd j) _ p (aB (aq ho)) a.toArray,⟨⟨_,aw _ rfl,rfl,rfl⟩,c.isList.push _⟩,xY f,fun h' g kp=>?_⟩);rw [l,OE];refine ⟨.bl _,H,I.kept (t':=g) fun b o e=>kp b o ?_ (aa _ e),rfl,q⟩;simp only [c9];exact aB (aq e)
theorem zJ (j:X.calm=true):jF X (.builtin "any") (fun xs H Q=>∃ p,∃ bs:List Bool,xs=[.ref p]/\nl X.K H p (bs.map V.bl)/\Q (.bl (bs.any id)) H):=by
 intro d s n H xs t Q I r h;obtain ⟨p,bs,rfl,k,q⟩:=h;obtain ⟨u,rfl,i⟩:=kM r;cases i;obtain ⟨a,f,c,m⟩:=I.list k;have l:a.toArray.size=bs.length:=by have:=f.length;simp at this ⊢;omega
 obtain ⟨o,ho,v⟩:=c.isList;refine call_any_walk (mz c.isList ⟨_,_,_,_,_,_,_,rfl,B4 (by simpa using I.ok.hd j) _ p (aB (aq ho)) a.toArray,⟨⟨_,aw _ rfl,rfl,rfl⟩,c.isList.push _⟩,xY f,fun h' g kp=>?_⟩);rw [l,OF];refine ⟨.bl _,H,I.kept (t':=g) fun b o e=>kp b o ?_ (aa _ e),rfl,q⟩;simp only [c9];exact aB (aq e)
theorem Mb:rK X (bG .LtE) (fun x y H Q=>∃ i j,x=.str i/\y=.str j/\Q (.bl (!decide (j.cps.toList<i.cps.toList))) H):=by
 intro a s d H x y v u Q I b c h;obtain ⟨i,j,rfl,rfl,q⟩:=h;obtain ⟨t,rfl⟩:=b;obtain ⟨t',rfl⟩:=c;exact PySem.P.le_str (iw I q rfl)
def XH (x:Str):It:=⟨fun i _=>i<x.cps.size,fun i H v H'=>H'=H/\∃ c,x.cps[i]?=some c/\v=.str ⟨#[c]⟩,fun i _=>x.cps.size<=i⟩
theorem OG {P:bu}{w:bQ}{K:a8}{tg:bZ} (x:Str) (t:Tok) (it:aj):zz P w K tg (XH x) [it] it (fun i h=>h.IsStrIter it (j7 x) x t i) where
 mem:=by simp
 obj:=fun i h st b j=>by
  obtain rfl:b=it:=by simpa using j
  obtain ⟨o,e,c,d⟩:=st;exact ⟨o,e,fun v z=>by rw [d] at z;cases z⟩
 keep:=fun i h h' st k=>let ⟨o,e,r⟩:=st;⟨o,k it (by simp) o e,r⟩
 item:=by
  intro X Y U S T i a s G H E I L st m;subst Y U S;have m:i<x.cps.size:=m;obtain ⟨Q,O,f2,N,B,M⟩:=L it (by simp);have n:x.cps[i]?=some x.cps[i]:=getElem?_pos _ i m;have go:∀ (h':bK) (y g:Nat),h'.IsStrIter it (j7 x) x t (i+1)->bI it s.heap h'->∃ u,some (kF ⟨#[x.cps[i]]⟩ y)=some u /\
    ar (av X.prog X.w) X.A (ii tg (.ref it) u) (fun _ s2=>∃ v H',bH X a G H' s2/\dI v u/\(XH x).yld i H v H'/\s2.heap.IsStrIter it (j7 x) x t (i+1)/\∀ b∈[it],H' b=none) E { s with heap:=h',toks:=g }:=fun h' y g f p=>by
   have I1:bH X a G H { s with heap:=h',toks:=g }:=I.turned (fun b o j e=>(p.2 b j).trans e) Q O N B M;refine ⟨_,rfl,?_⟩;have q:∃ v H',bH X a G H' { s with heap:=h',toks:=g }/\dI v (kF ⟨#[x.cps[i]]⟩ y)/\(XH x).yld i H v H'/\h'.IsStrIter it (j7 x) x t (i+1)/\∀ b∈[it],H' b=none :=
    ⟨.str ⟨#[x.cps[i]]⟩,H,I1,⟨y,rfl⟩,⟨rfl,_,n,rfl⟩,f,fun b j=>(L b j).1⟩
   unfold ii;cases tg<;>exact a9 q
  cases l:x.cps.all (·<128)
  ·have ty:j7 x="str_iterator":=by unfold j7;rw [l];rfl
   rw [ty] at st;exact wpAny_pyNext_wide_item st n fun h' f p=>go h' _ _ (by rw [ty];exact f) p
  ·have ty:j7 x="str_ascii_iterator":=by unfold j7;rw [l];rfl
   rw [ty] at st;exact wpAny_pyNext_ascii_item st n fun h' f p=>go h' _ _ (by rw [ty];exact f) p
 done:=by
  intro X Y U S T i a s G H E I L st m;subst Y U S;have m:x.cps.size<=i:=m;obtain ⟨Q,O,f2,N,B,M⟩:=L it (by simp);have n:x.cps[i]?=none:=getElem?_neg _ i (Nat.not_lt.mpr m);unfold j7 at st;cases l:x.cps.all (·<128)
  ·rw [l] at st;exact wpAny_pyNext_wide_end (I.ok.hd T) st n fun h' eb=>⟨rfl,I.turned (t':=s.toks) (fun b o j e=>eb b o j e) Q O N B M⟩
  ·rw [l] at st;exact wpAny_pyNext_ascii_end (I.ok.hd T) st n fun h' eb=>⟨rfl,I.turned (t':=s.toks) (fun b o j e=>eb b o j e) Q O N B M⟩
 self:=fun _ _ _ _ _ st h=>by
  unfold j7 at st;cases l:x.cps.all (·<128)
  ·rw [l] at st;exact wpAny_pyIter_striter_wide st h
  ·rw [l] at st;exact wpAny_pyIter_striter_ascii st h
def Z_ (tl:TE):TI:=fun a H R=>tl a H fun v b=>∃ x,v=.str x/\R (XH x) b
theorem OH {X:Cx}{tg l:bZ}{tl:TE} (i:PE X l tl):PI X tg l (Z_ tl):=by
 intro a s j H R I h;refine fZ (i a s j H _ I h) fun v c d=>?_;obtain ⟨y,g,f,n,k⟩:=d;obtain ⟨x,rfl,q⟩:=k;obtain ⟨t,rfl⟩:=n;refine wpAny_pyIter_strU ?_;refine ⟨c.heap.objs.size,[c.heap.objs.size],_,_,g,rfl,f.kept (t':=c.toks) fun b o e=>aa _ e,OG x t _,⟨_,aw _ rfl,rfl,rfl⟩,fun b m=>?_,q⟩;obtain rfl:b=c.heap.objs.size:=by simpa using m
 exact f.fpOk (ap _) (f.hok.fresh (ap _))
theorem bH.turnedL {t':Nat}{ch:List aj} (I:bH X pins σ H s) (k:∀ b o,b∉ch->s.heap.get? b=some o->h'.get? b=some o) (d:∀ b∈ch,se X pins H b):bH X pins σ H { s with heap:=h',toks:=t' }:=by
 have nt:∀ b u,H b=some u->b∉ch:=fun b u e z=>by rw [(d b z).1] at e;cases e
 refine I.step (g':=s.gens) (d':=s.drawn) (ch:=ch) (fun b h=>?_) (fun b o _ _ a e _=>k b o a e) (fun b o _ _ a e _=>⟨o.slots,k b o a e⟩) (fun _ _ _ _ n=>n)
  (fun b o a e=>⟨o,k b o a e⟩) (fun _ _ e=>e) (fun _ _ _ e=>e) (fun b w e=>⟨#[],by rw [e];simp⟩) (fun m l=>?_) (fun b u e=>?_) I.bare
 ·obtain ⟨x,p,t,j,f,i⟩:=d b h;exact ⟨j,p,f,i⟩
 ·obtain ⟨o,es,g,ho,r⟩:=l;exact ⟨o,es,g,k _ o (fun z=>(d _ z).f1 rfl) ho,r⟩
 ·refine (I.hok b u e).stay (fun c v a q=>k c v ?_ q) (fun _ q=>q) fun _ _ q=>q;rcases a with z|z
  ·rw [z];exact nt b u e
  ·exact nt c _ z
theorem bH.track (I:bH X pins σ H s) (f:se X pins H D) (new:de X.prog X.w (upd H D ho) s.heap D ho):bH X pins σ (upd H D ho) s:=by
 obtain ⟨a,l,p,i,c,h⟩:=f;have k:bH X pins σ (upd H D ho) { s with heap:=s.heap,gens:=s.gens,drawn:=s.drawn,toks:=s.toks }:=I.step (ch:=[D]) (fun b g=>by
   obtain rfl:b=D:=by simpa using g
   exact ⟨i,l,c,h⟩) (fun b o _ _ _ e _=>e) (fun b o _ _ _ e _=>⟨o.slots,e⟩) (fun b o d e n=>by rw [aV (fun z=>d (by simp [z]))];exact n) (fun b o _ e=>⟨o,e⟩)
  (fun b xs e=>by rw [aV (bh e a)];exact e) (fun b o xs e=>by rw [aV (bh e a)];exact e) (fun b q e=>⟨#[],by rw [aV (bh e a),e];simp⟩) (fun m j=>j) (tx I.hok a new) I.bare
 exact k
theorem vW (c:s.heap.IsTupleIter it l i) (tl:s.heap.IsTuple l items) (g:items[i]?=some x)
  (q:∀ h',h'.IsTupleIter it l (i+1)->bI it s.heap h'->Q x { s with heap:=h' }):ar (av prog w) A (cO (.ref it)) Q E s:=by
 obtain ⟨j,b,e,a⟩:=id c;obtain ⟨h,d,_,nt,f⟩:=tl;unfold cO;refine a7 (cx (name:=i4 "__next__") c.typeIs jM ?_);refine bO jM c.typeIs EN ?_ (De _);show ar _ _ (Ig (.ref it) 0 >>= _) _ _ s;refine a7 (dZ b a (x:=.ref l) rfl ?_);show ar _ _ (if (bf l==e6)=true then _ else _) _ _ s;rw [if_neg (fun z:(bf l==e6)=true=>a_ z)];show ar _ _ (Ig (.ref it) 1 >>= _) _ _ s;refine a7 (dZ b a (x:=.int i 0) rfl ?_);show ar _ _ (Nq (.ref l) >>= _) _ _ s;refine a7 (eW d f ?_);simp only [lw,g];refine a7 (gZ b a (by simp) (a9 ⟨x,rfl,a9 (q _ ?_ (bP ..))⟩));refine ⟨_,gI _ b (Obj.isFreed_of_fields (NJ a _)),(Obj.cls_mapFields ..).trans e,?_⟩;rw [NJ a];simp [cq]
theorem vX (g:A.handled=none) (d:s.heap.IsTupleIter it l i) (tl:s.heap.IsTuple l items) (h:items[i]?=none)
  (q:∀ h' e,JQ it s.heap h'->(∃ o,h'.get? e=some o/\o.cls=.type "StopIteration")->E (.ref e) { s with heap:=h' }):ar (av prog w) A (cO (.ref it)) Q E s:=by
 obtain ⟨n,b,k,c⟩:=id d;obtain ⟨p,f,_,nt,j⟩:=tl;unfold cO;refine a7 (cx (name:=i4 "__next__") d.typeIs jM ?_);refine bO jM d.typeIs EN ?_ (De _);show ar _ _ (Ig (.ref it) 0 >>= _) _ _ s;refine a7 (dZ b c (x:=.ref l) rfl ?_);show ar _ _ (if (bf l==e6)=true then _ else _) _ _ s;rw [if_neg (fun z:(bf l==e6)=true=>a_ z)];show ar _ _ (Ig (.ref it) 1 >>= _) _ _ s;refine a7 (dZ b c (x:=.int i 0) rfl ?_);show ar _ _ (Nq (.ref l) >>= _) _ _ s;refine a7 (eW f j ?_);simp only [lw,h];refine a7 (cW (a7 (gZ b c (by simp) ?_)));show ar _ _ (uG (.type "StopIteration") [] >>= _) _ _ _;refine a7 ?_;simp only [uG,RK];refine a7 (bS ?_ (by size_fits));refine a7 (m:=mF _ _) (eK (a:=e6) ?_ ?_)
 ·first
   |rfl
   |(simp only [mF];rfl)
 refine bS ?_ (by size_fits);simp only [uc];refine a7 (LG ?_);rw [show A.in1.handled=none from g];refine a7 (a9 (RL ?_));exact q _ _ (((bP ..).extBut.push _).push _) ⟨_,aw _ rfl,rfl⟩
theorem Mc (d:A.handled=none) (it l:aj) (a:l≠it) (items:Array ac) :
  Draws prog w A it [it,l] items.size (fun i v=>items[i]?=some v) (fun i h=>h.IsTupleIter it l i/\h.IsTuple l items) where
 live:=fun i h st=>let ⟨o,e,_⟩:=st.1;⟨o,e⟩
 frame:=fun i h h' st k=>⟨let ⟨o,e,r⟩:=st.1;⟨o,k it (by simp) o e,r⟩,let ⟨o,e,r⟩:=st.2;⟨o,k l (by simp) o e,r⟩⟩
 item:=fun i s Q E b st q=>vW st.1 st.2 (x:=items[i]) (by simp [b]) fun h' t' c=>q _ h' s.toks (by simp [b]) ⟨t',st.2.extBut c.extBut a⟩ c
 done:=fun s Q E st q=>vX d st.1 st.2 (by simp) q
theorem zK (l:aj) (items:Array ac) (n:Nat) (b:Option aj) (j:Array (Option ac)) :
  Meets (h_.«enumerate.__new__» ⟨[.type "enumerate",.ref l],[]⟩) (fun _ R s=>s.heap.get? l=some { cls:=.type "tuple",dict:=b,data:=.seq items n,slots:=j } /\
   R (.ok (.ret (.ref (s.heap.push { cls:=.type "tuple_iterator",data:=.fields #[.ref l,.int 0 0] }).objs.size)))
    { s with heap:=(s.heap.push { cls:=.type "tuple_iterator",data:=.fields #[.ref l,.int 0 0] }).push { cls:=.type "enumerate",data:=.fields #[.none,.bool false,.ref s.heap.objs.size,cq 0,.none,.none] } }) :=
 .of_wp fun prog w A R s h=>by
  obtain ⟨k,g,d,m,i⟩:=s;obtain ⟨a,h⟩:=h;have f:=PySem.sub_enumerate;have e:Hy (Hz ⟨k,g,d,m,i⟩) l items:=⟨_,a,rfl,n,rfl⟩;wp_walk using gN a;refine wpAny_stack_any fun st=>a9 ?_;split
  ·rename_i c _ _ _ _ _
   cases (c==jq "enumerate")
   ·wp_walk using gN a,gX e;exact ⟨_,rfl,h⟩
   ·wp_walk using gN a,gX e;exact ⟨_,rfl,h⟩
  ·wp_walk using gN a,gX e;exact ⟨_,rfl,h⟩
theorem Bm (p:s.heap.IsTuple l items)
  (h:∀ h',IsEnum h' (s.heap.objs.size+1) s.heap.objs.size 0 .none->h'.IsTupleIter s.heap.objs.size l 0->(∀ b o,s.heap.get? b=some o->h'.get? b=some o)->h'.objs.size=s.heap.objs.size+2 ->
   Q (.ref (s.heap.objs.size+1)) { s with heap:=h' }):ar (av prog w) A (call (.type "enumerate") [.ref l]) Q E s:=by
 obtain ⟨⟨c,g,j,m⟩,f,i,n,k⟩:=p;obtain rfl:c=.type "tuple":=i;obtain rfl:j=.seq items n:=k;refine callType_new F.called_enumerate (by decide) (F.typeCall_enumerate_1 _) (F.newCall_enumerate_1 _) (fun a=>F.args_object_init_2 a _) F.entry_enumerate_new (zK l items n g m) ⟨f,?_⟩;have d:(s.heap.push { cls:=.type "tuple_iterator",data:=.fields #[.ref l,.int 0 0] }).objs.size=s.heap.objs.size+1:=cm ..;show _/\_;rw [d];have he:IsEnum ((s.heap.push { cls:=.type "tuple_iterator",data:=.fields #[.ref l,.int 0 0] }).push { cls:=.type "enumerate",data:=.fields #[.none,.bool false,.ref s.heap.objs.size,cq 0,.none,.none] }) (s.heap.objs.size+1) s.heap.objs.size 0 .none:=by
  have q:=aw (s.heap.push { cls:=.type "tuple_iterator",data:=.fields #[.ref l,.int 0 0] }) (o:={ cls:=.type "enumerate",data:=.fields #[.none,.bool false,.ref s.heap.objs.size,cq 0,.none,.none] }) rfl;rw [d] at q;exact q
 exact ⟨⟨_,he,rfl⟩,h _ he ⟨_,aa _ (aw _ rfl),rfl,rfl⟩ (fun b o e=>aa _ (aa _ e)) (by rw [cm,d])⟩
def Ite (K:a8) (a:aj):It :=
 ⟨fun i H=>∃ xs x,m5 K H a xs/\xs[i]?=some x,fun i H v H'=>∃ p,H p=none/\v=.ref p/\∀ xs,m5 K H a xs->∃ x,xs[i]?=some x/\H'=upd H p (.tup [.int i,x]),fun i H=>∃ xs,m5 K H a xs/\xs.length<=i⟩
theorem Md {P:bu}{w:bQ}{K:a8}{A:List bZ}{x1}{a6:Pos} (a e it:aj) (t:e≠it):zz P w K (.Tuple A x1 a6) (Ite K a) [e,it] e (fun i h=>(∃ f,IsEnum h e it i f)/\h.IsTupleIter it a i) where
 mem:=by simp
 obj:=fun i h st b c=>by
  simp only [aN,aZ,or_false] at c;rcases c with rfl|rfl
  ·obtain ⟨⟨f,q⟩,_⟩:=st;exact ⟨_,q,fun v z=>by cases z⟩
  ·obtain ⟨_,o,q,_,d⟩:=st;exact ⟨o,q,fun v z=>by rw [d] at z;cases z⟩
 keep:=fun i h h' st k=>⟨let ⟨f,q⟩:=st.1;⟨f,k e (by simp) _ q⟩,let ⟨o,q,r⟩:=st.2;⟨o,k it (by simp) o q,r⟩⟩
 item:=by
  intro X hP hw Y hc i m s σ H E I O st hg;subst hP hw Y;obtain ⟨xs,x,N,hx⟩:=hg;obtain ⟨g,rv,p,hz⟩:=I.tuple N;obtain ⟨u,hu,ru⟩:=rv.get hx;obtain ⟨⟨f,he⟩,j⟩:=st;have B:=j;obtain ⟨oi,ei,_⟩:=B;have a1:a≠it:=fun z=>by
   obtain ⟨o1,y,M,_⟩:=p;obtain ⟨o2,U,c2,_⟩:=j;rw [z,U] at y;cases y;rw [c2] at M;exact absurd (JR M) (by decide)
  have a2:a≠e:=fun z=>by
   obtain ⟨o1,y,M,_⟩:=p;rw [z,he] at y;cases y;exact absurd (JR (show jq "enumerate"=jq "tuple" from M)) (by decide)
  have a3:i<g.toArray.size:=by simp;exact (List.getElem?_eq_some_iff.mp hu).1
  have G:=aq he;refine wpAny_pyNext_enum_itemD (Mc (by simpa using I.ok.hd hc) it a a1 g.toArray) he ⟨j,p⟩ a3 t (by simp [t,cV a2]) ?_;intro x' h1 Q a4 eo a0 tup sz k1;have l:g[i]?=some x':=by simpa using a4
  rw [hu] at l;cases l;refine ⟨_,rfl,Ih eo fun h2 U n=>?_⟩;have S:s.heap.objs.size≠e:=dv G;have I2:bH X m σ H { s with heap:=h2,toks:=Q+1 }:=I.turnedL (ch:=[e,it]) (fun b o c q=>by
   simp only [aN,aZ,or_false,not_or] at c;exact (n.2 b c.1).trans (k1 b o c.1 c.2 q)) O
  have fT:=I.fpOk (H':=H) (ap _) (I.hok.fresh (ap _));have L:h2.get? s.heap.objs.size=some { cls:=.type "tuple",data:=.seq #[.int i Q,u] }:=(n.2 _ S).trans tup;have I3:=I2.track (ho:=.tup [.int i,x]) fT ⟨by show 2<=sizeLine;decide,[.int i Q,u],.cons ⟨Q,rfl⟩ (.cons ru .nil),⟨_,L,rfl,0,rfl⟩⟩;refine ⟨.ref s.heap.objs.size,_,I3,rfl,⟨_,fT.1,rfl,fun ys hy=>?_⟩,⟨⟨u,?_⟩,?_⟩,fun b c=>?_⟩
  ·rw [I.tuple_inj hy N];exact ⟨x,hx,rfl⟩
  ·have:(((i+1:Nat):Int))=(i:Int)+1:=by omega
   rw [this];exact U
  ·obtain ⟨o,q,r⟩:=a0.1;exact ⟨o,(n.2 it (cV t)).trans q,r⟩
  ·rw [aV]
   ·exact (O b c).1
   ·simp only [aN,aZ,or_false] at c;rcases c with z|z
    ·rw [z];exact aB G
    ·rw [z];exact aB (aq ei)
 done:=by
  intro X hP hw Y hc i m s σ H E I O st hg;subst hP hw Y;obtain ⟨xs,N,hx⟩:=hg;obtain ⟨g,rv,p,hz⟩:=I.tuple N;obtain ⟨⟨f,he⟩,j⟩:=st;have hl:=rv.length;have hT:s.TypeIs (.ref e) "enumerate":=⟨_,he,rfl⟩;unfold kH;refine a7 (iu (cx (name:=i4 "__next__") hT Nu ?_));refine bO Nu hT F.entry_enumerate_next ?_ (F.args_enumerate_next_1 _);show ar _ _ (Ig (.ref e) 2 >>= _) _ _ _;refine a7 (dZ he rfl (x:=.ref it) rfl ?_);refine a7 (vX (by simpa using I.ok.hd hc) j (show s.heap.IsTuple a g.toArray from p) (by simp;omega) fun h' z eb a5=>?_);obtain ⟨o,ho,b0⟩:=a5;refine a7 (gO (T:="StopIteration") (b:=true) ⟨o,ho,b0⟩ wY ?_);exact a9 ⟨rfl,I.turnedL (t':=s.toks) (ch:=[e,it]) (fun b o c q=>eb b o (by
   simp only [aN,aZ,or_false,not_or] at c;exact c.2) q) O⟩
 self:=fun _ _ _ _ _ st h=>let ⟨⟨_,q⟩,_⟩:=st;rP q h
def XI (K:a8) (d:TA):TI:=fun c H R=>d c H fun e b=>∃ a xs,e=[.ref a]/\m5 K b a xs/\R (Ite K a) b
theorem SB {X:Cx}{g:List bZ}{x1}{f p i:Pos}{a:bZ}{t:TA} (M:Gl X "enumerate") (B:X.mg "enumerate"=none) (x:PA X [a] t) (hs:az [a] X.env=[(false,dO a X.env)]:=by rfl) :
  PI X (.Tuple g x1 f) (.Call (.Name "enumerate" p) [a] [] i) (XI X.K t):=by
 intro c s l H R I h;refine Call_ (uJ I M B boot_enumerate (fu (fZ (x i c s l H _ I h) fun P d ⟨Q,k,e,G,A⟩=>?_) hs rfl));obtain ⟨n,xs,rfl,y,q⟩:=A;obtain ⟨u,rfl,v⟩:=kM G;cases v;obtain ⟨j,O,w,N⟩:=e.tuple y;refine Bm (show d.heap.IsTuple n j.toArray from w) fun h' o L kp sz=>?_;refine rP o ?_;have E:bH X c l k { d with heap:=h' }:=e.kept (t':=d.toks) kp;refine ⟨d.heap.objs.size+1,[d.heap.objs.size+1,d.heap.objs.size],_,_,k,rfl,E,Md n _ _ (dv (eu _)),⟨⟨.none,o⟩,L⟩,fun b m=>?_,q⟩;simp only [aN,aZ,or_false] at m;rcases m with z|z
 ·rw [z];exact e.fpOk (iL _) (e.hok.fresh (iL _))
 ·rw [z];exact e.fpOk (ap _) (e.hok.fresh (ap _))
section
variable {prog:bu}{w:bQ}{A:cf}{E:ac->ao->Prop}{s:ao}{z TI TO i1 i2 l1 l2:aj}{k1 k2:Nat}{xs ys:Array ac}{x y a b:ac}
theorem k7 (t:h.IsTupleIter it l k) (d:bI c h h') (ne:it≠c):h'.IsTupleIter it l k:=t.extBut d.extBut ne
theorem qq (t:h.IsTuple l xs) (d:bI c h h') (ne:l≠c):h'.IsTuple l xs:=t.extBut d.extBut ne
theorem OI {Q:ac->ao->Prop} (D:RM z TI TO i1 i2 l1 l2) (g:wZ s.heap z TI TO .none) (pa:lA s.heap TI (.ref i1) (.ref i2)) (Y:lA s.heap TO a b)
  (u1:s.heap.IsTupleIter i1 l1 k1) (X:s.heap.IsTupleIter i2 l2 k2) (v1:s.heap.IsTuple l1 xs) (v2:s.heap.IsTuple l2 ys) (hx:xs[k1]?=some x) (O:ys[k2]?=some y)
  (q:∀ h',wZ h' z TI TO (cq s.heap.objs.size)->lA h' TO x y->h'.IsTupleIter i1 l1 (k1+1)->h'.IsTupleIter i2 l2 (k2+1)->lA h' s.heap.objs.size x y ->
   (∀ c o,c≠z->c≠TO->c≠i1->c≠i2->s.heap.get? c=some o->h'.get? c=some o)->Q (.ref s.heap.objs.size) { s with heap:=h' }) :
  ar (av prog w) A (h_.«zip.__next__» ⟨[.ref z],[]⟩) (fun fin s'=>∃ v,fin=.done (.ret v)/\Q v s') E s:=by
 show ar _ _ (Ig (.ref z) 2 >>= _) _ _ _;refine a7 (dZ g rfl (x:=.bool false) rfl ?_);show ar _ _ (Ig (.ref z) 3 >>= _) _ _ _;refine a7 (dZ g rfl (x:=.ref TI) rfl ?_);refine a7 (eW pa rfl ?_);show ar _ _ (fc (.ref z) >>= _) _ _ _;refine a7 ?_;unfold fc;refine a7 (dZ g rfl (x:=.none) rfl (a9 ?_));simp only [if_true];refine a7 (cW ?_);refine a7 (dZ g rfl (x:=.ref TO) rfl ?_);refine a7 (jh g (by simp) fun g1 p b1=>?_);replace p:wZ g1 z TI TO .ellipsis:=p;refine a7 ?_;simp only [yO,RN,kw,o9];refine a7 (a7 (yP ?_));show ar _ _ (cO (.ref i1) >>= _) _ _ _;refine a7 (vW (k7 u1 b1 D.i1z) (qq v1 b1 D.l1z) hx fun g2 N b2=>a9 ?_);have B:lA g2 TO a b:=b2.extBut _ _ D.TOi1 (b1.extBut _ _ D.TOz Y);refine a7 (eW B rfl (a7 (w_ B fun S m b3=>?_)));replace m:lA S TO x b:=m;refine a7 (RO (a9 (a7 (a7 (yP ?_)))));show ar _ _ (cO (.ref i2) >>= _) _ _ _;refine a7 (vW (k7 (k7 (k7 X b1 D.i2z) b2 D.i12.symm) b3 D.TOi2.symm) (qq (qq (qq v2 b1 D.l2z) b2 D.l2i1) b3 D.l2TO) O fun g4 T b4=>a9 ?_);have G:lA g4 TO x b:=b4.extBut _ _ D.TOi2 m;refine a7 (eW G rfl (a7 (w_ G fun d l b5=>?_)));replace l:lA d TO x y:=l;refine a7 (RO (a9 (a9 ?_)));refine a7 (eW l rfl (a7 (wpAny_newTuple ?_)));have sz:d.objs.size=s.heap.objs.size:=by rw [b5.1,b4.1,b3.1,b2.1,b1.1]
 have M:wZ d z TI TO .ellipsis:=b5.extBut _ _ D.TOz.symm (b4.extBut _ _ D.i2z.symm (b3.extBut _ _ D.TOz.symm (b2.extBut _ _ D.i1z.symm p)));have k5:∀ c o,c≠z->c≠TO->c≠i1->c≠i2->s.heap.get? c=some o->d.get? c=some o:=fun c o f i u n e =>
  b5.extBut _ _ i (b4.extBut _ _ n (b3.extBut _ _ i (b2.extBut _ _ u (b1.extBut _ _ f e))))
 have U:d.IsTupleIter i1 l1 (k1+1):=k7 (k7 (k7 N b3 D.TOi1.symm) b4 D.i12) b5 D.TOi1.symm;have P:d.IsTupleIter i2 l2 (k2+1):=k7 T b5 D.TOi2.symm;have K:z<d.objs.size:=aq M;show ar _ _ (oh (.ref z) (.ref d.objs.size) >>= _) _ _ _;refine a7 ?_;unfold oh;have z6:wZ (d.push { cls:=.type "tuple",data:=.seq #[x,y] }) z TI TO .ellipsis:=aa _ M;refine a7 (jh z6 (by simp) fun g7 t I=>?_);replace t:wZ g7 z TI TO (cq d.objs.size):=t;refine jh t (by simp) fun j k L=>?_;replace k:wZ j z TI TO (cq d.objs.size):=k;have h:∀ c o,c≠z->d.get? c=some o->j.get? c=some o:=fun c o f e=>L.extBut _ _ f (I.extBut _ _ f (aa _ e));have H:lA j d.objs.size x y:=L.extBut _ _ (dv K) (I.extBut _ _ (dv K) (aw _ rfl));rw [sz] at k H;refine a9 ⟨_,rfl,?_⟩;show Q (.ref d.objs.size) _;rw [sz];exact q j k (h _ _ D.TOz l) (let ⟨o,e,r⟩:=U;⟨o,h _ o D.i1z e,r⟩) (let ⟨o,e,r⟩:=P;⟨o,h _ o D.i2z e,r⟩) H fun c o f i u n e=>h c o f (k5 c o f i u n e)
theorem OJ (G:A.handled=none) (D:RM z TI TO i1 i2 l1 l2) (h:wZ s.heap z TI TO .none) (pa:lA s.heap TI (.ref i1) (.ref i2)) (P:lA s.heap TO a b)
  (I:s.heap.IsTupleIter i1 l1 k1) (O:s.heap.IsTupleIter i2 l2 k2) (K:s.heap.IsTuple l1 xs) (T:s.heap.IsTuple l2 ys) (g:xs[k1]?=none\/ys[k2]?=none)
  (q:∀ h' e,(∀ c o,c≠z->c≠TO->c≠i1->c≠i2->s.heap.get? c=some o->h'.get? c=some o)->(∃ o,h'.get? e=some o/\o.cls=.type "StopIteration")->E (.ref e) { s with heap:=h' }) :
  ar (av prog w) A (h_.«zip.__next__» ⟨[.ref z],[]⟩) Q E s:=by
 show ar _ _ (Ig (.ref z) 2 >>= _) _ _ _;refine a7 (dZ h rfl (x:=.bool false) rfl ?_);show ar _ _ (Ig (.ref z) 3 >>= _) _ _ _;refine a7 (dZ h rfl (x:=.ref TI) rfl ?_);refine a7 (eW pa rfl ?_);show ar _ _ (fc (.ref z) >>= _) _ _ _;refine a7 ?_;unfold fc;refine a7 (dZ h rfl (x:=.none) rfl (a9 ?_));simp only [if_true];refine a7 (cW ?_);refine a7 (dZ h rfl (x:=.ref TO) rfl ?_);refine a7 (jh h (by simp) fun S j b1=>?_);replace j:wZ S z TI TO .ellipsis:=j;refine a7 ?_;simp only [yO,RN,kw,o9];refine a7 (a7 (yP ?_));show ar _ _ (cO (.ref i1) >>= _) _ _ _;cases p:xs[k1]? with
 |none =>
  refine a7 (vX G (k7 I b1 D.i1z) (qq K b1 D.l1z) p fun g2 e b2 he=>?_);obtain ⟨k,d,f⟩:=he;have H:wZ g2 z TI TO .ellipsis:=b2 _ _ D.i1z.symm j;have l:e≠z:=fun n=>by subst n;rw [H] at d;cases d;simp at f
  refine jh H (by simp) fun v _ b3=>q v e (fun c o i _ t _ m=>b3.extBut _ _ i (b2 _ _ t (b1.extBut _ _ i m))) ⟨k,b3.extBut _ _ l d,f⟩
 |some x =>
  have L:ys[k2]?=none:=g.resolve_left fun n=>by rw [p] at n;cases n
  refine a7 (vW (k7 I b1 D.i1z) (qq K b1 D.l1z) p fun g2 Y b2=>a9 ?_);have u:lA g2 TO a b:=b2.extBut _ _ D.TOi1 (b1.extBut _ _ D.TOz P);refine a7 (eW u rfl (a7 (w_ u fun v p3 b3=>?_)));refine a7 (RO (a9 (a7 (a7 (yP ?_)))));show ar _ _ (cO (.ref i2) >>= _) _ _ _;refine a7 (vX G (k7 (k7 (k7 O b1 D.i2z) b2 D.i12.symm) b3 D.TOi2.symm) (qq (qq (qq T b1 D.l2z) b2 D.l2i1) b3 D.l2TO) L fun U e b4 he=>?_);obtain ⟨k,d,f⟩:=he;have B:wZ U z TI TO .ellipsis:=b4 _ _ D.i2z.symm (b3.extBut _ _ D.TOz.symm (b2.extBut _ _ D.i1z.symm j));have l:e≠z:=fun n=>by subst n;rw [B] at d;cases d;simp at f
  refine jh B (by simp) fun X _ b5=>q X e (fun c o i N t M m=>b5.extBut _ _ i (b4 _ _ M (b3.extBut _ _ N (b2.extBut _ _ t (b1.extBut _ _ i m))))) ⟨k,b5.extBut _ _ l d,f⟩
end
abbrev Zd (h:bK) (a:aj):bK:=h.push { cls:=.type "tuple_iterator",data:=.fields #[.ref a,.int 0 0] }
abbrev Ze (h:bK) (b a:aj):bK:=(Zd h b).push { cls:=.type "tuple_iterator",data:=.fields #[.ref a,.int 0 0] }
abbrev Zf (h:bK) (a b:aj):bK:=(Ze h a b).push { cls:=.type "tuple",data:=.seq #[.ref h.objs.size,.ref (Zd h a).objs.size] }
abbrev Zg (h:bK) (b a:aj):bK:=(Zf h b a).push { cls:=.type "tuple",data:=.seq #[.none,.none] }
abbrev X8 (h:bK) (b a:aj):bK:=(Zg h b a).push { cls:=.type "zip",data:=.fields #[.none,.bool false,.bool false,.ref (Ze h b a).objs.size,.ref (Zf h b a).objs.size] }
theorem Bo (a b:aj) (xs ys:Array ac) :
  Meets (h_.«zip.__new__» ⟨[.type "zip",.ref a,.ref b],[]⟩) (fun _ R s=>s.heap.IsTuple a xs/\s.heap.IsTuple b ys/\R (.ok (.ret (.ref (Zg s.heap a b).objs.size))) { s with heap:=X8 s.heap a b }) :=
 .of_wp fun prog w A R s h=>by
  obtain ⟨f,g,d,i,c⟩:=s;obtain ⟨l,k,h⟩:=h;have e:=PySem.sub_zip;have j:Hy (Hz ⟨f,g,d,i,c⟩) a xs:=l;have L2:Hy (Hz ⟨f.push { cls:=.type "tuple_iterator",data:=.fields #[.ref a,.int 0 0] },g,d,i,c⟩) b ys:=Heap.IsTuple.push k _;wp_walk using gX j,gX L2;exact ⟨_,rfl,h⟩
theorem DD (p:s.heap.IsTuple l1 xs) (m:s.heap.IsTuple l2 ys)
  (h:∀ h',wZ h' (s.heap.objs.size+4) (s.heap.objs.size+2) (s.heap.objs.size+3) .none->lA h' (s.heap.objs.size+2) (.ref s.heap.objs.size) (.ref (s.heap.objs.size+1)) ->
   lA h' (s.heap.objs.size+3) .none .none->h'.IsTupleIter s.heap.objs.size l1 0->h'.IsTupleIter (s.heap.objs.size+1) l2 0 ->
   (∀ c o,s.heap.get? c=some o->h'.get? c=some o)->Q (.ref (s.heap.objs.size+4)) { s with heap:=h' }):ar (av prog w) A (call (.type "zip") [.ref l1,.ref l2]) Q E s:=by
 refine callType_new F.called_zip (by decide) (F.typeCall_zip_2 _ _) (F.newCall_zip_2 _ _) (fun a=>F.args_object_init_3 a _ _) F.entry_zip_new (Bo l1 l2 xs ys) ⟨p,m,?_⟩;have b:(Zd s.heap l1).objs.size=s.heap.objs.size+1:=cm ..;have d:(Ze s.heap l1 l2).objs.size=s.heap.objs.size+2:=by rw [cm,b]
 have g:(Zf s.heap l1 l2).objs.size=s.heap.objs.size+3:=by rw [cm,d]
 have i:(Zg s.heap l1 l2).objs.size=s.heap.objs.size+4:=by rw [cm,g]
 have f:(X8 s.heap l1 l2).get? (Zg s.heap l1 l2).objs.size=some _:=aw _ rfl;have l:(X8 s.heap l1 l2).get? (Zf s.heap l1 l2).objs.size=some _:=aa _ (aw _ rfl);have k:(X8 s.heap l1 l2).get? (Ze s.heap l1 l2).objs.size=some _:=aa _ (aa _ (aw _ rfl));have j:(X8 s.heap l1 l2).get? (Zd s.heap l1).objs.size=some _:=aa _ (aa _ (aa _ (aw _ rfl)));have n:(X8 s.heap l1 l2).get? s.heap.objs.size=some _:=aa _ (aa _ (aa _ (aa _ (aw _ rfl))));show _/\_;rw [d,g,i] at f;rw [b,d] at k;rw [g] at l;rw [b] at j;rw [i];exact ⟨⟨_,f,rfl⟩,h _ f k l ⟨_,n,rfl,rfl⟩ ⟨_,j,rfl,rfl⟩ fun c o e=>aa _ (aa _ (aa _ (aa _ (aa _ e))))⟩
theorem m5.ne_fp (I:bH X pins σ H s) (d:m5 X.K H a xs) (c:se X pins H b):a≠b:=by
 rintro rfl;rcases d with (h|⟨o,h⟩)|⟨o,its,n,hk,_⟩
 ·rw [c.1] at h;cases h
 ·rw [c.1] at h;cases h
 ·have e:X.base.get? a=some o:=I.mod.kin a o hk;rcases c.f3 with z|z
  ·exact I.ok.noex a o e z
  ·exact absurd (aC (aq e) (bL I.ok.bsz z)) (bY _)
def Itz (K:a8) (a b:aj):It :=
 ⟨fun i H=>∃ xs ys x y,m5 K H a xs/\m5 K H b ys/\xs[i]?=some x/\ys[i]?=some y,
  fun i H v H'=>∃ p,H p=none/\v=.ref p/\∀ xs ys,m5 K H a xs->m5 K H b ys->∃ x y,xs[i]?=some x/\ys[i]?=some y/\H'=upd H p (.tup [x,y]),
  fun i H=>∃ xs ys,m5 K H a xs/\m5 K H b ys/\(xs.length<=i\/ys.length<=i)⟩
structure q00 (z TI TO i1 i2:aj):Prop where
 d1:TI≠z
 d2:TO≠z
 d3:i1≠z
 d4:i2≠z
 d5:TI≠TO
 d6:TI≠i1
 d7:TI≠i2
 d8:TO≠i1
 d9:TO≠i2
 d0:i1≠i2
theorem OK {P:bu}{w:bQ}{K:a8}{S:List bZ}{x1}{a3:Pos} (N M z TI TO g j:aj) (Z:q00 z TI TO g j) :
  zz P w K (.Tuple S x1 a3) (Itz K N M) [z,TI,TO,g,j] z (fun i h=>wZ h z TI TO .none/\lA h TI (.ref g) (.ref j)/\(∃ a b,lA h TO a b)/\h.IsTupleIter g N i/\h.IsTupleIter j M i) where
 mem:=by simp
 obj:=fun i h st b c=>by
  obtain ⟨n,p,⟨_,_,t⟩,⟨o4,e4,_,f4⟩,⟨o5,e5,_,f5⟩⟩:=st;simp only [aN,aZ,or_false] at c;rcases c with rfl|rfl|rfl|rfl|rfl
  ·exact ⟨_,n,fun v q=>by cases q⟩
  ·exact ⟨_,p,fun v q=>by cases q⟩
  ·exact ⟨_,t,fun v q=>by cases q⟩
  ·exact ⟨o4,e4,fun v q=>by rw [f4] at q;cases q⟩
  ·exact ⟨o5,e5,fun v q=>by rw [f5] at q;cases q⟩
 keep:=fun i h h' st k=>by
  obtain ⟨n,p,⟨u,v,t⟩,⟨o4,e4,r4⟩,⟨o5,e5,r5⟩⟩:=st;exact ⟨k z (by simp) _ n,k TI (by simp) _ p,⟨u,v,k TO (by simp) _ t⟩,⟨o4,k g (by simp) _ e4,r4⟩,⟨o5,k j (by simp) _ e5,r5⟩⟩
 item:=by
  intro X hP hw hK hc i A s σ H E I B st hg;subst hP hw hK;obtain ⟨xs,ys,x,y,l,m,hx,hy⟩:=hg;obtain ⟨O,L,p1,_⟩:=I.tuple l;obtain ⟨Q,G,p2,_⟩:=I.tuple m;obtain ⟨u,hu,ru⟩:=L.get hx;obtain ⟨v,hv,rv⟩:=G.get hy;obtain ⟨n,p,⟨a,b,t⟩,s4,s5⟩:=st;have d:∀ b∈[z,TI,TO,g,j],N≠b:=fun b c=>l.ne_fp I (B b c);have f:∀ b∈[z,TI,TO,g,j],M≠b:=fun b c=>m.ne_fp I (B b c);have D:RM z TI TO g j N M:=⟨Z.d1,Z.d2,Z.d3,Z.d4,Z.d5,Z.d6,Z.d7,Z.d8,Z.d9,Z.d0,d z (by simp),d TO (by simp),d g (by simp),d j (by simp),f z (by simp),f TO (by simp),f g (by simp),f j (by simp)⟩;have zl:=aq n;have Y:s.TypeIs (.ref z) "zip":=⟨_,n,rfl⟩;unfold kH;refine a7 (iu (cx (name:=i4 "__next__") Y uq ?_));refine bO uq Y F.entry_zip_next (OI D n p t s4 s5 p1 p2 (by simpa using hu) (by simpa using hv) fun h1 z1 t1 y1 y2 pr k1=>?_) (F.args_zip_next_1 _);refine a9 ⟨_,rfl,wpAny_letOwnedTupleGo_zip z1 fun h2 z2 b2=>?_⟩;have a0:s.heap.objs.size≠z:=dv zl;have a1:lA h1 TI (.ref g) (.ref j):=k1 TI _ Z.d1 Z.d5 Z.d6 Z.d7 p;have I2:bH X A σ H { s with heap:=h2 }:=I.turnedL (t':=s.toks) (ch:=[z,TI,TO,g,j]) (fun b o c q=>by
   simp only [aN,aZ,or_false,not_or] at c;exact (b2.2 b c.1).trans (k1 b o c.1 c.2.2.1 c.2.2.2.1 c.2.2.2.2 q)) B
  have fT:=I.fpOk (H':=H) (ap _) (I.hok.fresh (ap _));have a2:h2.get? s.heap.objs.size=some { cls:=.type "tuple",data:=.seq #[u,v] }:=(b2.2 _ a0).trans pr;have I3:=I2.track (ho:=.tup [x,y]) fT ⟨by show 2<=sizeLine;decide,[u,v],.cons ru (.cons rv .nil),⟨_,a2,rfl,0,rfl⟩⟩;refine ⟨.ref s.heap.objs.size,_,I3,rfl,⟨_,fT.1,rfl,fun a5 a4 h1 h2=>?_⟩,⟨z2,(b2.2 TI Z.d1).trans a1,⟨u,v,(b2.2 TO Z.d2).trans t1⟩,k7 y1 b2 Z.d3,k7 y2 b2 Z.d4⟩,fun b c=>?_⟩
  ·rw [I.tuple_inj h1 l,I.tuple_inj h2 m];exact ⟨x,y,hx,hy,rfl⟩
  ·have bl:b<s.heap.objs.size:=by
    simp only [aN,aZ,or_false] at c;rcases c with q|q|q|q|q
    ·rw [q];exact zl
    ·rw [q];exact aq p
    ·rw [q];exact aq t
    ·obtain ⟨_,e,_⟩:=s4;rw [q];exact aq e
    ·obtain ⟨_,e,_⟩:=s5;rw [q];exact aq e
   rw [aV (aB bl)];exact (B b c).1
 done:=by
  intro X hP hw hK hc i A s σ H E I B st hg;subst hP hw hK;obtain ⟨xs,ys,l,m,U⟩:=hg;obtain ⟨O,L,p1,_⟩:=I.tuple l;obtain ⟨Q,G,p2,_⟩:=I.tuple m;obtain ⟨n,p,⟨a,b,t⟩,s4,s5⟩:=st;have d:∀ b∈[z,TI,TO,g,j],N≠b:=fun b c=>l.ne_fp I (B b c);have f:∀ b∈[z,TI,TO,g,j],M≠b:=fun b c=>m.ne_fp I (B b c);have D:RM z TI TO g j N M:=⟨Z.d1,Z.d2,Z.d3,Z.d4,Z.d5,Z.d6,Z.d7,Z.d8,Z.d9,Z.d0,d z (by simp),d TO (by simp),d g (by simp),d j (by simp),f z (by simp),f TO (by simp),f g (by simp),f j (by simp)⟩;have Y:s.TypeIs (.ref z) "zip":=⟨_,n,rfl⟩;have n1:=L.length;have n2:=G.length;unfold kH;refine a7 (iu (cx (name:=i4 "__next__") Y uq ?_));refine bO uq Y F.entry_zip_next (OJ (by simpa using I.ok.hd hc) D n p t s4 s5 p1 p2 (U.elim (fun q=>.inl (by simp;omega)) fun q=>.inr (by simp;omega)) fun h' e kp he=>?_) (F.args_zip_next_1 _);obtain ⟨o,eo,co⟩:=he;refine a7 (gO (T:="StopIteration") (b:=true) ⟨o,eo,co⟩ wY ?_);exact a9 ⟨rfl,I.turnedL (t':=s.toks) (ch:=[z,TI,TO,g,j]) (fun b o c q=>by
   simp only [aN,aZ,or_false,not_or] at c;exact kp b o c.1 c.2.2.1 c.2.2.2.1 c.2.2.2.2 q) B⟩
 self:=fun _ _ _ _ _ st h=>wpAny_pyIter_zip st.1 h
def q01 (K:a8) (e:TA):TI:=fun d H R=>e d H fun f c=>∃ a b xs ys,f=[.ref a,.ref b]/\m5 K c a xs/\m5 K c b ys/\R (Itz K a b) c
theorem W3 {X:Cx}{o:List bZ}{x1}{l p t:Pos}{a b:bZ}{G:TA} (hg:Gl X "zip") (hm:X.mg "zip"=none) (S:PA X [a,b] G) (hs:az [a,b] X.env=[(false,dO a X.env),(false,dO b X.env)]:=by rfl)
  (g:az [b] X.env=[(false,dO b X.env)]:=by rfl):PI X (.Tuple o x1 l) (.Call (.Name "zip" p) [a,b] [] t) (q01 X.K G):=by
 intro d s B H R I h;refine Call_ (uJ I hg hm boot_zip (fu (fZ (S t d s B H _ I h) fun us c ⟨vs,w,u,r1,T⟩=>?_) (by rw [hs,g]) (by rw [g];rfl)));obtain ⟨A,L,xs,ys,rfl,y,v,q⟩:=T;obtain ⟨u1,u2,rfl,x,z⟩:=Od r1;cases x;cases z;obtain ⟨i,U,p1,_⟩:=u.tuple y;obtain ⟨m,Y,N,_⟩:=u.tuple v;refine DD (show c.heap.IsTuple A i.toArray from p1) (show c.heap.IsTuple L m.toArray from N) fun h' M Q P c4 O kp=>?_;refine wpAny_pyIter_zip M ?_;have I2:bH X d B w { c with heap:=h' }:=u.kept (t':=c.toks) kp;have f:∀ k j:Nat,k≠j->c.heap.objs.size+k≠c.heap.objs.size+j:=fun k j n e=>n (Nat.add_left_cancel e);refine ⟨c.heap.objs.size+4,[c.heap.objs.size+4,c.heap.objs.size+2,c.heap.objs.size+3,c.heap.objs.size+0,c.heap.objs.size+1],_,_,w,rfl,I2,
  OK A L _ _ _ _ _ ⟨f _ _ (by decide),f _ _ (by decide),f _ _ (by decide),f _ _ (by decide),f _ _ (by decide),f _ _ (by decide),f _ _ (by decide),f _ _ (by decide),f _ _ (by decide),f _ _ (by decide)⟩,
  ⟨M,Q,⟨_,_,P⟩,c4,O⟩,fun b E=>?_,q⟩
 have:∀ k:Nat,se X d w (c.heap.objs.size+k):=fun k=>u.fpOk (RP _ _) (u.hok.fresh (RP _ _))
 simp only [aN,aZ,or_false] at E;rcases E with q|q|q|q|q<;>(rw [q];exact this _)
mutual
inductive IK (K:a8) (H:Hp):V->Df->Prop
 |none:IK K H .non .none
 |bool (b:Bool):IK K H (.bl b) (.bool b)
 |int (i:Int):IK K H (.int i) (.int i)
 |str (x:Str):IK K H (.str x) (.str x)
 |list {a:aj}{xs:List V}{ds:List Df}:nl K H a xs->Reps K H xs ds->IK K H (.ref a) (.list ds)
 |tuple {a:aj}{xs:List V}{ds:List Df}:m5 K H a xs->Reps K H xs ds->IK K H (.ref a) (.tuple ds)
inductive Reps (K:a8) (H:Hp):List V->List Df->Prop
 |nil:Reps K H [] []
 |cons {x:V}{xs:List V}{d:Df}{ds:List Df}:IK K H x d->Reps K H xs ds->Reps K H (x::xs) (d::ds)
end
theorem dD.tup {K:a8}{H H':Hp}{a:aj}{xs:List V} (e:dD H H') (h:m5 K H a xs):m5 K H' a xs:=by
 rcases h with (h|⟨o,h⟩)|h
 ·exact .inl (.inl (e _ _ h))
 ·exact .inl (.inr ⟨o,e _ _ h⟩)
 ·exact .inr h
theorem SC (I:bH X pins σ H s) (h:nl X.K H a xs) (g:∀ {f:List ac},dH xs f->∃ b,ReadsAll s.heap f ds b) (r:dI (.ref a) u):∃ b,Reads s.heap u (.list ds) b:=by
 cases r;obtain ⟨i,k,⟨o,n,e,c,_,d⟩,_⟩:=I.list h;obtain ⟨b,j⟩:=g k;exact ⟨_,.list e c d (by simpa using j)⟩
theorem OL (I:bH X pins σ H s) (h:m5 X.K H a xs) (g:∀ {f:List ac},dH xs f->∃ b,ReadsAll s.heap f ds b) (r:dI (.ref a) u):∃ b,Reads s.heap u (.tuple ds) b:=by
 cases r;obtain ⟨i,k,⟨o,e,c,n,d⟩,_⟩:=I.tuple h;obtain ⟨b,j⟩:=g k;exact ⟨_,.tuple e c d (by simpa using j)⟩
theorem tH (I:bH X pins σ H s) (h:IK X.K H v d):∀ {u:ac},dI v u->∃ c,Reads s.heap u d c :=
 IK.rec (motive_1:=fun v d _=>∀ {u:ac},dI v u->∃ c,Reads s.heap u d c) (motive_2:=fun l ds _=>∀ {f:List ac},dH l f->∃ c,ReadsAll s.heap f ds c)
  (fun r=>by cases r;exact ⟨_,.none⟩) (fun b _ r=>by cases r;exact ⟨_,.bool b⟩) (fun i _ r=>by obtain ⟨t,rfl⟩:=r;exact ⟨_,.int i t⟩) (fun x _ r=>by obtain ⟨t,rfl⟩:=r;exact ⟨_,.str x t⟩)
  (fun h _ e _ r=>SC I h e r) (fun h _ e _ r=>OL I h e r) (fun r=>by cases r;exact ⟨_,.nil⟩) (fun _ _ a b _ r=>by
   cases r with
   |cons r g =>
    obtain ⟨c,k⟩:=a r;obtain ⟨bs,j⟩:=b g;exact ⟨_,.cons k j⟩) h
inductive Uz (K:a8) (neg:Bool) (x:V) (y:V) (H:Hp) (Q:VK):Prop
 |mk (dx dy:_) (h0:IK K H x dx) (h1:IK K H y dy) (h2:dx.canLay0=true) (h3:dy.canLay0=true) (h4:min dx.depth dy.depth<=60) (h5:Q (.bl (if neg then !bq dx dy else bq dx dy)) H):Uz K neg x y H Q
def W4 (K:a8) (a:Bool):R2:=Uz K a
theorem W5 (l:X.A.units+64<gM):rK X (bG .Eq) (W4 X.K false):=by
 intro a s m H x y v u Q I c e h;obtain ⟨n,k,i,b,d,j,p,q⟩:=h;obtain ⟨o,g⟩:=tH I i c;obtain ⟨bs,f⟩:=tH I b e;exact PySem.SeqAt.compareEq_reads g f d j (by omega) ⟨.bl _,H,I,rfl,q⟩
theorem W6 (l:X.A.units+64<gM):rK X (bG .NotEq) (W4 X.K true):=by
 intro a s m H x y v u Q I c e h;obtain ⟨n,k,i,b,d,j,p,q⟩:=h;obtain ⟨o,g⟩:=tH I i c;obtain ⟨bs,f⟩:=tH I b e;exact PySem.SeqAt.compareNe_reads g f d j (by omega) ⟨.bl _,H,I,rfl,q⟩
structure UA (P:bu) (w:bQ) (l:List Env) (H H':Hp) (h h' B:bK) (ea C t:aj):Prop where
 fly:Heap.FlyingW B l ea (.ref C) (.ref t) h'
 cov:∀ b u,H' b=some u->∃ o,B.get? b=some o
 old:∀ b o,h.get? b=some o->H b=none->b∉tq l->B.get? b=some o
 all:∀ b o,h.get? b=some o->b∉tq l->∃ o',B.get? b=some o'
 un:Un (tq l) [] H H' h h'
 hok:rq P w H' h'
inductive XJ (P:bu) (w:bQ) (outer:List Env) (H:Hp) (s:ao) (E:XK) (e:ac) (s':ao):Prop
 |mk (ea C t H' B:_) (h0:e=.ref ea) (h1:s'.os=s.os) (h2:rM s'.gens) (h3:UA P w outer H H' s.heap s'.heap B ea C t) (h4:E (.ref C) none H'):XJ P w outer H s E e s'
def mM (P:bu) (w:bQ):M0:=XJ P w
theorem OM (x:rq P w H h) (e:H b=some u):∃ o,h.get? b=some o:=by
 have y:=x b u e;cases u with
 |lst xs=>obtain ⟨_,_,_,_,k⟩:=y;exact ⟨_,k⟩
 |tup xs=>obtain ⟨_,_,_,o,k,_⟩:=y;exact ⟨o,k⟩
 |dK kvs=>obtain ⟨_,_,_,_,o,_,_,k,_⟩:=y;exact ⟨o,k⟩
 |dT kvs=>obtain ⟨_,_,_,_,o,_,_,k,_⟩:=y;exact ⟨o,k⟩
 |set S n=>obtain ⟨o,_,_,_,k,_⟩:=y;exact ⟨o,k⟩
 |ins C c fs=>obtain ⟨_,_,_,k,_⟩:=y;exact ⟨_,k⟩
 |own a=>exact y
 |xd fs=>obtain ⟨_,⟨o,_,_,k,_⟩,_⟩:=y;exact ⟨o,k⟩
 |rng lo g=>obtain ⟨_,_,_,k⟩:=y;exact ⟨_,k⟩
 |frz o u=>exact ⟨o,y.1⟩
 |tbl d=>exact ⟨_,y⟩
 |met f a=>exact ⟨_,y⟩
 |ext φ=>exact y.2.1
theorem K8 (he:env∈l) (a:env.frame=some b):b∈tq l:=List.mem_filterMap.mpr ⟨env,he,a⟩
theorem UA.kp (x:UA P w l H H' h h' B ea C t) (st:B.StaysIn h'') (b:aj) (u:HO) (o:Obj) (e:H' b=some u) (q:h'.get? b=some o):h''.get? b=some o:=by
 obtain ⟨c,a⟩:=x.cov b u e;have:=x.fly.1 b c a;rw [q] at this;cases this;exact st b o a
theorem UA.on (x:UA P w l H H' h h' B ea C t) (f:Heap.FlyingW B l ea (.ref C) (.ref t) h'') (m:h'.UpToSlots h''):UA P w l H H' h h'' B ea C t:=by
 have st:=f.1;refine ⟨f,x.cov,x.old,x.all,⟨fun b o q n a i=>st b o (x.old b o q n a),fun b o q n a i=>?_,x.un.free,fun b o q i=>?_,x.un.tups,x.un.frzs,x.un.tbls⟩,fun b u e=>?_⟩
 ·obtain ⟨v,j⟩:=x.un.slot b o q n a i;obtain ⟨_,d,k1,k2⟩:=fF x.fly.2.2.1 a;rw [j] at k1;cases k1;obtain ⟨g,s⟩:=m b _ j k2;exact ⟨g,s⟩
 ·by_cases a:b∈tq l
  ·obtain ⟨_,d,k1,_⟩:=fF f.2.2.1 a;exact ⟨d,k1⟩
  ·obtain ⟨d,k⟩:=x.all b o q a;exact ⟨d,st b d k⟩
 ·exact (x.hok b u e).stay (fun c o p q=>by
   rcases p with z|z
   ·rw [z] at q ⊢;exact x.kp st b u o e q
   ·exact x.kp st c _ o z q) (fun _ q=>q) fun _ _ q=>q
section
variable {P:bu}{w:bQ}{K:a8}{mg:Str->Option ac}{base:bK}{N:List Str}{qual:Str}{scope:i5}{f:aj}{cd:ac}{A:cf}{outer:List Env}{s:ao}{H:Hp}{E:XK}
theorem DE (I:bH (j_ (mM P w) P w K mg base N qual scope f cd A outer s H E) pins σ H1 s1)
  (Q:Heap.MadeExcOf s1.heap h' ea (.ref C) vs) (q:E (.ref C) none H1):(j_ (mM P w) P w K mg base N qual scope f cd A outer s H E).xe (.ref ea) { s1 with heap:=h' }:=by
 let X:=j_ (mM P w) P w K mg base N qual scope f cd A outer s H E
 let B:=Nj s1.heap (tq X.stack)
 have O:∀ env∈X.stack,∀ a,env.frame=some a->a∈tq X.stack:=fun env he a Y=>K8 he Y;have x:B.StaysIn s1.heap:=fun b o e=>HK _ e;have j:∀ b,b∉tq X.stack->∀ o,s1.heap.get? b=some o->B.get? b=some o:=fun b n o e=>Hr _ e n;show ar _ X.A (leaving X.env (.ref ea)) _ _ _;refine wpAny_leaves_madeW (s:={ s1 with heap:=h' }) (base:=B) (outer:=outer) (L:=X.env.locals) I.ok.frames rfl x (PySem.W.funFrames_hide I.stack O) Q fun h2 t v tup tn S=>?_;have i:=v.1;have l:∀ b o,s.heap.get? b=some o->b∉tq outer->b∉tq X.stack:=fun b o e n z=>by
  rcases List.mem_cons.mp (I.stkSub b z) with y|y
  ·exact absurd (aq e) (by rw [y];exact Nat.not_lt.mpr I.ok.above)
  ·exact n y
 have d:∀ b:aj,b∉X.ex:=fun b z=>absurd (show b∈([] : List aj) from z) (by simp);have M:∀ b u,H1 b=some u->∃ o,B.get? b=some o:=fun b u e=>by
  have g:b∉tq X.stack:=fun z=>by have:=I.stkFree b z;rw [e] at this;cases this
  obtain ⟨o,k⟩:=OM I.hok e;exact ⟨o,j b g o k⟩
 refine ⟨ea,C,t,H1,B,rfl,I.os,I.bare,⟨v,M,fun b o e n g=>?_,fun b o e g=>?_,⟨fun b o e n g m=>?_,fun b o e n g m=>?_,fun b o e n _=>I.base.free b o e n (d b),fun b o e _=>?_,I.base.tups,I.base.frzs,I.base.tbls⟩,fun b u e=>?_⟩,q⟩
 ·exact j b (l b o e g) o (I.base.keep b o e n g (d b))
 ·obtain ⟨h,k⟩:=I.base.there b o e (d b);exact ⟨h,j b (l b o e g) h k⟩
 ·exact i b o (j b (l b o e g) o (I.base.keep b o e n g (d b)))
 ·obtain ⟨sl,k⟩:=I.base.slot b o e n g (d b);obtain ⟨_,h,k1,k2⟩:=fF I.funs g;rw [k] at k1;cases k1;obtain ⟨G,k3⟩:=S b _ (Q.keeps _ _ k) k2;exact ⟨G,k3⟩
 ·obtain ⟨h,k⟩:=I.base.there b o e (d b);by_cases g:b∈tq outer
  ·obtain ⟨_,T,k1,_⟩:=fF v.2.2.1 g;exact ⟨T,k1⟩
  ·exact ⟨h,i b h (j b (l b o e g) h k)⟩
 ·refine (I.hok b u e).stay (fun c o U k=>?_) (fun _ q=>q) fun _ _ q=>q;have p:c∉tq X.stack:=fun z=>by
   have:=I.stkFree c z;rcases U with y|y
   ·rw [y,e] at this;cases this
   ·rw [y] at this;cases this
  exact i c o (j c p o k)
theorem FD (hE:∀ c H',E' c none H'->E c none H'):kO (mM P w) (j_ (mM P w) P w K mg base N qual scope f cd A outer s H E) E':=by
 intro O σ H1 s1 e s' I h;obtain ⟨M,C,t,H',B,rfl,os,j,x,q⟩:=h;let X:=j_ (mM P w) P w K mg base N qual scope f cd A outer s H E
 have a:∀ b:aj,b∉X.ex:=fun b z=>absurd (show b∈([] : List aj) from z) (by simp);have m:∀ b o,s.heap.get? b=some o->b∉tq outer->b∉tq X.stack:=fun b o e n z=>by
  rcases List.mem_cons.mp (I.stkSub b z) with y|y
  ·exact absurd (aq e) (by rw [y];exact Nat.not_lt.mpr I.ok.above)
  ·exact n y
 have sub:∀ b∈tq outer,b∈tq X.stack:=fun b d=>by
  obtain ⟨env,he,Y⟩:=List.mem_filterMap.mp d;exact K8 (ag _ he) Y
 show ar _ X.A (leaving X.env (.ref M)) _ _ _;refine wpAny_leaves_onW (base:=B) (outer:=outer) (L:=X.env.locals) I.ok.frames rfl x.fly fun h2 G S=>?_;have g:=G.1;refine ⟨M,C,t,H',B,rfl,os.trans I.os,j,⟨G,x.cov,fun b o e n d=>?_,fun b o e d=>?_,⟨fun b o e n d v=>?_,fun b o e n d v=>?_,fun b o e n _=>?_,fun b o e _=>?_,fun b xs e=>x.un.tups b xs (I.base.tups b xs e),fun b o xs e=>x.un.frzs b o xs (I.base.frzs b o xs e),fun b ps e=>?_⟩,fun b u e=>?_⟩,hE _ _ q⟩
 ·exact x.old b o (I.base.keep b o e n d (a b)) (I.base.free b o e n (a b)) (m b o e d)
 ·obtain ⟨i,k⟩:=I.base.there b o e (a b);exact x.all b i k (m b o e d)
 ·exact g b o (x.old b o (I.base.keep b o e n d (a b)) (I.base.free b o e n (a b)) (m b o e d))
 ·obtain ⟨sl,k⟩:=I.base.slot b o e n d (a b);obtain ⟨Q,k1⟩:=x.un.slot b _ k (I.base.free b o e n (a b)) (sub b d) (by simp);obtain ⟨_,i,k2,k3⟩:=fF x.fly.2.2.1 (sub b d);rw [k1] at k2;cases k2;obtain ⟨p,T⟩:=S b _ k1 k3;exact ⟨p,T⟩
 ·obtain ⟨i,k⟩:=I.base.there b o e (a b);exact x.un.free b i k (I.base.free b o e n (a b)) (by simp)
 ·obtain ⟨i,k⟩:=I.base.there b o e (a b);by_cases d:b∈tq outer
  ·obtain ⟨_,l,k1,_⟩:=fF G.2.2.1 d;exact ⟨l,k1⟩
  ·obtain ⟨l,k2⟩:=x.all b i k (m b o e d);exact ⟨l,g b l k2⟩
 ·obtain ⟨m1,e1⟩:=I.base.tbls b ps e;obtain ⟨m2,e2⟩:=x.un.tbls b _ e1;exact ⟨m1++m2,by rw [e2,Lv]⟩
 ·exact (x.hok b u e).stay (fun c o U k=>by
   rcases U with z|z
   ·rw [z] at k ⊢;exact x.kp g b u o e k
   ·exact x.kp g c _ o z k) (fun _ q=>q) fun _ _ q=>q
end
section
variable {P:bu}{w:bQ}{K:a8}{mg:Str->Option ac}{base:bK}{N:List Str}{qual:Str}{scope:i5}{f:aj}{cd:ac}{A:cf}{outer:List Env}{s:ao}{H:Hp}{E:XK}
theorem ON {x:Str}{S c t:Pos}{i:bZ}{c7:List bZ}{C:aj}{g:List ac}{a d Bn:String}{y:TA} (O:OwnCls x C g a mg base) (B:ExcBaseFacts Bn a d g)
  (hg:Gl (j_ (mM P w) P w K mg base N qual scope f cd A outer s H E) x) (Y:PA (j_ (mM P w) P w K mg base N qual scope f cd A outer s H E) (i::c7) y)
  (he:az (i::c7) (j_ (mM P w) P w K mg base N qual scope f cd A outer s H E).env=(false,dO i (j_ (mM P w) P w K mg base N qual scope f cd A outer s H E).env)::az c7 (j_ (mM P w) P w K mg base N qual scope f cd A outer s H E).env:=by rfl)
  (n:(x==("__debug__" : Str))=false:=by decide) (p:(gG c (az c7 (j_ (mM P w) P w K mg base N qual scope f cd A outer s H E).env)).any (·.1)=false:=by rfl) :
  PS (j_ (mM P w) P w K mg base N qual scope f cd A outer s H E) (.Raise (some (.Call (.Name x S) (i::c7) [] c)) none t) (fun D m j=>y m j fun L v=>L.length<=sizeLine/\E (.ref C) none v):=by
 intro e Q m j D I h;obtain ⟨tl,U,nm,q,bs,hdct,sn,sub,ab,col,dd,k0,k1,k2,k3,k5,mN,hC,M,l,T⟩:=O.obj;refine wpAny_Raise_call_subT (C:=C) (nm:=nm) (q:=q) (N:=U) (bs:=bs) (bm:=tl) (hdct:=hdct) (sn:=sn) (sub:=sub) (ab:=ab) (col:=col) (dd:=dd) (k0:=k0) (k1:=k1) (k2:=k2) (k3:=k3) (k5:=k5)
  B (mN:=mN) (T.hasType B.hasBase) (I.ok.hd rfl) ?_ l (yS I hg O.bound ⟨rfl,?_⟩ n)
 ·rw [he];show (false||_)=false;rw [vE];exact p
 ·have G:=Y c e Q m j _ I h;rw [he] at G ⊢;refine HV (fZ G fun us s2 ⟨L,v,u,r2,z,X⟩=>?_);have k:∀ b o,base.get? b=some o->s2.heap.get? b=some o:=u.bk;exact ⟨rfl,by show us.length<=sizeLine;rw [<- r2.length];exact z,k _ _ hC,M.keeps k,T.keeps k,fun h' ea hm=>DE u hm X⟩
end
structure DF (base:bK) (C:aj) (bm:List ac):Prop where
 obj:∃ nm q N bs hdct sn sub ab col dd k0 k1 k2 k3 k5 newId,base.get? C=some (excClassObj nm q C N bs bm hdct sn sub ab col dd k0 k1 k2 k3 k5 newId)
 exc:bm.contains (.type "BaseException")=true
theorem zL (j:∀ b o,base.get? b=some o->s.heap.get? b=some o) (x:DF base C bm) (y:DF base Cp bp)
  (H:bm.contains (.ref Cp)=true) (he:s.heap.get? ea=some oe) (a:oe.cls=.ref C) (h:Q true s):ar M A (excMatches (.ref ea) (.ref Cp)) Q E s:=by
 obtain ⟨⟨nm,q,X,bs,hdct,sn,sub,ab,col,dd,k0,k1,k2,k3,k5,e,K⟩,x2⟩:=x;obtain ⟨⟨z,q',B,S,i,P,m,I,k,G,n,T,t,N,w,c,u⟩,p⟩:=y;have L:=j _ _ K;have l:=j _ _ u;have O:(bf C::bm).contains (.ref Cp)=true:=by rw [oj,H,Bool.or_true]
 have v:(bf Cp::bp).contains (.type "BaseException")=true:=by rw [oj,p,Bool.or_true]
 have f:=tc_notTuple;obtain ⟨hp,g,d,U,Y⟩:=s;unfold excMatches;repeat (first
  |(with_reducible refine wpAny_loadPart_at he ?_;rw [a])
  |with_reducible refine wpAny_loadPart_at l ?_
  |(with_reducible refine wpAny_isSubtype_exc L ?_;rw [O])
  |(with_reducible refine wpAny_isSubtype_exc l ?_;rw [v])
  |wp_step)
 exact h
def zM (a C:aj):HO:=.ext fun h=>∃ o,h.get? a=some o/\o.cls=.ref C
theorem SD (e:h.get? ea=some o) (c:o.cls=.ref C):de P w H h ea (zM ea C) :=
 ⟨⟨o,e,c⟩,⟨o,e⟩,fun a b ⟨o,e,c⟩ k=>⟨o,k o e,c⟩⟩
def X9 (X:Cx) (a:aj):Cx:={ X with A:=X.A.mark (some (.ref a)),calm:=false,xe:=fun _ _=>False }
theorem bH.inH (I:bH X pins σ H s) (a:aj):bH (X9 X a) pins σ H s :=
 ⟨⟨I.ok.mod,I.ok.kind,I.ok.glob,I.ok.blt,I.ok.above,I.ok.inj,I.ok.has,I.ok.cab,(fun z=>mq z),I.ok.frames,I.ok.stk,I.ok.exf,I.ok.bs,I.ok.bsz,I.ok.noex,I.ok.exfs,I.ok.funs,I.ok.frf⟩,I.os,I.bare,I.base,I.loc,I.cell,I.free,I.freeC,I.pin,I.hok,I.len⟩
theorem bH.outH (ok:X.Ok) (I:bH (X9 X ea) pins σ H s):bH X pins σ H s :=
 ⟨ok,I.os,I.bare,I.base,I.loc,I.cell,I.free,I.freeC,I.pin,I.hok,I.len⟩
def zN (X:Cx):St:=o6 X.N.length none
theorem bH.forget (I:bH X pins σ H s) (l:h'.Ns X.env.locals m') (g:bI X.env.locals s.heap h'):bH X pins (zN X) H { s with heap:=h',toks:=t' }:=by
 have a:∀ b o,X.s₀.heap.get? b=some o->b≠X.env.locals:=fun b o e=>aB (aC (aq e) I.ok.above);refine ⟨I.ok,I.os,I.bare,⟨fun b o e n j h=>(g.2 b (a b o e)).trans (I.base.keep b o e n j h),fun b o e n j h=>?_,I.base.free,fun b o e h=>?_,I.base.tups,I.base.frzs,I.base.tbls⟩,⟨m',l,fun i x v u f w=>?_⟩,fun x c e=>?_,I.free,I.freeC,fun p q=>?_,zF I.hok I.free g,by simp [zN]⟩
 ·obtain ⟨t,k⟩:=I.base.slot b o e n j h;exact ⟨t,(g.2 b (a b o e)).trans k⟩
 ·obtain ⟨m,k⟩:=I.base.there b o e h;exact ⟨m,(g.2 b (a b o e)).trans k⟩
 ·have f:(zN X)[i]?=some (some v):=f;unfold zN at f;rw [bW] at f;split at f<;>cases f
 ·obtain ⟨v,z⟩:=I.cell x c e;exact ⟨v,z.sameBut g (I.cne x c e)⟩
 ·obtain ⟨e,n,ne,nf,d⟩:=I.pin p q;exact ⟨(g.2 p.1 ne).trans e,n,ne,nf,d⟩
def UB (X:Cx) (Cp:aj) (i:Nat) (b:TS) (D:Dj):XK:=fun c _ H'=>∃ C bm,c=.ref C/\DF X.base C bm/\bm.contains (.ref Cp)=true /\
 ∀ a,H' a=none->b { nx:=fun _ H=>D.nx (zN X) H,rt:=D.rt } ((zN X).set i (some (.ref a))) (upd H' a (zM a C))
def q02 (X:Cx) (Cp:aj) (i:Nat) (tb:XK->TS) (b:TS):TS:=fun D a H=>tb (UB X Cp i b D) D a H
theorem OO (I:bH X pins σ H s) (b:Gl X x) (a:X.mg x=some u) (h:Q u s)
  (c:(x==("__debug__" : Str))=false:=by decide):ar (av X.prog X.w) A (dO (.Name x pos) X.env) Q E s :=
 nU I.ok.kind b (EL (by rw [I.ok.glob];exact I.mod.glob.keeps I.bk) a h) c
def UC (X:Cx) (xe:ac->ao->Prop) (pn:List (aj×Obj)):Cx:={ X with xe:=xe,pn:=pn }
theorem bH.inT (I:bH X pins σ H s) (b:ac->ao->Prop):bH (UC X b (X.pn++pins)) [] σ H s :=
 ⟨⟨I.ok.mod,I.ok.kind,I.ok.glob,I.ok.blt,I.ok.above,I.ok.inj,I.ok.has,I.ok.cab,I.ok.hd,I.ok.frames,I.ok.stk,I.ok.exf,I.ok.bs,I.ok.bsz,I.ok.noex,I.ok.exfs,I.ok.funs,I.ok.frf⟩,I.os,I.bare,I.base,I.loc,I.cell,I.free,I.freeC,
  fun p a=>I.pin p ((List.mem_append.mp a).elim id fun z=>absurd z (by simp)),I.hok,I.len⟩
theorem bH.outT (ok:X.Ok) (I:bH (UC X xe (X.pn++pins)) pins' σ H s):bH X pins σ H s :=
 ⟨ok,I.os,I.bare,I.base,I.loc,I.cell,I.free,I.freeC,fun p a=>I.pin p (bg _ a),I.hok,I.len⟩
theorem bH.track0 (I:bH X pins σ H s) (j:X.s₀.heap.get? D=none) (a:H D=none) (f:D≠X.env.locals) (h:∀ x c,X.env.cells.lookup x=some c->c≠D) (k:∀ p∈X.pn++pins,p.1≠D)
  (new:de X.prog X.w (upd H D ho) s.heap D ho):bH X pins σ (upd H D ho) s :=
 ⟨I.ok,I.os,I.bare,⟨I.base.keep,I.base.slot,fun b o e n i=>by rw [aV (fun z=>by rw [z,j] at e;cases e)];exact I.base.free b o e n i,I.base.there,fun b xs e=>by have q:=I.base.tups b xs e;rw [aV (bh q a)];exact q,
  fun b o xs e=>by have q:=I.base.frzs b o xs e;rw [aV (bh q a)];exact q,fun b g e=>by obtain ⟨m,q⟩:=I.base.tbls b g e;exact ⟨m,by rw [aV (bh q a)];exact q⟩⟩,I.loc,I.cell,
  by rw [aV (cV f)];exact I.free,fun x c e=>by rw [aV (h x c e)];exact I.freeC x c e,fun p d=>by
  obtain ⟨e,n,r⟩:=I.pin p d;exact ⟨e,by rw [aV (k p d)];exact n,r⟩,tx I.hok a new,I.len⟩
theorem W7 (hg:Gl X x) (hm:X.mg x=some (.ref Cp)) (y:DF X.base Cp bp)
  (hN:X.N.Nodup) (hi:X.N[i]?=some n) (hn:X.env.scope.names.lookup n=some .local) (hst:∃ l,X.stack=X.env::l/\X.env.frame=some X.env.locals) (hex:X.ex=[])
  (hb:∀ (E:XK) (xe:ac->ao->Prop) (pn:List (aj×Obj)),kO (mM X.prog X.w) (UC X xe pn) E->Bh (UC X xe pn) body (tb E)) (hs:∀ ea,Bh (X9 X ea) (b0::suite) ts) (hdb:(x==("__debug__" : Str))=false:=by decide) :
  PS X (.Try body [.ExceptHandler (some (.Name x np)) (some n) (b0::suite) hpos] [] [] pos) (q02 X Cp i tb ts):=by
 intro pins s σ H D I h;obtain ⟨l,hl,hfr⟩:=hst;have ok:=I.ok;refine wpAny_Try_except ?_;let xe:ac->ao->Prop:=fun e s₁=>ar (av X.prog X.w) X.A (Dc e X.env) (fun _ s₂=>ar (av X.prog X.w) X.A (setFlight e none) (fun _ s₃ =>
  ar (av X.prog X.w) X.A (handleBy e X.env [.ExceptHandler (some (.Name x np)) (some n) (b0::suite) hpos]) (SP X pins D) X.xe s₃) X.xe s₂) X.xe s₁
 have hp:kO (mM X.prog X.w) (UC X xe (X.pn++pins)) (UB X Cp i ts D):=by
  intro pins' σ' H1 s1 e s' I' hx;have I1:bH X pins σ' H1 s1:=I'.outT ok;obtain ⟨ea,C,t,H',B,rfl,os,bare,air,C',bm,hCe,ox,hcp,hts⟩:=hx;cases hCe;have air:UA X.prog X.w X.stack H1 H' s1.heap s'.heap B ea C t:=air;have land:∀ h2,UA X.prog X.w X.stack H1 H' s1.heap h2 B ea C t->bH X pins σ' H' { s' with heap:=h2 }:=fun h2 a =>
   I1.call' (s':={ s' with heap:=h2 }) (ch:=[]) os a.un a.hok bare (fun b z=>absurd z (by simp))
  have fly:=air.fly;rw [hl] at fly;show ar _ X.A (Dc (.ref ea) X.env) _ _ s';refine wpAny_looks_onW (base:=B) (outer:=l) (L:=X.env.locals) (by rw [ok.frames,hl]) hfr fly fun h2 hd2 up2=>?_;refine wpAny_landsW hd2 fun h3 fl3 up3=>?_;have up3':=up2.trans up3;have a3:=air.on (by rw [hl];exact fl3) up3';have I3:=land h3 a3;obtain ⟨oe,he,hcl⟩:=fl3.there;refine wpAny_handleBy_cons (codeAny_handlers_test (OO I3 hg hm ?_ hdb)) (by intro q;cases q);refine zL (base:=X.base) (s:={ s' with heap:=h3 }) I3.bk ox y hcp he hcl (codeAny_handlers_suite_as ?_);refine lands_againW (s:={ s' with heap:=h3 }) fl3 fun h4 fl4 up4=>?_;have a4:=air.on (by rw [hl];exact fl4) (up3'.trans up4);have I4:=land h4 a4;obtain ⟨oe4,ws,he4,hcl4,hd4,_⟩:=fl4.first;have nB:B.get? ea=none:=fl4.2.1;have nfr:ea∉tq X.stack:=fun z=>by
   obtain ⟨_,o',k1,k2⟩:=fF fl4.2.2.1 (by rw [<- hl];exact z);rw [he4] at k1;cases k1;exact k2 _ hd4
  have n1:s1.heap.get? ea=none:=by
   cases q:s1.heap.get? ea with
   |none=>rfl
   |some o =>
    obtain ⟨o',k⟩:=air.all ea o q nfr;rw [nB] at k;cases k
  have nH:H' ea=none:=by
   cases q:H' ea with
   |none=>rfl
   |some u =>
    obtain ⟨o',k⟩:=air.cov ea u q;rw [nB] at k;cases k
  have nloc:ea≠X.env.locals:=fun z=>by
   obtain ⟨m,⟨o,_,_,k,_⟩,_⟩:=I1.loc;rw [<- z,n1] at k;cases k
  have ncell:∀ x c,X.env.cells.lookup x=some c->c≠ea:=fun x c e z=>by
   obtain ⟨v,o,k,_⟩:=I1.cell x c e;rw [z,n1] at k;cases k
  have npin:∀ p∈X.pn++pins,p.1≠ea:=fun p hp z=>by
   have k:=(I1.pin p hp).1;rw [z,n1] at k;cases k
  have n0:X.s₀.heap.get? ea=none:=by
   cases q:X.s₀.heap.get? ea with
   |none=>rfl
   |some o =>
    by_cases hx:ea∈X.ex
    ·rw [hex] at hx;cases hx
    ·obtain ⟨o',k⟩:=I1.base.there ea o q hx;rw [n1] at k;cases k
  have I5:=(I4.weak (σ':=zN X) (by rw [I4.len];simp [zN]) (fun j v z=>by
   unfold zN at z;rw [bW] at z;split at z<;>cases z)).track0 (ho:=zM ea C) n0 nH nloc ncell npin (SD he4 hcl4)
  refine s9 I5 hN hi (.inl hn) (v:=.ref ea) rfl (fun s6 I6=>?_) (.inr hn);refine bB (hs ea pins s6 _ _ _ (I6.inH ea) (hts ea nH)) (fun f s7 q7=>?_) fun _ _ z=>z.elim;have fin:∀ {σ7:St}{H7:Hp}{Q':St->Hp->Prop},bH (X9 X ea) pins σ7 H7 s7->(∀ s8,bH X pins (zN X) H7 s8->SP X pins D f s8)->ar (av X.prog X.w) X.A (do HM X.env n .none;unbindBehindTheSuite X.env n hpos) (fun _ s8=>SP X pins D f s8) X.xe s7:=fun {σ7 H7 Q'} J k=>by
   have J:=J.outH ok;obtain ⟨m,hm7,_⟩:=J.loc;exact wpAny_nameGoes hn hm7 (by rw [ok.kind];rfl) fun h8 m8 hn8 sb8=>k _ (J.forget hn8 sb8)
  cases f with
  |next=>obtain ⟨σ7,H7,J,q⟩:=q7;exact fin (Q':=fun _ _=>True) J fun s8 I8=>⟨_,_,I8,q⟩
  |brk=>obtain ⟨σ7,H7,J,q⟩:=q7;exact q.elim
  |cont=>obtain ⟨σ7,H7,J,q⟩:=q7;exact q.elim
  |ret v=>obtain ⟨z,σ7,H7,J,r,q⟩:=q7;exact fin (Q':=fun _ _=>True) J fun s8 I8=>⟨z,_,_,I8,r,q⟩
 refine bB (hb _ xe (X.pn++pins) hp [] s σ H D (I.inT xe) h) (fun f s1 q=>?_) fun e s1 q=>q;have q:SP X pins D f s1:=by
  cases f with
  |next=>obtain ⟨σ',H',J,q⟩:=q;exact ⟨σ',H',J.outT ok,q⟩
  |brk=>obtain ⟨σ',H',J,q⟩:=q;exact ⟨σ',H',J.outT ok,q⟩
  |cont=>obtain ⟨σ',H',J,q⟩:=q;exact ⟨σ',H',J.outT ok,q⟩
  |ret v=>obtain ⟨z,σ',H',J,r,q⟩:=q;exact ⟨z,σ',H',J.outT ok,r,q⟩
 cases f with
 |next=>exact oT q
 |brk=>exact q
 |cont=>exact q
 |ret v=>exact q
structure OP (K:a8) (C:aj):Prop where
 ga:i8 K (.ref C) "__getattribute__"=some (some (.builtin "BaseException.__getattribute__"))
 gn:i8 K (.ref C) "__getattr__"=some none
 ca:i8 K (.ref C) "__class__"=some (some (.builtin "object.__class__"))
 gg:vz K (.builtin "object.__class__") "__get__"=some (some (.builtin "getset_descriptor.__get__"))
 tk:yr K (.builtin "object.__class__")=some true
 mo:cF K C (.type "object")=some true
 be:cF K C (.type "BaseException")=some true
 cl:(g_ K C).isSome=true
def Cf (x C:aj) (h:bK):Prop:=∃ o,h.get? x=some o/\o.cls=.ref C
theorem Cf.type (p:Cf x C h):Rq M h (typeOf (.ref x)) (.ref C):=by
 obtain ⟨o,e,c⟩:=p;exact c ▸ (PySem.W.Looks.ld e).andThen .now
section
variable {prog:bu}{w:bQ}{A:cf}{E:ac->ao->Prop}{s:ao}{K:a8}{x C:aj}{R:Result->ao->Prop}
open PySem.W Builtin Builtin.ObjectAttr Builtin.Getset_descriptor in
theorem SE (Z:OP K C) (X:K.In s.heap) (p:Cf x C s.heap) (q:R (.ok (.ret (.ref C))) s):iK (av prog w) A (.call (.builtin "getset_descriptor.__get__") ⟨[.builtin "object.__class__",.ref x,tp],[]⟩) R s:=by
 obtain ⟨a,e,c,b,g⟩:=s;have d:=p.type (M:=av prog w);have f:=looks_mroIn (M:=av prog w) X Z.mo;refine wW KF.slot_gs.plain KF.entry_gs ?_;refine KF.slot_gs.check _ _ _ _ _ _ _ _ KF.type_class (KF.args_gs _ _ _) ?_;unfold h_.«getset_descriptor.__get__» descrGet;rw [dga_obj];refine a7 (a9 ?_);unfold descrGetter descrCheckInstance descrNameAndClass zr;simp only [KF.owner_class];repeat lk
 refine ⟨Np _ (by decide +kernel),eA KF.entry_class ?_⟩;unfold h_.«object.__class__» shownTypeOf;repeat lk
 exact q
theorem Me (Z:OP K C) (X:K.In s.heap) (p:Cf x C s.heap) (h:Q (some (.ref C)) { s with toks:=s.toks+1 }):ar (av prog w) A (RQ (.ref x) "__class__") Q E s:=by
 obtain ⟨f,g,d,t,q⟩:=s;have e:=p.type (M:=av prog w);have l:=rZ (M:=av prog w) X Z.ga;have L2:=rZ (M:=av prog w) X Z.gn;have k:=rZ (M:=av prog w) X Z.ca;have u:=PySem.W.looks_specialIn (M:=av prog w) X Z.gg;have i:=PySem.W.looks_takesIn (M:=av prog w) X Z.tk;have o:=PySem.W.looks_mroIn (M:=av prog w) X Z.be;unfold RQ getAttrBy? getAttrBy;refine a7 (wpAny_mkText (a7 (iu (cc (a7 (e.at (a7 (l.at ?_))))))));show ar _ _ (getAttrByItsOwn (.ref x) (.str "__class__" t) (.ref C) (.builtin "BaseException.__getattribute__") false false) _ _ _;unfold getAttrByItsOwn;show ar _ _ (zm (.ref C) "__getattr__" >>= _) _ _ _;refine a7 (L2.at (a7 (iu (cc ?_))));show ar _ _ (boundAndCalled (.builtin "BaseException.__getattribute__") (.ref x) (.str "__class__" t)) _ _ _;unfold boundAndCalled;refine a7 (eK (F.excAttr_ValueError.ga.bind (.ref x)) ?_);show ar _ _ (call (.builtin "BaseException.__getattribute__") [.ref x,.str "__class__" t]) _ _ _;refine zk (wW F.excAttr_ValueError.ga.plain F.entry_bexc_ga ?_);have n:builtinKind "BaseException.__getattribute__"=some .slot:=by decide +kernel
 have c:splitId "BaseException.__getattribute__"=some ("BaseException","__getattribute__"):=by decide +kernel
 have b:=F.args_bexc_ga (.ref x) (.str "__class__" t);simp only [checkBuiltinCall,n,c];have j:Rq (av prog w) f (zr (.ref x) (.type "BaseException")) true:=e.andThen o;refine a7 (j.at ?_);rw [if_neg (by decide)];refine eK (a:=()) (by unfold argsOk at b;exact b) ?_;unfold h_.«object.__getattribute__»;refine a7 (m:=slotArgs "__getattribute__" 1 _) (a9 ?_);refine a7 (m:=Rr _) (a9 ?_);refine a7 (e.at (a7 ?_));unfold Rs;refine a7 (k.at (a7 (u.at (a7 ?_))));refine a7 (i.at ?_);refine a9 (a7 (cW (a9 ?_)));show ar _ _ (Ht [.builtin "object.__class__"] (call (.builtin "getset_descriptor.__get__") [.builtin "object.__class__",.ref x,.ref C]) >>= fun v=>ret v) _ _ _;refine a7 (cc (zk (SE (s:=⟨f,g,d,t+1,q⟩) Z X p ?_)));exact a9 (PySem.W.handed_on rfl (a9 h))
theorem OQ (Z:OP K C):PySem.W.KitX K (.ref x) (.ref C) (Cf x C) where
 ty:=fun _ _ _ p=>p.type
 it:=fun M h X _=>by
  obtain ⟨e,a⟩:=Option.isSome_iff_exists.mp Z.cl;unfold g_ at a;split at a
  ·rename_i g d' b c ho
   intro j Q' m s' k q;unfold isType loadHead;exact a7 (wpAny_loadPart (k _ _ (X _ _ ho)) (a9 q))
  ·cases a
 ne:=fun h f dd i n l X d=>by
  refine Bool.eq_false_iff.mpr fun q=>?_;obtain rfl:C=f:=Value.ref.inj (beq_iff_eq.mp q);obtain ⟨e,a⟩:=Option.isSome_iff_exists.mp Z.cl;unfold g_ at a;split at a
  ·rename_i g d' b c ho
   have z:=(X _ _ ho).symm.trans d;cases z
  ·cases a
 ca:=fun X p k=>Me Z X p k
end
theorem xZ:jF X (.builtin "isinstance") (fun xs H Q=>∃ x c d b,xs=[x,c]/\((∃ n,c=.ty n/\d=.type n)\/∃ g,c=.ref g/\d=.ref g)/\((∃ t,xj X.K H x t/\dQ X.K t d=some b) \/
  ∃ a C,x=.ref a/\H a=some (zM a C)/\OP X.K C/\dQ X.K (.ref C) d=some b)/\Q (.bl b) H):=by
 intro i s m H xs o Q I r h;obtain ⟨x,c,d,b,rfl,l,h,q⟩:=h;obtain ⟨u,v,rfl,k,j⟩:=Od r;obtain rfl:v=d:=by
  rcases l with ⟨n,rfl,rfl⟩|⟨g,rfl,rfl⟩
  ·exact j
  ·exact j
 rcases h with ⟨t,ty,e⟩|⟨a,C,rfl,hH,Z,e⟩
 ·exact pP I k ty e fun f=>⟨.bl b,H,I.tok f,rfl,q⟩
 ·cases k;have p:Cf a C s.heap:=(show de X.prog X.w H s.heap a (zM a C) from I.hok a _ hH).1;exact cP (OQ Z) I.kIn p e (fun z=>nomatch z) fun f=>⟨.bl b,H,I.tok f,rfl,q⟩
structure nq (k:Nat) (A:cf):Prop where
 dp:A.depth+3*k+5<HQ
 un:A.units+16*k+200<gM
theorem jO.h (r:jO k A):nq k A:=⟨r.dp,r.un⟩
theorem nq.mark (r:nq k A) (v:Option ac):nq k (A.mark v):=⟨r.dp,r.un⟩
theorem nq.deeper (r:nq (k+1) A) (env:Env):nq k (A.deeper env):=⟨by have:=r.dp;show A.depth+1+3*k+5<_;omega,by have:=r.un;show A.units+3+16*k+200<_;omega⟩
structure FE (P:bu) (w:bQ) (K:a8) (mg:Str->Option ac) (base:bK) (k:Nat) (f:aj) (fd:eI) (ps:List Str) (sp:Sp):Prop where
 len:∀ vs H Q E,sp vs H Q E->vs.length=ps.length
 run:∀ (A:cf) (outer:List Env) (s:ao) (H:Hp) (args:Args) (us:List ac) (vs:List V) (Q:VK) (E:XK),nq k A->IA P w K mg base A outer s H->xP s fd args (ps.zip us)->dH vs us->sp vs H Q E ->
  iK (av P w) A (.call (.ref f) args) (CR CX0 outer P w H s Q E) s
def XM (P:bu) (w:bQ) (K:a8) (mg:Str->Option ac) (base:bK) (N:List Str) (qual:Str) (scope:i5) (f:aj) (cd:ac) (A:cf) (outer:List Env) (s:ao) (H:Hp):Cx where
 prog:=P
 w:=w
 K:=K
 mg:=mg
 base:=base
 A:=A.deeper (jZ qual scope s.heap.objs.size f cd)
 N:=N
 s₀:=s
 H₀:=H
 env:=jZ qual scope s.heap.objs.size f cd
 outer:=outer
 stack:=jZ qual scope s.heap.objs.size f cd::outer
 ex:=[]
 calm:=false
 fn:=fun _=>true
 pn:=[]
 xe:=fun _ _=>False
section
variable {P:bu}{w:bQ}{K:a8}{mg:Str->Option ac}{base:bK}
theorem IL
  (S:bM N ps scope) (a:IA P w K mg base A outer s H) (c:vs.length=ps.length) (r:dH vs us)
  (x:InCallC s s.heap.objs.size (HR (jZ qual scope s.heap.objs.size f cd).kindOf (ps.zip us) fun _=>none) (bn (s.heap.objs.size+1) scope.names []) (HS (jZ qual scope s.heap.objs.size f cd).kindOf (ps.zip us) fun _=>none) s1) :
  bH (XM P w K mg base N qual scope f cd A outer s H) [] (start N vs) H s1:=by
 have b:IA P w K mg base { A with handled:=none } outer s H:=⟨a.frames,a.mod,a.bs,a.bsz,a.funs,a.frf,a.hok,a.bare⟩;have I:=C5 (CX:=CX0) (E:=E0) S (A:={ A with handled:=none }) rfl b c r x;exact ⟨⟨I.ok.mod,I.ok.kind,I.ok.glob,I.ok.blt,I.ok.above,I.ok.inj,I.ok.has,I.ok.cab,(fun z=>mq z),I.ok.frames,I.ok.stk,I.ok.exf,I.ok.bs,I.ok.bsz,I.ok.noex,I.ok.exfs,I.ok.funs,I.ok.frf⟩,I.os,I.bare,I.base,I.loc,I.cell,I.free,I.freeC,I.pin,I.hok,I.len⟩
theorem W8 {k:Nat}{f:aj}{name a:Str}{d:Arguments}{g:List dY}{scope:i5}{T kV l pm c ct oc:ac}{an od:Option aj}
  {G:Array (Option ac)}{N z:List Str}{sp:Sp} (lk:K.lookup f=some ⟨oc,od,.func (f9 name a d g scope T kV l pm an c ct),G⟩) (B:kJ K c a=true) (S:bM N z scope)
  (len:∀ h H Q E,sp h H Q E->h.length=z.length)
  (j:∀ (A:cf) (outer:List Env) (s:ao) (H:Hp) (h:List V) (Q:VK) (E:XK),nq k (A.deeper (jZ a scope s.heap.objs.size f c))->sp h H Q E ->
   ∃ t,Bh (XM P w K mg base N a scope f c A outer s H) g t/\t { nx:=fun _ H'=>Q .non H',rt:=Q } (start N h) H) :
  FE P w K mg base (k+1) f (f9 name a d g scope T kV l pm an c ct) z sp:=by
 refine ⟨len,fun A outer s H Y us h Q E U m hb r p=>?_⟩;have hl:=len _ _ _ _ p;have X:K.In s.heap:=m.mod.kin.keeps fun b o e=>(m.bs b o e).1;have L:s.heap.NoLimit:=m.mod.nolimit.keeps fun b o e=>(m.bs b o e).1;have i:∀ y∈z.zip us,scope.names.lookup y.1=some .local\/(scope.names.lookup y.1=some .cell/\((bn (s.heap.objs.size+1) scope.names []).lookup y.1).isSome=true):=fun ⟨n,v⟩ hy=>by
  rcases S.par n (rV hy).1 with q|q
  ·exact .inl q
  ·exact .inr ⟨q,fL _ _ _ (.inl q)⟩
 refine Ro (by have:=U.dp;omega) (X _ _ lk) rfl S.co S.gen rfl (uF X B) (hb _ _ _ _ ?_);refine HU S.kind i fun env he O x=>?_;subst he;refine ⟨L.keeps x.toInCall.keep,codeAny_func ?_⟩;obtain ⟨t,ht,hq⟩:=j A outer s H h Q E (U.deeper _) p;have I:bH (XM P w K mg base N a scope f c A outer s H) [] (start N h) H O:=IL S m hl r x;refine bB (ht [] O (start N h) H _ I hq) (fun fl s' hs=>?_) fun e s' hs=>(show False from hs).elim;have fin:∀ {σ':St}{H':Hp}{v:V}{u:ac},bH (XM P w K mg base N a scope f c A outer s H) [] σ' H' s'->dI v u->Q v H'->CE outer P w H s Q u s' :=
  fun {σ' H' v u} J M q=>⟨v,H',J.os,J.bare,J.base,J.hok,M,q⟩
 cases fl with
 |ret u =>
  obtain ⟨v,σ',H',J,M,q⟩:=hs;exact fin J M q
 |next =>
  obtain ⟨σ',H',J,q⟩:=hs;exact fin (v:=V.non) (u:=e6) J rfl q
 |brk =>
  obtain ⟨_,_,_,q⟩:=hs;exact e_ q
 |cont =>
  obtain ⟨_,_,_,q⟩:=hs;exact e_ q
theorem Fe.okH {x a:Str}{st:dY}{f:aj}{i:eI}{N g:List Str}{k:Nat}{sp:Sp} (F:Fe K x a st f i) (S:bM N g (ay st)) (len:∀ d H Q E,sp d H Q E->d.length=g.length)
  (c:∀ (b:ac) (A:cf) (outer:List Env) (s:ao) (H:Hp) (d:List V) (Q:VK) (E:XK),nq k (A.deeper (jZ a (ay st) s.heap.objs.size f b))->sp d H Q E ->
   ∃ t,Bh (XM P w K mg base N a (ay st) f b A outer s H) (i6 st) t/\t { nx:=fun _ H'=>Q .non H',rt:=Q } (start N d) H):FE P w K mg base (k+1) f i g sp:=by
 obtain ⟨p,v,kV,j,o,q,b,u,m,rfl,n,e⟩:=F.ex;exact W8 n e S len fun A outer s H d Q E l h=>c b A outer s H d Q E l h
end
theorem OR (F:FE X.prog X.w X.K X.mg X.base k f fd ps sp) (B:nq k X.A) (M:Gl X x) (G:X.mg x=some (.ref f)) (L:cY X.K (.ref f)=true) (E:jG X.K fd ps [])
  (v:PA X (e::es) t) (i:(x==("__debug__" : Str))=false:=by decide) (he:az (e::es) X.env=(false,dO e X.env)::az es X.env:=by rfl) (j:(gG pos (az es X.env)).any (·.1)=false:=by rfl) :
  PE X (.Call (.Name x p) (e::es) [] pos) (F8 sp [] E0 t):=by
 intro c s y H Q I h;refine lv (yS I M G ?_ i);refine uE (h₀:=X.base) I.ok.mod.kin L (fZ (v pos c s y H _ I h) fun d l ⟨n,m,g,r,q⟩=>⟨g.kIn,?_⟩) he j;have q:sp (n++[]) m Q E0:=q;rw [bT] at q;have o:d.length=ps.length:=by rw [<- r.length];exact F.len _ _ _ _ q
 have a:=E l d g.kIn (by rw [bT];exact o);rw [bT] at a;refine zk (pK (F.run X.A X.stack l m ⟨d,[]⟩ d n Q E0 B g.env0 a r q) fun r s' b=>?_);cases r with
 |error e=>exact (show False from b).elim
 |ok z =>
  cases z with
  |ret u=>exact g.after b
  |next=>exact e_ b
  |brk=>exact e_ b
  |cont=>exact e_ b
def tyD:Df->String
 |.none=>"NoneType" | .bool _=>"bool" | .int _=>"int" | .str _=>"str" | .list _=>"list" | .tuple _=>"tuple" | .dict _=>"dict"
theorem IM (I:bH X pins σ H s) (a:dI x u) (r:IK X.K H x d) (e:dQ X.K (.type (tyD d)) c=some b) (h:∀ k,Q (.bool b) { s with toks:=k }) :
  ar (av X.prog X.w) A (call (.builtin "isinstance") [u,c]) Q E s:=by
 cases r with
 |none=>exact pP I a .non e h
 |bool y=>exact pP I a (.bl y) e h
 |int i=>exact pP I a (.int i) e h
 |str y=>exact pP I a (.str y) e h
 |list f _ =>
  cases a;obtain ⟨g,j,⟨o,n,ho,c,_,dd⟩,_⟩:=I.list f;exact cP vA I.kIn ⟨o,ho,c⟩ e (fun z=>nomatch z) h
 |tuple f _ =>
  cases a;obtain ⟨g,j,⟨o,ho,c,n,dd⟩,_⟩:=I.tuple f;exact cP HN I.kIn ⟨o,ho,c⟩ e (fun z=>nomatch z) h
theorem OS:jF X (.builtin "isinstance") (fun xs H Q=>∃ x d T b,xs=[x,.ty T]/\IK X.K H x d/\dQ X.K (.type (tyD d)) (.type T)=some b/\Q (.bl b) H):=by
 intro a s j H xs k Q I r h;obtain ⟨x,d,T,b,rfl,i,e,q⟩:=h;obtain ⟨u,v,rfl,g,f⟩:=Od r;obtain rfl:v=.type T:=f;exact IM I g i e fun c=>⟨.bl b,H,I.tok c,rfl,q⟩
end L2
namespace HT
open PySem PyProof.Rows
theorem FF {t f:aj}{items:Array ac}{k i:ac}{lo c:Option Int}{Q:ac->ao->Prop} (a:HJ s.heap t items) (hs:s.heap.IsSliceOf f k i .none) (n:wS k lo) (m:wS i c)
  (j:jH items.size 0 lo=0/\jH items.size items.size c=items.size) (h:Q (.ref t) s):ar (av prog w) A (rN (.ref t) (.ref f)) Q E s:=by
 obtain ⟨o,d,e,l⟩:=id hs;have g:s.TypeIs (.ref f) "slice":=⟨o,d,e⟩;unfold rN;try with_reducible refine cc ?_
 first|refine a7 (a9 ?_)|skip
 refine a7 (wpAny_sequenceKey a.typeIs (by decide) ?_);refine a7 (cx (name:=i4 "__getitem__") a.typeIs gH
  (bO gH a.typeIs entry_tuple_getitem ?_ (args_tuple_getitem _ _)))
 show ar _ _ (vC (.ref t) >>= _) _ _ s;refine a7 (tupleItemsOf_ a ?_);refine a7 (mD g ?_);rw [if_pos (by decide)];refine a7 (pR hs n m ?_);have b:((((jH items.size 0 lo:Nat):Int)==0&&(1:Int)==1&&(jH items.size items.size c-jH items.size 0 lo)==items.size)=true):=by
  rw [j.1,j.2];simp
 show ar _ _ (if (((jH items.size 0 lo:Nat):Int)==0&&(1:Int)==1&&(jH items.size items.size c-jH items.size 0 lo)==items.size)=true then _ else _) _ _ s;rw [if_pos b];refine a7 ?_;unfold Builtin.Tuple.tupleIsExact;refine a7 (mD a.typeIs (a9 ?_));rw [if_pos (by decide)];refine a7 (cW ?_);first
  |exact a9 (a9 ⟨_,rfl,h⟩)
  |exact a9 ⟨_,rfl,a9 h⟩
  |exact a7 (a9 (a9 ⟨_,rfl,a9 h⟩))
  |exact a7 (a9 (a9 ⟨_,rfl,h⟩))
end HT
namespace L2
open PySem PySem.Spec PyProof.Rows
inductive OT (K:a8) (x:V) (lo:Option Int) (hi:Option Int) (H:Hp) (Q:VK):Prop
 |mk (a xs:_) (h0:x=.ref a) (h1:m5 K H a xs) (h2:(HT.jH xs.length 0 lo=0/\HT.jH xs.length xs.length hi=xs.length)) (h3:Q (.ref a) H):OT K x lo hi H Q
def XN (K:a8):V->Option Int->Option Int->Hp->VK->Prop:=OT K
theorem SF:Xy X (XN X.K):=by
 intro e s m H x v o p lo n t Q I f hs k i h;obtain ⟨a,xs,rfl,j,g,q⟩:=h;cases f;obtain ⟨c,r,d,l⟩:=I.tuple j;have b:c.toArray.size=xs.length:=by rw [aK];exact r.length.symm
 exact ⟨"tuple",_,PyProof.Rows.slot_tuple_getitem.lookup,d.typeIs,HT.FF d hs k i (by rw [b];exact g) ⟨.ref a,H,I,rfl,q⟩⟩
theorem jQ (h:H p=none):dD H (upd H p o):=fun b u e=>by rw [aV (bh e h)];exact e
theorem uO:∀ {bs:List Bool}{a:List ac},dH (bs.map V.bl) a->a=bs.map jo
 |[],_,.nil=>rfl
 |b::r,_,.cons h t=>by cases h;rw [uO t];rfl
theorem zO {A:cf}{s:ao}{bs:List Bool}:∀ y,y∈(bs.map jo).toArray->LB A s y (.bool true) (xa true y):=fun y a=>by
 have a:y∈bs.map jo:=by simpa using a
 obtain ⟨b,_,rfl⟩:=List.mem_map.mp a;exact BW b true
def SG (K:a8):V->List V->Hp->VK->Prop:=fun x a H Q=>∃ l,∃ bs:List Bool,x=.ref l/\a=[.bl true]/\nl K H l (bs.map V.bl)/\Q (.int (bs.countP id:Nat)) H
theorem Mf:ZS X "list.count" (SG X.K):=by
 intro f s z H x E v B Q I i m h;obtain ⟨l,bs,rfl,rfl,j,q⟩:=h;cases i;obtain ⟨u,rfl,p⟩:=m.one;cases p;obtain ⟨k,r,⟨o,n,ho,c,A,a⟩,w⟩:=I.list j;rw [uO r] at a;obtain ⟨cls,dd,d,t⟩:=o;simp only at c a;subst c a;refine zo BY ⟨_,ho,rfl⟩ PySem.F.entry_list_count (PySem.F.args_list_count_2 _ _) (SeqAt.list_countAt l (bs.map jo).toArray n dd t (.bool true) (xa true)) ⟨ho,fun y g=>zO y g,?_⟩;refine ⟨.int _,H,I.tok _,⟨_,rfl⟩,?_⟩;have e:(bs.map jo).toArray.toList.countP (xa true)=bs.countP id:=by
  show (bs.map jo).countP (xa true)=_;rw [List.countP_map];congr 1;funext b;cases b<;>rfl
 rw [e];exact q
def SH (K:a8):V->List V->Hp->VK->Prop:=fun x a H Q=>∃ l,∃ bs:List Bool,∃ j:Nat,x=.ref l/\a=[.bl true]/\nl K H l (bs.map V.bl)/\bs[j]?=some true/\(∀ m,m<j->bs[m]?=some false)/\j<=1000/\Q (.int (j:Nat)) H
theorem Mh:ZS X "list.index" (SH X.K):=by
 intro i s N H x T v S Q I p A h;obtain ⟨l,bs,j,rfl,rfl,t,G,e,w,q⟩:=h;cases p;obtain ⟨u,rfl,B⟩:=A.one;cases B;obtain ⟨z,r,⟨o,n,ho,c,P,b⟩,M⟩:=I.list t;rw [uO r] at b;obtain ⟨cls,dd,g,E⟩:=o;simp only at c b;subst c b;obtain ⟨f,a⟩:=List.getElem?_eq_some_iff.mp G;refine zo BZ ⟨_,ho,rfl⟩ PySem.F.entry_list_index (PySem.F.args_list_index_2 _ _) (SeqAt.list_indexAt l (bs.map jo).toArray n dd E (.bool true) (xa true) j (by simpa using f) (by omega) ?_ ?_) ⟨ho,fun y k=>zO y k,?_⟩
 ·simp [xa,a]
 ·intro m O d;have:=e m d;obtain ⟨_,L⟩:=List.getElem?_eq_some_iff.mp this;simp [xa,L]
 ·exact ⟨.int _,H,I.tok _,⟨_,rfl⟩,q⟩
theorem zP (T:X.calm=true):jF X (.type "list") (fun xs H Q=>∃ a kvs,xs=[.ref a]/\H a=some (.dK kvs)/\∀ l,H l=none->Q (.ref l) (upd H l (.lst (kvs.map fun p=>kV p.1)))):=by
 intro B s σ H xs us Q I r h;obtain ⟨a,kvs,rfl,hH,q⟩:=h;obtain ⟨u,rfl,O⟩:=kM r;cases O;obtain ⟨P,hs,f,rk,hd⟩:=(show de X.prog X.w H s.heap a (.dK kvs) from I.hok a _ hH);obtain ⟨m,z⟩:∃ m,s.heap.DictAt (dG X.prog X.w) a f m:=by
  obtain ⟨o,es,m,y,h2,S,Y⟩:=hd;exact ⟨m,o,es,y,h2,S,Y⟩
 have K:kvs.length=f.length:=jV rk;refine PySem.W.kdl_call (PySem.W.kdl_dict hs) (I.ok.hd T) z (by omega) fun h' M c U kp e d=>?_;have rv:dH (kvs.map fun p=>kV p.1) c.toList:=by
  have n:∀ {kvs:List (eC×V)}{f:List (eC×ac)} (b:List ac),KV kvs f->b.length=f.length->(∀ (j:Nat) (v:ac),b[j]?=some v->∃ k x,f[j]?=some (k,x)/\zx k v=true)->dH (kvs.map fun p=>kV p.1) b:=by
   intro kvs;induction kvs with
   |nil=>intro f b rk g _;cases rk;cases b with
    |nil=>exact .nil
    |cons _ _=>simp at g
   |cons p kvs N =>
    intro f b rk g L;cases rk with
    |cons y t1 =>
     cases b with
     |nil=>simp at g
     |cons v b =>
      refine .cons ?_ (N b t1 (by simpa using g) fun j v A=>by simpa using L (j+1) v (by simpa using A));obtain ⟨k,x,E,e2⟩:=L 0 v rfl;simp only [EY,EO] at E;subst E;have G:p.1=k:=y.1;rcases fS e2 with ⟨i,t,e,rfl⟩|⟨i,t,e,rfl⟩
      ·show dI (kV p.1) _;rw [G,e];exact ⟨t,rfl⟩
      ·show dI (kV p.1) _;rw [G,e];exact ⟨t,rfl⟩
  exact n c.toList rk (by rw [au];exact d.1) fun j v A=>d.2 j v (by rw [<- aL];exact A)
 exact ⟨.ref s.heap.objs.size,_,I.laid (t':=M) kp (ap _) (show de X.prog X.w _ h' _ (.lst _) from ⟨by simpa using P,c.toList,U,rv,by rw [Ii];exact e⟩),rfl,q _ (I.hok.fresh (ap _))⟩
def zQ (x:Str):List V:=x.cps.toList.map fun c=>V.str ⟨#[c]⟩
theorem yE (K:X.calm=true):jF X (.type "tuple") (fun xs H Q=>∃ x,xs=[.str x]/\x.cps.size<=sizeLine/\∀ l,H l=none->Q (.ref l) (upd H l (.tup (zQ x)))):=by
 intro d s z H xs P Q I r h;obtain ⟨x,rfl,y,q⟩:=h;obtain ⟨u,rfl,G⟩:=kM r;obtain ⟨t,rfl⟩:=G;refine call_tuple_str (I.ok.hd K) x t (fun h' i a kp f=>?_) y;have B:bH X d z H { s with heap:=h',toks:=i }:=I.kept (t':=i) kp;have M:dH (zQ x) a.toList:=by
  have n:∀ (g:List Nat) (a:List ac),a.length=g.length->(∀ (j:Nat) (v:ac),a[j]?=some v->∃ c u,g[j]?=some c/\v=.str ⟨#[c]⟩ u)->dH (g.map fun c=>V.str ⟨#[c]⟩) a:=by
   intro g;induction g with
   |nil=>intro a k _;cases a with
    |nil=>exact .nil
    |cons _ _=>simp at k
   |cons c g E =>
    intro a k A;cases a with
    |nil=>simp at k
    |cons v a =>
     obtain ⟨O,u,m,rfl⟩:=A 0 v rfl;simp only [EY,EO] at m;subst m;exact .cons ⟨u,rfl⟩ (E a (by simpa using k) fun j v p=>by simpa using A (j+1) v (by simpa using p))
  refine n x.cps.toList a.toList (by rw [au,au];exact f.1) fun j v p=>?_;obtain ⟨c,u,m,N⟩:=f.2 j v (by rw [<- aL];exact p);exact ⟨c,u,by rw [aL];exact m,N⟩
 have L:bH X d z (upd H h'.objs.size (.tup (zQ x))) { s with heap:=h'.push { cls:=.type "tuple",data:=.seq a },toks:=i } :=
  B.laid (t':=i) (fun b o e=>aa _ e) (ap _) (show de X.prog X.w _ _ _ (.tup (zQ x)) from ⟨by unfold zQ;simpa using y,a.toList,M,by rw [Ii];exact yq _ _⟩)
 exact ⟨.ref h'.objs.size,_,L,rfl,q _ (B.hok.fresh (ap _))⟩
end L2
namespace L2
open PySem PySem.Spec PyProof.Rows
theorem DG (elt target iter:bZ) (ifs:List bZ) (scope:i5) (pos:Pos) (it acc:ac) (env:Env) :
  compTurn (.SetComp elt [⟨target,iter,ifs,0⟩] scope pos) 0 it acc env=(do
   xO iter.pos
   let r <- kH it
   match r with
   |none=>pure (.done .next)
   |some v =>
    ii target it v
    rT target env v;let mut ok:=true
    for c in ifs do
     if ok then ok <- wR c env (dO c env)
    if ok then
     (do let v <- dO elt env;xO elt.pos;let _ <- call (.builtin "set.add") [acc,v])
    RC (.compLoop (.SetComp elt [⟨target,iter,ifs,0⟩] scope pos) 0 it acc env)):=by rfl
theorem rL {elt target iter ifs c7 scope pos it acc env}
  (h0:iK (av prog w) A (.compLoop (.SetComp elt (⟨target,iter,ifs,0⟩::c7) scope pos) 0 it acc env) R s)
  (h:ar (av prog w) A (zi it) (fun it' s'=>iK (av prog w) A (.compLoop (.SetComp elt (⟨target,iter,ifs,0⟩::c7) scope pos) 0 it' acc env) R s')
   (notedBy (av prog w) A env fun x s'=>R (.error x) s') s) :
  iK (av prog w) A (.compStart (.SetComp elt (⟨target,iter,ifs,0⟩::c7) scope pos) 0 it acc env) R s:=by
 refine EW ?_;show ar _ _ ((compStart (.SetComp elt (⟨target,iter,ifs,0⟩::c7) scope pos) 0 it acc env).onRaise (fun x=>do Dc x env;xO theWindowsPlace)) _ _ s;refine wpAny_notedAt ?_;unfold compStart;show ar _ _ (ask >>= _) _ _ s;refine a7 (iP (wpAny_ite ?_));split
 ·first
   |exact a7 (a9 (a9 (vt rfl h0)))
   |exact a9 (vt rfl h0)
 ·first
   |exact a7 (cW (a7 (jA (a7 (bB h (fun it' s' hq=>a9 (vt rfl hq)) fun _ _ x=>x)))))
   |(refine a7 (cW ?_);show ar _ _ (xO iter.pos >>= _) _ _ s;exact a7 (jA (a7 (bB h (fun it' s' hq=>a9 (vt rfl hq)) fun _ _ x=>x))))
theorem ux (h:Q (.ref s.heap.objs.size) { s with heap:=s.heap.push (fM w) }):ar (av prog w) A (newSet (.type "set")) Q E s:=by
 unfold newSet setsByText;refine a7 (a7 (iP (a9 ?_)));dsimp only;simp only [newObj];exact a7 (RH (a9 h))
theorem Bp (d:mH w s.heap a ss) (f:ss.length+1<jD)
  (h:∀ h' b,bI a s.heap h'->mH w h' a (if x∈ss then ss else ss++[x])->Q .none { s with heap:=h',toks:=b }) :
  ar (av prog w) A (call (.builtin "set.add") [.ref a,.str x tk]) Q E s:=by
 have e:s.TypeIs (.ref a) "set":=by obtain ⟨es,i,t,I,_⟩:=id d;exact ⟨_,I.at_,rfl⟩
 refine bO F.slot_set_add e F.entry_set_add ?_ (F.args_set_add_2 _ _);unfold h_.«set.add» RS;simp only [List.isEmpty_nil,bind_assoc];unfold RT;refine a7 (a9 ?_);try dsimp only
 refine a7 (a9 ?_);try dsimp only
 refine a7 ?_;refine Fq d f fun h' b g c=>?_;exact a9 ⟨_,rfl,h h' b g c⟩
theorem FG (I:Nat->ao->Prop)
  (turn:∀ n s,I n s->ar (av prog w) A (kH it) (fun r s₁=>match r with
   |none=>R (.ok .next) s₁
   |some v=>ar (av prog w) A (ii target it v) (fun _ s₁'=>ar (av prog w) A (rT target env v) (fun _ s₂ =>
     ar (av prog w) A (forIn ifs true fun c r=>if r=true then do let ok <- wR c env (dO c env);pure (gD ok) else pure (gD r)) (fun ok s₃ =>
      if ok=true then ar (av prog w) A (dO elt env) (fun x s₄ =>
       ar (av prog w) A (call (.builtin "set.add") [acc,x]) (fun _ s₅=>∃ m,m<n/\I m s₅) (fun _ _=>False) s₄) (fun _ _=>False) s₃
      else ∃ m,m<n/\I m s₃) (fun _ _=>False) s₂) (fun _ _=>False) s₁') (fun _ _=>False) s₁) (fun _ _=>False) s)
  (n:Nat) (h:I n s) :
  iK (av prog w) A (.compLoop (.SetComp elt [⟨target,iter,ifs,0⟩] scope pos) 0 it acc env) R s:=by
 refine codeAny_loop rfl I (fun n s hI=>?_) n h;show ar _ A ((compTurn (.SetComp elt [⟨target,iter,ifs,0⟩] scope pos) 0 it acc env).onRaise (fun x=>do Dc x env;theTreesLotGoes x)) _ _ s;refine wpAny_noted ?_;rw [DG];have nf:∀ {α:Type}{t:Sem α}{Q:α->ao->Prop}{E':ac->ao->Prop}{s:ao},ar (av prog w) A t Q (fun _ _=>False) s->ar (av prog w) A t Q E' s :=
  fun h=>bB h (fun _ _ q=>q) fun _ _ f=>f.elim
 refine a7 (jA (a7 (nf (bB (turn n s hI) (fun r s₁ h₁=>?_) fun _ _ h'=>h'))));cases r with
 |none=>exact a9 h₁
 |some v =>
  refine a7 (nf (bB h₁ (fun _ s₁' h₁'=>?_) fun _ _ h'=>h'));refine a7 (nf (bB h₁' (fun _ s₂ h₂=>a7 (nf (bB h₂ (fun ok s₃ h₃=>?_) fun _ _ h'=>h'))) fun _ _ h'=>h'));cases ok with
  |false=>exact a9 ⟨rfl,h₃⟩
  |true =>
   exact a7 (a7 (nf (bB h₃ (fun x s₄ h₄=>a7 (jA (a7 (nf (bB h₄ (fun _ s₅ h₅=>a9 (a9 ⟨rfl,h₅⟩)) fun _ _ h'=>h'))))) fun _ _ h'=>h')))
inductive SLI (X:Cx) (pins:List (aj×Obj)) (N':List Str) (scope:i5) (cl:List (Str×aj)) (C:aj) (s2:ao) (H2:Hp) (fp:List aj) (nt:Nat) (ix:List Nat) (σ:St) (tn:Nat->bK->Prop) (W:Nat->Nat->List Str->Hp->Prop) (n:Nat) (s':ao):Prop
 |mk (i:Nat) (acc:List Str) (oD:Obj) (H':Hp) (I:bH (dg X N' scope cl C s2 H2 fp (X.pn++pins)) [(s2.heap.objs.size,oD)] (kE nt ix σ) H' s') (S:mH X.w s'.heap s2.heap.objs.size acc) (t:tn i s'.heap) (f:∀ b∈fp,H' b=none) (w:W i n acc H'):SLI X pins N' scope cl C s2 H2 fp nt ix σ tn W n s'
theorem Mi {X:Cx}{b8 tg a3:bZ}{b9:List bZ}{scope:i5}{e1:Pos}{g:TG}{tt:TT}{te:TE}{N':List Str}{nt:Nat}{ix:List Nat}
  (hc:X.calm=true) (S:pc X scope N' nt ix) (lo:Uy nt g)
  (s:∀ G C M O ex pn,PG (dg X N' scope G C M O ex pn) tg g/\Ry (dg X N' scope G C M O ex pn) b9 tt/\PE (dg X N' scope G C M O ex pn) b8 te)
  {G:List (Str×aj)} (c1:∀ x c,G.lookup x=some c->X.env.cells.lookup x=some c) (c2:∀ y∈scope.names,y.2=.free->∃ c,G.lookup y.1=some c)
  {f:List (aj×Obj)}{σ:St}{I:Hp}{h:ao}{it:aj}{B:List aj}{tn:Nat->bK->Prop}{J:It}{Q:VK}{E:ac->ao->Prop}
  (Y:bH X f σ I h) (T:zz X.prog X.w X.K tg J B it tn) (d4:tn 0 h.heap) (f2:∀ b∈B,se X f I b)
  {W:Nat->Nat->List Str->Hp->Prop} (w0:∃ m,W 0 m [] I)
  (d2:∀ i m k H,W i m k H->(J.stop i H/\∀ p,H p=none->Q (.ref p) (upd H p (mL X.w p k))) \/
   (J.go i H/\k.length+1<jD/\∀ x H',J.yld i H x H'->g x (kE nt ix σ) H' fun d7 I=>tt d7 I fun b H3 =>
    if b=true then te d7 H3 fun y H4=>∃ z m',y=.str z/\m'<m/\W (i+1) m' (if z∈k then k else k++[z]) H4 else ∃ m',m'<m/\W (i+1) m' k H3))
  {RR:ac->aj->Result->ao->Prop}
  (e5:∀ D C m s' (k:List Str) H',H' D=none->se X f (upd H' D (mL X.w D k)) C->Q (.ref D) (upd H' D (mL X.w D k))->s'.heap.Ns C m->(∀ h',bI C s'.heap h'->bH X f σ (upd H' D (mL X.w D k)) { s' with heap:=h' })->RR (.ref D) C (.ok .next) s') :
  ar (av X.prog X.w) X.A (newSet (.type "set")) (fun k e3=>ar (av X.prog X.w) X.A (wU scope X.env.globals G [] X.env.qual none .none (some X.env)) (fun a4 d0 =>
   iK (av X.prog X.w) X.A (.compStart (.SetComp b8 [⟨tg,a3,b9,0⟩] scope e1) 0 (.ref it) k { a4 with scope:=relabel scope X.env }) (RR k a4.locals) d0) E e3) E h:=by
 refine ux (K6 fun l t=>?_);dsimp only at t ⊢;generalize c0:h.heap.push (fM X.w)=G2 at t ⊢;have hC:G2.objs.size=h.heap.objs.size+1:=by rw [<- c0,cm]
 have U:h.heap.objs.size≠G2.objs.size:=by rw [hC];exact aB (eu _)
 have L:h.heap.objs.size<=G2.objs.size:=by rw [hC];exact iL _
 have below:∀ b,b<h.heap.objs.size->b≠G2.objs.size:=fun b s=>by rw [hC];exact aB (eP s)
 have kp:∀ b o,G2.get? b=some o->l.get? b=some o:=fun b o e=>by rw [t];exact vp _ _ b o (aa _ e)
 have a0:l.Ns G2.objs.size (fun _=>none):=by rw [t];exact (Heap.Ns.new G2 (.type "dict")).keeps (vp _ _)
 have N:CellsOk l (G2.objs.size+1) (bn (G2.objs.size+1) scope.names []):=by rw [t];exact Cb G2 scope.names
 have cne:∀ x c,(bn (G2.objs.size+1) scope.names G).lookup x=some c->X.env.cells.lookup x=some c\/h.heap.objs.size<c:=fun x c e=>by
  rcases m7 e with a|⟨_,a⟩
  ·exact .inr (aC (lz L) (N.empty x c a).2)
  ·exact .inl (c1 x c a)
 have d5:∀ b o,h.heap.get? b=some o->l.get? b=some o:=fun b o e=>kp b o (c0 ▸ aa _ e);have a2:l.get? h.heap.objs.size=some (fM X.w):=kp _ _ (c0 ▸ aw _ rfl);have ff:∀ b∈B,b<h.heap.objs.size:=fun b s=>by
  obtain ⟨o,e,_⟩:=T.obj _ _ d4 b s;exact aq e
 have I3:bH (dg X N' scope (bn (G2.objs.size+1) scope.names G) G2.objs.size h I B (X.pn++f)) [] (kE nt ix σ) I { h with heap:=l,toks:=h.toks }:=Fm S Y c1 c2 f2 ff L a0 d5 N;obtain ⟨pg,pt,pe⟩:=s (bn (G2.objs.size+1) scope.names G) G2.objs.size h I B (X.pn++f);have a5:h.heap.objs.size∉tq X.stack:=fun z=>by
  rcases List.mem_cons.mp (Y.stkSub _ z) with e|e
  ·exact absurd Y.lt (by rw [<- e];exact bY _)
  ·exact Y.nofs (ap _) e
 have d1:tn 0 l:=T.keep _ _ _ d4 fun b _ o e=>d5 b o e;have c3:h.heap.objs.size∉B:=fun z=>absurd (ff _ z) (bY _);have P:∀ {H':Hp}{pl:List (aj×Obj)},(∀ p∈pl,p.1∉B)->(∀ b∈B,H' b=none)->∀ b∈B,se (dg X N' scope (bn (G2.objs.size+1) scope.names G) G2.objs.size h I B (X.pn++f)) pl H' b:=fun h3 hn b s=>by
  obtain ⟨f0,f1,f6,f3,f4,f5⟩:=f2 b s;refine ⟨hn b s,below b (ff b s),fun z=>?_,.inl s,fun x c e=>(cne x c e).elim (f4 x c) fun q z=>yu q (by rw [z];exact ff b s),fun p hp z=>?_⟩
  ·rcases List.mem_cons.mp (Y.stkSub _ z) with e|e
   ·exact f1 e
   ·exact f6 e
  ·rcases List.mem_append.mp hp with q|q
   ·exact f5 p q z
   ·exact h3 p q (z ▸ s)
 obtain ⟨m0,w0⟩:=w0;have a1:iK (av X.prog X.w) X.A (.compLoop (.SetComp b8 [⟨tg,a3,b9,0⟩] scope e1) 0 (.ref it) (.ref h.heap.objs.size) (compEnvC scope (bn (G2.objs.size+1) scope.names G) G2.objs.size X.env))
    (RR (.ref h.heap.objs.size) G2.objs.size) { h with heap:=l,toks:=h.toks }:=by
  refine FG (SLI X f N' scope (bn (G2.objs.size+1) scope.names G) G2.objs.size h I B nt ix σ tn W) ?_ m0
   ⟨0,[],_,I,I3.pin1 a2 (Y.hok.fresh (ap _)) U a5 (fun v z=>nomatch z),Cd X.w a2,d1,fun b s=>(f2 b s).1,w0⟩
  rintro n s3 ⟨i,k,oD,H3,J3,h2,d8,d3,w3⟩;have b6:∀ p∈[(h.heap.objs.size,oD)],p.1∉B:=fun p hp=>by
   have:p=(h.heap.objs.size,oD):=by simpa using hp
   rw [this];exact c3
  have b7:∀ {s8:ao},s8.heap.get? h.heap.objs.size=some oD->mH X.w s8.heap h.heap.objs.size k:=fun {s8} e=>h2.keep fun o eo=>by
   have q:=(J3.pin (h.heap.objs.size,oD) (aM _ (List.mem_singleton.mpr rfl))).1;rw [q] at eo;cases eo;exact e
  rcases d2 i n k H3 w3 with ⟨c5,qn⟩|⟨go,hlt,step⟩
  ·refine fZ (T.done (dg X N' scope (bn (G2.objs.size+1) scope.names G) G2.objs.size h I B (X.pn++f)) rfl rfl rfl hc i _ s3 _ H3 _ J3 (P b6 d3) d8 c5) fun r s4 g0=>?_;obtain ⟨hr,I4⟩:=g0;subst hr;obtain ⟨pD,pN,_⟩:=I4.pin (h.heap.objs.size,_) (aM _ (List.mem_singleton.mpr rfl));obtain ⟨mm,hn,_⟩:=I4.loc;have d9:H3 G2.objs.size=none:=I4.free;refine e5 _ _ mm s4 k H3 pN (Y.fpOk L (by rw [aV (cV U)];exact d9)) (qn _ pN) hn fun h' sb=>?_;have hu:Un (tq X.stack) B I (upd H3 h.heap.objs.size (mL X.w h.heap.objs.size k)) h.heap h':=Un.grow I4.base sb L (ap _) pN;refine Y.call' (s':={ s4 with heap:=h' }) (ch:=B) I4.os hu ?_ I4.bare fun b s=>?_
   ·exact tx (zF I4.hok d9 sb) pN (DC ((b7 pD).keep fun o e=>(sb.2 _ U).trans e))
   ·obtain ⟨_,f1,_,f3,f4,f5⟩:=f2 b s;exact ⟨f3,f1,f4,f5⟩
  ·refine fZ (T.item (dg X N' scope (bn (G2.objs.size+1) scope.names G) G2.objs.size h I B (X.pn++f)) rfl rfl rfl hc i _ s3 _ H3 _ J3 (P b6 d3) d8 go) fun r s4 h7=>?_;obtain ⟨u,hr,h4⟩:=h7;subst hr;refine fZ h4 fun _ s5 g1=>?_;obtain ⟨x,H5,I5,r5,y5,a6,h5⟩:=g1;have e4:=I5.pinned (P b6 h5) (T.obj _ _ a6);refine fZ (pg _ s5 _ H5 x u _ e4 r5 (lo _ _ _ _ (step x H5 y5))) fun _ s6 g3=>?_;obtain ⟨b0,H6,I6,q6,l6,k6⟩:=g3;have hw:∀ (j:Nat) v,(kE nt ix σ)[j]?=some (some v)->b0[j]?=some (some v):=fun j v e=>by
    by_cases hj:nt<=j
    ·rw [k6 j hj];exact e
    ·unfold kE at e;rw [bi (by simpa using hj),bW,if_pos (by omega)] at e;cases e
   refine fZ (pt _ s6 b0 H6 _ I6 q6) fun b s7 h1=>?_;obtain ⟨H7,I7,q7⟩:=h1;have e2:∀ {s8:ao}{d6:St}{H8:Hp},bH (dg X N' scope (bn (G2.objs.size+1) scope.names G) G2.objs.size h I B (X.pn++f)) ([(h.heap.objs.size,oD)]++xh B s5.heap) d6 H8 s8 ->
     tn (i+1) s8.heap/\∀ b∈B,H8 b=none:=fun {s8 d6 H8} I8=>by
    refine ⟨T.keep _ _ _ a6 fun b s o e=>(I8.pin (b,o) (aM _ (aM _ (lB s e)))).1,fun b s=>?_⟩;obtain ⟨o,e,d⟩:=T.obj _ _ a6 b s;exact (I8.pin (b,o) (aM _ (aM _ (lB s e)))).2.1
   cases b with
   |false =>
    simp only [bA,if_false] at q7 ⊢;obtain ⟨m',hm,w7⟩:=q7;obtain ⟨t7,f7⟩:=e2 I7;obtain ⟨pD,_⟩:=I7.pin (h.heap.objs.size,oD) (aM _ (bg _ (List.mem_singleton.mpr rfl)));exact ⟨m',hm,i+1,k,oD,H7,(I7.weak l6.symm hw).unpinned,b7 pD,t7,f7,w7⟩
   |true =>
    simp only [if_true] at q7 ⊢;refine fZ (pe _ s7 b0 H7 _ I7 q7) fun u8 s8 g5=>?_;obtain ⟨y,H8,I8,r8,z,m',hy,hm,w8⟩:=g5;obtain ⟨t8,f8⟩:=e2 I8;obtain ⟨pD,pN,_⟩:=I8.pin (h.heap.objs.size,_) (aM _ (bg _ (List.mem_singleton.mpr rfl)));subst hy;obtain ⟨tz,rfl⟩:=r8;refine Bp (b7 pD) hlt fun h9 e9 c4 e0=>?_;obtain ⟨h6,g8,t9,g7,h8⟩:=id e0;have h0:=g7.at_;refine ⟨m',hm,i+1,_,{ cls:=.type "set",dict:=none,data:=.set h6 g8 t9 },H8,?_,e0,T.keep _ _ _ t8 fun b s o e=>c4.extBut b o (fun z=>c3 (z ▸ s)) e,f8,w8⟩;have g4:bH (dg X N' scope (bn (G2.objs.size+1) scope.names G) G2.objs.size h I B (X.pn++f)) [] (kE nt ix σ) H8 s8:=(I8.weak l6.symm hw).pins_of fun p hp=>absurd hp (by simp);have I9:bH (dg X N' scope (bn (G2.objs.size+1) scope.names G) G2.objs.size h I B (X.pn++f)) [] (kE nt ix σ) H8 { s8 with heap:=h9,toks:=e9 } :=
     g4.turned (it:=h.heap.objs.size) (fun b o s e=>c4.extBut b o s e) pN U (.inr (ap _)) (fun x c e z=>by
      rcases cne x c e with e|e
      ·obtain ⟨v,q⟩:=Y.cell x c e;exact absurd q.lt (by rw [z];exact bY _)
      ·exact absurd e (by rw [z];exact bY _)) fun p hp z=>by
      have hp:p∈X.pn++f:=(List.mem_append.mp hp).elim id fun z=>absurd z (by simp);exact absurd (aq (Y.pin p hp).1) (by rw [z];exact bY _)
    exact I9.pin1 h0 pN U a5 (fun v z=>nomatch z)
 exact rL a1 (T.self _ 0 _ _ _ d1 a1)
inductive UD (w:bQ) (nt:Nat) (ix:List Nat) (g:TG) (tt:TT) (te:TE) (σ:St) (Q:VK) (J:It) (H1:Hp):Prop
 |mk (W:Nat->Nat->List Str->Hp->Prop) (w0:∃ m,W 0 m [] H1) (turn:∀ i m acc H,W i m acc H ->
 (J.stop i H/\∀ p,H p=none->Q (.ref p) (upd H p (mL w p acc))) \/
 (J.go i H/\acc.length+1<jD/\∀ x H',J.yld i H x H'->g x (kE nt ix σ) H' fun σ2 H2=>tt σ2 H2 fun b H3 =>
  if b=true then te σ2 H3 fun y H4=>∃ z m',y=.str z/\m'<m/\W (i+1) m' (if z∈acc then acc else acc++[z]) H4 else ∃ m',m'<m/\W (i+1) m' acc H3)):UD w nt ix g tt te σ Q J H1
def OU (w:bQ) (nt:Nat) (ix:List Nat) (d:TI) (g:TG) (c:TT) (b:TE):TE:=fun a H Q=>d a H (UD w nt ix g c b a Q)
theorem IN {X:Cx}{j tg a:bZ}{b:List bZ}{scope:i5}{i:Pos}{E:TI}{g:TG}{G:TT}{B:TE}{N':List Str}{nt:Nat}{ix:List Nat}
  (U:X.calm=true) (S:pc X scope N' nt ix) (lo:Uy nt g) (Y:PI X tg a E)
  (hb:∀ n C d c t o,PG (dg X N' scope n C d c t o) tg g/\Ry (dg X N' scope n C d c t o) b G/\PE (dg X N' scope n C d c t o) j B)
  (hs:∀ x,eV a X.env x=pure x:=by intro _;rfl):PE X (.SetComp j [⟨tg,a,b,0⟩] scope i) (OU X.w nt ix E g G B):=by
 intro f s z H Q I h;obtain ⟨n,u,c1,N⟩:=uK (scope:=scope) (env:=X.env) fun y L hf=>I.ok.has y.1 (S.free y L hf);show ar _ _ (comprehension (.SetComp j [⟨tg,a,b,0⟩] scope i) scope X.env (firstIterPos [⟨tg,a,b,0⟩] i) (newSet (.type "set")) (firstAsync [⟨tg,a,b,0⟩]) (firstIter [⟨tg,a,b,0⟩] X.env)) _ _ _;refine rX (use:=none) rfl hs u S.kind S.loc (fZ (Y f s z H _ I h) fun v s1 K=>fZ K fun O s2 h2=>?_);obtain ⟨it,fp,tn,J,H2,e,I2,T,p,f2,W,M,l⟩:=h2;subst e;refine Mi (RR:=fun k C=>compPost (av X.prog X.w) X.A X.xe none (EP X f z Q) k C) U S lo hb c1 N I2 T p f2 M l ?_;intro D C m s' k H' hD _ q hn P;exact ⟨m,hn,fun h' sb=>⟨.ref D,_,P h' sb,rfl,q⟩⟩
theorem Br:jF X (.builtin "len") (fun xs H Q=>∃ p a,xs=[.ref p]/\H p=some (mL X.w p a)/\Q (.int a.length) H):=by
 intro e s k H xs n Q I r h;obtain ⟨p,a,rfl,g,q⟩:=h;obtain ⟨u,rfl,f⟩:=kM r;cases f;obtain ⟨es,l,t,c,i⟩:=(show de X.prog X.w H s.heap p (mL X.w p a) from I.hok p _ g).1;have b:es.size=a.length:=by rw [<- i.length_eq,ah,au]
 have d:(es.size:Int)<2 ^ 63:=by
  have j:=c.few;have m:jD<=2 ^ 62:=by decide
  omega
 refine oV kind_len plain_len entry_len (args_len1 _) (wpAny_len_body_set c.at_ ⟨rfl,rfl,rfl⟩ rfl c.fits d ?_);refine ⟨.int _,H,I.tok _,⟨_,rfl⟩,?_⟩;rw [b];exact q
end L2
namespace L2
open PySem PySem.Spec PyProof.Rows
section
variable {K:a8}{nt:Nat}{ix:List Nat}{te:TE}{σ:St}{H1:Hp}{Q:VK}{a:aj}{xs:List V}{i:Nat}
end
end L2
namespace L2
open PySem PySem.Spec PyProof.Rows
def K9 (so:i5) (N:List Str) (scope:i5) (N':List Str) (nt:Nat) (ix:List Nat):Bool :=
 (scope.kind == .function)&&(scope.names.all fun y=>y.2 != .cell||scope.names.lookup y.1==some .cell)&&(scope.names.all fun y=>y.2 != .local||scope.names.lookup y.1==some .local) &&
 (scope.names.all fun y=>y.2 != .free||so.names.lookup y.1==some .cell||so.names.lookup y.1==some .free) &&
 ((bE ix.length).all fun k=>match ix[k]? with
  |none=>false
  |some i=>match N[i]? with
   |none=>false
   |some x=>N'[nt+k]? == some x&&scope.names.lookup x==some .free)&&(N'.length==nt+ix.length)
theorem cp (h:K9 so N scope N' nt ix=true) (j:X.env.scope=so:=by rfl) (n:X.N=N:=by rfl):pc X scope N' nt ix:=by
 unfold K9 at h;simp only [aY,cy] at h;obtain ⟨⟨⟨⟨⟨a,b⟩,c⟩,d⟩,e⟩,l⟩:=h;refine ⟨by simpa using a,fun y f z=>?_,fun y f z=>?_,fun y f z=>?_,fun k i g=>?_,by simpa using l⟩
 ·have:=b y f;simpa [z] using this
 ·have:=c y f;simpa [z] using this
 ·have:=d y f;rw [j];simpa [z] using this
 ·have m:k<ix.length:=(List.getElem?_eq_some_iff.mp g).1;have:=e k (List.mem_range.mpr m);rw [g] at this;rw [n];simp only at this;split at this
  ·cases this
  ·rename_i x o
   simp only [aY] at this;exact ⟨x,o,by simpa using this.1,by simpa using this.2⟩
end L2
namespace L2
open PySem PySem.Spec PyProof.Rows
section
variable {K:a8}{nt:Nat}{ix:List Nat}{te:TE}{σ:St}{H1:Hp}{Q:VK}{a b:aj}{xs ys:List V}{i k:Nat}
end
end L2
namespace J
open PySem L2
abbrev D:=Df
inductive R (α:Type) where
 |ok (a:α)
 |ex (c:Str) (n:Option D)
 |no
def R.bind {b d:Type}:R b->(b->R d)->R d
 |.ok a,f=>f a
 |.ex c n,_=>.ex c n
 |.no,_=>.no
@[simp] theorem bind_ok {α β:Type} (a:α) (f:α->R β):(R.ok a).bind f=f a:=rfl
@[simp] theorem bind_ex {α β:Type} (c:Str) (n:Option D) (f:α->R β):(R.ex c n).bind f=.ex c n:=rfl
@[simp] theorem bind_no {α β:Type} (f:α->R β):(R.no:R α).bind f=.no:=rfl
def kD:eC->D
 |.inl i=>.int i
 |.inr x=>.str x
def tD (a:List eC):D:=.tuple (a.map kD)
mutual
inductive RD (K:a8) (H:Hp):V->D->Prop
 |none:RD K H .non .none
 |bool (b:Bool):RD K H (.bl b) (.bool b)
 |int (i:Int):RD K H (.int i) (.int i)
 |str (x:Str):RD K H (.str x) (.str x)
 |list {a:aj}{xs:List V}{ds:List D}:nl K H a xs->RDs K H xs ds->RD K H (.ref a) (.list ds)
 |tuple {a:aj}{xs:List V}{ds:List D}:H a=some (.tup xs)->RDs K H xs ds->RD K H (.ref a) (.tuple ds)
 |dictK {a:aj}{kvs:List (eC×V)}{ds:List (D×D)}:H a=some (.dK kvs)->RDk K H kvs ds->RD K H (.ref a) (.dict ds)
 |dictT {a:aj}{kvs:List (List eC×V)}{ds:List (D×D)}:H a=some (.dT kvs)->kvs≠[]->RDt K H kvs ds->RD K H (.ref a) (.dict ds)
 |dictF {a:aj}{o:Obj}{kvs:List (List eC×V)}{ds:List (D×D)}:H a=some (.frz o (.dT kvs))->kvs≠[]->RDt K H kvs ds->RD K H (.ref a) (.dict ((.none,.none)::ds))
inductive RDs (K:a8) (H:Hp):List V->List D->Prop
 |nil:RDs K H [] []
 |cons {x:V}{xs:List V}{d:D}{ds:List D}:RD K H x d->RDs K H xs ds->RDs K H (x::xs) (d::ds)
inductive RDk (K:a8) (H:Hp):List (eC×V)->List (D×D)->Prop
 |nil:RDk K H [] []
 |cons {k:eC}{x:V}{xs:List (eC×V)}{d:D}{ds:List (D×D)}:RD K H x d->RDk K H xs ds->RDk K H ((k,x)::xs) ((kD k,d)::ds)
inductive RDt (K:a8) (H:Hp):List (List eC×V)->List (D×D)->Prop
 |nil:RDt K H [] []
 |cons {k:List eC}{x:V}{xs:List (List eC×V)}{d:D}{ds:List (D×D)}:RD K H x d->RDt K H xs ds->RDt K H ((k,x)::xs) ((tD k,d)::ds)
end
theorem RD.same (e:dD H H') (h:RD K H v d):RD K H' v d:=RD.rec (motive_1:=fun v d _=>RD K H' v d) (motive_2:=fun v d _=>RDs K H' v d) (motive_3:=fun v d _=>RDk K H' v d) (motive_4:=fun v d _=>RDt K H' v d) .none .bool .int .str (fun h _ r=>.list (e.seq h) r) (fun h _ r=>.tuple (e _ _ h) r) (fun h _ r=>.dictK (e _ _ h) r) (fun h n _ r=>.dictT (e _ _ h) n r) (fun h n _ r=>.dictF (e _ _ h) n r) .nil (fun _ _ a b=>.cons a b) .nil (fun _ _ a b=>.cons a b) .nil (fun _ _ a b=>.cons a b) h
theorem RDs.same (e:dD H H') (h:RDs K H v d):RDs K H' v d:=RDs.rec (motive_1:=fun v d _=>RD K H' v d) (motive_2:=fun v d _=>RDs K H' v d) (motive_3:=fun v d _=>RDk K H' v d) (motive_4:=fun v d _=>RDt K H' v d) .none .bool .int .str (fun h _ r=>.list (e.seq h) r) (fun h _ r=>.tuple (e _ _ h) r) (fun h _ r=>.dictK (e _ _ h) r) (fun h n _ r=>.dictT (e _ _ h) n r) (fun h n _ r=>.dictF (e _ _ h) n r) .nil (fun _ _ a b=>.cons a b) .nil (fun _ _ a b=>.cons a b) .nil (fun _ _ a b=>.cons a b) h
theorem RDk.same (e:dD H H') (h:RDk K H v d):RDk K H' v d:=RDk.rec (motive_1:=fun v d _=>RD K H' v d) (motive_2:=fun v d _=>RDs K H' v d) (motive_3:=fun v d _=>RDk K H' v d) (motive_4:=fun v d _=>RDt K H' v d) .none .bool .int .str (fun h _ r=>.list (e.seq h) r) (fun h _ r=>.tuple (e _ _ h) r) (fun h _ r=>.dictK (e _ _ h) r) (fun h n _ r=>.dictT (e _ _ h) n r) (fun h n _ r=>.dictF (e _ _ h) n r) .nil (fun _ _ a b=>.cons a b) .nil (fun _ _ a b=>.cons a b) .nil (fun _ _ a b=>.cons a b) h
theorem RDt.same (e:dD H H') (h:RDt K H v d):RDt K H' v d:=RDt.rec (motive_1:=fun v d _=>RD K H' v d) (motive_2:=fun v d _=>RDs K H' v d) (motive_3:=fun v d _=>RDk K H' v d) (motive_4:=fun v d _=>RDt K H' v d) .none .bool .int .str (fun h _ r=>.list (e.seq h) r) (fun h _ r=>.tuple (e _ _ h) r) (fun h _ r=>.dictK (e _ _ h) r) (fun h n _ r=>.dictT (e _ _ h) n r) (fun h n _ r=>.dictF (e _ _ h) n r) .nil (fun _ _ a b=>.cons a b) .nil (fun _ _ a b=>.cons a b) .nil (fun _ _ a b=>.cons a b) h
mutual
def vY:D->Bool
 |.dict _=>false
 |.list xs=>noDs xs
 |.tuple xs=>noDs xs
 |_=>true
def noDs:List D->Bool
 |[]=>true
 |x::r=>vY x&&noDs r
end
theorem XO (h:(a&&b)=true):a=true:=(Bool.and_eq_true_iff.mp h).1
theorem XQ (h:(a&&b)=true):b=true:=(Bool.and_eq_true_iff.mp h).2
theorem RD.rep (h:RD K H v d):vY d=true->IK K H v d:=RD.rec (motive_1:=fun v d _=>vY d=true->IK K H v d) (motive_2:=fun v d _=>noDs d=true->Reps K H v d) (motive_3:=fun _ _ _=>True) (motive_4:=fun _ _ _=>True) (fun _=>.none) (fun b _=>.bool b) (fun i _=>.int i) (fun x _=>.str x) (fun h _ r e=>.list h (r e)) (fun h _ r e=>.tuple (.of h) (r e)) (fun _ _ _ e=>mq e) (fun _ _ _ _ e=>mq e) (fun _ _ _ _ e=>mq e) (fun _=>.nil) (fun _ _ a b e=>.cons (a (XO e)) (b (XQ e))) trivial (fun _ _ _ _=>trivial) trivial (fun _ _ _ _=>trivial) h
theorem RDs.length:∀ {ds:List D},RDs K H vs ds->vs.length=ds.length:=by
 induction vs with
 |nil=>intro ds h;cases h;rfl
 |cons x r c=>intro ds h;cases h with|cons a b=>exact congrArg (· + 1) (c b)
theorem RDs.get:∀ {ds:List D}{i:Nat}{v:V},RDs K H vs ds->vs[i]?=some v->∃ d,ds[i]?=some d/\RD K H v d:=by
 induction vs with
 |nil=>intro ds i v _ e;cases e
 |cons x r c =>
  intro ds i v h e;cases h with
  |cons a b =>
   cases i with
   |zero=>cases e;exact ⟨_,rfl,a⟩
   |succ i=>have q:=c (i:=i) b e;exact q
theorem RDs.get':∀ {ds:List D}{i:Nat}{d:D},RDs K H vs ds->ds[i]?=some d->∃ v,vs[i]?=some v/\RD K H v d:=by
 induction vs with
 |nil=>intro ds i v h e;cases h;cases e
 |cons x r c =>
  intro ds i v h e;cases h with
  |cons a b =>
   cases i with
   |zero=>cases e;exact ⟨_,rfl,a⟩
   |succ i=>have q:=c (i:=i) b e;exact q
theorem RDs.append : ∀ {ds:List D},RDs K H vs ds->RDs K H ws es->RDs K H (vs++ws) (ds++es):=by
 induction vs with
 |nil=>intro ds h s;cases h;exact s
 |cons x r c=>intro ds h s;cases h with|cons a b=>exact .cons a (c b s)
theorem RDs.drop:∀ {ds:List D} (n:Nat),RDs K H vs ds->RDs K H (vs.drop n) (ds.drop n):=by
 induction vs with
 |nil=>intro ds n h;cases h;cases n<;>exact .nil
 |cons x r c =>
  intro ds n h;cases n with
  |zero=>exact h
  |succ n=>cases h with|cons a b=>exact c n b
theorem RDs.take:∀ {ds:List D} (n:Nat),RDs K H vs ds->RDs K H (vs.take n) (ds.take n):=by
 induction vs with
 |nil=>intro ds n h;cases h;cases n<;>exact .nil
 |cons x r c =>
  intro ds n h;cases n with
  |zero=>exact .nil
  |succ n=>cases h with|cons a b=>exact .cons a (c n b)
theorem vZ:∀ (a:List Str),RDs K H (a.map V.str) (a.map aU)
 |[]=>.nil
 |x::r=>.cons (.str x) (vZ r)
theorem RD.str_inv (h:RD K H v (.str x)):v=.str x:=by cases h;rfl
theorem RD.bool_inv (h:RD K H v (.bool x)):v=.bl x:=by cases h;rfl
theorem RD.int_inv (h:RD K H v (.int x)):v=.int x:=by cases h;rfl
theorem DH {e:Type}{c:e->D}{k:e->V} (i:∀ {v x},RD K H v (c x)->v=k x) {f:List e}:∀ {d:List V},RDs K H d (f.map c)->d=f.map k:=by
 induction f with
 |nil=>intro d h;cases h;rfl
 |cons x r g=>intro d h;cases h with|cons a b=>rw [i a,g b];rfl
theorem mO {a:List Str}{b:List V}:RDs K H b (a.map aU)->b=a.map V.str:=DH RD.str_inv
theorem Bt {a:List Bool}{b:List V}:RDs K H b (a.map cU)->b=a.map V.bl:=DH RD.bool_inv
def nt:HO->Bool
 |.tup _=>false
 |_=>true
structure cX (H Hs H' Hs':Hp):Prop where
 all:dD H H'
 sh:dD Hs Hs'
 sub:dD Hs' H'
 out:∀ a o,H a=some o->nt o=true->Hs a=none->Hs' a=none
theorem cX.refl (h:dD Hs H):cX H Hs H Hs:=⟨.refl _,.refl _,h,fun _ _ _ _ e=>e⟩
theorem cX.trans (a:cX H Hs H1 Hs1) (b:cX H1 Hs1 H2 Hs2):cX H Hs H2 Hs2 :=
 ⟨a.all.trans b.all,a.sh.trans b.sh,b.sub,fun c o e t n=>b.out c o (a.all c o e) t (a.out c o e t n)⟩
theorem cX.new (h:dD Hs H) (n:H p=none):cX H Hs (upd H p o) (upd Hs p o):=by
 have d:Hs p=none:=h.free n;refine ⟨jQ n,jQ d,fun b u e=>?_,fun a u e t z=>?_⟩
 ·by_cases c:b=p
  ·subst c;rw [aS] at e ⊢;exact e
  ·rw [aV c] at e ⊢;exact h b u e
 ·rw [aV (bh e n)];exact z
theorem cX.mine (h:dD Hs H) (n:H p=none):cX H Hs (upd H p o) Hs:=by
 refine ⟨jQ n,.refl _,fun b u e=>?_,fun a u e t z=>z⟩;have c:=h b u e;rw [aV (bh c n)];exact c
inductive nY (K:a8) (Hs:Hp):HO->D->Prop
 |lst {vs:List V}{ds:List D}:RDs K Hs vs ds->nY K Hs (.lst vs) (.list ds)
 |dK {kvs:List (eC×V)}{ds:List (D×D)}:RDk K Hs kvs ds->nY K Hs (.dK kvs) (.dict ds)
 |dT {kvs:List (List eC×V)}{ds:List (D×D)}:kvs≠[]->RDt K Hs kvs ds->nY K Hs (.dT kvs) (.dict ds)
 |dF {o:Obj}{kvs:List (List eC×V)}{ds:List (D×D)}:kvs≠[]->RDt K Hs kvs ds->nY K Hs (.frz o (.dT kvs)) (.dict ((.none,.none)::ds))
theorem nY.same (e:dD Hs Hs') (h:nY K Hs o d):nY K Hs' o d:=by
 cases h with
 |lst r=>exact .lst (r.same e)
 |dK r=>exact .dK (r.same e)
 |dT n r=>exact .dT n (r.same e)
 |dF n r=>exact .dF n (r.same e)
theorem nY.nt (h:nY K Hs o d):J.nt o=true:=by cases h<;>rfl
theorem nY.share (n:Hs a=none) (h:nY K Hs o d):RD K (upd Hs a o) (.ref a) d:=by
 have e:dD Hs (upd Hs a o):=jQ n;cases h with
 |lst r=>exact .list (.of aS) (r.same e)
 |dK r=>exact .dictK aS (r.same e)
 |dT n r=>exact .dictT aS n (r.same e)
 |dF n r=>exact .dictF aS n (r.same e)
inductive Sl where
 |no
 |shr (d:D)
 |own (d:D)
 |lck (d:D)
 |ow2 (dss:List (List D))
abbrev aI:=List Sl
inductive Cg (K:a8) (H Hs:Hp):List aj->List (List D)->Prop
 |nil:Cg K H Hs [] []
 |cons {a:aj}{as:List aj}{vs:List V}{ds:List D}{dss:List (List D)}:H a=some (.lst vs)->RDs K Hs vs ds->Cg K H Hs as dss->Cg K H Hs (a::as) (ds::dss)
theorem Cg.step (e:dD H H') (a:dD Hs Hs') (h:Cg K H Hs as dss):Cg K H' Hs' as dss:=by
 induction h with
 |nil=>exact .nil
 |cons h r t b=>exact .cons (e _ _ h) (r.same a) b
theorem Cg.upd (n:b∉as) (h:Cg K H Hs as dss):Cg K (upd H b o) Hs as dss:=by
 induction h with
 |nil=>exact .nil
 |cons h r t a=>exact .cons (by rw [aV (fun z=>n (by rw [<- z];exact al))];exact h) r (a fun z=>n (ag _ z))
theorem Cg.there (h:Cg K H Hs as dss) (hb:b∈as):∃ o,H b=some o/\nt o=true:=by
 induction h with
 |nil=>cases hb
 |cons h r t a =>
  rcases List.mem_cons.mp hb with e|hb
  ·exact ⟨_,e ▸ h,rfl⟩
  ·exact a hb
structure O2 (K:a8) (H0 H Hs:Hp) (ρ:aI) (σ:St) (i:Nat) (dss:List (List D)) (a:aj) (as:List aj):Prop where
 at_:σ[i]?=some (some (V.ref a))
 ob:H a=some (.lst (as.map V.ref))
 nd:(a::as).Nodup
 out:∀ b∈a::as,Hs b=none/\H0 b=none
 dj:∀ b∈a::as,∀ (j:Nat) (e:D),ρ[j]?=some (Sl.own e)->σ[j]?≠some (some (V.ref b))
 inn:Cg K H Hs as dss
structure Fr (K:a8) (H0 Hs0:Hp) (la:Nat->Option aj) (ρ:aI) (σ:St) (H Hs:Hp):Prop where
 st:cX H0 Hs0 H Hs
 len:ρ.length=σ.length
 sh:∀ (i:Nat) (d:D),ρ[i]?=some (Sl.shr d)->∃ v,σ[i]?=some (some v)/\RD K Hs v d
 ow:∀ (i:Nat) (d:D),ρ[i]?=some (Sl.own d)->∃ a o,σ[i]?=some (some (V.ref a))/\H a=some o/\Hs a=none/\H0 a=none/\nY K Hs o d
 lk:∀ (i:Nat) (d:D),ρ[i]?=some (Sl.lck d)->∃ a o,σ[i]?=some (some (V.ref a))/\la i=some a/\H a=some o/\Hs a=none/\H0 a=some o/\nY K Hs o d
 dj:∀ (i j:Nat) (d e:D) (a:aj),ρ[i]?=some (Sl.own d)->ρ[j]?=some (Sl.own e)->σ[i]?=some (some (V.ref a))->σ[j]?=some (some (V.ref a))->i=j
 lh:∀ (i:Nat) (a:aj),la i=some a->∃ o,H0 a=some o
 o2:∀ (i:Nat) (dss:List (List D)),ρ[i]?=some (Sl.ow2 dss)->∃ a as,O2 K H0 H Hs ρ σ i dss a as
 u2:∀ (i j:Nat) (d e:List (List D)),ρ[i]?=some (Sl.ow2 d)->ρ[j]?=some (Sl.ow2 e)->i=j
theorem Fr.step (f:Fr K H0 Hs0 la ρ σ H Hs) (s:cX H Hs H' Hs'):Fr K H0 Hs0 la ρ σ H' Hs':=by
 refine ⟨f.st.trans s,f.len,fun i d e=>?_,fun i d e=>?_,fun i d e=>?_,f.dj,f.lh,fun i l e=>?_,f.u2⟩
 ·obtain ⟨v,g,c⟩:=f.sh i d e;exact ⟨v,g,c.same s.sh⟩
 ·obtain ⟨a,o,g,c,j,m,k⟩:=f.ow i d e;exact ⟨a,o,g,s.all _ _ c,s.out _ _ c k.nt j,m,k.same s.sh⟩
 ·obtain ⟨a,o,g,c,j,m,k,n⟩:=f.lk i d e;exact ⟨a,o,g,c,s.all _ _ j,s.out _ _ j n.nt m,k,n.same s.sh⟩
 ·obtain ⟨a,q,h⟩:=f.o2 i l e;refine ⟨a,q,h.at_,s.all _ _ h.ob,h.nd,fun b hb=>⟨?_,(h.out b hb).2⟩,h.dj,h.inn.step s.all s.sh⟩;have there:∃ o,H b=some o/\nt o=true:=by
   rcases List.mem_cons.mp hb with rfl|hb
   ·exact ⟨_,h.ob,rfl⟩
   ·exact h.inn.there hb
  obtain ⟨o,ho,p⟩:=there;exact s.out b o ho p (h.out b (by assumption)).1
inductive XR (K:a8) (H Hs:Hp) (v:V) (d:D):Prop
 |mk (a:aj) (o:HO) (h0:v=.ref a) (h1:H a=some o) (h2:Hs a=none) (h3:nY K Hs o d):XR K H Hs v d
def RB (K:a8) (H Hs:Hp) (v:V) (d:D):Prop:=RD K Hs v d\/XR K H Hs v d
theorem RB.step (h:RB K H Hs v d) (s:cX H Hs H' Hs'):RB K H' Hs' v d:=by
 rcases h with h|⟨a,o,h1,h2,h3,h4⟩
 ·exact .inl (h.same s.sh)
 ·exact .inr ⟨a,o,h1,s.all _ _ h2,s.out _ _ h2 h4.nt h3,h4.same s.sh⟩
theorem RB.full (sub:dD Hs H) (h:RB K H Hs v d):RD K H v d:=by
 rcases h with h|⟨a,o,rfl,h2,h3,h4⟩
 ·exact h.same sub
 ·have e:dD (upd Hs a o) H:=fun b u q=>by
   by_cases c:b=a
   ·subst c;rw [aS] at q;cases q;exact h2
   ·rw [aV c] at q;exact sub b u q
  exact (h4.share h3).same e
theorem RB.list (sub:dD Hs H) (h:RB K H Hs v (.list ds)):∃ a b,v=.ref a/\nl K H a b/\RDs K Hs b ds:=by
 rcases h with h|⟨a,o,rfl,h2,h3,h4⟩
 ·cases h with|list q r=>exact ⟨_,_,rfl,sub.seq q,r⟩
 ·cases h4 with|lst r=>exact ⟨a,_,rfl,.of h2,r⟩
theorem RB.tuple (sub:dD Hs H) (h:RB K H Hs v (.tuple ds)):∃ a b,v=.ref a/\m5 K H a b/\RDs K Hs b ds/\Hs a=some (.tup b):=by
 rcases h with h|⟨a,o,rfl,h2,h3,h4⟩
 ·cases h with|tuple q r=>exact ⟨_,_,rfl,.of (sub _ _ q),r,q⟩
 ·cases h4
theorem RB.str (h:RB K H Hs v (.str x)):v=.str x:=by
 rcases h with h|⟨a,o,rfl,h2,h3,h4⟩
 ·exact h.str_inv
 ·cases h4
theorem RB.int (h:RB K H Hs v (.int i)):v=.int i:=by
 rcases h with h|⟨a,o,rfl,h2,h3,h4⟩
 ·exact h.int_inv
 ·cases h4
theorem RB.non (h:RB K H Hs v .none):v=.non:=by
 rcases h with h|⟨a,o,rfl,h2,h3,h4⟩
 ·cases h;rfl
 ·cases h4
def XW (K:a8) (cls:Str->aj) (E:XK) (c:Str) (n:Option D) (H Hs:Hp):Prop:=match n with
 |none=>E (.ref (cls c)) none H
 |some d=>∀ a v,H a=some (.xd [("number",v)])->RD K Hs v d->E (.ref (cls c)) (some a) H
def Fin {b:Type} (K:a8) (cls:Str->aj) (E:XK) (H Hs:Hp) (r:R b) (q:b->Prop):Prop:=match r with
 |.ok d=>q d
 |.ex c n=>∀ H' a,cX H Hs H' a->XW K cls E c n H' a
 |.no=>False
inductive TRI (K:a8) (cls:Str->aj) (E:XK) (ρ:aI) (r:R D) (σ:St) (H:Hp) (Q:VK):Prop
 |mk (H0 Hs0:Hp) (la:Nat->Option aj) (Hs:Hp) (f:Fr K H0 Hs0 la ρ σ H Hs) (q:Fin K cls E H Hs r fun d=>∀ v H' Hs',cX H Hs H' Hs'->RD K Hs' v d->Q v H'):TRI K cls E ρ r σ H Q
def TR (K:a8) (cls:Str->aj) (E:XK) (ρ:aI) (r:R D):TE:=TRI K cls E ρ r
inductive TBI (K:a8) (cls:Str->aj) (E:XK) (ρ:aI) (r:R D) (σ:St) (H:Hp) (Q:VK):Prop
 |mk (H0 Hs0:Hp) (la:Nat->Option aj) (Hs:Hp) (f:Fr K H0 Hs0 la ρ σ H Hs) (q:Fin K cls E H Hs r fun d=>∀ v H' Hs',cX H Hs H' Hs'->RB K H' Hs' v d->Q v H'):TBI K cls E ρ r σ H Q
def TB (K:a8) (cls:Str->aj) (E:XK) (ρ:aI) (r:R D):TE:=TBI K cls E ρ r
inductive XS (K:a8) (cls:Str->aj) (E:XK) (ρ:aI) (r:R Bool) (σ:St) (H:Hp) (Q:Bool->Hp->Prop):Prop
 |mk (H0 Hs0:Hp) (la:Nat->Option aj) (Hs:Hp) (f:Fr K H0 Hs0 la ρ σ H Hs) (q:Fin K cls E H Hs r fun b=>∀ H' Hs',cX H Hs H' Hs'->Q b H'):XS K cls E ρ r σ H Q
def Mj (K:a8) (cls:Str->aj) (E:XK) (ρ:aI) (r:R Bool):TT:=XS K cls E ρ r
inductive UE (K:a8) (H Hs:Hp):List V->List D->Prop
 |nil:UE K H Hs [] []
 |cons {x:V}{xs:List V}{d:D}{ds:List D}:RB K H Hs x d->UE K H Hs xs ds->UE K H Hs (x::xs) (d::ds)
inductive XT (K:a8) (cls:Str->aj) (E:XK) (ρ:aI) (r:R (List D)) (σ:St) (H:Hp) (Q:List V->Hp->Prop):Prop
 |mk (H0 Hs0:Hp) (la:Nat->Option aj) (Hs:Hp) (f:Fr K H0 Hs0 la ρ σ H Hs) (q:Fin K cls E H Hs r fun d=>∀ v H' Hs',cX H Hs H' Hs'->RDs K Hs' v d->Q v H'):XT K cls E ρ r σ H Q
def Xa (K:a8) (cls:Str->aj) (E:XK) (ρ:aI) (r:R (List D)):TA:=XT K cls E ρ r
inductive XU (K:a8) (cls:Str->aj) (E:XK) (ρ:aI) (r:R (List D)) (σ:St) (H:Hp) (Q:List V->Hp->Prop):Prop
 |mk (H0 Hs0:Hp) (la:Nat->Option aj) (Hs:Hp) (f:Fr K H0 Hs0 la ρ σ H Hs) (q:Fin K cls E H Hs r fun d=>∀ v H' Hs',cX H Hs H' Hs'->UE K H' Hs' v d->Q v H'):XU K cls E ρ r σ H Q
def Zh (K:a8) (cls:Str->aj) (E:XK) (ρ:aI) (r:R (List D)):TA:=XU K cls E ρ r
structure C where
 X:Cx
 cls:Str->aj
 E:XK
structure JE (c:C) (e:bZ) (g:aI->R D):Prop where of ::
 run:∀ ρ,PE c.X e (TR c.X.K c.cls c.E ρ (g ρ))
instance {c:C}{e:bZ}{g:aI->R D}:CoeFun (JE c e g) (fun _=>∀ ρ,PE c.X e (TR c.X.K c.cls c.E ρ (g ρ))):=⟨JE.run⟩
structure JB (c:C) (e:bZ) (g:aI->R D):Prop where of ::
 run:∀ ρ,PE c.X e (TB c.X.K c.cls c.E ρ (g ρ))
instance {c:C}{e:bZ}{g:aI->R D}:CoeFun (JB c e g) (fun _=>∀ ρ,PE c.X e (TB c.X.K c.cls c.E ρ (g ρ))):=⟨JB.run⟩
structure JT (c:C) (e:bZ) (g:aI->R Bool):Prop where of ::
 run:∀ ρ,PT c.X e (Mj c.X.K c.cls c.E ρ (g ρ))
instance {c:C}{e:bZ}{g:aI->R Bool}:CoeFun (JT c e g) (fun _=>∀ ρ,PT c.X e (Mj c.X.K c.cls c.E ρ (g ρ))):=⟨JT.run⟩
structure JW (c:C) (e:bZ) (g:aI->R Bool):Prop where of ::
 run:∀ ρ,PW c.X e (Mj c.X.K c.cls c.E ρ (g ρ))
instance {c:C}{e:bZ}{g:aI->R Bool}:CoeFun (JW c e g) (fun _=>∀ ρ,PW c.X e (Mj c.X.K c.cls c.E ρ (g ρ))):=⟨JW.run⟩
structure EU (c:C) (es:List bZ) (g:aI->R (List D)):Prop where of ::
 run:∀ ρ,PA c.X es (Xa c.X.K c.cls c.E ρ (g ρ))
instance {c:C}{es:List bZ}{g:aI->R (List D)}:CoeFun (EU c es g) (fun _=>∀ ρ,PA c.X es (Xa c.X.K c.cls c.E ρ (g ρ))):=⟨EU.run⟩
structure UF (c:C) (es:List bZ) (g:aI->R (List D)):Prop where of ::
 run:∀ ρ,PA c.X es (Zh c.X.K c.cls c.E ρ (g ρ))
instance {c:C}{es:List bZ}{g:aI->R (List D)}:CoeFun (UF c es g) (fun _=>∀ ρ,PA c.X es (Zh c.X.K c.cls c.E ρ (g ρ))):=⟨UF.run⟩
theorem sj (h:PE X e t) (m:∀ a H Q,t' a H Q->t a H Q):PE X e t':=fun b s a H Q I q=>h b s a H Q I (m a H Q q)
theorem XV (h:PT X e t) (m:∀ a H Q,t' a H Q->t a H Q):PT X e t':=fun b s a H Q I q=>h b s a H Q I (m a H Q q)
theorem mPW (h:PW X e t) (m:∀ a H Q,t' a H Q->t a H Q):PW X e t':=fun c b s a H Q I q=>h c b s a H Q I (m a H Q q)
theorem Zi {X:Cx}{e:List bZ}{t t':TA} (h:PA X e t) (m:∀ a H Q,t' a H Q->t a H Q):PA X e t':=fun c b s a H Q I q=>h c b s a H Q I (m a H Q q)
theorem zR {X:Cx}{e:dY}{t t':TS} (h:PS X e t) (m:∀ D a H,t' D a H->t D a H):PS X e t':=fun b s a H Q I q=>h b s a H Q I (m Q a H q)
theorem q03 {X:Cx}{e:List dY}{t t':TS} (h:Bh X e t) (m:∀ D a H,t' D a H->t D a H):Bh X e t':=fun b s a H Q I q=>h b s a H Q I (m Q a H q)
theorem JE.bor (h:JE c e g):JB c e g:=.of fun ρ=>sj (h ρ) fun k H Q ⟨j,b,la,Hs,f,q⟩=>⟨j,b,la,Hs,f,by
 cases a:g ρ with
 |ok d=>rw [a] at q;exact fun v H' i s r=>q v H' i s (.inl r)
 |ex c n=>rw [a] at q;exact q
 |no=>rw [a] at q;exact q⟩
theorem one {K:a8}{cls:Str->aj}{E:XK}{ρ:aI}{r:R D}{i:Type}{k:D->R i}{e:St}{H:Hp}{g b Hs:Hp}{la:Nat->Option aj}{Q:V->Hp->Prop}{q:i->Prop} (f:Fr K g b la ρ e H Hs)
  (h:Fin K cls E H Hs (r.bind k) q) (m:∀ d v H' a,r=.ok d->cX H Hs H' a->Fr K g b la ρ e H' a->RB K H' a v d->Q v H'):TB K cls E ρ r e H Q:=by
 refine ⟨g,b,la,Hs,f,?_⟩;cases r with
 |ok d=>exact fun v H' a s r=>m d v H' a rfl s (f.step s) r
 |ex c n=>exact h
 |no=>exact h
theorem zS {K:a8}{cls:Str->aj}{E:XK}{ρ:aI}{r:R D}{i:Type}{k:D->R i}{e:St}{H:Hp}{g b Hs:Hp}{la:Nat->Option aj}{Q:V->Hp->Prop}{q:i->Prop} (f:Fr K g b la ρ e H Hs)
  (h:Fin K cls E H Hs (r.bind k) q) (m:∀ d v H' a,r=.ok d->cX H Hs H' a->Fr K g b la ρ e H' a->RD K a v d->Q v H'):TR K cls E ρ r e H Q:=by
 refine ⟨g,b,la,Hs,f,?_⟩;cases r with
 |ok d=>exact fun v H' a s r=>m d v H' a rfl s (f.step s) r
 |ex c n=>exact h
 |no=>exact h
theorem OV {K:a8}{cls:Str->aj}{E:XK}{ρ:aI}{r:R Bool}{i:Type}{k:Bool->R i}{e:St}{H:Hp}{g b Hs:Hp}{la:Nat->Option aj}{Q:Bool->Hp->Prop}{q:i->Prop} (f:Fr K g b la ρ e H Hs)
  (h:Fin K cls E H Hs (r.bind k) q) (m:∀ d H' a,r=.ok d->cX H Hs H' a->Fr K g b la ρ e H' a->Q d H'):Mj K cls E ρ r e H Q:=by
 refine ⟨g,b,la,Hs,f,?_⟩;cases r with
 |ok d=>exact fun H' a s=>m d H' a rfl s (f.step s)
 |ex c n=>exact h
 |no=>exact h
theorem Bu {K:a8}{cls:Str->aj}{E:XK}{ρ:aI}{r:R (List D)}{i:Type}{k:List D->R i}{e:St}{H:Hp}{g b Hs:Hp}{la:Nat->Option aj}{Q:List V->Hp->Prop}{q:i->Prop} (f:Fr K g b la ρ e H Hs)
  (h:Fin K cls E H Hs (r.bind k) q) (m:∀ d v H' a,r=.ok d->cX H Hs H' a->Fr K g b la ρ e H' a->RDs K a v d->Q v H'):Xa K cls E ρ r e H Q:=by
 refine ⟨g,b,la,Hs,f,?_⟩;cases r with
 |ok d=>exact fun v H' a s r=>m d v H' a rfl s (f.step s) r
 |ex c n=>exact h
 |no=>exact h
theorem OW {K:a8}{cls:Str->aj}{E:XK}{ρ:aI}{r:R (List D)}{i:Type}{k:List D->R i}{e:St}{H:Hp}{g b Hs:Hp}{la:Nat->Option aj}{Q:List V->Hp->Prop}{q:i->Prop} (f:Fr K g b la ρ e H Hs)
  (h:Fin K cls E H Hs (r.bind k) q) (m:∀ d v H' a,r=.ok d->cX H Hs H' a->Fr K g b la ρ e H' a->UE K H' a v d->Q v H'):Zh K cls E ρ r e H Q:=by
 refine ⟨g,b,la,Hs,f,?_⟩;cases r with
 |ok d=>exact fun v H' a s r=>m d v H' a rfl s (f.step s) r
 |ex c n=>exact h
 |no=>exact h
theorem Fin.on {e:Type}{K:a8}{cls:Str->aj}{E:XK}{H Hs H' b:Hp}{r:R e}{q q':e->Prop} (h:Fin K cls E H Hs r q) (s:cX H Hs H' b) (m:∀ a,q a->q' a):Fin K cls E H' b r q':=by
 cases r with
 |ok a=>exact m a h
 |ex c n=>exact fun f d g=>h f d (s.trans g)
 |no=>exact h
def HF (ρ:aI) (i:Nat):R D:=match ρ[i]? with
 |some (Sl.shr d)=>.ok d
 |_=>.no
def HG (ρ:aI) (i:Nat):R D:=match ρ[i]? with
 |some (Sl.shr d)=>.ok d
 |some (Sl.own d)=>.ok d
 |some (Sl.lck d)=>.ok d
 |_=>.no
section
variable {c:C}{e a b:bZ}{g ga gb:aI->R D}{pos:Pos}
theorem am (i:Nat) (l:c.X.N[i]?=some x:=by rfl) (p:Ny c.X.env.scope x:=by first|exact hZ rfl|exact eF (hZ rfl)|exact eF (eF rfl)) (n:(x==("__debug__" : Str))=false:=by decide)
  (k:(x==("__classdict__" : Str))=false:=by decide):JE c (.Name x pos) (fun ρ=>HF ρ i):=.of fun ρ=>sj (oY l p n k) fun u H Q j=>by
 obtain ⟨w,t,la,Hs,f,q⟩:=j;cases h:ρ[i]? with
 |none=>simp only [HF,h] at q;exact q.elim
 |some s =>
  cases s with
  |shr d =>
   obtain ⟨v,m,o⟩:=f.sh i d h;simp only [HF,h] at q;exact ⟨v,m,q v H Hs (.refl f.st.sub) o⟩
  |no=>simp only [HF,h] at q;exact q.elim
  |own d=>simp only [HF,h] at q;exact q.elim
  |lck d=>simp only [HF,h] at q;exact q.elim
  |ow2 d=>simp only [HF,h] at q;exact q.elim
theorem ai (i:Nat) (u:c.X.N[i]?=some x:=by rfl) (z:Ny c.X.env.scope x:=by first|exact hZ rfl|exact eF (hZ rfl)|exact eF (eF rfl)) (y:(x==("__debug__" : Str))=false:=by decide)
  (l:(x==("__classdict__" : Str))=false:=by decide):JB c (.Name x pos) (fun ρ=>HG ρ i):=.of fun ρ=>sj (oY u z y l) fun B H Q n=>by
 obtain ⟨E,A,la,Hs,f,q⟩:=n;cases h:ρ[i]? with
 |none=>simp only [HG,h] at q;exact q.elim
 |some s =>
  cases s with
  |shr d =>
   obtain ⟨v,j,k⟩:=f.sh i d h;simp only [HG,h] at q;exact ⟨v,j,q v H Hs (.refl f.st.sub) (.inl k)⟩
  |no=>simp only [HG,h] at q;exact q.elim
  |own d =>
   obtain ⟨a,o,j,k,m,p,t⟩:=f.ow i d h;simp only [HG,h] at q;exact ⟨_,j,q _ H Hs (.refl f.st.sub) (.inr ⟨a,o,rfl,k,m,t⟩)⟩
  |lck d =>
   obtain ⟨a,o,j,k,m,p,t,w⟩:=f.lk i d h;simp only [HG,h] at q;exact ⟨_,j,q _ H Hs (.refl f.st.sub) (.inr ⟨a,o,rfl,m,p,w⟩)⟩
  |ow2 d=>simp only [HG,h] at q;exact q.elim
theorem sk (h:PE c.X e (tC v)) (r:∀ Hs,RD c.X.K Hs v d):JE c e (fun _=>.ok d):=.of fun ρ=>sj h fun k H Q i=>by obtain ⟨l,j,la,Hs,f,q⟩:=i;exact q v H Hs (.refl f.st.sub) (r Hs)
theorem aH : JE c (.Constant (.int i) j pos) (fun _=>.ok (.int i)):=sk NW fun _=>.int i
theorem mJ : JE c (.Constant (.bool i) j pos) (fun _=>.ok (.bool i)):=sk NX fun _=>.bool i
theorem zT:JE c (.Constant .none j pos) (fun _=>.ok .none):=sk Vx fun _=>.none
theorem qr : JE c (.Constant (.str i) j pos) (fun _=>.ok (.str i)):=sk NY fun _=>.str i
theorem sr (f:Gl c.X x) (d:∃ t,c.X.mg x=some (.int i t)) (h:(x==("__debug__" : Str))=false:=by decide):JE c (.Name x pos) (fun _=>.ok (.int i)):=by
 obtain ⟨t,d⟩:=d;exact sk (Dk f d (v:=.int i) ⟨t,rfl⟩ h) fun _=>.int i
inductive rDI (K:a8) (h:D->D->R D) (x:V) (y:V) (H:Hp) (Q:VK):Prop
 |mk (Hs dx dy:_) (h0:dD Hs H) (h1:RB K H Hs x dx) (h2:RB K H Hs y dy) (h3:∃ d,h dx dy=.ok d/\∀ v H' Hs',cX H Hs H' Hs'->RD K Hs' v d->Q v H'):rDI K h x y H Q
def rD (K:a8) (h:D->D->R D):R2:=rDI K h
def x_ (X:Cx) (f:ac->ac->Sem ac) (h:D->D->R D):Prop:=rK X f (rD X.K h)/\∀ x y c n,h x y≠.ex c n
def g2 (ga gb:aI->R D) (h:D->D->R D):aI->R D:=fun ρ=>(ga ρ).bind fun x=>(gb ρ).bind fun y=>h x y
theorem two (L:∀ x y c n,h x y≠.ex c n) (q:TR K cls E ρ (g2 ga gb h ρ) σ H Q):Xp (rD K h) (TB K cls E ρ (ga ρ)) (TB K cls E ρ (gb ρ)) σ H Q:=by
 obtain ⟨P,M,la,Hs,f,q⟩:=q;refine one f q fun x v O p z l t A=>?_;unfold g2 at q;rw [z,bind_ok] at q;refine one t (q.on l (q':=fun _=>True) fun _ _=>trivial) fun y u S k N m o G=>?_;rw [N,bind_ok] at q;cases i:h x y with
 |ok d =>
  rw [i] at q;exact ⟨k,x,y,o.st.sub,A.step m,G,d,i,fun w s j B I=>q w s j (l.trans (m.trans B)) I⟩
 |ex c n=>exact (L x y c n i).elim
 |no=>rw [i] at q;exact q.elim
theorem c8 (ho:x_ c.X (gY op) h) (d:JB c a ga) (f:JB c b gb):JE c (.BinOp a op b pos) (g2 ga gb h):=.of fun ρ=>sj (Uk ho.1 (d ρ) (f ρ)) fun i H Q q=>two ho.2 q
theorem pf (ho:x_ c.X (bG op) h) (f:JB c a ga) (i:JB c b gb) (d:ir op b=false:=by first|exact Iw _|rfl):JE c (.Compare a [op] [b] pos) (g2 ga gb h):=.of fun ρ=>sj (Sd ho.1 (f ρ) (i ρ) d) fun j H Q q=>two ho.2 q
def i3 (g:aI->R D):aI->R Bool:=fun ρ=>(g ρ).bind fun d=>match d with
 |.bool b=>.ok b
 |_=>.no
theorem XX (q:Mj K cls E ρ (i3 g ρ) σ H Q):TR K cls E ρ (g ρ) σ H fun x H'=>∃ k,x=.bl k/\Q k H':=by
 obtain ⟨p,n,la,Hs,f,q⟩:=q;refine zS f q fun d v j h l i o m=>?_;unfold i3 at q;rw [l,bind_ok] at q;cases m with
 |bool b=>exact ⟨b,rfl,q j h i⟩
 |_=>exact q.elim
theorem ed (ho:x_ c.X (bG op) h) (f:JB c a ga) (i:JB c b gb) (d:ir op b=false:=by first|exact Iw _|rfl):JT c (.Compare a [op] [b] pos) (i3 (g2 ga gb h)):=.of fun ρ=>XV (K0 ho.1 (f ρ) (i ρ) d) fun j H Q q=>two ho.2 (XX q)
theorem ic (h:JE c e g) (he:∀ whole,wR e c.X.env whole=(do let v <- whole;xO e.pos;Ht [v] (truthy v)):=by intro _;rfl):JT c e (i3 g):=.of fun ρ=>XV (O0 (h ρ) he) fun σ H Q q=>XX q
def nZ (g:aI->R Bool):aI->R Bool:=fun ρ=>(g ρ).bind fun b=>.ok (!b)
def DI (g h:aI->R Bool):aI->R Bool:=fun ρ=>(g ρ).bind fun b=>if b then h ρ else .ok false
def OX (g h:aI->R Bool):aI->R Bool:=fun ρ=>(g ρ).bind fun b=>if b then .ok true else h ρ
variable {gt gu:aI->R Bool}{c7:List bZ}
theorem iz (h:JT c e gt):JT c (.UnaryOp .Not e pos) (nZ gt):=.of fun ρ=>XV (O3 (h ρ)) fun n H Q q=>by
 obtain ⟨p,m,la,Hs,f,q⟩:=q;refine OV f q fun d k i l j o=>?_;unfold nZ at q;rw [l,bind_ok] at q;exact q k i j
theorem yV (h:JT c a gt):JW c (.BoolOp .And [a] pos) gt:=.of fun ρ=>S4 (h ρ)
theorem su (h:JT c a gt):JW c (.BoolOp .Or [a] pos) gt:=.of fun ρ=>O1 (h ρ)
theorem DJ (h:JT c a gt) (v:JW c (.BoolOp .And (b::c7) pos) gu):JW c (.BoolOp .And (a::b::c7) pos) (DI gt gu):=.of fun ρ=>mPW (Vy (h ρ) (v ρ)) fun w H Q q=>by
 obtain ⟨o,m,la,Hs,f,q⟩:=q;refine OV f q fun d n i t j p=>?_;unfold DI at q;rw [t,bind_ok] at q;cases d with
 |true=>exact Ff ⟨o,m,la,i,p,q.on j fun b k s l u=>k s l (j.trans u)⟩
 |false=>exact Bk (q n i j)
theorem y0 (h:JT c a gt) (v:JW c (.BoolOp .Or (b::c7) pos) gu):JW c (.BoolOp .Or (a::b::c7) pos) (OX gt gu):=.of fun ρ=>mPW (Ug (h ρ) (v ρ)) fun w H Q q=>by
 obtain ⟨o,m,la,Hs,f,q⟩:=q;refine OV f q fun d n i t j p=>?_;unfold OX at q;rw [t,bind_ok] at q;cases d with
 |false=>exact Bk ⟨o,m,la,i,p,q.on j fun b k s l u=>k s l (j.trans u)⟩
 |true=>exact Ff (q n i j)
theorem JW.t (h:JW c e gt):JT c e gt:=.of fun ρ=>(h ρ).pt
def FH (g:aI->R D):aI->R D:=fun ρ=>(i3 g ρ).bind fun b=>.ok (.bool (!b))
theorem OY (h:JE c e g):JE c (.UnaryOp .Not e pos) (FH g):=.of fun ρ=>sj (VB (h ρ)) fun n H Q q=>by
 refine XX ?_;obtain ⟨p,m,la,Hs,f,q⟩:=q;refine OV f q fun d k i l j o=>?_;unfold FH at q;rw [l,bind_ok] at q;exact q _ k i j (.bool _)
def zU (g h:aI->R D):aI->R D:=fun ρ=>(i3 g ρ).bind fun b=>if b then h ρ else .ok (.bool false)
theorem DK (h:JE c a g):JE c (.BoolOp op [a] pos) g:=.of fun ρ=>Vz (h ρ)
theorem DL (h:JE c a ga) (w:JE c (.BoolOp .And (b::c7) pos) gb):JE c (.BoolOp .And (a::b::c7) pos) (zU ga gb):=.of fun ρ=>sj (VA (h ρ) (w ρ)) fun y H Q q=>by
 refine XX ?_;obtain ⟨o,m,la,Hs,f,q⟩:=q;refine OV f q fun d n i t j p=>?_;unfold zU at q;rw [t,bind_ok] at q;cases d with
 |true=>exact Ff ⟨o,m,la,i,p,q.on j fun b k v s l u x=>k v s l (j.trans u) x⟩
 |false=>exact Bk (q _ n i j (.bool _))
def sv (ga gb d:aI->R D) (h h':D->D->R D):aI->R D:=fun ρ=>(ga ρ).bind fun x=>(gb ρ).bind fun y=>(h x y).bind fun z=>match z with
 |.bool true=>(d ρ).bind fun w=>h' y w
 |.bool false=>.ok (.bool false)
 |_=>.no
def af (g:aI->R D) (f:aI->R (List D)):aI->R (List D):=fun ρ=>(g ρ).bind fun d=>(f ρ).bind fun ds=>.ok (d::ds)
def aQ:aI->R (List D):=fun _=>.ok []
theorem aP:EU c [] aQ:=.of fun ρ=>Zi fB fun i H Q d=>by obtain ⟨j,h,la,Hs,f,q⟩:=d;exact q [] H Hs (.refl f.st.sub) .nil
theorem cb:UF c [] aQ:=.of fun ρ=>Zi fB fun i H Q d=>by obtain ⟨j,h,la,Hs,f,q⟩:=d;exact q [] H Hs (.refl f.st.sub) .nil
theorem ae (h:JE c e g) (m:EU c es gs) (hs:az (e::es) c.X.env=(false,dO e c.X.env)::az es c.X.env:=by rfl):EU c (e::es) (af g gs):=.of fun ρ=>Zi (ck (h ρ) (m ρ) hs) fun z H Q i=>by
 obtain ⟨A,w,la,Hs,f,q⟩:=i;refine zS f q fun d v y n s k o t=>?_;unfold af at q;rw [s,bind_ok] at q;refine Bu o (q.on k (q':=fun _=>True) fun _ _=>trivial) fun ds E p j x l B u=>?_;rw [x,bind_ok] at q;exact q _ p j (k.trans l) (.cons (t.same l.sh) u)
theorem bF (h:JB c e g) (m:UF c es gs) (hs:az (e::es) c.X.env=(false,dO e c.X.env)::az es c.X.env:=by rfl):UF c (e::es) (af g gs):=.of fun ρ=>Zi (ck (h ρ) (m ρ) hs) fun z H Q i=>by
 obtain ⟨A,w,la,Hs,f,q⟩:=i;refine one f q fun d v y n s k o t=>?_;unfold af at q;rw [s,bind_ok] at q;refine OW o (q.on k (q':=fun _=>True) fun _ _=>trivial) fun ds E p j x l B u=>?_;rw [x,bind_ok] at q;exact q _ p j (k.trans l) (.cons (t.step l) u)
def fh (d:aI->R (List D)) (k:List D->D):aI->R D:=fun ρ=>(d ρ).bind fun ds=>if ds.length<=1000 then .ok (k ds) else .no
theorem lC {x1} (h:EU c es gs):JE c (.Tuple es x1 pos) (fh gs .tuple):=.of fun ρ=>sj (Of (h ρ)) fun u H Q d=>by
 obtain ⟨v,s,la,Hs,f,q⟩:=d;refine Bu f q fun ds w t n o m j k=>?_;unfold fh at q;rw [o,bind_ok] at q;by_cases i:ds.length<=1000
 ·rw [if_pos i] at q;refine ⟨bw (cK (by rw [k.length];exact i)),fun p l=>q _ _ _ (m.trans (.new j.st.sub l)) (.tuple aS (k.same (cX.new j.st.sub l).sh))⟩
 ·rw [if_neg i] at q;exact q.elim
theorem lE (h:EU c es gs):JE c (.List es pos) (fh gs .list):=.of fun ρ=>sj (oZ (h ρ)) fun u H Q d=>by
 obtain ⟨v,s,la,Hs,f,q⟩:=d;refine Bu f q fun ds w t n o m j k=>?_;unfold fh at q;rw [o,bind_ok] at q;by_cases i:ds.length<=1000
 ·rw [if_pos i] at q;refine ⟨bw (cK (by rw [k.length];exact i)),fun p l=>q _ _ _ (m.trans (.new j.st.sub l)) (.list (.of aS) (k.same (cX.new j.st.sub l).sh))⟩
 ·rw [if_neg i] at q;exact q.elim
end
end J
namespace J
open PySem PySem.Spec PyProof.Rows L2
def eB:D->D->R D
 |.int i,.int j=>.ok (.int (i+j))
 |.str x,.str y=>if x.length+y.length<=1000 then .ok (.str (x++y)) else .no
 |.tuple xs,.tuple ys=>if xs.length+ys.length<=1000 then .ok (.tuple (xs++ys)) else .no
 |.list xs,.list ys=>if xs.length+ys.length<=1000 then .ok (.list (xs++ys)) else .no
 |_,_=>.no
inductive OZ (K:a8) (x:V) (y:V) (H:Hp) (Q:VK):Prop
 |mk (l b xs zs:_) (h0:x=.ref l) (h1:y=.ref b) (h2:nl K H l xs) (h3:nl K H b zs) (h4:xs.length+zs.length<=sizeLine) (h5:∀ p,H p=none->Q (.ref p) (upd H p (.lst (xs++zs)))):OZ K x y H Q
def XY (K:a8):R2:=OZ K
theorem SJ:rK X (gY .Add) (XY X.K):=by
 intro j s U H x y v u Q I A N h;obtain ⟨l,b,xs,T,rfl,rfl,w,P,G,q⟩:=h;cases A;cases N;obtain ⟨c,r,⟨o,n,e,m,g,f⟩,z⟩:=I.list w;obtain ⟨a,p,⟨B,M,t,d,i,k⟩,z2⟩:=I.list P;obtain ⟨k1,k2,k3,L⟩:=o;obtain ⟨m1,Y,S,O⟩:=B;simp only at m g f d i k;subst m g f d i k;refine A_ ⟨_,e,rfl⟩ ⟨_,t,rfl⟩ noFill_list_add seq_list_add PySem.F.slot_list_add PySem.F.entry_list_add (PySem.F.args_list_add_2 _ _) (PyProof.Rows.list_addW l b _ _ n M _ _ L O (by rw [aK,aK,<- r.length,<- p.length];exact G)) ⟨e,t,?_⟩;have E:c.toArray++a.toArray=(c++a).toArray:=by simp
 rw [E];exact ⟨.ref _,_,I.lnew (t':=s.toks) (r.append p) (by rw [aO];omega),rfl,q _ I.fresh⟩
inductive O_ (K:a8) (x:V) (y:V) (H:Hp) (Q:VK):Prop
 |mk (a b ys:_) (h0:x=.ref a) (h1:y=.ref b) (h2:m5 K H a []) (h3:m5 K H b ys) (h4:Q (.ref b) H):O_ K x y H Q
def XZ (K:a8):R2:=O_ K
theorem SK:rK X (gY .Add) (XZ X.K):=by
 intro g s G H x y v u Q I m w h;obtain ⟨a,b,ys,rfl,rfl,l,B,q⟩:=h;cases m;cases w;obtain ⟨p,r,⟨⟨k1,k2,k3,o⟩,e,j,n,d⟩,z⟩:=I.tuple l;obtain ⟨f,N,⟨⟨O,L,E,A⟩,k,c,t,i⟩,M⟩:=I.tuple B;simp only at j d c i;subst j d c i;cases r;exact A_ ⟨_,e,rfl⟩ ⟨_,k,rfl⟩ Db Lz qj pL (oU _ _)
  (PyProof.Rows.tuple_addW0 a b _ _ n t _ _ o A rfl) ⟨e,k,⟨.ref b,H,I,rfl,q⟩⟩
theorem c_:x_ X (gY .Add) eB:=by
 refine ⟨fun f s z H x y v u Q I A B ⟨Hs,N,L,sub,i,l,d,g,q⟩=>?_,fun x y c n=>?_⟩
 ·unfold eB at g;split at g
  ·cases g;exact VL f s z H x y v u Q I A B ⟨_,_,i.int,l.int,q _ H Hs (.refl sub) (.int _)⟩
  ·split at g
   ·rename_i w
    cases g;exact Iz f s z H x y v u Q I A B ⟨_,_,i.str,l.str,bw (cK w),q _ H Hs (.refl sub) (.str _)⟩
   ·cases g
  ·split at g
   ·rename_i xs ys w
    cases g;obtain ⟨a,t,rfl,G,o,_⟩:=i.tuple sub;obtain ⟨b,k,rfl,K,m,_⟩:=l.tuple sub;have j:t.length+k.length<=sizeLine:=by rw [o.length,m.length];exact bw (cK w)
    have big:∀ p,H p=none->Q (.ref p) (upd H p (.tup (t++k))):=fun p E=>q _ _ _ (.new sub E) (.tuple aS ((o.append m).same (cX.new sub E).sh));cases t with
    |nil =>
     cases o;refine SK f s z H _ _ v u Q I A B ⟨a,b,k,rfl,rfl,G,K,?_⟩;rcases l with l|⟨_,_,_,_,_,ow⟩
     ·exact q _ H Hs (.refl sub) (by simpa using l)
     ·cases ow
    |cons O M =>
     refine Sj f s z H _ _ v u Q I A B ⟨a,b,_,k,rfl,rfl,G,K,by simp,j,fun e=>?_,fun _=>big⟩;subst e;cases m;rcases i with i|⟨_,_,_,_,_,ow⟩
     ·exact q _ H Hs (.refl sub) (by simpa using i)
     ·cases ow
   ·cases g
  ·split at g
   ·rename_i xs ys w
    cases g;obtain ⟨a,t,rfl,G,o⟩:=i.list sub;obtain ⟨b,k,rfl,K,m⟩:=l.list sub;have j:t.length+k.length<=sizeLine:=by rw [o.length,m.length];exact bw (cK w)
    exact SJ f s z H _ _ v u Q I A B ⟨a,b,t,k,rfl,rfl,G,K,j,fun p E=>q _ _ _ (.new sub E) (.list (.of aS) ((o.append m).same (cX.new sub E).sh))⟩
   ·cases g
  ·cases g
 ·unfold eB;split<;>(try split)<;>exact fun h=>by cases h
def IP (C:Int->Int->Bool) (k:Int->Int->D):D->D->R D
 |.int i,.int j=>if C i j then .ok (k i j) else .no
 |_,_=>.no
theorem IQ {f:ac->ac->Sem ac}{C:Int->Int->Bool}{P:Int->Int->Prop}{k:Int->Int->D}{e:Int->Int->V} (h:rK X f (rI P e)) (w:∀ i j,C i j=true->P i j) (z:∀ Hs i j,RD X.K Hs (e i j) (k i j)):x_ X f (IP C k):=by
 refine ⟨fun b s m H x y v u Q I p t ⟨Hs,B,A,sub,g,o,d,a,q⟩=>?_,fun x y c n=>?_⟩
 ·unfold IP at a;split at a
  ·split at a
   ·rename_i l
    cases a;exact h b s m H x y v u Q I p t ⟨_,_,g.int,o.int,w _ _ l,q _ H Hs (.refl sub) (z _ _ _)⟩
   ·cases a
  ·cases a
 ·unfold IP;split<;>(try split)<;>exact fun h=>by cases h
def Ch (i j:Int):Bool:=(decide (-(2 ^ 64)<i)&&decide (i<2 ^ 64))||(decide (-(2 ^ 64)<j)&&decide (j<2 ^ 64))
def yF:=IP Ch fun i j=>.int (i*j)
def Mk:=IP (fun _ j=>decide (0<j)) fun i j=>.int (i % j)
def P0:=IP (fun _ j=>decide (0<j)&&decide (j<1073741824)) fun i j=>.int (i / j)
theorem sw:x_ X (gY .Mult) yF:=IQ VM (fun i j h=>by
 unfold Ch at h;simp only [kA,aY,decide_eq_true_eq] at h;exact h) fun _ _ _=>.int _
theorem DM:x_ X (gY .Mod) Mk:=IQ VN (fun i j h=>of_decide_eq_true h) fun _ _ _=>.int _
theorem SL:x_ X (gY .FloorDiv) P0:=IQ S6 (fun i j h=>by
 simp only [aY,decide_eq_true_eq] at h;exact h) fun _ _ _=>.int _
def rA (a:Bool) (x y:D):R D:=if x.canLay0&&y.canLay0&&decide (min x.depth y.depth<=60) then .ok (.bool (if a then !bq x y else bq x y)) else .no
mutual
theorem DN:∀ d:D,d.canLay0=true->vY d=true
 |.none,_=>rfl
 |.bool _,_=>rfl
 |.int _,_=>rfl
 |.str _,_=>rfl
 |.list xs,h=>by
  simp only [eG] at h;simp only [vY];exact lays_noD xs h
 |.tuple xs,h=>by
  simp only [eG] at h;simp only [vY];exact lays_noD xs h
 |.dict _,h=>by simp [eG] at h
theorem lays_noD:∀ d:List D,cz d=true->noDs d=true
 |[],_=>rfl
 |x::r,h=>by
  simp only [cz,aY] at h;simp only [noDs,aY];exact ⟨DN x h.1,lays_noD r h.2⟩
end
theorem P1 (h:rK X f (W4 X.K neg)):x_ X f (rA neg):=by
 refine ⟨fun b s j H x y v u Q I m o ⟨Hs,k,g,sub,i,l,d,e,q⟩=>?_,fun x y c n=>?_⟩
 ·unfold rA at e;split at e
  ·rename_i a
   simp only [aY,decide_eq_true_eq] at a;cases e;exact h b s j H x y v u Q I m o ⟨k,g,(i.full sub).rep (DN _ a.1.1),(l.full sub).rep (DN _ a.1.2),a.1.1,a.1.2,a.2,q _ H Hs (.refl sub) (.bool _)⟩
  ·cases e
 ·unfold rA;split<;>exact fun h=>by cases h
theorem y8 (a:X.A.units+64<gM):x_ X (bG .Eq) (rA false):=P1 (W5 a)
theorem Ci (a:X.A.units+64<gM):x_ X (bG .NotEq) (rA true):=P1 (W6 a)
def Ml (k:Int->Int->Bool) (t:Str->Str->Bool):D->D->R D
 |.int i,.int j=>.ok (.bool (k i j))
 |.str x,.str y=>.ok (.bool (t x y))
 |_,_=>.no
theorem P2 (p:rK X f (VG fun i j=>.bl (k i j))) (w:rK X f (fun x y H Q=>∃ i j,x=.str i/\y=.str j/\Q (.bl (t i j)) H)):x_ X f (Ml k t):=by
 refine ⟨fun a s g H x y v u Q I m o ⟨Hs,A,z,sub,e,l,d,b,q⟩=>?_,fun x y c n=>?_⟩
 ·unfold Ml at b;split at b
  ·cases b;exact p a s g H x y v u Q I m o ⟨_,_,e.int,l.int,q _ H Hs (.refl sub) (.bool _)⟩
  ·cases b;exact w a s g H x y v u Q I m o ⟨_,_,e.str,l.str,q _ H Hs (.refl sub) (.bool _)⟩
  ·cases b
 ·unfold Ml;split<;>exact fun h=>by cases h
def Bv:=Ml (fun i j=>decide (i<j)) rz
def P3:=Ml (fun i j=>decide (i<=j)) fun x y=>!rz y x
def Xb:D->D->R D
 |.int i,.int j=>.ok (.bool (decide (j<i)))
 |_,_=>.no
theorem zV:x_ X (bG .Lt) Bv:=P2 Xt LY
theorem y9:x_ X (bG .LtE) P3:=P2 Xu Mb
theorem UG:x_ X (bG .Gt) Xb:=by
 refine ⟨fun a s f H x y v u Q I i j ⟨Hs,l,k,sub,e,g,d,b,q⟩=>?_,fun x y c n=>?_⟩
 ·unfold Xb at b;split at b
  ·cases b;exact Xv a s f H x y v u Q I i j ⟨_,_,e.int,g.int,q _ H Hs (.refl sub) (.bool _)⟩
  ·cases b
 ·unfold Xb;split<;>exact fun h=>by cases h
def IR:D->Bool
 |.none=>true
 |_=>false
def EV (a:Bool):D->D->R D
 |x,.none=>.ok (.bool (if a then !IR x else IR x))
 |_,_=>.no
theorem Ka {K:a8}{H Hs:Hp}{v:V}{d:D} (h:RB K H Hs v d):decide (v=.non)=IR d:=by
 rcases h with h|⟨a,o,rfl,_,_,h⟩
 ·cases h<;>rfl
 ·cases h<;>rfl
theorem X_:x_ X (bG .Is) (EV false):=by
 refine ⟨fun a s f H x y v u Q I i j ⟨Hs,l,k,sub,e,g,d,b,q⟩=>?_,fun x y c n=>?_⟩
 ·unfold EV at b;split at b
  ·cases b;exact VQ a s f H x y v u Q I i j ⟨g.non,by rw [Ka e];exact q _ H Hs (.refl sub) (.bool _)⟩
  ·cases b
 ·unfold EV;split<;>exact fun h=>by cases h
theorem FI:x_ X (bG .IsNot) (EV true):=by
 refine ⟨fun a s f H x y v u Q I i j ⟨Hs,l,k,sub,e,g,d,b,q⟩=>?_,fun x y c n=>?_⟩
 ·unfold EV at b;split at b
  ·cases b;exact Sc a s f H x y v u Q I i j ⟨g.non,by rw [Ka e];exact q _ H Hs (.refl sub) (.bool _)⟩
  ·cases b
 ·unfold EV;split<;>exact fun h=>by cases h
def mK:D->Bool
 |.none=>true
 |.bool _=>true
 |.int _=>true
 |.str _=>true
 |_=>false
def FJ (a:Bool):D->D->R D
 |x,.list ys=>if mK x&&ys.all mK then .ok (.bool (if a then !(ys.any fun y=>bq y x) else ys.any fun y=>bq y x)) else .no
 |x,.tuple ys=>if mK x&&ys.all mK then .ok (.bool (if a then !(ys.any fun y=>bq y x) else ys.any fun y=>bq y x)) else .no
 |_,_=>.no
theorem Kb {K:a8}{H:Hp}{v:V}{d:D} (h:RD K H v d) (f:mK d=true):sf v=true:=by
 cases h<;>first|rfl|cases f
theorem FK {K:a8}{H Hs:Hp}{v:V}{d:D} (h:RB K H Hs v d) (f:mK d=true):sf v=true:=by
 rcases h with h|⟨a,o,rfl,_,_,h⟩
 ·exact Kb h f
 ·cases h<;>cases f
theorem FL {K:a8}{H:Hp}{a:List V}:∀ {ds:List D},RDs K H a ds->ds.all mK=true->a.all sf=true:=by
 induction a with
 |nil=>intro ds _ _;rfl
 |cons x r b =>
  intro ds h f;cases h with
  |cons h t =>
   rw [vD,aY] at f ⊢;exact ⟨Kb h f.1,b t f.2⟩
theorem W9 {K:a8}{H k Hs:Hp}{v u:V}{d e:D} (h:RD K H v d) (j:RB K k Hs u e) (f:mK d=true) (g:mK e=true):So v u=bq d e:=by
 have c:RD K Hs u e:=by
  rcases j with j|⟨a,o,rfl,_,_,j⟩
  ·exact j
  ·cases j<;>cases g
 cases h with
 |list _ _=>cases f
 |tuple _ _=>cases f
 |dictK _ _=>cases f
 |dictT _ _ _=>cases f
 |dictF _ _ _=>cases f
 |none=>cases c<;>first|rfl|cases g
 |bool b=>cases c<;>first|rfl|cases g
 |int i=>cases c<;>first|rfl|cases g
 |str x=>cases c<;>first|rfl|cases g
theorem IS {K:a8}{H d Hs:Hp}{u:V}{e:D} (a:RB K d Hs u e) (b:mK e=true):∀ {c:List V}{ds:List D},RDs K H c ds->ds.all mK=true->Zb u c=ds.any fun y=>bq y e
 |_,_,.nil,_=>rfl
 |_,_,.cons h t,f=>by
  rw [vD,aY] at f;have:=IS a b t f.2;unfold Zb at this ⊢;rw [eJ,eJ,this,W9 h a f.1 b]
theorem P4 (h:rK X f (ZW X.K neg)):x_ X f (FJ neg):=by
 refine ⟨fun g s m H x y v u Q I p t ⟨Hs,z,w,sub,j,o,d,e,q⟩=>?_,fun x y c n=>?_⟩
 ·unfold FJ at e;split at e
  ·split at e
   ·rename_i a
    simp only [aY] at a;cases e;obtain ⟨b,l,rfl,k,i⟩:=o.list sub;refine h g s m H _ _ v u Q I p t ⟨b,l,rfl,.inl k,FK j a.1,FL i a.2,?_⟩;rw [IS j a.1 i a.2];exact q _ H Hs (.refl sub) (.bool _)
   ·cases e
  ·split at e
   ·rename_i a
    simp only [aY] at a;cases e;obtain ⟨b,l,rfl,k,i,_⟩:=o.tuple sub;refine h g s m H _ _ v u Q I p t ⟨b,l,rfl,.inr k,FK j a.1,FL i a.2,?_⟩;rw [IS j a.1 i a.2];exact q _ H Hs (.refl sub) (.bool _)
   ·cases e
  ·cases e
 ·unfold FJ;split<;>(try split)<;>exact fun h=>by cases h
theorem FM:x_ X (bG .In) (FJ false):=P4 M1
theorem zW:x_ X (bG .NotIn) (FJ true):=P4 Dr
end J
namespace J
open PySem L2
section
variable {c:C}{e a b:bZ}{g ga gb:aI->R D}{pos:Pos}
def FO:D->D->R D
 |.list xs,.int i=>match ET xs i with
  |some d=>.ok d
  |none=>.no
 |.tuple xs,.int i=>match ET xs i with
  |some d=>.ok d
  |none=>.no
 |.str x,.int i=>if x.length<=1000 then (match ET x.cps.toList i with
  |some k=>.ok (.str ⟨#[k]⟩)
  |none=>.no) else .no
 |_,_=>.no
theorem Kc (h:RDs K H vs ds) (e:ET ds i=some d):∃ v,ET vs i=some v/\RD K H v d:=by
 unfold ET at e ⊢;rw [h.length];cases f:Uo ds.length i with
 |none=>rw [f] at e;cases e
 |some j =>
  rw [f] at e;exact h.get' e
theorem q04:XA X (rD X.K FO):=by
 intro t E i s n H x y v u Q I A B h;obtain ⟨Hs,O,N,sub,m,z,d,f,q⟩:=h;unfold FO at f;split at f
 ·split at f
  ·rename_i d' he
   cases f;obtain ⟨p,L,rfl,l,G⟩:=m.list sub;obtain ⟨w,o,j⟩:=Kc G he;exact vM t E i s n H _ _ v u Q I A B ⟨p,L,_,w,rfl,z.int,l,o,q _ H Hs (.refl sub) j⟩
  ·cases f
 ·split at f
  ·rename_i d' he
   cases f;obtain ⟨p,L,rfl,l,G,_⟩:=m.tuple sub;obtain ⟨w,o,j⟩:=Kc G he;exact VV t E i s n H _ _ v u Q I A B ⟨p,L,_,w,rfl,z.int,l,o,q _ H Hs (.refl sub) j⟩
  ·cases f
 ·split at f
  ·rename_i M
   split at f
   ·rename_i k he
    cases f;exact VW t E i s n H _ _ v u Q I A B ⟨_,_,k,m.str,z.int,bw (cK M),he,q _ H Hs (.refl sub) (.str _)⟩
   ·cases f
  ·cases f
 ·cases f
theorem Wa (x y:D) (c:Str) (n:Option D):FO x y≠.ex c n:=by
 unfold FO;split<;>(try split)<;>(try split)<;>exact fun h=>by cases h
theorem Y0 (d:JB c a ga) (f:JB c b gb) (hs:vL b:=by exact fun _ _=>rfl):JE c (.Subscript a b pos) (g2 ga gb FO):=.of fun ρ=>sj (Uq q04 (d ρ) (f ρ) hs) fun h H Q q=>two Wa q
def Bw (ds:List D) (lo d:Option Int):List D:=(ds.drop (HT.jH ds.length 0 lo)).take (HT.jH ds.length ds.length d-HT.jH ds.length 0 lo)
theorem Ke (h:RDs K H vs ds) (lo d:Option Int):RDs K H (Fb vs lo d) (Bw ds lo d):=by
 unfold Fb Bw;rw [h.length];exact (h.drop _).take _
def Kf:D->Option Int->Option Int->R D
 |.list xs,lo,d=>.ok (.list (Bw xs lo d))
 |.tuple xs,lo,d=>.ok (.tuple (Bw xs lo d))
 |_,_,_=>.no
inductive UH (K:a8) (x:V) (lo:Option Int) (hi:Option Int) (H:Hp) (Q:VK):Prop
 |mk (Hs dx:_) (h0:dD Hs H) (h1:RB K H Hs x dx) (h2:∃ d,Kf dx lo hi=.ok d/\∀ v H' Hs',cX H Hs H' Hs'->RD K Hs' v d->Q v H'):UH K x lo hi H Q
def q05 (K:a8):V->Option Int->Option Int->Hp->VK->Prop:=UH K
theorem q06 {X:Cx}:Xy X (q05 X.K):=by
 intro f s y H x v z A lo j B Q I w hs G E h;obtain ⟨Hs,L,sub,n,d,m,q⟩:=h;unfold Kf at m;split at m
 ·cases m;obtain ⟨p,i,rfl,t,o⟩:=n.list sub;exact Sn f s y H _ v z A lo j B Q I w hs G E ⟨p,i,rfl,t,fun l k=>q _ _ _ (.new sub k) (.list (.of aS) ((Ke o lo j).same (cX.new sub k).sh))⟩
 ·cases m;obtain ⟨p,i,rfl,t,o,_⟩:=n.tuple sub;by_cases u:HT.jH i.length 0 lo=0/\HT.jH i.length i.length j=i.length
  ·refine SF f s y H _ v z A lo j B Q I w hs G E ⟨p,i,rfl,t,u,?_⟩;rcases n with n|⟨_,_,_,_,_,ow⟩
   ·refine q _ H Hs (.refl sub) ?_;unfold Bw;rw [<- o.length,u.1,u.2,o.length];simpa using n
   ·cases ow
  ·exact VU f s y H _ v z A lo j B Q I w hs G E ⟨p,i,rfl,t,u,fun l k=>q _ _ _ (.new sub k) (.tuple aS ((Ke o lo j).same (cX.new sub k).sh))⟩
 ·cases m
inductive Y1 (K:a8) (cls:Str->aj) (E:XK) (ρ:aI) (r:R (Option Int)) (σ:St) (H:Hp) (Q:Option Int->Hp->Prop):Prop
 |mk (H0 Hs0:Hp) (la:Nat->Option aj) (Hs:Hp) (f:Fr K H0 Hs0 la ρ σ H Hs) (q:Fin K cls E H Hs r fun d=>∀ H' Hs',cX H Hs H' Hs'->Q d H'):Y1 K cls E ρ r σ H Q
def TOr (K:a8) (cls:Str->aj) (E:XK) (ρ:aI) (r:R (Option Int)):TO:=Y1 K cls E ρ r
structure JO (c:C) (e:Option bZ) (g:aI->R (Option Int)):Prop where of ::
 run:∀ ρ,PO c.X e (TOr c.X.K c.cls c.E ρ (g ρ))
instance {c:C}{e:Option bZ}{g:aI->R (Option Int)}:CoeFun (JO c e g) (fun _=>∀ ρ,PO c.X e (TOr c.X.K c.cls c.E ρ (g ρ))):=⟨JO.run⟩
theorem mPO {X:Cx}{e:Option bZ}{t t':TO} (h:PO X e t) (m:∀ d H Q,t' d H Q->t d H Q):PO X e t':=fun f s d H Q I q=>h f s d H Q I (m d H Q q)
def Xc:aI->R (Option Int):=fun _=>.ok none
def SM (g:aI->R D):aI->R (Option Int):=fun ρ=>(g ρ).bind fun d=>match d with
 |.int i=>.ok (some i)
 |_=>.no
theorem yW:JO c none Xc:=.of fun ρ=>mPO Sh fun i H Q d=>by obtain ⟨j,h,la,Hs,f,q⟩:=d;exact q H Hs (.refl f.st.sub)
theorem tJ (h:JE c e g):JO c (some e) (SM g):=.of fun ρ=>mPO (Si (h ρ)) fun s H Q k=>by
 obtain ⟨t,p,la,Hs,f,q⟩:=k;refine zS f q fun d v m j n l u o=>?_;unfold SM at q;rw [n,bind_ok] at q;cases o with
 |int i=>exact ⟨i,rfl,q m j l⟩
 |_=>exact q.elim
theorem Y2 {K:a8}{cls:Str->aj}{E:XK}{ρ:aI}{r:R (Option Int)}{p:Type}{k:Option Int->R p}{l:St}{H:Hp}{o j Hs:Hp}{la:Nat->Option aj}{Q:Option Int->Hp->Prop}{q:p->Prop} (f:Fr K o j la ρ l H Hs)
  (h:Fin K cls E H Hs (r.bind k) q) (m:∀ d H' i,r=.ok d->cX H Hs H' i->Fr K o j la ρ l H' i->Q d H'):TOr K cls E ρ r l H Q:=by
 refine ⟨o,j,la,Hs,f,?_⟩;cases r with
 |ok d=>exact fun H' i s=>m d H' i rfl s (f.step s)
 |ex c n=>exact h
 |no=>exact h
def UI (g:aI->R D) (d f:aI->R (Option Int)):aI->R D:=fun ρ=>(g ρ).bind fun x=>(d ρ).bind fun l=>(f ρ).bind fun h=>Kf x l h
theorem sx {lo u:Option bZ}{s t:aI->R (Option Int)}{A:Pos} (he:JB c e g) (E:JO c lo s) (S:JO c u t):JE c (.Subscript e (.Slice lo u none A) pos) (UI g s t):=.of fun ρ=>sj (Oi q06 (he ρ) (E ρ) (S ρ)) fun σ H Q j=>by
 obtain ⟨H0,U,la,Hs,f,q⟩:=j;refine one f q fun d v Y K P k N T=>?_;unfold UI at q;rw [P,bind_ok] at q;refine Y2 N (q.on k (q':=fun _=>True) fun _ _=>trivial) fun l H2 O X p I=>?_;rw [X,bind_ok] at q;refine Y2 I (q.on (k.trans p) (q':=fun _=>True) fun _ _=>trivial) fun h H3 m B x M=>?_;rw [B,bind_ok] at q;cases i:Kf d l h with
 |ok z=>rw [i] at q;exact ⟨m,d,M.st.sub,(T.step p).step x,z,i,fun w G o y L=>q w G o (k.trans (p.trans (x.trans y))) L⟩
 |ex c n=>unfold Kf at i;split at i<;>cases i
 |no=>rw [i] at q;exact q.elim
inductive rCI (K:a8) (h:List D->R D) (xs:List V) (H:Hp) (Q:VK):Prop
 |mk (Hs ds:_) (h0:dD Hs H) (h1:UE K H Hs xs ds) (h2:∃ d,h ds=.ok d/\∀ v H' Hs',cX H Hs H' Hs'->RD K Hs' v d->Q v H'):rCI K h xs H Q
def rC (K:a8) (h:List D->R D):List V->Hp->VK->Prop:=rCI K h
def Mm (X:Cx) (f:ac) (h:List D->R D):Prop:=jF X f (rC X.K h)/\∀ x c n,h x≠.ex c n
def cr (d:aI->R (List D)) (h:List D->R D):aI->R D:=fun ρ=>(d ρ).bind h
theorem UJ {K:a8}{cls:Str->aj}{E:XK}{h:List D->R D}{m:aI->R (List D)}{ρ:aI}{l:St}{H:Hp}{Q:VK} (z:∀ x c n,h x≠.ex c n) (q:TR K cls E ρ (cr m h ρ) l H Q):X7 (rC K h) (Zh K cls E ρ (m ρ)) l H Q:=by
 obtain ⟨G,A,la,Hs,f,q⟩:=q;refine OW f q fun ds I B k t o s u=>?_;unfold cr at q;rw [t,bind_ok] at q;cases i:h ds with
 |ok d =>
  rw [i] at q;exact ⟨k,ds,s.st.sub,u,d,i,fun w p j v y=>q w p j (o.trans v) y⟩
 |ex c n=>exact (z ds c n i).elim
 |no=>rw [i] at q;exact q.elim
variable {es:List bZ}{gs:aI->R (List D)}{x:Str}{p:Pos}{id T:String}{h:List D->R D}
theorem cg (i:Mm c.X (.builtin id) h) (n:Gl c.X x) (j:c.X.mg x=none) (m:ja x=some (.builtin id)) (k:UF c (e::es) gs) (l:x≠"__name__":=by decide) (d:(x==("__debug__" : Str))=false:=by decide)
  (he:az (e::es) c.X.env=(false,dO e c.X.env)::az es c.X.env:=by rfl) (f:(gG pos (az es c.X.env)).any (·.1)=false:=by rfl):JE c (.Call (.Name x p) (e::es) [] pos) (cr gs h):=.of fun ρ=>sj (pQ i.1 n j m (k ρ) l d he f) fun o H Q q=>UJ i.2 q
theorem fz (i:Mm c.X (.type T) h) (n:Gl c.X x) (j:c.X.mg x=none) (m:ja x=some (.type T)) (k:UF c (e::es) gs) (l:x≠"__name__":=by decide) (d:(x==("__debug__" : Str))=false:=by decide)
  (he:az (e::es) c.X.env=(false,dO e c.X.env)::az es c.X.env:=by rfl) (f:(gG pos (az es c.X.env)).any (·.1)=false:=by rfl):JE c (.Call (.Name x p) (e::es) [] pos) (cr gs h):=.of fun ρ=>sj (xk i.1 n j m (k ρ) l d he f) fun o H Q q=>UJ i.2 q
end
theorem UE.one (h:UE K H Hs xs [d]):∃ x,xs=[x]/\RB K H Hs x d:=by
 cases h with|cons a t=>cases t;exact ⟨_,rfl,a⟩
def jn (h:D->R D):List D->R D
 |[d]=>h d
 |_=>.no
theorem sy (m:∀ d c n,h d≠.ex c n)
  (j:∀ a s e H x u Q Hs d d',bH X a e H s->dI x u->dD Hs H->RB X.K H Hs x d->h d=.ok d'->(∀ v H' b,cX H Hs H' b->RD X.K b v d'->Q v H')->ar (av X.prog X.w) X.A (call f [u]) (EP X a e Q) X.xe s):Mm X f (jn h):=by
 refine ⟨fun a s e H xs o Q I r ⟨Hs,ds,sub,l,d,g,q⟩=>?_,fun x c n=>?_⟩
 ·unfold jn at g;split at g
  ·obtain ⟨x,rfl,i⟩:=l.one;obtain ⟨u,rfl,k⟩:=kM r;exact j a s e H x u Q Hs _ _ I k sub i g q
  ·cases g
 ·unfold jn;split
  ·exact m _ _ _
  ·exact fun h=>by cases h
def mI:D->R D
 |.list xs=>.ok (.int xs.length)
 |.tuple xs=>.ok (.int xs.length)
 |.str x=>if x.length<=1000 then .ok (.int x.length) else .no
 |_=>.no
theorem RDk.length : ∀ {ds:List (D×D)},RDk K H vs ds->vs.length=ds.length:=by
 induction vs with
 |nil=>intro ds h;cases h;rfl
 |cons x r c=>intro ds h;cases h with|cons a b=>exact congrArg (· + 1) (c b)
theorem RDt.length : ∀ {a:List (List eC×V)}{ds:List (D×D)},RDt K H a ds->a.length=ds.length
 |_,_,.nil=>rfl
 |_,_,.cons _ t=>by simp [RDt.length t]
theorem RB.dict (sub:dD Hs H) (h:RB K H Hs v (.dict ds)):∃ a,v=.ref a/\((∃ kvs,H a=some (.dK kvs)/\RDk K Hs kvs ds)\/(∃ kvs,H a=some (.dT kvs)/\kvs≠[]/\RDt K Hs kvs ds)\/∃ o kvs es,ds=(.none,.none)::es/\H a=some (.frz o (.dT kvs))/\kvs≠[]/\RDt K Hs kvs es):=by
 rcases h with h|⟨a,o,rfl,h2,h3,h4⟩
 ·cases h with
  |dictK q r=>exact ⟨_,rfl,.inl ⟨_,sub _ _ q,r⟩⟩
  |dictT q n r=>exact ⟨_,rfl,.inr (.inl ⟨_,sub _ _ q,n,r⟩)⟩
  |dictF q n r=>exact ⟨_,rfl,.inr (.inr ⟨_,_,_,rfl,sub _ _ q,n,r⟩)⟩
 ·cases h4 with
  |dK r=>exact ⟨a,rfl,.inl ⟨_,h2,r⟩⟩
  |dT n r=>exact ⟨a,rfl,.inr (.inl ⟨_,h2,n,r⟩)⟩
  |dF n r=>exact ⟨a,rfl,.inr (.inr ⟨_,_,_,rfl,h2,n,r⟩)⟩
theorem k8:Mm X (.builtin "len") (jn mI):=by
 refine sy (fun d c n=>?_) fun b s i H x u Q Hs d d' I j sub g e q=>?_
 ·unfold mI;split<;>(try split)<;>exact fun h=>by cases h
 ·unfold mI at e;split at e
  ·cases e;obtain ⟨a,l,rfl,f,k⟩:=g.list sub;refine vO b s i H _ _ Q I (.cons j .nil) ⟨a,l,rfl,.inl f,?_⟩;rw [k.length];exact q _ H Hs (.refl sub) (.int _)
  ·cases e;obtain ⟨a,l,rfl,f,k,_⟩:=g.tuple sub;refine vO b s i H _ _ Q I (.cons j .nil) ⟨a,l,rfl,.inr f,?_⟩;rw [k.length];exact q _ H Hs (.refl sub) (.int _)
  ·split at e
   ·rename_i m
    cases e;exact Ds b s i H _ _ Q I (.cons j .nil) ⟨_,by rw [g.str],bw (cK m),q _ H Hs (.refl sub) (.int _)⟩
   ·cases e
  ·cases e
def FP (T:String) (d:D):Bool:=match T,d with
 | "str",.str _=>true
 | "int",.int _=>true
 | "int",.bool _=>true
 | "bool",.bool _=>true
 | "list",.list _=>true
 | "tuple",.tuple _=>true
 |_,_=>false
def Bx (g:aI->R D) (T:String):aI->R D:=fun ρ=>(g ρ).bind fun d=>if vY d then .ok (.bool (FP T d)) else .no
theorem SO (T:String) (a:T="str"\/T="int"\/T="bool"\/T="list"\/T="tuple") (h:vY d=true):dQ K (.type (tyD d)) (.type T)=some (FP T d):=by
 rcases a with rfl|rfl|rfl|rfl|rfl<;>cases d<;>first|rfl|simp [vY] at h
theorem uP (h:JB c e g) (i:Gl c.X "isinstance") (t:c.X.mg "isinstance"=none) (m:Gl c.X T) (z:c.X.mg T=none) (A:ja T=some (.type Ts))
  (k:Ts="str"\/Ts="int"\/Ts="bool"\/Ts="list"\/Ts="tuple")
  (w:T≠"__name__":=by decide) (j:(T==("__debug__" : Str))=false:=by decide)
  (he:az [e,.Name T p2] c.X.env=(false,dO e c.X.env)::az [.Name T p2] c.X.env:=by rfl) (n:(gG pos (az [.Name T p2] c.X.env)).any (·.1)=false:=by rfl) :
  JE c (.Call (.Name "isinstance" p) [e,.Name T p2] [] pos) (Bx g Ts):=.of fun ρ=>by
 refine sj (pQ OS i t lm (ck (h ρ) (ck (JY m z A (v:=.ty Ts) rfl w j) fB) he) (by decide) (by decide) he n) fun E H Q b=>?_;obtain ⟨G,B,la,Hs,f,q⟩:=b;refine one f q fun d v s l x o u y=>?_;unfold Bx at q;rw [x,bind_ok] at q;by_cases a:vY d=true
 ·rw [if_pos a] at q;exact ⟨v,d,Ts,_,rfl,(y.full u.st.sub).rep a,SO Ts k a,q _ s l o (.bool _)⟩
 ·rw [if_neg a] at q;exact q.elim
def oq:List D->Option (List Bool)
 |[]=>some []
 |.bool b::r=>(oq r).map (b::·)
 |_::_=>none
theorem DO:∀ {bs:List Bool},oq ds=some bs->ds=bs.map cU:=by
 induction ds with
 |nil=>intro bs h;cases h;rfl
 |cons d r c =>
  intro bs h;cases d with
  |bool b =>
   have h:(oq r).map (b::·)=some bs:=h;cases a:oq r with
   |none=>rw [a] at h;cases h
   |some z=>rw [a] at h;cases h;rw [c a];rfl
  |_=>cases h
def hJ (k:List Bool->Bool):D->R D
 |.list ds=>match oq ds with
  |some bs=>.ok (.bool (k bs))
  |none=>.no
 |_=>.no
theorem FQ {id:String}{k:List Bool->Bool} (h:jF X (.builtin id) (fun xs H Q=>∃ p,∃ bs:List Bool,xs=[.ref p]/\nl X.K H p (bs.map V.bl)/\Q (.bl (k bs)) H)):Mm X (.builtin id) (jn (hJ k)):=by
 refine sy (fun d c n=>?_) fun e s j H x u Q Hs d d' I m sub i b q=>?_
 ·unfold hJ;split<;>(try split)<;>exact fun h=>by cases h
 ·unfold hJ at b;split at b
  ·split at b
   ·rename_i bs l
    cases b;obtain ⟨a,o,rfl,f,g⟩:=i.list sub;rw [DO l] at g;rw [Bt g] at f;exact h e s j H _ _ Q I (.cons m .nil) ⟨a,bs,rfl,f,q _ H Hs (.refl sub) (.bool _)⟩
   ·cases b
  ·cases b
theorem ph (a:X.calm=true):Mm X (.builtin "all") (jn (hJ fun bs=>bs.all id)):=FQ (zI a)
theorem P5 (a:X.calm=true):Mm X (.builtin "any") (jn (hJ fun bs=>bs.any id)):=FQ (zJ a)
def pi (x:Str):List D:=x.cps.toList.map fun c=>aU ⟨#[c]⟩
theorem Mn (x:Str):RDs K H (zQ x) (pi x):=by
 unfold zQ pi;induction x.cps.toList with
 |nil=>exact .nil
 |cons a r b=>exact .cons (.str _) b
def iR:D->R D
 |.list xs=>.ok (.tuple xs)
 |.tuple xs=>.ok (.tuple xs)
 |.str x=>if x.cps.size<=1000 then .ok (.tuple (pi x)) else .no
 |_=>.no
theorem jR (t:X.calm=true):Mm X (.type "tuple") (jn iR):=by
 refine sy (fun d c n=>?_) fun b s j H x u Q Hs d d' I k sub f e q=>?_
 ·unfold iR;split<;>(try split)<;>exact fun h=>by cases h
 ·unfold iR at e;split at e
  ·cases e;obtain ⟨a,m,rfl,i,o⟩:=f.list sub;exact uv b s j H _ _ Q I (.cons k .nil) ⟨a,m,rfl,.inl ⟨i,fun l g=>q _ _ _ (.new sub g) (.tuple aS (o.same (cX.new sub g).sh))⟩⟩
  ·cases e;obtain ⟨a,m,rfl,i,o,_⟩:=f.tuple sub;refine uv b s j H _ _ Q I (.cons k .nil) ⟨a,m,rfl,.inr ⟨i,?_⟩⟩;rcases f with f|⟨_,_,_,_,_,ow⟩
   ·exact q _ H Hs (.refl sub) f
   ·cases ow
  ·split at e
   ·rename_i p
    cases e;exact yE t b s j H _ _ Q I (.cons k .nil) ⟨_,by rw [f.str],bw (cK p),fun l g=>q _ _ _ (.new sub g) (.tuple aS (Mn _))⟩
   ·cases e
  ·cases e
def Cj:D->R D
 |.list xs=>.ok (.list xs)
 |.tuple xs=>.ok (.list xs)
 |_=>.no
theorem SQ:Mm X (.type "list") (jn Cj):=by
 refine sy (fun d c n=>?_) fun b s m H x u Q Hs d d' I o sub k f q=>?_
 ·unfold Cj;split<;>exact fun h=>by cases h
 ·unfold Cj at f;split at f
  ·cases f;obtain ⟨a,j,rfl,g,i⟩:=k.list sub;exact vP b s m H _ _ Q I (.cons o .nil) ⟨a,j,rfl,.inl g,fun l e=>q _ _ _ (.new sub e) (.list (.of aS) (i.same (cX.new sub e).sh))⟩
  ·cases f;obtain ⟨a,j,rfl,g,i,_⟩:=k.tuple sub;exact vP b s m H _ _ Q I (.cons o .nil) ⟨a,j,rfl,.inr g,fun l e=>q _ _ _ (.new sub e) (.list (.of aS) (i.same (cX.new sub e).sh))⟩
  ·cases f
def fD:List D->Option (List Str)
 |[]=>some []
 |.str b::r=>(fD r).map (b::·)
 |_::_=>none
theorem ou:∀ {bs:List Str},fD ds=some bs->ds=bs.map aU:=by
 induction ds with
 |nil=>intro bs h;cases h;rfl
 |cons d r c =>
  intro bs h;cases d with
  |str b =>
   have h:(fD r).map (b::·)=some bs:=h;cases a:fD r with
   |none=>rw [a] at h;cases h
   |some z=>rw [a] at h;cases h;rw [c a];rfl
  |_=>cases h
@[simp] theorem strsOf_map:∀ bs:List Str,fD (bs.map aU)=some bs
 |[]=>rfl
 |b::r=>by show (fD (r.map aU)).map (b::·)=_;rw [strsOf_map r];rfl
def tK:D->R D
 |.list ds=>match fD ds with
  |some a=>if a.length<64 then .ok (.list ((kP a).map .str)) else .no
  |none=>.no
 |_=>.no
theorem Mo:Mm X (.builtin "sorted") (jn tK):=by
 refine sy (fun d c n=>?_) fun e s m H x u Q Hs d d' I p sub i b q=>?_
 ·unfold tK;split<;>(try split)<;>(try split)<;>exact fun h=>by cases h
 ·unfold tK at b;split at b
  ·split at b
   ·split at b
    ·rename_i o hs k
     cases b;obtain ⟨a,t,rfl,f,g⟩:=i.list sub;rw [ou hs] at g;rw [mO g] at f;exact xq e s m H _ _ Q I (.cons p .nil) ⟨a,o,rfl,f,k,fun l j=>q _ _ _ (.new sub j) (.list (.of aS) (vZ _))⟩
    ·cases b
   ·cases b
  ·cases b
inductive Y3 (K:a8) (cls:Str->aj) (n:Nat) (F:List D->R D) (vs:List V) (H:Hp) (Q:VK) (E:XK):Prop
 |mk (Hs ds:_) (h0:dD Hs H) (h1:ds.length=n) (h2:RDs K Hs vs ds) (h3:Fin K cls E H Hs (F ds) fun d=>∀ v H' Hs',cX H Hs H' Hs'->RD K Hs' v d->Q v H'):Y3 K cls n F vs H Q E
def P6 (K:a8) (cls:Str->aj) (n:Nat) (F:List D->R D):Sp:=Y3 K cls n F
structure Fn (P:bu) (w:bQ) (K:a8) (mg:Str->Option ac) (base:bK) (cls:Str->aj) (x:Str) (k n:Nat) (F:List D->R D):Prop where
 ex:∃ f fd ps,qo P w K mg base (mM P w) k f fd ps (P6 K cls n F)/\mg x=some (.ref f)/\cY K (.ref f)=true/\jG K fd ps []
def fH (n:Nat) (F:List D->R D) (a:aI->R (List D)):aI->R D:=fun ρ=>(a ρ).bind fun ds=>if ds.length=n then F ds else .no
theorem SS (G:Fn c.X.prog c.X.w c.X.K c.X.mg c.X.base c.cls x k n F) (o:jO k c.X.A) (P:Gl c.X x) (O:kO (mM c.X.prog c.X.w) c.X c.E) (m:EU c (e::es) gs)
  (b:(x==("__debug__" : Str))=false:=by decide) (he:az (e::es) c.X.env=(false,dO e c.X.env)::az es c.X.env:=by rfl) (j:(gG pos (az es c.X.env)).any (·.1)=false:=by rfl) :
  JE c (.Call (.Name x p) (e::es) [] pos) (fH n F gs):=.of fun ρ=>by
 obtain ⟨f,Y,ps,s,u,M,t⟩:=G.ex;refine sj (K1 (E:=c.E) s o P u M t .nil O (m ρ) b he j) fun σ H Q a=>?_;obtain ⟨H0,S,la,Hs,fr,q⟩:=a;refine Bu fr q fun ds T U g B l y I=>?_;unfold fH at q;rw [B,bind_ok] at q;by_cases h:ds.length=n
 ·rw [if_pos h] at q;show P6 _ _ _ _ (T++[]) _ _ _;rw [bT];exact ⟨g,ds,y.st.sub,h,I,q.on l fun d k v z i L N=>k v z i (l.trans L) N⟩
 ·rw [if_neg h] at q;exact q.elim
inductive Fl where
 |nx (ρ:aI)
 |rt (d:D)
 |bk (ρ:aI)
 |ct (ρ:aI)
def pj (K:a8) (cls:Str->aj) (E:XK) (f e:Hp) (la:Nat->Option aj) (D:Dj) (r:R Fl):Prop:=match r with
 |.ok (.nx b)=>∀ σ' H' a,Fr K f e la b σ' H' a->D.nx σ' H'
 |.ok (.bk b)=>∀ σ' H' a,Fr K f e la b σ' H' a->D.bk σ' H'
 |.ok (.ct b)=>∀ σ' H' a,Fr K f e la b σ' H' a->D.ct σ' H'
 |.ok (.rt d)=>∀ v H' a,cX f e H' a->RD K a v d->D.rt v H'
 |.ex c n=>∀ H' a,cX f e H' a->XW K cls E c n H' a
 |.no=>False
inductive SRI (K:a8) (cls:Str->aj) (E:XK) (ρ:aI) (r:R Fl) (D:Dj) (σ:St) (H:Hp):Prop
 |mk (H0 Hs0:Hp) (la:Nat->Option aj) (Hs:Hp) (f:Fr K H0 Hs0 la ρ σ H Hs) (q:pj K cls E H0 Hs0 la D r):SRI K cls E ρ r D σ H
def SR (K:a8) (cls:Str->aj) (E:XK) (ρ:aI) (r:R Fl):TS:=SRI K cls E ρ r
structure JS (c:C) (s:dY) (g:aI->R Fl):Prop where of ::
 run:∀ ρ,PS c.X s (SR c.X.K c.cls c.E ρ (g ρ))
instance {c:C}{s:dY}{g:aI->R Fl}:CoeFun (JS c s g) (fun _=>∀ ρ,PS c.X s (SR c.X.K c.cls c.E ρ (g ρ))):=⟨JS.run⟩
structure Kg (c:C) (s:List dY) (g:aI->R Fl):Prop where of ::
 run:∀ ρ,Bh c.X s (SR c.X.K c.cls c.E ρ (g ρ))
instance {c:C}{s:List dY}{g:aI->R Fl}:CoeFun (Kg c s g) (fun _=>∀ ρ,Bh c.X s (SR c.X.K c.cls c.E ρ (g ρ))):=⟨Kg.run⟩
theorem Fr.set (f:Fr K H0 Hs0 la ρ σ H Hs) (i:Nat) (r:RD K Hs v d):Fr K H0 Hs0 la (ρ.set i (.shr d)) (σ.set i (some v)) H Hs:=by
 have u:=f.len;have nx:∀ {j:Nat}{s:Sl},(∀ d,s≠.shr d)->(ρ.set i (.shr d))[j]?=some s->ρ[j]?=some s/\i≠j:=fun {j s} hs e=>by
  by_cases c:i=j
  ·subst c;by_cases l:i<ρ.length
   ·rw [aJ l] at e;exact absurd (bR e).symm (hs d)
   ·rw [cQ (by simpa using l)] at e;cases e
  ·rw [ak c] at e;exact ⟨e,c⟩
 refine ⟨f.st,by simp [u],fun j e h=>?_,fun j e h=>?_,fun j e h=>?_,fun j k n o a g m q t=>?_,f.lh,fun j e h=>?_,fun j k n o g m=>?_⟩
 ·by_cases c:i=j
  ·subst c;by_cases l:i<ρ.length
   ·rw [aJ l] at h;cases h;exact ⟨v,aJ (by omega),r⟩
   ·rw [cQ (by simpa using l)] at h;cases h
  ·rw [ak c] at h ⊢;exact f.sh j e h
 ·obtain ⟨h,c⟩:=nx (fun _ z=>by cases z) h;rw [ak c];exact f.ow j e h
 ·obtain ⟨h,c⟩:=nx (fun _ z=>by cases z) h;rw [ak c];exact f.lk j e h
 ·obtain ⟨g,w⟩:=nx (fun _ z=>by cases z) g;obtain ⟨m,x⟩:=nx (fun _ z=>by cases z) m;rw [ak w] at q;rw [ak x] at t;exact f.dj j k n o a g m q t
 ·obtain ⟨h,c⟩:=nx (fun _ z=>by cases z) h;obtain ⟨a,B,O⟩:=f.o2 j e h;refine ⟨a,B,by rw [ak c];exact O.at_,O.ob,O.nd,O.out,fun b y k A p=>?_,O.inn⟩;obtain ⟨p,E⟩:=nx (fun _ z=>by cases z) p;rw [ak E];exact O.dj b y k A p
 ·exact f.u2 j k n o (nx (fun _ z=>by cases z) g).1 (nx (fun _ z=>by cases z) m).1
theorem Fr.setO (f:Fr K H0 Hs0 la ρ σ H Hs) (i:Nat) (n:H a=none) (r:nY K Hs o d):Fr K H0 Hs0 la (ρ.set i (.own d)) (σ.set i (some (.ref a))) (upd H a o) Hs:=by
 have y:=f.step (cX.mine (o:=o) f.st.sub n);have G:=f.len;have M:H0 a=none:=f.st.all.free n;have I:Hs a=none:=f.st.sub.free n;have nx:∀ {j:Nat}{s:Sl},(∀ d,s≠.own d)->(ρ.set i (.own d))[j]?=some s->ρ[j]?=some s/\i≠j:=fun {j s} hs e=>by
  by_cases g:i=j
  ·subst g;by_cases p:i<ρ.length
   ·rw [aJ p] at e;exact absurd (bR e).symm (hs d)
   ·rw [cQ (by simpa using p)] at e;cases e
  ·rw [ak g] at e;exact ⟨e,g⟩
 have ne:∀ j e,ρ[j]?=some (Sl.own e)->σ[j]?≠some (some (V.ref a)):=fun j e h z=>by
  obtain ⟨b,N,m,l,_⟩:=f.ow j e h;rw [z] at m;cases m;rw [n] at l;cases l
 refine ⟨y.st,by simp [G],fun j e h=>?_,fun j e h=>?_,fun j e h=>?_,fun j k v x b m l u t=>?_,f.lh,fun j e h=>?_,fun j k v x m l=>?_⟩
 ·obtain ⟨h,g⟩:=nx (fun _ z=>by cases z) h;rw [ak g];exact y.sh j e h
 ·by_cases g:i=j
  ·subst g;by_cases p:i<ρ.length
   ·rw [aJ p] at h;cases h;exact ⟨a,o,aJ (by omega),aS,I,M,r⟩
   ·rw [cQ (by simpa using p)] at h;cases h
  ·rw [ak g] at h ⊢;exact y.ow j e h
 ·obtain ⟨h,g⟩:=nx (fun _ z=>by cases z) h;rw [ak g];exact y.lk j e h
 ·by_cases g:i=j
  ·by_cases q:i=k
   ·exact g.symm.trans q
   ·rw [ak q] at l t;subst g;by_cases p:i<ρ.length
    ·rw [aJ (by omega)] at u;cases u;exact (ne k x l t).elim
    ·rw [cQ (by simpa using p)] at m;cases m
  ·rw [ak g] at m u;by_cases q:i=k
   ·subst q;by_cases p:i<ρ.length
    ·rw [aJ (by omega)] at t;cases t;exact (ne j v m u).elim
    ·rw [cQ (by simpa using p)] at l;cases l
   ·rw [ak q] at l t;exact f.dj j k v x b m l u t
 ·obtain ⟨h,g⟩:=nx (fun _ z=>by cases z) h;obtain ⟨b,B,O⟩:=f.o2 j e h;have A:∀ c∈b::B,c≠a:=fun c w z=>by
   subst z;rcases List.mem_cons.mp w with z|z
   ·have:=O.ob;rw [<- z,n] at this;cases this
   ·obtain ⟨o,ho,_⟩:=O.inn.there z;rw [n] at ho;cases ho
  refine ⟨b,B,by rw [ak g];exact O.at_,by rw [aV (A b al)];exact O.ob,O.nd,O.out,fun c w k L q=>?_,O.inn.upd fun z=>A a (ag _ z) rfl⟩;by_cases E:i=k
  ·subst E;intro z;by_cases p:i<ρ.length
   ·rw [aJ (by omega)] at z;cases z;exact A _ w rfl
   ·rw [cQ (by simp;omega)] at q;cases q
  ·rw [ak E] at q ⊢;exact O.dj c w k L q
 ·exact f.u2 j k v x (nx (fun _ z=>by cases z) m).1 (nx (fun _ z=>by cases z) l).1
theorem Fr.write (f:Fr K H0 Hs0 la ρ σ H Hs) (i:Nat) (m:ρ[i]?=some (Sl.own d)) (hs:σ[i]?=some (some (V.ref a))) (r:nY K Hs o d'):Fr K H0 Hs0 la (ρ.set i (.own d')) σ (upd H a o) Hs:=by
 obtain ⟨S,U,l,n,v,q,T⟩:=f.ow i d m;rw [hs] at l;cases l;have M:=f.len;have p:i<ρ.length:=(List.getElem?_eq_some_iff.mp m).1;have nx:∀ {j:Nat}{s:Sl},(∀ d,s≠.own d)->(ρ.set i (.own d'))[j]?=some s->ρ[j]?=some s/\i≠j:=fun {j s} hs e=>by
  by_cases g:i=j
  ·subst g;rw [aJ p] at e;exact absurd (bR e).symm (hs d')
  ·rw [ak g] at e;exact ⟨e,g⟩
 refine ⟨⟨fun b u e=>?_,f.st.sh,fun b u e=>?_,f.st.out⟩,by simp [M],fun j e h=>?_,fun j e h=>?_,fun j e h=>?_,fun j k A E b l n v q=>?_,f.lh,fun j e h=>?_,fun j k A E l n=>?_⟩
 ·rw [aV (bh e q)];exact f.st.all b u e
 ·rw [aV (bh e v)];exact f.st.sub b u e
 ·obtain ⟨h,g⟩:=nx (fun _ z=>by cases z) h;exact f.sh j e h
 ·by_cases g:i=j
  ·subst g;rw [aJ p] at h;cases h;exact ⟨a,o,hs,aS,v,q,r⟩
  ·rw [ak g] at h;obtain ⟨b,u,k1,k2,k3,x,k5⟩:=f.ow j e h;refine ⟨b,u,k1,?_,k3,x,k5⟩;rw [aV (fun z=>g ?_)]
   ·exact k2
   ·subst z;exact f.dj i j d e b m h hs k1
 ·obtain ⟨h,g⟩:=nx (fun _ z=>by cases z) h;obtain ⟨b,u,k1,k2,k3,x,k5,N⟩:=f.lk j e h;refine ⟨b,u,k1,k2,?_,x,k5,N⟩;rw [aV (bh k5 q)];exact k3
 ·have t:∀ {j:Nat}{e:D},(ρ.set i (.own d'))[j]?=some (Sl.own e)->∃ y,ρ[j]?=some (Sl.own y):=fun {j e} h=>by
   by_cases g:i=j
   ·subst g;exact ⟨d,m⟩
   ·rw [ak g] at h;exact ⟨e,h⟩
  obtain ⟨P,l⟩:=t l;obtain ⟨Q,n⟩:=t n;exact f.dj j k P Q b l n v q
 ·obtain ⟨h,g⟩:=nx (fun _ z=>by cases z) h;obtain ⟨b,G,O⟩:=f.o2 j e h;have B:∀ c∈b::G,c≠a:=fun c w z=>by
   subst z;exact O.dj c w i d m hs
  refine ⟨b,G,O.at_,by rw [aV (B b al)];exact O.ob,O.nd,O.out,fun c w k y I=>?_,O.inn.upd fun z=>B a (ag _ z) rfl⟩;by_cases L:i=k
  ·subst L;exact O.dj c w i d m
  ·rw [ak L] at I;exact O.dj c w k y I
 ·exact f.u2 j k A E (nx (fun _ z=>by cases z) l).1 (nx (fun _ z=>by cases z) n).1
def dS (ρ:aI):aI:=ρ.map fun s=>match s with
 |.own d=>.shr d
 |.ow2 a=>.shr (.list (a.map .list))
 |s=>s
open Classical in
theorem Fr.share (f:Fr K H0 Hs0 la ρ σ H Hs):∃ c,Fr K H0 Hs0 la (dS ρ) σ H c/\cX H Hs H c\/Fr K H0 Hs0 la (dS ρ) σ H c:=by
 let P:aj->Prop:=fun b=>(∃ (i:Nat) (d:D),ρ[i]?=some (Sl.own d)/\σ[i]?=some (some (V.ref b)))\/∃ (i:Nat) (g:List (List D)) (a:aj) (B:List aj),ρ[i]?=some (Sl.ow2 g)/\O2 K H0 H Hs ρ σ i g a B/\b∈a::B
 let c:Hp:=fun b=>if P b then H b else Hs b
 have y:∀ b,P b->c b=H b:=fun b h=>if_pos h;have w:∀ b,¬ P b->c b=Hs b:=fun b h=>if_neg h;have E:dD Hs c:=fun b o e=>by
  by_cases h:P b
  ·rw [y b h];exact f.st.sub b o e
  ·rw [w b h];exact e
 have l:∀ b o,H0 b=some o->¬ P b:=fun b o e U=>by
  rcases U with ⟨i,d,A,I⟩|⟨i,g,a,B,A,O,p⟩
  ·obtain ⟨a,Y,k1,_,_,G,_⟩:=f.ow i d A;rw [I] at k1;cases k1;rw [e] at G;cases G
  ·have:=(O.out b p).2;rw [e] at this;cases this
 have un:∀ {j:Nat}{s:Sl},(dS ρ)[j]?=some s->(∃ d,s=.shr d/\ρ[j]?=some (Sl.own d))\/(∃ g:List (List D),s=.shr (.list (g.map .list))/\ρ[j]?=some (Sl.ow2 g))\/((∀ d,s≠.own d)/\(∀ d,s≠.ow2 d)/\ρ[j]?=some s):=fun {j s} e=>by
  unfold dS at e;rw [aF] at e;cases h:ρ[j]? with
  |none=>rw [h] at e;cases e
  |some t =>
   rw [h] at e;cases t with
   |own d=>cases e;exact .inl ⟨d,rfl,rfl⟩
   |no=>cases e;exact .inr (.inr ⟨fun _ z=>(by cases z),fun _ z=>(by cases z),rfl⟩)
   |shr d=>cases e;exact .inr (.inr ⟨fun _ z=>(by cases z),fun _ z=>(by cases z),rfl⟩)
   |lck d=>cases e;exact .inr (.inr ⟨fun _ z=>(by cases z),fun _ z=>(by cases z),rfl⟩)
   |ow2 d=>cases e;exact .inr (.inl ⟨d,rfl,rfl⟩)
 refine ⟨c,.inr ⟨⟨f.st.all,f.st.sh.trans E,fun b o e=>?_,fun a o e t z=>?_⟩,by simp [dS,f.len],fun j d h=>?_,fun j d h=>?_,fun j d h=>?_,fun j k M Q a A I _ _=>?_,f.lh,fun j d h=>?_,fun j k M Q A I=>?_⟩⟩
 ·by_cases h:P b
  ·rw [y b h] at e;exact e
  ·rw [w b h] at e;exact f.st.sub b o e
 ·rw [w a (l a o e)];exact f.st.out a o e t z
 ·rcases un h with ⟨d',e,h'⟩|⟨g,e,h'⟩|⟨_,_,h'⟩
  ·cases e;obtain ⟨a,o,k1,k2,k3,G,k5⟩:=f.ow j d h';refine ⟨_,k1,?_⟩;have L:c a=some o:=by rw [y a (.inl ⟨j,d,h',k1⟩)];exact k2
   have e:dD (upd Hs a o) c:=fun b u q=>by
    by_cases p:b=a
    ·subst p;rw [aS] at q;cases q;exact L
    ·rw [aV p] at q;exact E b u q
   exact (k5.share k3).same e
  ·cases e;obtain ⟨a,B,O⟩:=f.o2 j g h';refine ⟨_,O.at_,?_⟩;have L:∀ b∈a::B,∀ o,H b=some o->c b=some o:=fun b p o ho=>by rw [y b (.inr ⟨j,g,a,B,h',O,p⟩)];exact ho
   refine .list (.of (L a al _ O.ob)) ?_;have X:∀ {x:List aj}{m:List (List D)},(∀ b∈x,b∈a::B)->Cg K H Hs x m->RDs K c (x.map V.ref) (m.map .list):=fun {x m} hs T=>by
    induction T with
    |nil=>exact .nil
    |cons A I _ N=>exact .cons (.list (.of (L _ (hs _ al) _ A)) (I.same E)) (N fun b p=>hs b (ag _ p))
   exact X (fun b p=>ag _ p) O.inn
  ·obtain ⟨v,k1,k2⟩:=f.sh j d h';exact ⟨v,k1,k2.same E⟩
 ·rcases un h with ⟨d',e,h'⟩|⟨d',e,h'⟩|⟨n,_,h'⟩
  ·cases e
  ·cases e
  ·exact (n d rfl).elim
 ·rcases un h with ⟨d',e,h'⟩|⟨d',e,h'⟩|⟨_,_,h'⟩
  ·cases e
  ·cases e
  ·obtain ⟨a,o,k1,k2,k3,G,k5,S⟩:=f.lk j d h';exact ⟨a,o,k1,k2,k3,by rw [w a (l a o k5)];exact G,k5,S.same E⟩
 ·rcases un A with ⟨d',e,h'⟩|⟨d',e,h'⟩|⟨n,_,h'⟩
  ·cases e
  ·cases e
  ·exact (n M rfl).elim
 ·rcases un h with ⟨d',e,h'⟩|⟨d',e,h'⟩|⟨_,n,h'⟩
  ·cases e
  ·cases e
  ·exact (n d rfl).elim
 ·rcases un A with ⟨d',e,h'⟩|⟨d',e,h'⟩|⟨_,n,h'⟩
  ·cases e
  ·cases e
  ·exact (n M rfl).elim
theorem Fr.shared (f:Fr K H0 Hs0 la ρ σ H Hs):∃ a,Fr K H0 Hs0 la (dS ρ) σ H a:=by
 obtain ⟨a,h|h⟩:=f.share
 ·exact ⟨a,h.1⟩
 ·exact ⟨a,h⟩
section
variable {c:C}{e a b:bZ}{g ga gb:aI->R D}{pos:Pos}{x:Str}{st:dY}{c7:List dY}{gs gr:aI->R Fl}
def bc (g h:aI->R Fl):aI->R Fl:=fun ρ=>(g ρ).bind fun f=>match f with
 |.nx d=>h d
 |f=>.ok f
theorem dw:Kg c [] (fun ρ=>.ok (.nx ρ)):=.of fun ρ=>q03 JZ fun D h H d=>by obtain ⟨j,i,la,Hs,f,q⟩:=d;exact q h H Hs f
theorem aX (h:JS c st gs):Kg c [st] gs:=.of fun ρ=>vH (h ρ)
theorem aG (h:JS c st gs) (w:Kg c c7 gr):Kg c (st::c7) (bc gs gr):=.of fun ρ i s o H D I p=>by
 obtain ⟨m,j,la,Hs,f,q⟩:=p;unfold bc at q;cases k:gs ρ with
 |no=>rw [k] at q;exact q.elim
 |ex x n =>
  rw [k] at q;refine kL (h ρ) (pO (X:=c.X) (sts:=c7)) i s o H D I ⟨m,j,la,Hs,f,?_⟩;rw [k];exact q
 |ok v =>
  rw [k,bind_ok] at q;cases v with
  |nx l =>
   refine kL (h ρ) (w l) i s o H D I ⟨m,j,la,Hs,f,?_⟩;rw [k];exact fun σ' H' t u=>⟨m,j,la,t,u,q⟩
  |rt d =>
   refine kL (h ρ) (pO (X:=c.X) (sts:=c7)) i s o H D I ⟨m,j,la,Hs,f,?_⟩;rw [k];exact q
  |bk l =>
   refine kL (h ρ) (pO (X:=c.X) (sts:=c7)) i s o H D I ⟨m,j,la,Hs,f,?_⟩;rw [k];exact q
  |ct l =>
   refine kL (h ρ) (pO (X:=c.X) (sts:=c7)) i s o H D I ⟨m,j,la,Hs,f,?_⟩;rw [k];exact q
theorem sE (f:Fr K H0 Hs0 la ρ σ H Hs)
  (h:pj K cls E H0 Hs0 la D' (r.bind k)) (m:∀ d v H' i,r=.ok d->cX H Hs H' i->Fr K H0 Hs0 la ρ σ H' i->RD K i v d->Q v H'):TR K cls E ρ r σ H Q:=by
 refine ⟨H0,Hs0,la,Hs,f,?_⟩;cases r with
 |ok d=>exact fun v H' i s r=>m d v H' i rfl s (f.step s) r
 |ex c n=>exact fun H' i s=>h H' i (f.st.trans s)
 |no=>exact h
theorem sT (f:Fr K H0 Hs0 la ρ σ H Hs)
  (h:pj K cls E H0 Hs0 la D' (r.bind k)) (m:∀ d H' i,r=.ok d->cX H Hs H' i->Fr K H0 Hs0 la ρ σ H' i->Q d H'):Mj K cls E ρ r σ H Q:=by
 refine ⟨H0,Hs0,la,Hs,f,?_⟩;cases r with
 |ok d=>exact fun H' i s=>m d H' i rfl s (f.step s)
 |ex c n=>exact fun H' i s=>h H' i (f.st.trans s)
 |no=>exact h
def dE (g:aI->R D):aI->R Fl:=fun ρ=>(g (dS ρ)).bind fun d=>.ok (.rt d)
theorem b_ (h:JE c e g):JS c (.Return (some e) pos) (dE g):=.of fun ρ=>zR (Dl (h (dS ρ))) fun D u H i=>by
 obtain ⟨w,s,la,Hs,f,q⟩:=i;obtain ⟨l,o⟩:=f.shared;refine sE o q fun d v k j n t m p=>?_;unfold dE at q;rw [n,bind_ok] at q;exact q v k j m.st p
def g9 (t:aI->R Bool) (g h:aI->R Fl):aI->R Fl:=fun ρ=>(t ρ).bind fun b=>if b then g ρ else h ρ
theorem gR (n:JT c t gt) (m:Kg c A gA) (p:Kg c B gB):JS c (.If t A B pos) (g9 gt gA gB):=.of fun ρ=>zR (Uh (n ρ) (m ρ) (p ρ)) fun D v H j=>by
 obtain ⟨k,i,la,Hs,f,q⟩:=j;refine sT f q fun d u h o s l=>?_;unfold g9 at q;rw [o,bind_ok] at q;cases d with
 |true=>exact Ff ⟨k,i,la,h,l,q⟩
 |false=>exact Bk ⟨k,i,la,h,l,q⟩
def gS (i:Nat) (g:aI->R D):aI->R Fl:=fun ρ=>(g ρ).bind fun d=>.ok (.nx (ρ.set i (.shr d)))
theorem fj (i:Nat) (h:JE c e g) (l:c.X.N.Nodup) (o:c.X.N[i]?=some x:=by rfl) (u:Ue c.X.env.scope x:=by first|exact hZ rfl|exact eF rfl) (hs:iO e (some (.Name x pos')) pos.line c.X.env=pure false:=by rfl)
  (n:c.X.fn x=true\/c.X.env.scope.names.lookup x=some .local:=by first|exact .inl rfl|exact .inr rfl|assumption):JS c (.Assign [.Name x pos'] e pos) (gS i g):=.of fun ρ=>zR (Do l o u (h ρ) hs n) fun D z H j=>by
 obtain ⟨A,w,la,Hs,f,q⟩:=j;refine sE f q fun d v m k s y p t=>?_;unfold gS at q;rw [s,bind_ok] at q;exact q _ m k (p.set i t)
def yb (g:aI->R D):aI->R Fl:=fun ρ=>(g ρ).bind fun _=>.ok (.nx ρ)
theorem v_ (h:JE c e g) (hs:iO e none pos.line c.X.env=pure false:=by rfl):JS c (.Expr e pos) (yb g):=.of fun ρ=>zR (vI (h ρ) hs) fun D p H i=>by
 obtain ⟨s,n,la,Hs,f,q⟩:=i;refine sE f q fun d v k j m o l t=>?_;unfold yb at q;rw [m,bind_ok] at q;exact q _ k j l
def TGq (K:a8) (h f:Hp) (la:Nat->Option aj) (H Hs:Hp) (Q:St->Hp->Prop) (r:R aI):Prop:=match r with
 |.ok d=>∀ σ',Fr K h f la d σ' H Hs->Q σ' H
 |_=>False
inductive Y4 (K:a8) (ρ:aI) (d:D) (r:R aI) (v:V) (σ:St) (H:Hp) (Q:St->Hp->Prop):Prop
 |mk (H0 Hs0:Hp) (la:Nat->Option aj) (Hs:Hp) (f:Fr K H0 Hs0 la ρ σ H Hs) (rd:RD K Hs v d) (q:TGq K H0 Hs0 la H Hs Q r):Y4 K ρ d r v σ H Q
def Wb (K:a8) (ρ:aI) (d:D) (r:R aI):TG:=Y4 K ρ d r
inductive UK (K:a8) (ρ:aI) (ds:List D) (r:R aI) (vs:List V) (σ:St) (H:Hp) (Q:St->Hp->Prop):Prop
 |mk (H0 Hs0:Hp) (la:Nat->Option aj) (Hs:Hp) (f:Fr K H0 Hs0 la ρ σ H Hs) (rd:RDs K Hs vs ds) (q:TGq K H0 Hs0 la H Hs Q r):UK K ρ ds r vs σ H Q
def Y5 (K:a8) (ρ:aI) (ds:List D) (r:R aI):S5:=UK K ρ ds r
structure JG (c:C) (t:bZ) (k:D->aI->R aI):Prop where of ::
 run:∀ ρ d,PG c.X t (Wb c.X.K ρ d (k d ρ))
instance {c:C}{t:bZ}{k:D->aI->R aI}:CoeFun (JG c t k) (fun _=>∀ ρ d,PG c.X t (Wb c.X.K ρ d (k d ρ))):=⟨JG.run⟩
structure Xd (c:C) (t:List bZ) (k:List D->aI->R aI):Prop where of ::
 run:∀ ρ d,Ui c.X t (Y5 c.X.K ρ d (k d ρ))
instance {c:C}{t:List bZ}{k:List D->aI->R aI}:CoeFun (Xd c t k) (fun _=>∀ ρ d,Ui c.X t (Y5 c.X.K ρ d (k d ρ))):=⟨Xd.run⟩
theorem mPG (h:PG X e t) (m:∀ v d H Q,t' v d H Q->t v d H Q):PG X e t':=fun f s d H v u Q I r q=>h f s d H v u Q I r (m v d H Q q)
theorem q07 {X:Cx}{e:List bZ}{t t':S5} (h:Ui X e t) (m:∀ v d H Q,t' v d H Q->t v d H Q):Ui X e t':=fun f s d H v u Q I r q=>h f s d H v u Q I r (m v d H Q q)
def c6 (i:Nat):D->aI->R aI:=fun d ρ=>.ok (ρ.set i (.shr d))
theorem dz (i:Nat) (j:c.X.N.Nodup) (l:c.X.N[i]?=some x:=by rfl) (k:Ue c.X.env.scope x:=by first|exact hZ rfl|exact eF rfl) (m:c.X.fn x=true\/c.X.env.scope.names.lookup x=some .local:=by first|exact .inl rfl|exact .inr rfl|assumption) :
  JG c (.Name x pos) (c6 i):=.of fun ρ d=>mPG (dm j l k m) fun v o H Q h=>by obtain ⟨p,n,la,Hs,f,r,q⟩:=h;exact q _ (f.set i r)
def n_:List D->aI->R aI:=fun ds ρ=>match ds with
 |[]=>.ok ρ
 |_=>.no
def cR (k:D->aI->R aI) (h:List D->aI->R aI):List D->aI->R aI:=fun ds ρ=>match ds with
 |d::r=>(k d ρ).bind fun f=>h r f
 |_=>.no
theorem oy:Xd c [] n_:=.of fun ρ ds=>q07 Dm fun k h H Q d=>by
 obtain ⟨j,i,la,Hs,f,r,q⟩:=d;cases r with
 |nil=>exact ⟨rfl,q h f⟩
 |cons _ _=>exact q.elim
theorem dU (h:JG c t kt) (w:Xd c ts kts) (hs:(jb (t::ts) c.X.env).map (·.2)=rT t c.X.env::(jb ts c.X.env).map (·.2):=by rfl):Xd c (t::ts) (cR kt kts):=.of fun ρ ds j s u H K E Q I B i=>by
 obtain ⟨o,k,la,Hs,f,r,q⟩:=i;cases r with
 |nil=>exact q.elim
 | @cons v p d y A G =>
  unfold cR at q;cases l:kt d ρ with
  |ok m =>
   simp only [l,bind_ok] at q;refine sd (h ρ d) (w m y) hs j s u H _ E Q I B ⟨v,p,rfl,o,k,la,Hs,f,A,?_⟩;rw [l];exact fun σ' z=>⟨o,k,la,Hs,z,G,q⟩
  |ex x n=>simp only [l,bind_ex] at q;exact q.elim
  |no=>simp only [l,bind_no] at q;exact q.elim
def mP (n:Nat) (f:List D->aI->R aI):D->aI->R aI:=fun d ρ=>match d with
 |.tuple ds=>if ds.length=n then f ds ρ else .no
 |_=>.no
theorem sA (A:c.X.calm=true) (h:Xd c ts kts) (z:(jb ts c.X.env).length=n:=by rfl) (m:(jb ts c.X.env).findIdx? (·.1)=none:=by rfl):JG c (.Tuple ts k pos) (mP n kts):=.of fun ρ d=>by
 cases d with
 |tuple ds =>
  refine mPG (Ir A (h ρ ds) z m) fun v B H Q l=>?_;obtain ⟨w,j,la,Hs,f,r,q⟩:=l;cases r with
  | @tuple p xs _ E t =>
   unfold mP at q;by_cases o:ds.length=n
   ·simp only [if_pos o] at q;exact ⟨p,xs,rfl,(m5.of (f.st.sub _ _ E)),by rw [t.length];exact o,w,j,la,Hs,f,t,q⟩
   ·simp only [if_neg o] at q;exact q.elim
 |_=>exact fun y s B H v u Q I G i=>by obtain ⟨w,j,la,Hs,f,r,q⟩:=i;exact q.elim
def DP (g:aI->R D) (k:D->aI->R aI):aI->R Fl:=fun ρ=>(g ρ).bind fun d=>match k d ρ with
 |.ok f=>.ok (.nx f)
 |_=>.no
theorem DQ (h:JE c e g) (N:JG c t kt) (hs:yJ [t] e pos.line c.X.env=pure false:=by rfl) (K:yK [t] e c.X.env=pure none:=by rfl) (A:(jb [t] c.X.env).map (·.2)=[rT t c.X.env]:=by rfl) :
  JS c (.Assign [t] e pos) (DP g kt):=.of fun ρ=>by
 cases o:g ρ with
 |ok d =>
  refine zR (O5 (h ρ) (N ρ d) hs K A) fun D E H m=>?_;obtain ⟨y,j,la,Hs,f,q⟩:=m;refine sE (k:=fun d=>match kt d ρ with | .ok w=>.ok (.nx w)|_=>.no) f q fun d' v B i u O L M=>?_;rw [o] at u;cases u;unfold DP at q;rw [o,bind_ok] at q;refine ⟨y,j,la,i,L,M,?_⟩;cases z:kt d ρ with
  |ok w=>rw [z] at q;exact fun σ' P=>q σ' B i P
  |ex x n=>rw [z] at q;exact q.elim
  |no=>rw [z] at q;exact q.elim
 |ex x n =>
  refine zR (O5 (h ρ) (N ρ .none) hs K A) fun D E H l=>?_;obtain ⟨y,j,la,Hs,f,q⟩:=l;refine sE (k:=fun _=>.no) (D':=D) f (by unfold DP at q;rw [o] at q ⊢;exact q) fun d' v B i u O L M=>?_;rw [o] at u;cases u
 |no =>
  refine fun G s E H D I p=>?_;obtain ⟨y,j,la,Hs,f,q⟩:=p;unfold DP at q;rw [o] at q;exact q.elim
end
def P7 (K:a8) (J:It) (ds:List D) (f Hs:Hp):Prop:=∀ b a,dD f b->dD Hs a->dD a b ->
 (∀ i,i<ds.length->J.go i b)/\(∀ i,ds.length<=i->J.stop i b)/\∀ i x e,i<ds.length->J.yld i b x e->∃ d c,ds[i]?=some d/\cX b a e c/\RD K c x d
theorem DR (h:nl K Hn a vs) (r:RDs K Hs vs ds):P7 K (ZD K a) ds Hn Hs:=fun l e f g j=>by
 have q:=f.seq h;refine ⟨fun i b=>?_,fun i b=>⟨vs,q,by rw [r.length];exact b⟩,fun i x k b y=>?_⟩
 ·have c:i<vs.length:=by rw [r.length];exact b
  exact ⟨vs,vs[i],q,aE c⟩
 ·obtain ⟨rfl,y⟩:=y;obtain ⟨d,k1,k2⟩:=r.get (y vs q);exact ⟨d,e,k1,.refl j,k2.same g⟩
theorem P8 (h:m5 K Hn a vs) (r:RDs K Hs vs ds):P7 K (ZE K a) ds Hn Hs:=fun l e f g j=>by
 have q:=f.tup h;refine ⟨fun i b=>?_,fun i b=>⟨vs,q,by rw [r.length];exact b⟩,fun i x k b y=>?_⟩
 ·have c:i<vs.length:=by rw [r.length];exact b
  exact ⟨vs,vs[i],q,aE c⟩
 ·obtain ⟨rfl,y⟩:=y;obtain ⟨d,k1,k2⟩:=r.get (y vs q);exact ⟨d,e,k1,.refl j,k2.same g⟩
theorem P9 (x:Str):P7 K (XH x) (pi x) Hn Hs:=fun g b h j e=>by
 have d:(pi x).length=x.cps.size:=by simp [pi]
 refine ⟨fun i a=>by rw [d] at a;exact a,fun i a=>by rw [d] at a;exact a,fun i v f a y=>?_⟩;obtain ⟨rfl,c,k1,rfl⟩:=y;refine ⟨.str ⟨#[c]⟩,b,?_,.refl e,.str _⟩;unfold pi;rw [aF,aL,k1];rfl
def sB (lo:Int) (n:Nat):List D:=(bE n).map fun (k:Nat)=>d_ (lo+k)
theorem Pa (lo:Int) (n:Nat):P7 K (Za lo n) (sB lo n) Hn Hs:=fun f b g h d=>by
 have c:(sB lo n).length=n:=by simp [sB]
 refine ⟨fun i a=>by rw [c] at a;exact a,fun i a=>by rw [c] at a;exact a,fun i v e a y=>?_⟩;obtain ⟨rfl,rfl⟩:=y;refine ⟨.int (lo+i),b,?_,.refl d,.int _⟩;rw [c] at a;unfold sB;rw [aF,LJ a];rfl
def jS (n:Nat):List D->List D
 |[]=>[]
 |d::r=>.tuple [.int n,d]::jS (n+1) r
theorem xr:∀ (ds:List D) (n i:Nat),(jS n ds)[i]?=(ds[i]?).map fun d=>cn [.int ((n+i:Nat):Int),d]
 |[],_,_=>by simp [jS]
 |d::r,n,0=>by simp [jS]
 |d::r,n,i+1=>by
  simp only [jS,kK];rw [xr r (n+1) i,show n+1+i=n+(i+1) by omega]
theorem xt:∀ (ds:List D) (n:Nat),(jS n ds).length=ds.length
 |[],_=>rfl
 |d::r,n=>by simp [jS,xt r]
theorem SU (h:m5 K Hn a vs) (r:RDs K Hs vs ds):P7 K (Ite K a) (jS 0 ds) Hn Hs:=fun n e f j k=>by
 have q:=f.tup h;have l:=xt ds 0;refine ⟨fun i c=>?_,fun i c=>⟨vs,q,by rw [r.length];omega⟩,fun i x m c y=>?_⟩
 ·have b:i<vs.length:=by rw [r.length];omega
  exact ⟨vs,vs[i],q,aE b⟩
 ·obtain ⟨p,g,rfl,y⟩:=y;obtain ⟨x,k0,rfl⟩:=y vs q;obtain ⟨d,k1,k2⟩:=r.get k0;have st:=cX.new (o:=.tup [.int i,x]) k g;refine ⟨.tuple [.int i,d],_,?_,st,.tuple aS (.cons (.int _) (.cons ((k2.same j).same st.sh) .nil))⟩;rw [xr,k1];simp
def yG:List D->List D->List D
 |x::xs,y::ys=>.tuple [x,y]::yG xs ys
 |_,_=>[]
theorem FR:∀ (xs ys:List D) (i:Nat) (x y:D),xs[i]?=some x->ys[i]?=some y->(yG xs ys)[i]?=some (.tuple [x,y])
 |x::xs,y::ys,0,_,_,a,b=>by simp at a b;subst a b;rfl
 |_::xs,_::ys,i+1,x,y,a,b=>by
  simp only [kK] at a b;simp only [yG,kK];exact FR xs ys i x y a b
 |[],_,_,_,_,a,_=>by simp at a
 |_::_,[],_,_,_,_,b=>by simp at b
theorem FS:∀ (xs ys:List D),(yG xs ys).length=min xs.length ys.length
 |x::xs,y::ys=>by simp [yG,FS xs ys]
 |[],_=>by simp [yG]
 |_::_,[]=>by simp [yG]
theorem Wc (h:m5 K Hn a vs) (r:RDs K Hs vs ds) (h':m5 K Hn b ws) (f:RDs K Hs ws es):P7 K (Itz K a b) (yG ds es) Hn Hs:=fun A n k l u=>by
 have q:=k.tup h;have q':=k.tup h';have v:=FS ds es;refine ⟨fun i j=>?_,fun i j=>⟨vs,ws,q,q',by rw [r.length,f.length];omega⟩,fun i x w j y=>?_⟩
 ·have m:i<vs.length:=by rw [r.length];omega
  have s:i<ws.length:=by rw [f.length];omega
  exact ⟨vs,ws,vs[i],ws[i],q,q',aE m,aE s⟩
 ·obtain ⟨p,t,rfl,y⟩:=y;obtain ⟨x,z,k0,c,rfl⟩:=y vs ws q q';obtain ⟨d,k1,k2⟩:=r.get k0;obtain ⟨d',g,e⟩:=f.get c;have st:=cX.new (o:=.tup [x,z]) u t;exact ⟨.tuple [d,d'],_,FR ds es i d d' k1 g,st,.tuple aS (.cons ((k2.same l).same st.sh) (.cons ((e.same l).same st.sh) .nil))⟩
inductive Y6 (K:a8) (cls:Str->aj) (E:XK) (ρ:aI) (r:R (List D)) (σ:St) (H:Hp) (Q:It->Hp->Prop):Prop
 |mk (H0 Hs0:Hp) (la:Nat->Option aj) (Hs:Hp) (f:Fr K H0 Hs0 la ρ σ H Hs) (q:Fin K cls E H Hs r fun ds=>∀ J H' Hs' Hn,cX H Hs H' Hs'->dD Hn H'->P7 K J ds Hn Hs'->Q J H'):Y6 K cls E ρ r σ H Q
def Zj (K:a8) (cls:Str->aj) (E:XK) (ρ:aI) (r:R (List D)):TI:=Y6 K cls E ρ r
inductive Y7 (K:a8) (cls:Str->aj) (E:XK) (ρ:aI) (r:R (List D)) (σ:St) (H:Hp) (Q:It->Hp->Prop):Prop
 |mk (H0 Hs0:Hp) (la:Nat->Option aj) (Hs:Hp) (f:Fr K H0 Hs0 la ρ σ H Hs) (q:Fin K cls E H Hs r fun ds=>∀ J H' Hs',cX H Hs H' Hs'->P7 K J ds Hs' Hs'->Q J H'):Y7 K cls E ρ r σ H Q
def TIs (K:a8) (cls:Str->aj) (E:XK) (ρ:aI) (r:R (List D)):TI:=Y7 K cls E ρ r
structure JI (c:C) (tg it:bZ) (g:aI->R (List D)):Prop where of ::
 run:∀ ρ,PI c.X tg it (Zj c.X.K c.cls c.E ρ (g ρ))
instance {c:C}{tg it:bZ}{g:aI->R (List D)}:CoeFun (JI c tg it g) (fun _=>∀ ρ,PI c.X tg it (Zj c.X.K c.cls c.E ρ (g ρ))):=⟨JI.run⟩
structure Nz (c:C) (tg it:bZ) (g:aI->R (List D)):Prop where of ::
 run:∀ ρ,PI c.X tg it (TIs c.X.K c.cls c.E ρ (g ρ))
instance {c:C}{tg it:bZ}{g:aI->R (List D)}:CoeFun (Nz c tg it g) (fun _=>∀ ρ,PI c.X tg it (TIs c.X.K c.cls c.E ρ (g ρ))):=⟨Nz.run⟩
theorem Kh (h:PI X tg e t) (m:∀ a H Q,t' a H Q->t a H Q):PI X tg e t':=fun b s a H Q I q=>h b s a H Q I (m a H Q q)
def zX:D->R (List D)
 |.list ds=>.ok ds
 |.tuple ds=>.ok ds
 |.str x=>.ok (pi x)
 |_=>.no
def m9 (g:aI->R D):aI->R (List D):=fun ρ=>(g ρ).bind zX
theorem gL (h:JB c l g):JI c tg l (m9 g):=.of fun ρ=>by
 cases j:g ρ with
 |no=>exact fun e s o H Q I z=>by obtain ⟨p,b,la,Hs,f,q⟩:=z;exact by unfold m9 at q;rw [j] at q;exact q.elim
 |ex x n =>
  refine Kh (vJ (h ρ)) fun o H Q N=>?_;obtain ⟨p,b,la,Hs,f,q⟩:=N;refine one f q fun d v m i k t y u=>?_;rw [j] at k;cases k
 |ok d =>
  cases d with
  |list ds =>
   refine Kh (vJ (h ρ)) fun o H Q A=>?_;obtain ⟨p,b,la,Hs,f,q⟩:=A;refine one f q fun d v m i k t y u=>?_;rw [j] at k;cases k;unfold m9 at q;rw [j,bind_ok] at q;obtain ⟨a,P,rfl,w,O⟩:=u.list y.st.sub;exact ⟨a,rfl,⟨P,w⟩,q _ m i m t (.refl _) (DR w O)⟩
  |tuple ds =>
   refine Kh (O7 (h ρ)) fun o H Q B=>?_;obtain ⟨p,b,la,Hs,f,q⟩:=B;refine one f q fun d v m i k t y u=>?_;rw [j] at k;cases k;unfold m9 at q;rw [j,bind_ok] at q;obtain ⟨a,P,rfl,w,O,_⟩:=u.tuple y.st.sub;exact ⟨a,rfl,⟨P,w⟩,q _ m i m t (.refl _) (P8 w O)⟩
  |str x =>
   refine Kh (OH (h ρ)) fun o H Q M=>?_;obtain ⟨p,b,la,Hs,f,q⟩:=M;refine one f q fun d v m i k t y u=>?_;rw [j] at k;cases k;unfold m9 at q;rw [j,bind_ok] at q;exact ⟨x,u.str,q _ m i m t (.refl _) (P9 x)⟩
  |none=>exact fun e s o H Q I E=>by obtain ⟨p,b,la,Hs,f,q⟩:=E;exact by unfold m9 at q;rw [j] at q;exact q.elim
  |bool _=>exact fun e s o H Q I G=>by obtain ⟨p,b,la,Hs,f,q⟩:=G;exact by unfold m9 at q;rw [j] at q;exact q.elim
  |int _=>exact fun e s o H Q I K=>by obtain ⟨p,b,la,Hs,f,q⟩:=K;exact by unfold m9 at q;rw [j] at q;exact q.elim
  |dict _=>exact fun e s o H Q I L=>by obtain ⟨p,b,la,Hs,f,q⟩:=L;exact by unfold m9 at q;rw [j] at q;exact q.elim
theorem yX (h:JE c l g):Nz c tg l (m9 g):=.of fun ρ=>by
 cases i:g ρ with
 |no=>exact fun b s k H Q I M=>by obtain ⟨m,a,la,Hs,f,q⟩:=M;exact by unfold m9 at q;rw [i] at q;exact q.elim
 |ex x n =>
  refine Kh (vJ (h ρ)) fun k H Q G=>?_;obtain ⟨m,a,la,Hs,f,q⟩:=G;refine zS f q fun d v p e j o E t=>?_;rw [i] at j;cases j
 |ok d =>
  cases d with
  |list ds =>
   refine Kh (vJ (h ρ)) fun k H Q L=>?_;obtain ⟨m,a,la,Hs,f,q⟩:=L;refine zS f q fun d v p e j o E t=>?_;rw [i] at j;cases j;unfold m9 at q;rw [i,bind_ok] at q;cases t with
   |list u N=>exact ⟨_,rfl,⟨_,E.st.sub.seq u⟩,q _ p e o (DR u N)⟩
  |tuple ds =>
   refine Kh (O7 (h ρ)) fun k H Q z=>?_;obtain ⟨m,a,la,Hs,f,q⟩:=z;refine zS f q fun d v p e j o E t=>?_;rw [i] at j;cases j;unfold m9 at q;rw [i,bind_ok] at q;cases t with
   |tuple u N=>exact ⟨_,rfl,⟨_,(m5.of (E.st.sub _ _ u))⟩,q _ p e o (P8 (.of u) N)⟩
  |str x =>
   refine Kh (OH (h ρ)) fun k H Q A=>?_;obtain ⟨m,a,la,Hs,f,q⟩:=A;refine zS f q fun d v p e j o E t=>?_;rw [i] at j;cases j;unfold m9 at q;rw [i,bind_ok] at q;cases t with
   |str _=>exact ⟨x,rfl,q _ p e o (P9 x)⟩
  |none=>exact fun b s k H Q I K=>by obtain ⟨m,a,la,Hs,f,q⟩:=K;exact by unfold m9 at q;rw [i] at q;exact q.elim
  |bool _=>exact fun b s k H Q I B=>by obtain ⟨m,a,la,Hs,f,q⟩:=B;exact by unfold m9 at q;rw [i] at q;exact q.elim
  |int _=>exact fun b s k H Q I y=>by obtain ⟨m,a,la,Hs,f,q⟩:=y;exact by unfold m9 at q;rw [i] at q;exact q.elim
  |dict _=>exact fun b s k H Q I w=>by obtain ⟨m,a,la,Hs,f,q⟩:=w;exact by unfold m9 at q;rw [i] at q;exact q.elim
theorem Nz.i (h:Nz c tg l gs):JI c tg l gs:=.of fun ρ=>Kh (h ρ) fun g H Q ⟨e,d,la,Hs,f,q⟩=>⟨e,d,la,Hs,f,by
 cases b:gs ρ with
 |ok ds=>rw [b] at q;exact fun J H' a s i=>q J H' a a s s.sub i
 |ex x n=>rw [b] at q;exact q
 |no=>rw [b] at q;exact q⟩
def IT:List D->R (List D)
 |[.int j]=>if -(2 ^ 62)<=j/\j<2 ^ 62 then .ok (sB 0 j.toNat) else .no
 |_=>.no
def zY (a:aI->R (List D)):aI->R (List D):=fun ρ=>(a ρ).bind IT
theorem qt (o:Gl c.X "range") (l:c.X.mg "range"=none) (k:UF c [a] gs) (hs:az [a] c.X.env=[(false,dO a c.X.env)]:=by rfl):Nz c tg (.Call (.Name "range" p) [a] [] pos) (zY gs):=.of fun ρ=>Kh (LW o l (k ρ) hs) fun t H Q b=>by
 obtain ⟨u,s,la,Hs,f,q⟩:=b;refine OW f q fun ds w i e m g v n=>?_;unfold zY at q;rw [m,bind_ok] at q;unfold IT at q;split at q
 ·rename_i j
  by_cases d:-(2 ^ 62)<=j/\j<2 ^ 62
  ·rw [if_pos d] at q;obtain ⟨x,rfl,h⟩:=n.one;exact ⟨j,by rw [h.int],d.1,d.2,q _ i e g (Pa 0 _)⟩
  ·rw [if_neg d] at q;exact q.elim
 ·exact q.elim
def Zk:List D->R (List D)
 |[.tuple ds]=>.ok (jS 0 ds)
 |_=>.no
def IU (a:aI->R (List D)):aI->R (List D):=fun ρ=>(a ρ).bind Zk
theorem RDs.one (h:RDs K H xs [d]):∃ x,xs=[x]/\RD K H x d:=by
 cases h with|cons a t=>cases t;exact ⟨_,rfl,a⟩
theorem RDs.two {K:a8}{H:Hp}{xs:List V}{d e:D} (h:RDs K H xs [d,e]):∃ x y,xs=[x,y]/\RD K H x d/\RD K H y e:=by
 cases h with|cons a t=>cases t with|cons b t=>cases t;exact ⟨_,_,rfl,a,b⟩
theorem zZ {x1} (s:Gl c.X "enumerate") (k:c.X.mg "enumerate"=none) (j:EU c [a] gs) (hs:az [a] c.X.env=[(false,dO a c.X.env)]:=by rfl):Nz c (.Tuple elts x1 tpos) (.Call (.Name "enumerate" p) [a] [] pos) (IU gs):=.of fun ρ=>Kh (SB s k (j ρ) hs) fun u H Q b=>by
 obtain ⟨v,t,la,Hs,f,q⟩:=b;refine Bu f q fun ds w i d m g l n=>?_;unfold IU at q;rw [m,bind_ok] at q;unfold Zk at q;split at q
 ·obtain ⟨x,rfl,h⟩:=n.one;cases h with
  |tuple e o=>exact ⟨_,_,rfl,(m5.of (l.st.sub _ _ e)),q _ i d g (SU (.of e) o)⟩
 ·exact q.elim
def zp:List D->R (List D)
 |[.tuple ds,.tuple es]=>.ok (yG ds es)
 |_=>.no
def SW (a:aI->R (List D)):aI->R (List D):=fun ρ=>(a ρ).bind zp
theorem SX {x1} (z:Gl c.X "zip") (o:c.X.mg "zip"=none) (n:EU c [a,b] gs) (hs:az [a,b] c.X.env=[(false,dO a c.X.env),(false,dO b c.X.env)]:=by rfl) (e:az [b] c.X.env=[(false,dO b c.X.env)]:=by rfl) :
  Nz c (.Tuple elts x1 tpos) (.Call (.Name "zip" p) [a,b] [] pos) (SW gs):=.of fun ρ=>Kh (W3 z o (n ρ) hs e) fun B H Q d=>by
 obtain ⟨E,A,la,Hs,f,q⟩:=d;refine Bu f q fun ds G m g s k j u=>?_;unfold SW at q;rw [s,bind_ok] at q;unfold zp at q;split at q
 ·obtain ⟨x,y,rfl,l,t⟩:=u.two;cases l with
  |tuple h w =>
   cases t with
   |tuple i v=>exact ⟨_,_,_,_,rfl,(m5.of (j.st.sub _ _ h)),(m5.of (j.st.sub _ _ i)),q _ m g k (Wc (.of h) w (.of i) v)⟩
 ·exact q.elim
inductive TNI (K:a8) (cls:Str->aj) (E:XK) (ρ:aI) (r:R D) (σ:St) (H:Hp) (Q:VK):Prop
 |mk (H0 Hs0:Hp) (la:Nat->Option aj) (Hs:Hp) (f:Fr K H0 Hs0 la ρ σ H Hs) (q:Fin K cls E H Hs r fun d=>∀ a o H' Hs',cX H Hs H' Hs'->H' a=none->nY K Hs' o d->Q (.ref a) (upd H' a o)):TNI K cls E ρ r σ H Q
def TN (K:a8) (cls:Str->aj) (E:XK) (ρ:aI) (r:R D):TE:=TNI K cls E ρ r
structure JN (c:C) (e:bZ) (g:aI->R D):Prop where of ::
 run:∀ ρ,PE c.X e (TN c.X.K c.cls c.E ρ (g ρ))
instance {c:C}{e:bZ}{g:aI->R D}:CoeFun (JN c e g) (fun _=>∀ ρ,PE c.X e (TN c.X.K c.cls c.E ρ (g ρ))):=⟨JN.run⟩
section
variable {c:C}{e a b l tg:bZ}{g ga gb:aI->R D}{pos p:Pos}{gs:aI->R (List D)}{es:List bZ}{x:Str}
theorem q08 (q:TR K cls E ρ r σ H Q):TN K cls E ρ r σ H Q:=by
 obtain ⟨i,h,la,Hs,f,q⟩:=q;refine ⟨i,h,la,Hs,f,?_⟩;cases r with
 |ok d=>exact fun a o H' j s n r=>q _ _ _ (s.trans (.new s.sub n)) (r.share (s.sub.free n))
 |ex x n=>exact q
 |no=>exact q
theorem JN.je (h:JN c e g):JE c e g:=.of fun ρ=>sj (h ρ) fun d H Q q=>q08 q
theorem uQ (h:EU c es gs):JN c (.List es pos) (fh gs .list):=.of fun ρ=>sj (oZ (h ρ)) fun u H Q d=>by
 obtain ⟨v,t,la,Hs,f,q⟩:=d;refine Bu f q fun ds y n j o m w k=>?_;unfold fh at q;rw [o,bind_ok] at q;by_cases i:ds.length<=1000
 ·rw [if_pos i] at q;exact ⟨bw (cK (by rw [k.length];exact i)),fun p s=>q p _ n j m s (.lst k)⟩
 ·rw [if_neg i] at q;exact q.elim
theorem Ki:JN c (.Dict [] [] pos) (fun _=>.ok (.dict [])):=.of fun ρ=>sj Ou fun j H Q d=>by obtain ⟨k,i,la,Hs,f,q⟩:=d;exact fun p h=>q p _ H Hs (.refl f.st.sub) h (.dK .nil)
def gd (i:Nat) (g:aI->R D):aI->R Fl:=fun ρ=>(g ρ).bind fun d=>.ok (.nx (ρ.set i (.own d)))
theorem sN (f:Fr K H0 Hs0 la ρ σ H Hs)
  (h:pj K cls E H0 Hs0 la D' (r.bind k)) (m:∀ d a o H' i,r=.ok d->Fr K H0 Hs0 la ρ σ H' i->H' a=none->nY K i o d->Q (.ref a) (upd H' a o)):TN K cls E ρ r σ H Q:=by
 refine ⟨H0,Hs0,la,Hs,f,?_⟩;cases r with
 |ok d=>exact fun a o H' i s n r=>m d a o H' i rfl (f.step s) n r
 |ex c n=>exact fun H' i s=>h H' i (f.st.trans s)
 |no=>exact h
theorem jX (i:Nat) (h:JN c e g) (m:c.X.N.Nodup) (t:c.X.N[i]?=some x:=by rfl) (y:Ue c.X.env.scope x:=by first|exact hZ rfl|exact eF rfl) (hs:iO e (some (.Name x pos')) pos.line c.X.env=pure false:=by rfl)
  (s:c.X.fn x=true\/c.X.env.scope.names.lookup x=some .local:=by first|exact .inl rfl|exact .inr rfl|assumption):JS c (.Assign [.Name x pos'] e pos) (gd i g):=.of fun ρ=>zR (Do m t y (h ρ) hs s) fun D B H j=>by
 obtain ⟨E,z,la,Hs,f,q⟩:=j;refine sN f q fun d a o A k v u n w=>?_;unfold gd at q;rw [v,bind_ok] at q;exact q _ _ k (u.setO i n w)
def Mp {d:Type}:R d->R d
 |.ex _ _=>.no
 |r=>r
theorem Kj {d:Type}{r:R d}{a:d} (h:Mp r=.ok a):r=.ok a:=by
 cases r<;>first|exact h|cases h
def ip (f:D->R (Option D)):List D->R (List D)
 |[]=>.ok []
 |d::r=>(f d).bind fun o=>(ip f r).bind fun ys=>.ok (match o with
  |some y=>y::ys
  |none=>ys)
theorem z_ (h:ip f (d::r)=.ok ys):∃ o i,f d=.ok o/\ip f r=.ok i/\ys=o.toList++i:=by
 unfold ip at h;cases j:f d with
 |ok o =>
  rw [j,bind_ok] at h;cases k:ip f r with
  |ok i =>
   rw [k,bind_ok] at h;cases h;cases o<;>exact ⟨_,i,rfl,rfl,rfl⟩
  |ex x n=>rw [k] at h;cases h
  |no=>rw [k] at h;cases h
 |ex x n=>rw [j] at h;cases h
 |no=>rw [j] at h;cases h
def SY:Sl->Sl
 |.own d=>.lck d
 |.ow2 _=>.no
 |s=>s
def pS (nt:Nat) (ix:List Nat) (ρ:aI):aI:=o6 nt Sl.no++ix.map fun i=>SY ((ρ[i]?).getD .no)
def Y8 (nt:Nat):D->aI->R aI:=match nt with
 | 1=>c6 0
 | 2=>mP 2 (cR (c6 0) (cR (c6 1) n_))
 |_=>fun _ _=>.no
def jI (nt:Nat) (ρ:aI) (gt:aI->R Bool) (ge:aI->R D):D->R (Option D):=fun d=>Mp ((Y8 nt d ρ).bind fun f=>(gt f).bind fun b=>if b then (ge f).bind fun y=>.ok (some y) else .ok none)
def fJ (nt:Nat) (ix:List Nat) (d:aI->R (List D)) (gt:aI->R Bool) (ge:aI->R D):aI->R D:=fun ρ=>(d ρ).bind fun ds=>if ds.length<=1000 then (ip (jI nt (pS nt ix ρ) gt ge) ds).bind fun ys=>.ok (.list ys) else .no
structure Y9 (c:C) (ifs:List bZ) (g:aI->R Bool):Prop where of ::
 run:∀ ρ,Ry c.X ifs (Mj c.X.K c.cls c.E ρ (g ρ))
instance {c:C}{ifs:List bZ}{g:aI->R Bool}:CoeFun (Y9 c ifs g) (fun _=>∀ ρ,Ry c.X ifs (Mj c.X.K c.cls c.E ρ (g ρ))):=⟨Y9.run⟩
theorem gT:Y9 c [] (fun _=>.ok true):=.of fun ρ d s i H Q I h=>by obtain ⟨k,j,la,Hs,f,q⟩:=h;exact Sx d s i H Q I (q H Hs (.refl f.st.sub))
theorem mQ (h:JT c e gt):Y9 c [e] gt:=.of fun ρ=>Sy (h ρ)
def Mq (K:a8) (nt:Nat):TG:=match nt with
 | 1=>xW 0
 |_=>VD K 2 (L2.af (xW 0) (L2.af (xW 1) L2.aQ))
theorem DS {K:a8}{nt:Nat} (h:nt=1\/nt=2):Uy nt (Mq K nt):=by
 rcases h with rfl|rfl
 ·exact Ow (by decide)
 ·exact Sz (by decide) (by decide)
theorem FU {K:a8}{nt:Nat}{s k H Hs:Hp}{la:Nat->Option aj}{ρ j:aI}{o:St}{v:V}{d:D}{Q:St->Hp->Prop} (m:nt=1\/nt=2) (f:Fr K s k la ρ o H Hs) (r:RD K Hs v d) (h:Y8 nt d ρ=.ok j)
  (q:∀ σ',Fr K s k la j σ' H Hs->Q σ' H):Mq K nt v o H Q:=by
 rcases m with rfl|rfl
 ·cases h;exact q _ (f.set 0 r)
 ·unfold Y8 mP at h;simp only at h;cases r with
  | @tuple p xs ds t i =>
   simp only at h;split at h
   ·rename_i n
    cases i with
    |nil=>cases n
    |cons u i =>
     cases i with
     |nil=>cases n
     |cons w i =>
      cases i with
      |nil =>
       cases h;exact ⟨p,_,rfl,(m5.of (f.st.sub _ _ t)),rfl,_,_,rfl,_,_,rfl,rfl,q _ ((f.set 0 u).set 1 w)⟩
      |cons _ _=>simp at n
   ·cases h
  |none=>cases h
  |bool _=>cases h
  |int _=>cases h
  |str _=>cases h
  |list _ _=>cases h
  |dictK _ _=>cases h
  |dictT _ _ _=>cases h
  |dictF _ _ _=>cases h
theorem Fr.block (f:Fr K H0 Hs0 la ρ σ H Hs) (nt:Nat) (ix:List Nat):∃ z,Fr K H Hs z (pS nt ix ρ) (L2.kE nt ix σ) H Hs:=by
 have B:∀ (j:Nat) (d:D),(pS nt ix ρ)[j]?=some (Sl.lck d)->∃ a o,(L2.kE nt ix σ)[j]?=some (some (V.ref a))/\H a=some o/\Hs a=none/\nY K Hs o d:=fun j d h=>by
  unfold pS at h;by_cases m:j<nt
  ·rw [bi (by simpa using m),bW,if_pos m] at h;cases h
  ·have m:nt<=j:=by omega
   rw [br (by simpa using m),dq,aF] at h;cases t:ix[j-nt]? with
   |none=>rw [t] at h;cases h
   |some i =>
    rw [t] at h;have w:∀ v,σ[i]?=some (some v)->(L2.kE nt ix σ)[j]?=some (some v):=fun v k1=>by
     unfold L2.kE;rw [br (by simpa using m),dq,aF,t];simp [k1]
    cases n:ρ[i]? with
    |none=>simp only [da,n,ij,SY] at h;cases h
    |some s =>
     simp only [da,n,lO] at h;cases s with
     |own d' =>
      cases h;obtain ⟨a,o,k1,k2,k3,y,k5⟩:=f.ow i d n;exact ⟨a,o,w _ k1,k2,k3,k5⟩
     |lck d' =>
      cases h;obtain ⟨a,o,k1,k2,k3,y,k5,I⟩:=f.lk i d n;exact ⟨a,o,w _ k1,k3,y,I⟩
     |no=>cases h
     |shr _=>cases h
     |ow2 _=>cases h
 have u:∀ (j:Nat) (d:List (List D)),¬ (pS nt ix ρ)[j]?=some (Sl.ow2 d):=fun j d h=>by
  unfold pS at h;by_cases m:j<nt
  ·rw [bi (by simpa using m),bW,if_pos m] at h;cases h
  ·have m:nt<=j:=by omega
   rw [br (by simpa using m),dq,aF] at h;cases t:ix[j-nt]? with
   |none=>rw [t] at h;cases h
   |some i =>
    rw [t] at h;cases n:ρ[i]? with
    |none=>simp only [da,n,ij,SY] at h;cases h
    |some s =>
     simp only [da,n,lO] at h;cases s<;>cases h
 refine ⟨fun j=>match (pS nt ix ρ)[j]?,(L2.kE nt ix σ)[j]? with
  |some (Sl.lck _),some (some (V.ref a))=>some a
  |_,_=>none,.refl f.st.sub,by simp [pS,L2.kE],fun j d h=>?_,fun j d h=>?_,fun j d h=>?_,fun j k A G a q E _ _=>?_,fun j a h=>?_,fun j d h=>(u j d h).elim,fun j k A G q _=>(u j A q).elim⟩
 case refine_3 =>
  obtain ⟨a,o,k1,k2,k3,y⟩:=B j d h;exact ⟨a,o,k1,by rw [h,k1],k2,k3,k2,y⟩
 case refine_5 =>
  split at h
  ·rename_i d L q E
   cases h;obtain ⟨L,o,k1,k2,_⟩:=B j d q;rw [E] at k1;cases k1;exact ⟨o,k2⟩
  ·cases h
 all_goals
  unfold pS at *
 ·have h:=h;by_cases m:j<nt
  ·rw [bi (by simpa using m),bW,if_pos m] at h;cases h
  ·have m:nt<=j:=by omega
   rw [br (by simpa using m),dq,aF] at h;cases t:ix[j-nt]? with
   |none=>rw [t] at h;cases h
   |some i =>
    rw [t] at h;cases n:ρ[i]? with
    |none=>simp only [da,n,ij,SY] at h;cases h
    |some s =>
     simp only [da,n,lO] at h;cases s with
     |shr d' =>
      cases h;obtain ⟨v,k1,k2⟩:=f.sh i d n;refine ⟨v,?_,k2⟩;unfold L2.kE;rw [br (by simpa using m),dq,aF,t];simp [k1]
     |no=>cases h
     |own _=>cases h
     |lck _=>cases h
     |ow2 _=>cases h
 ·have h:=h;by_cases m:j<nt
  ·rw [bi (by simpa using m),bW,if_pos m] at h;cases h
  ·have m:nt<=j:=by omega
   rw [br (by simpa using m),dq,aF] at h;cases t:ix[j-nt]? with
   |none=>rw [t] at h;cases h
   |some i =>
    rw [t] at h;cases n:ρ[i]? with
    |none=>simp only [da,n,ij,SY] at h;cases h
    |some s =>
     simp only [da,n,lO] at h;cases s<;>cases h
 ·have q:=q;by_cases m:j<nt
  ·rw [bi (by simpa using m),bW,if_pos m] at q;cases q
  ·have m:nt<=j:=by omega
   rw [br (by simpa using m),dq,aF] at q;cases t:ix[j-nt]? with
   |none=>rw [t] at q;cases q
   |some i =>
    rw [t] at q;cases n:ρ[i]? with
    |none=>simp only [da,n,ij,SY] at q;cases q
    |some s =>
     simp only [da,n,lO] at q;cases s<;>cases q
theorem A1 (h:∀ d c n,f d≠.ex c n):∀ (ds:List D) (c:Str) (n:Option D),ip f ds≠.ex c n
 |[],c,n=>fun e=>by cases e
 |d::r,c,n=>fun e=>by
  unfold ip at e;cases j:f d with
  |ok o =>
   rw [j,bind_ok] at e;cases i:ip f r with
   |ok m=>rw [i,bind_ok] at e;cases e
   |ex x k=>exact A1 h r x k i
   |no=>rw [i] at e;cases e
  |ex x k=>exact h d x k j
  |no=>rw [j] at e;cases e
theorem FV (nt:Nat) (ρ:aI) (gt:aI->R Bool) (ge:aI->R D) (d:D) (c:Str) (n:Option D):jI nt ρ gt ge d≠.ex c n:=by
 unfold jI Mp;split<;>first|exact fun e=>by cases e|skip
 rename_i h
 exact fun e=>h c n e
inductive cnI (K:a8) (f:D->R (Option D)) (ds ys:List D) (H1 Hs1:Hp) (i m:Nat) (acc:List V) (H':Hp):Prop
 |mk (done c7 zs ya Hs':_) (h0:ds=done++c7) (h1:done.length=i) (h2:c7.length=m) (h3:cX H1 Hs1 H' Hs') (h4:RDs K Hs' acc ya) (h5:ya.length<=i) (h6:ip f c7=.ok zs) (h7:ys=ya++zs):cnI K f ds ys H1 Hs1 i m acc H'
theorem Kk {K:a8}{cls:Str->aj}{E:XK}{nt:Nat}{ix:List Nat}{gi:aI->R (List D)}{gt:aI->R Bool}{ge:aI->R D}{ρ:aI}{u:St}{H:Hp}{Q:VK} (X:nt=1\/nt=2)
  (q:TN K cls E ρ (fJ nt ix gi gt ge ρ) u H Q) :
  Ov nt ix (Zj K cls E ρ (gi ρ)) (Mq K nt) (fun u H Q=>∃ h,Mj K cls E0 h (gt h) u H Q) (fun u H Q=>∃ h,TR K cls E0 h (ge h) u H Q) u H Q:=by
 obtain ⟨H0,a4,la,Hs,f,q⟩:=q;refine ⟨H0,a4,la,Hs,f,?_⟩;unfold fJ at q;cases hi:gi ρ with
 |no=>rw [hi] at q;exact q
 |ex x n=>rw [hi] at q;exact q
 |ok ds =>
  rw [hi,bind_ok] at q;intro J H1 L Hn s1 sn it;by_cases hl:ds.length<=1000
  ·rw [if_pos hl] at q;cases U:ip (jI nt (pS nt ix ρ) gt ge) ds with
   |no=>rw [U] at q;exact q.elim
   |ex x n=>exact (A1 (FV _ _ _ _) _ _ _ U).elim
   |ok ys =>
    rw [U,bind_ok] at q;obtain ⟨lb,fb⟩:=(f.step s1).block nt ix;refine ⟨cnI K (jI nt (pS nt ix ρ) gt ge) ds ys H1 L,
     ⟨ds.length,[],ds,ys,[],L,rfl,rfl,rfl,.refl s1.sub,.nil,cG _,U,rfl⟩,?_⟩
    rintro i m a6 H' ⟨done,c7,zs,ya,M,k,s,O,st,S,yl,hz,P⟩;obtain ⟨a3,t,w⟩:=it H' M (sn.trans st.all) st.sh st.sub;cases c7 with
    |nil =>
     left;cases hz;rw [bT] at k P;subst P k;exact ⟨t i (by omega),fun p hp=>q p _ H' M (s1.trans st) hp (.lst S)⟩
    |cons d c7 =>
     right;have G:i<ds.length:=by rw [k,aO,aW];omega
     refine ⟨a3 i G,cK (by rw [S.length];omega),fun x H2 a1=>?_⟩;obtain ⟨d',a0,hd,N,r2⟩:=w i x H2 G a1;have a2:d'=d:=by
      rw [k,br (by omega)] at hd;simp [s] at hd;exact hd.symm
     subst a2;obtain ⟨o,z,j,I,rfl⟩:=z_ hz;have j:=Kj j;cases T:Y8 nt d' (pS nt ix ρ) with
     |no=>rw [T] at j;cases j
     |ex x n=>rw [T] at j;cases j
     |ok h =>
      rw [T,bind_ok] at j;refine FU X ((fb.step st).step N) r2 T fun a5 f2=>⟨h,?_⟩;refine ⟨_,_,_,a0,f2,?_⟩;cases ht:gt h with
      |no=>rw [ht] at j;cases j
      |ex x n=>rw [ht] at j;cases j
      |ok b =>
       rw [ht,bind_ok] at j;intro H3 B A;cases b with
       |false =>
        rw [if_neg a_] at j;cases j;refine Bk ⟨c7.length,by rw [<- O];simp,done++[d'],c7,z,ya,B,by rw [k];simp,by simp [s],rfl,(st.trans N).trans A,S.same (N.trans A).sh,by omega,I,by simpa using P⟩
       |true =>
        rw [if_pos rfl] at j;refine Ff ⟨h,_,_,_,B,f2.step A,?_⟩;cases he:ge h with
        |no=>rw [he] at j;cases j
        |ex x n=>rw [he] at j;cases j
        |ok y =>
         rw [he,bind_ok] at j;cases j;intro v H4 Y s4 r4;exact ⟨c7.length,by rw [<- O];simp,done++[d'],c7,z,ya++[y],Y,by rw [k];simp,by simp [s],rfl,((st.trans N).trans A).trans s4,(S.same ((N.trans A).trans s4).sh).append (.cons r4 .nil),by simp;omega,I,by rw [P];simp⟩
  ·rw [if_neg hl] at q;exact q.elim
def C.comp (c:C) (N':List Str) (scope:i5) (h:List (Str×aj)) (A:aj) (d:ao) (f:Hp) (j:List aj) (i:List (aj×Obj)):C:=⟨dg c.X N' scope h A d f j i,c.cls,E0⟩
variable {elt iter:bZ}{ifs:List bZ}{scope:i5}{N':List Str}{nt:Nat}{ix:List Nat}{gi:aI->R (List D)}{gt:aI->R Bool}{ge:aI->R D}
def w9 (c:C) (N':List Str) (scope:i5) (nt:Nat) (tg:bZ) (ifs:List bZ) (elt:bZ) (gt:aI->R Bool) (ge:aI->R D):Prop :=
 ∀ h A d f j i,PG (c.comp N' scope h A d f j i).X tg (Mq c.X.K nt)/\Y9 (c.comp N' scope h A d f j i) ifs gt/\JE (c.comp N' scope h A d f j i) elt ge
theorem w9.at (h:w9 c N' scope nt tg ifs elt gt ge):∀ m A i f o n,PG (dg c.X N' scope m A i f o n) tg (Mq c.X.K nt)/\Ry (dg c.X N' scope m A i f o n) ifs (fun k H Q=>∃ d,Mj c.X.K c.cls E0 d (gt d) k H Q) /\
  PE (dg c.X N' scope m A i f o n) elt (fun k H Q=>∃ d,TR c.X.K c.cls E0 d (ge d) k H Q):=fun m A i f o n=>by
 obtain ⟨v,y,w⟩:=h m A i f o n;exact ⟨v,fun j s k H Q I u=>by obtain ⟨d,q⟩:=u;exact y d j s k H Q I q,fun j s k H Q I t=>by obtain ⟨d,q⟩:=t;exact w d j s k H Q I q⟩
theorem fN (nt:Nat) (d:nt=1\/nt=2) (f:c.X.calm=true) (S:pc c.X scope N' nt ix) (h:JI c tg iter gi) (i:w9 c N' scope nt tg ifs elt gt ge) (hs:∀ x,eV iter c.X.env x=pure x:=by intro _;rfl) :
  JN c (.ListComp elt [⟨tg,iter,ifs,0⟩] scope pos) (fJ nt ix gi gt ge):=.of fun ρ=>sj (Fo f S (DS d) (h ρ) i.at hs) fun j H Q q=>Kk d q
theorem lF (i:Nat) {h u:Pos} (nt:Nat) (j:nt=1\/nt=2) (v:c.X.N.Nodup) (y:c.X.calm=true) (S:pc c.X scope N' nt ix) (B:JI c tg iter gi) (E:w9 c N' scope nt tg ifs elt gt ge)
  (s:c.X.N[i]?=some x:=by rfl) (w:c.X.env.scope.names.lookup x=some .local:=by rfl)
  (n:iO (.ListComp elt [⟨tg,iter,ifs,0⟩] scope pos) (some (.Name x u)) h.line c.X.env=pure true:=by rfl)
  (hs:∀ x,eV iter c.X.env x=pure x:=by intro _;rfl):JS c (.Assign [.Name x u] (.ListComp elt [⟨tg,iter,ifs,0⟩] scope pos) h) (gd i (fJ nt ix gi gt ge)):=.of fun ρ=>zR (IF v s w y S (DS j) (B ρ) E.at n hs) fun D z H k=>by
 obtain ⟨M,L,la,Hs,f,q⟩:=k;refine Kk (Q:=fun x t=>D.nx (z.set i (some x)) t) j (sN f q fun d a o t m I G A K=>?_);unfold gd at q;rw [I,bind_ok] at q;exact q _ _ m (G.setO i A K)
end
theorem Pb (h:PS X.nox st t):PS X st t:=fun a s b H D I c =>
 bB (h a s b H D (I.wish _) c) (fun _ _ q=>q.unwish) fun _ _ z=>e_ z
def C.nox (c:C):C:=⟨c.X.nox,c.cls,E0⟩
def jT (k:D->aI->R aI) (b:aI->R Fl):List D->aI->R Fl
 |[],ρ=>.ok (.nx ρ)
 |d::r,ρ=>match k d ρ with
  |.ok ρ1=>match b ρ1 with
   |.ok (.nx a)=>jT k b r a
   |.ok (.ct a)=>jT k b r a
   |.ok (.bk a)=>.ok (.nx a)
   |.ok (.rt d)=>.ok (.rt d)
   |_=>.no
  |_=>.no
def DT (i:Nat) (ρ:aI):aI:=match ρ[i]? with
 |some (Sl.own d)=>ρ.set i (.lck d)
 |_=>ρ
def A2 (i:Nat) (a ρ:aI):aI:=match a[i]?,ρ[i]? with
 |some (Sl.own _),some (Sl.lck d)=>ρ.set i (.own d)
 |_,_=>ρ
def unl (i:Nat) (a:aI):R Fl->R Fl
 |.ok (.nx ρ)=>.ok (.nx (A2 i a ρ))
 |.ok (.bk ρ)=>.no
 |.ok (.ct ρ)=>.no
 |r=>r
inductive fgI (K:a8) (cls:Str->aj) (E:XK) (H0 Hs0:Hp) (la:Nat->Option aj) (D':Dj) (kt:D->aI->R aI) (gb:aI->R Fl) (ds:List D) (i m:Nat) (σ:St) (H:Hp):Prop
 |mk (done c7 ρ Hs:_) (h0:ds=done++c7) (h1:done.length=i) (h2:c7.length=m) (h3:Fr K H0 Hs0 la ρ σ H Hs) (h4:pj K cls E H0 Hs0 la D' (jT kt gb c7 ρ)):fgI K cls E H0 Hs0 la D' kt gb ds i m σ H
theorem Pc
  (it:P7 K J ds Hn Hs0) (O:dD Hn H0) (f:Fr K H0 Hs0 la ρ g H Hs)
  (B:∀ ρ d v g H Q,Wb K ρ d (kt d ρ) v g H Q->tg v g H Q) (s:∀ ρ D g H,SR K cls E0 ρ (gb ρ) D g H->tb D g H)
  (q:pj K cls E H0 Hs0 la D' (jT kt gb ds ρ)) :
  ZG tg tb D' g J H:=by
 refine ⟨fgI K cls E H0 Hs0 la D' kt gb ds,⟨ds.length,[],ds,ρ,Hs,rfl,rfl,rfl,f,q⟩,?_⟩;rintro i m g H ⟨done,c7,ρ,Hs,e,o,G,f,q⟩;obtain ⟨u,h,k⟩:=it H Hs (O.trans f.st.all) f.st.sh f.st.sub;cases c7 with
 |nil =>
  rw [bT] at e;subst e;exact .inl ⟨h i (by omega),q g H Hs f⟩
 |cons d c7 =>
  have l:i<ds.length:=by rw [e,aO,aW];omega
  refine .inr ⟨u i l,fun σ' H'=>∃ b a,Fr K H0 Hs0 la b σ' H' a/\pj K cls E H0 Hs0 la D' (jT kt gb c7 b),fun σ' H' ⟨b,a,j,q'⟩=>⟨c7.length,by rw [<- G];simp,done++[d],c7,b,a,by rw [e];simp,by simp [o],rfl,j,q'⟩,fun x w z=>?_⟩;obtain ⟨d',p,y,P,S⟩:=k i x w l z;have t:d'=d:=by
   rw [e,br (by omega)] at y;simp [o] at y;exact y.symm
  subst t;unfold jT at q;refine B ρ d' x g w _ ⟨H0,Hs0,la,p,f.step P,S,?_⟩;cases A:kt d' ρ with
  |ex c n=>rw [A] at q;exact q
  |no=>rw [A] at q;exact q
  |ok ρ1 =>
   rw [A] at q;intro I N;refine s ρ1 _ I w ⟨H0,Hs0,la,p,N,?_⟩;cases L:gb ρ1 with
   |no=>simp only [L] at q;exact q.elim
   |ex c n=>simp only [L] at q;exact q.elim
   |ok M =>
    simp only [L] at q;cases M with
    |nx b=>exact fun σ' H' a j=>⟨b,a,j,q⟩
    |ct b=>exact fun σ' H' a j=>⟨b,a,j,q⟩
    |bk b=>exact fun σ' H' a j=>q σ' H' a j
    |rt d=>exact q
def ui (A B:Hp):Hp:=fun b=>match A b with
 |some o=>some o
 |none=>B b
theorem kR:dD A (ui A B):=fun b o e=>by unfold ui;rw [e]
theorem kj (h:A b=none):ui A B b=B b:=by unfold ui;rw [h]
theorem FW (a:dD A H) (c:dD B H):dD (ui A B) H:=fun b o e=>by
 cases h:A b with
 |some u=>unfold ui at e;rw [h] at e;cases e;exact a b o h
 |none=>rw [kj h] at e;exact c b o e
theorem Pd (a:dD A H) (c:dD B H):dD B (ui A B):=fun b o e=>by
 cases h:A b with
 |some u =>
  unfold ui;rw [h];have:=a b u h;rw [c b o e] at this;exact this.symm
 |none=>rw [kj h];exact e
theorem Fr.into (f:Fr K H0 Hs0 la ρ σ H Hs):Fr K (ui H0 Hs) Hs la ρ σ H Hs:=by
 have sub:=FW f.st.all f.st.sub;refine ⟨⟨sub,.refl _,f.st.sub,fun a o e _ z=>z⟩,f.len,f.sh,fun i d h=>?_,fun i d h=>?_,f.dj,fun i a e=>let ⟨o,k⟩:=f.lh i a e;⟨o,kR _ _ k⟩,fun i d h=>?_,f.u2⟩
 ·obtain ⟨a,o,g,n,c,j,m⟩:=f.ow i d h;exact ⟨a,o,g,n,c,by rw [kj j];exact c,m⟩
 ·obtain ⟨a,o,g,n,c,j,m,p⟩:=f.lk i d h;exact ⟨a,o,g,n,c,j,kR _ _ m,p⟩
 ·obtain ⟨a,q,O⟩:=f.o2 i d h;exact ⟨a,q,O.at_,O.ob,O.nd,fun b l=>⟨(O.out b l).1,by rw [kj (O.out b l).2];exact (O.out b l).1⟩,O.dj,O.inn⟩
theorem cX.outof (s:cX H0 Hs0 H1 Hs1) (t:cX (ui H0 Hs1) Hs1 H' Hs'):cX H0 Hs0 H' Hs' :=
 ⟨kR.trans t.all,s.sh.trans t.sh,t.sub,fun a o e n z=>t.out a o (kR _ _ e) n (s.out a o e n z)⟩
theorem Fr.outof (j:Fr K H0 Hs0 la ρ1 σ1 H1 Hs1) (f:Fr K (ui H0 Hs1) Hs1 la ρ σ H' Hs'):Fr K H0 Hs0 la ρ σ H' Hs':=by
 refine ⟨j.st.outof f.st,f.len,f.sh,fun i d h=>?_,fun i d h=>?_,f.dj,j.lh,fun i d h=>?_,f.u2⟩
 ·obtain ⟨a,o,g,c,l,m,k⟩:=f.ow i d h;exact ⟨a,o,g,c,l,kR.free m,k⟩
 ·obtain ⟨a,o,g,c,l,m,k,q⟩:=f.lk i d h;obtain ⟨t,e⟩:=j.lh i a c;have n:=kR (B:=Hs1) _ _ e;rw [k] at n;cases n;exact ⟨a,o,g,c,l,m,e,q⟩
 ·obtain ⟨a,s,O⟩:=f.o2 i d h;exact ⟨a,s,O.at_,O.ob,O.nd,fun b p=>⟨(O.out b p).1,kR.free (O.out b p).2⟩,O.dj,O.inn⟩
theorem pj.into (b:Fr K H0 Hs0 la ρ1 σ1 H1 Hs1) (q:pj K cls E H0 Hs0 la D' r):pj K cls E (ui H0 Hs1) Hs1 la D' r:=by
 cases r with
 |no=>exact q
 |ex c n=>exact fun H' a s=>q H' a (b.st.outof s)
 |ok e =>
  cases e with
  |nx ρ=>exact fun σ' H' a f=>q σ' H' a (b.outof f)
  |bk ρ=>exact fun σ' H' a f=>q σ' H' a (b.outof f)
  |ct ρ=>exact fun σ' H' a f=>q σ' H' a (b.outof f)
  |rt d=>exact fun v H' a s r=>q v H' a (b.st.outof s) r
theorem Fr.lock (f:Fr K H0 Hs0 la ρ σ H Hs) (A:ρ[i]?=some (Sl.own d)) (k1:σ[i]?=some (some (V.ref a))) (k2:H a=some o) (k3:Hs a=none) (G:H0 a=none) (k5:nY K Hs o d) :
  Fr K (ui H0 (upd Hs a o)) Hs (fun j=>if j=i then some a else la j) (ρ.set i (.lck d)) σ H Hs:=by
 have n:i<ρ.length:=(List.getElem?_eq_some_iff.mp A).1;have sub:dD (upd Hs a o) H:=fun b u q=>by
  by_cases I:b=a
  ·subst I;rw [aS] at q;cases q;exact k2
  ·rw [aV I] at q;exact f.st.sub b u q
 have nx:∀ {j:Nat}{s:Sl},(∀ d,s≠.lck d)->(ρ.set i (.lck d))[j]?=some s->ρ[j]?=some s/\i≠j:=fun {j s} hs e=>by
  by_cases g:i=j
  ·subst g;rw [aJ n] at e;exact absurd (bR e).symm (hs d)
  ·rw [ak g] at e;exact ⟨e,g⟩
 refine ⟨⟨FW f.st.all sub,.refl _,f.st.sub,fun a o e _ z=>z⟩,by simp [f.len],fun j e h=>?_,fun j e h=>?_,fun j e h=>?_,fun j k w x b m p L N=>?_,fun j b h=>?_,fun j e h=>?_,fun j k w x m p=>?_⟩
 ·obtain ⟨h,_⟩:=nx (fun _ z=>by cases z) h;exact f.sh j e h
 ·obtain ⟨h,g⟩:=nx (fun _ z=>by cases z) h;obtain ⟨b,u,t,B,v,y,E⟩:=f.ow j e h;refine ⟨b,u,t,B,v,?_,E⟩;rw [kj y,aV (fun z=>g ?_)]
  ·exact v
  ·subst z;exact f.dj i j d e b A h k1 t
 ·by_cases g:i=j
  ·subst g;rw [aJ n] at h;cases h;exact ⟨a,o,k1,if_pos rfl,k2,k3,by rw [kj G,aS],k5⟩
  ·rw [ak g] at h;obtain ⟨b,u,t,B,v,y,E,M⟩:=f.lk j e h;exact ⟨b,u,t,by rw [if_neg (cV g)];exact B,v,y,kR _ _ E,M⟩
 ·obtain ⟨m,_⟩:=nx (fun _ z=>by cases z) m;obtain ⟨p,_⟩:=nx (fun _ z=>by cases z) p;exact f.dj j k w x b m p L N
 ·by_cases g:j=i
  ·simp only [if_pos g] at h;cases h;exact ⟨o,by rw [kj G,aS]⟩
  ·simp only [if_neg g] at h;obtain ⟨u,e⟩:=f.lh j b h;exact ⟨u,kR _ _ e⟩
 ·obtain ⟨h,g⟩:=nx (fun _ z=>by cases z) h;obtain ⟨b,Q,O⟩:=f.o2 j e h;refine ⟨b,Q,O.at_,O.ob,O.nd,fun c l=>⟨(O.out c l).1,?_⟩,fun c l k P S=>O.dj c l k P (nx (fun _ z=>by cases z) S).1,O.inn⟩;rw [kj (O.out c l).2,aV (fun z=>?_)]
  ·exact (O.out c l).1
  ·subst z;exact O.dj c l i d A k1
 ·exact f.u2 j k w x (nx (fun _ z=>by cases z) m).1 (nx (fun _ z=>by cases z) p).1
theorem cX.unlock (s:cX H0 Hs0 H Hs) (t:cX (ui H0 (upd Hs a o)) Hs H' Hs'):cX H0 Hs0 H' Hs' :=
 ⟨kR.trans t.all,s.sh.trans t.sh,t.sub,fun b u e n z=>t.out b u (kR _ _ e) n (s.out b u e n z)⟩
theorem Fr.unlock (f:Fr K H0 Hs0 la ρ σ H Hs) (E:ρ[i]?=some (Sl.own d)) (k4:H0 a=none)
  (g:Fr K (ui H0 (upd Hs a o)) Hs (fun j=>if j=i then some a else la j) ρ' σ' H' Hs'):Fr K H0 Hs0 la (A2 i ρ ρ') σ' H' Hs':=by
 have st:=f.st.unlock g.st;have own:∀ (j:Nat) (e:D),ρ'[j]?=some (Sl.own e)->∃ b u,σ'[j]?=some (some (V.ref b))/\H' b=some u/\Hs' b=none/\H0 b=none/\nY K Hs' u e/\(ui H0 (upd Hs a o)) b=none:=fun j e h=>by
  obtain ⟨b,u,l,m,t,n,p⟩:=g.ow j e h;exact ⟨b,u,l,m,t,kR.free n,p,n⟩
 have lck:∀ (j:Nat) (e:D),j≠i->ρ'[j]?=some (Sl.lck e)->∃ b u,σ'[j]?=some (some (V.ref b))/\la j=some b/\H' b=some u/\Hs' b=none/\H0 b=some u/\nY K Hs' u e:=fun j e q h=>by
  obtain ⟨b,u,l,m,t,n,p,Y⟩:=g.lk j e h;simp only [if_neg q] at m;obtain ⟨u',T⟩:=f.lh j b m;have:=kR (B:=upd Hs a o) _ _ T;rw [p] at this;cases this;exact ⟨b,u,l,m,t,n,T,Y⟩
 have two:∀ (j:Nat) (e:List (List D)),ρ'[j]?=some (Sl.ow2 e)->∃ b G,O2 K H0 H' Hs' ρ' σ' j e b G:=fun j e h=>by
  obtain ⟨b,G,O⟩:=g.o2 j e h;exact ⟨b,G,O.at_,O.ob,O.nd,fun c M=>⟨(O.out c M).1,kR.free (O.out c M).2⟩,O.dj,O.inn⟩
 unfold A2;cases A:ρ'[i]? with
 |none =>
  simp only [E];refine ⟨st,g.len,g.sh,fun j e h=>let ⟨b,u,l,m,t,n,p,_⟩:=own j e h;⟨b,u,l,m,t,n,p⟩,fun j e h=>lck j e (fun z=>by rw [z,A] at h;cases h) h,g.dj,f.lh,two,g.u2⟩
 |some s =>
  cases s with
  |no=>simp only [E];exact ⟨st,g.len,g.sh,fun j e h=>let ⟨b,u,l,m,t,n,p,_⟩:=own j e h;⟨b,u,l,m,t,n,p⟩,fun j e h=>lck j e (fun z=>by rw [z,A] at h;cases h) h,g.dj,f.lh,two,g.u2⟩
  |shr _=>simp only [E];exact ⟨st,g.len,g.sh,fun j e h=>let ⟨b,u,l,m,t,n,p,_⟩:=own j e h;⟨b,u,l,m,t,n,p⟩,fun j e h=>lck j e (fun z=>by rw [z,A] at h;cases h) h,g.dj,f.lh,two,g.u2⟩
  |own _=>simp only [E];exact ⟨st,g.len,g.sh,fun j e h=>let ⟨b,u,l,m,t,n,p,_⟩:=own j e h;⟨b,u,l,m,t,n,p⟩,fun j e h=>lck j e (fun z=>by rw [z,A] at h;cases h) h,g.dj,f.lh,two,g.u2⟩
  |ow2 _=>simp only [E];exact ⟨st,g.len,g.sh,fun j e h=>let ⟨b,u,l,m,t,n,p,_⟩:=own j e h;⟨b,u,l,m,t,n,p⟩,fun j e h=>lck j e (fun z=>by rw [z,A] at h;cases h) h,g.dj,f.lh,two,g.u2⟩
  |lck d' =>
   simp only [E];have L:i<ρ'.length:=(List.getElem?_eq_some_iff.mp A).1;have nx:∀ {j:Nat}{s:Sl},(∀ d,s≠.own d)->(ρ'.set i (.own d'))[j]?=some s->ρ'[j]?=some s/\i≠j:=fun {j s} hs e=>by
    by_cases q:i=j
    ·subst q;rw [aJ L] at e;exact absurd (bR e).symm (hs d')
    ·rw [ak q] at e;exact ⟨e,q⟩
   obtain ⟨b,u,l,m,t,n,p,Y⟩:=g.lk i d' A;simp only [if_pos rfl] at m;cases m;have ne:∀ (j:Nat) (e:D),ρ'[j]?=some (Sl.own e)->σ'[j]?≠some (some (V.ref a)):=fun j e h z=>by
    obtain ⟨b,u,U,_,_,_,_,p6⟩:=own j e h;rw [z] at U;cases U;rw [p] at p6;cases p6
   refine ⟨st,by simp [g.len],fun j e h=>?_,fun j e h=>?_,fun j e h=>?_,fun j k N Q c v I P S=>?_,f.lh,fun j e h=>?_,fun j k N Q v I=>?_⟩
   ·obtain ⟨h,_⟩:=nx (fun _ z=>by cases z) h;exact g.sh j e h
   ·by_cases q:i=j
    ·subst q;rw [aJ L] at h;cases h;exact ⟨a,u,l,t,n,k4,Y⟩
    ·rw [ak q] at h;obtain ⟨b,u,U,p2,p3,p4,p5,_⟩:=own j e h;exact ⟨b,u,U,p2,p3,p4,p5⟩
   ·obtain ⟨h,q⟩:=nx (fun _ z=>by cases z) h;exact lck j e (cV q) h
   ·by_cases q:i=j
    ·by_cases w:i=k
     ·exact q.symm.trans w
     ·rw [ak w] at I;subst q;rw [l] at P;cases P;exact (ne k Q I S).elim
    ·rw [ak q] at v;by_cases w:i=k
     ·subst w;rw [l] at S;cases S;exact (ne j N v P).elim
     ·rw [ak w] at I;exact g.dj j k N Q c v I P S
   ·obtain ⟨h,q⟩:=nx (fun _ z=>by cases z) h;obtain ⟨b,G,O⟩:=two j e h;refine ⟨b,G,O.at_,O.ob,O.nd,O.out,fun c M k T w=>?_,O.inn⟩;by_cases nk:i=k
    ·subst nk;intro z;rw [l] at z;cases z;obtain ⟨b',X,O'⟩:=g.o2 j e h;have hh:=O.at_;rw [O'.at_] at hh;cases hh;have hs:X=G:=by
      have v:=O.ob;rw [O'.ob] at v;injection v with v;injection v with v;exact Nv (fun x y z=>by cases z;rfl) |>.mp v
     subst hs;have:=(O'.out _ M).2;rw [p] at this;cases this
    ·rw [ak nk] at w;exact O.dj c M k T w
   ·exact g.u2 j k N Q (nx (fun _ z=>by cases z) v).1 (nx (fun _ z=>by cases z) I).1
def pp (a:aI->R (List D)) (kt:D->aI->R aI) (gb:aI->R Fl):aI->R Fl:=fun ρ=>match a ρ with
 |.ok ds=>jT kt gb ds ρ
 |_=>.no
theorem nr (o:c.X.calm=true) (t:Nz c.nox tg iter gi) (z:JG c.nox tg kt) (w:Kg c.nox body gbd) (hs:∀ x,eV iter c.X.env x=pure x:=by intro _;rfl):JS c (.For tg iter body [] pos) (pp gi kt gbd):=.of fun ρ=>by
 refine Pb (zR (O9 xb o (t ρ) (g:=fun v a H Q=>∃ ρ d,Wb c.X.K ρ d (kt d ρ) v a H Q) (tb:=fun D a H=>∃ ρ,SR c.X.K c.cls E0 ρ (gbd ρ) D a H) ?_ ?_ hs) fun D a H ⟨p,l,la,Hs,f,q⟩=>?_)
 ·exact fun b s a H v u Q I r i=>by obtain ⟨ρ,d,q⟩:=i;exact z ρ d b s a H v u Q I r q
 ·exact fun b s a H D I k=>by obtain ⟨ρ,q⟩:=k;exact w ρ b s a H D I q
 ·refine ⟨p,l,la,Hs,f,?_⟩;unfold pp at q;cases j:gi ρ with
  |no=>rw [j] at q;exact q
  |ex x n=>rw [j] at q;exact q.elim
  |ok ds =>
   rw [j] at q;intro J A y m it;have e:=f.step m;exact Pc (E:=c.E) (cls:=c.cls) (kt:=kt) (gb:=gbd) (tg:=fun v a H Q=>∃ ρ d,Wb c.X.K ρ d (kt d ρ) v a H Q) (tb:=fun D a H=>∃ ρ,SR c.X.K c.cls E0 ρ (gbd ρ) D a H) it (Pd e.st.all e.st.sub) e.into (fun ρ d v a H Q h=>⟨ρ,d,h⟩) (fun ρ D a H h=>⟨ρ,h⟩) (pj.into e q)
def wa (i:Nat) (kt:D->aI->R aI) (gb:aI->R Fl):aI->R Fl:=fun ρ=>match ρ[i]? with
 |some (Sl.own (.list ds))=>unl i ρ (jT kt gb ds (DT i ρ))
 |_=>pp (m9 fun ρ=>HF ρ i) kt gb ρ
theorem A3 {kt:D->aI->R aI}{gb:aI->R Fl}:∀ (ds:List D) (ρ:aI) (a:Fl),jT kt gb ds ρ=.ok a->(∃ b,a=.nx b)\/∃ d,a=.rt d
 |[],ρ,a,h=>by cases h;exact .inl ⟨_,rfl⟩
 |d::r,ρ,a,h=>by
  unfold jT at h;split at h
  ·split at h
   ·exact A3 r _ _ h
   ·exact A3 r _ _ h
   ·cases h;exact .inl ⟨_,rfl⟩
   ·cases h;exact .inr ⟨_,rfl⟩
   ·cases h
  ·cases h
theorem DU {kt:D->aI->R aI}{gb:aI->R Fl}:∀ (ds:List D) (ρ:aI) (c:Str) (n:Option D),jT kt gb ds ρ≠.ex c n
 |[],ρ,c,n,h=>by cases h
 |d::r,ρ,c,n,h=>by
  unfold jT at h;split at h
  ·split at h
   ·exact DU r _ _ _ h
   ·exact DU r _ _ _ h
   ·cases h
   ·cases h
   ·cases h
  ·cases h
theorem SZ (i:Nat) (M:c.X.calm=true) (U:JG c.nox tg kt) (t:Kg c.nox body gbd) (G:c.X.N[i]?=some x:=by rfl) (T:Ny c.X.env.scope x:=by first|exact hZ rfl|exact eF (hZ rfl)|exact eF (eF rfl)) (S:(x==("__debug__" : Str))=false:=by decide)
  (m:(x==("__classdict__" : Str))=false:=by decide) (hs:∀ y,eV (.Name x p) c.X.env y=pure y:=by intro _;rfl):JS c (.For tg (.Name x p) body [] pos) (wa i kt gbd):=.of fun ρ=>by
 by_cases ho:∃ ds,ρ[i]?=some (Sl.own (.list ds))
 ·obtain ⟨ds,ho⟩:=ho;refine Pb (zR (O9 (tg:=tg) xb M (vJ (X:=c.nox.X) (oY G T S m)) (g:=fun v j H Q=>∃ ρ d,Wb c.X.K ρ d (kt d ρ) v j H Q) (tb:=fun D j H=>∃ ρ,SR c.X.K c.cls E0 ρ (gbd ρ) D j H) ?_ ?_ hs) fun D j H ⟨H0,a1,la,Hs,f,q⟩=>?_)
  ·exact fun k s j H v u Q I r z=>by obtain ⟨ρ,d,q⟩:=z;exact U ρ d k s j H v u Q I r q
  ·exact fun k s j H D I A=>by obtain ⟨ρ,q⟩:=A;exact t ρ k s j H D I q
  ·obtain ⟨a,o,k1,k2,k3,L,k5⟩:=f.ow i _ ho;cases k5 with
   | @lst B _ r =>
    refine ⟨_,k1,a,rfl,⟨_,.of k2⟩,?_⟩;have Y:nl c.X.K (upd Hs a (.lst B)) a B:=.of aS;unfold wa at q;simp only [ho] at q;have O:=f.lock ho k1 k2 k3 L (.lst r);have sub:dD (upd Hs a (.lst B)) H:=fun b u q=>by
     by_cases t:b=a
     ·subst t;rw [aS] at q;cases q;exact k2
     ·rw [aV t] at q;exact f.st.sub b u q
    refine Pc (E:=c.E) (cls:=c.cls) (kt:=kt) (gb:=gbd) (ρ:=DT i ρ) (Hs:=Hs) (la:=fun P=>if P=i then some a else la P) (tg:=fun v j H Q=>∃ ρ d,Wb c.X.K ρ d (kt d ρ) v j H Q) (tb:=fun D j H=>∃ ρ,SR c.X.K c.cls E0 ρ (gbd ρ) D j H) (DR Y r) (Pd f.st.all sub) ?_ (fun ρ d v j H Q h=>⟨ρ,d,h⟩) (fun ρ D j H h=>⟨ρ,h⟩) ?_
    ·unfold DT;rw [ho];exact O
    ·cases w:jT kt gbd ds (DT i ρ) with
     |no=>rw [w] at q;exact q
     |ex c n=>exact (DU _ _ _ _ w).elim
     |ok O =>
      rw [w] at q;rcases A3 _ _ _ w with ⟨a0,rfl⟩|⟨d,rfl⟩
      ·exact fun σ' H' l f'=>q σ' H' l (f.unlock ho L f')
      ·exact fun v H' l s r=>q v H' l (f.st.unlock s) r
 ·have e:wa i kt gbd ρ=pp (m9 fun ρ=>HF ρ i) kt gbd ρ:=by
   unfold wa;split
   ·rename_i ds h;exact (ho ⟨ds,h⟩).elim
   ·rfl
  rw [e];exact nr M (yX (c:=c.nox) (am (c:=c.nox) i G T S m)) U t hs ρ
def jK (t:aI->R Bool) (b:aI->R Fl):Nat->aI->R Fl
 | 0,_=>.no
 |n+1,ρ=>match t ρ with
  |.ok true=>match b ρ with
   |.ok (.nx a)=>jK t b n a
   |.ok (.ct a)=>jK t b n a
   |.ok (.bk a)=>.ok (.nx a)
   |.ok (.rt d)=>.ok (.rt d)
   |_=>.no
  |.ok false=>.ok (.nx ρ)
  |_=>.no
theorem FX (n:Nat) (A:JT c.nox t gt) (G:Kg c.nox body gbd):JS c (.While t body [] pos) (jK gt gbd n):=.of fun ρ=>by
 refine Pb (zR (O6 xb (tc:=fun i H Q=>∃ ρ,Mj c.X.K c.cls E0 ρ (gt ρ) i H Q) (tb:=fun D i H=>∃ ρ,SR c.X.K c.cls E0 ρ (gbd ρ) D i H) ?_ ?_) fun D i H ⟨l,g,la,Hs,f,q⟩=>?_)
 ·exact fun j s i H Q I v=>by obtain ⟨ρ,q⟩:=v;exact A ρ j s i H Q I q
 ·exact fun j s i H D I u=>by obtain ⟨ρ,q⟩:=u;exact G ρ j s i H D I q
 ·refine ⟨fun m i H=>∃ ρ Hs,Fr c.X.K l g la ρ i H Hs/\pj c.X.K c.cls c.E l g la D (jK gt gbd m ρ),⟨n,ρ,Hs,f,q⟩,?_⟩;rintro m i H ⟨ρ,Hs,f,q⟩;cases m with
  |zero=>exact q.elim
  |succ m =>
   unfold jK at q;refine ⟨ρ,l,g,la,Hs,f,?_⟩;cases w:gt ρ with
   |no=>rw [w] at q;exact q
   |ex x n=>rw [w] at q;exact q.elim
   |ok b =>
    rw [w] at q;intro z o y;cases b with
    |false=>exact Bk (q i z o (f.step y))
    |true =>
     refine Ff ⟨fun σ' H'=>∃ e a,Fr c.X.K l g la e σ' H' a/\pj c.X.K c.cls c.E l g la D (jK gt gbd m e),fun σ' H' h=>⟨m,eu _,h⟩,ρ,l,g,la,o,f.step y,?_⟩;cases k:gbd ρ with
     |no=>simp only [k] at q;exact q
     |ex x n=>simp only [k] at q;exact q.elim
     |ok B =>
      simp only [k] at q;cases B with
      |nx e=>exact fun σ' H' a p=>⟨e,a,p,q⟩
      |ct e=>exact fun σ' H' a p=>⟨e,a,p,q⟩
      |bk e=>exact fun σ' H' a p=>q σ' H' a p
      |rt d=>exact q
def qu (i:Nat) (g:aI->R D):aI->R Fl:=fun ρ=>match ρ[i]? with
 |some (Sl.own (.list ds))=>(g ρ).bind fun d=>if ds.length<1000 then .ok (.nx (ρ.set i (.own (.list (ds++[d]))))) else .no
 |_=>.no
theorem n8 (i:Nat) (h:JE c e g) (z:c.X.N[i]?=some x:=by rfl) (O:Ny c.X.env.scope x:=by first|exact hZ rfl|exact eF (hZ rfl)|exact eF (eF rfl)) (L:(x==("__debug__" : Str))=false:=by decide)
  (s:(x==("__classdict__" : Str))=false:=by decide)
  (k:LC (.Name x p) "append" c.X.env (dO (.Name x p) c.X.env)=dO (.Name x p) c.X.env:=by rfl)
  (m:((gG cpos (az [e] c.X.env)).all (fun x=>!x.1)&&(backToKw cpos (RF [] c.X.env)).all (fun x=>x.1.isSome)
   && decide ([e].length+([] : List Hu).length+(if ([] : List Hu).isEmpty then 0 else 1)<30))=true:=by rfl)
  (j:(apos.endLine==cpos.line)=true:=by rfl) (l:az [e] c.X.env=(false,dO e c.X.env)::az [] c.X.env:=by rfl) (b:(gG cpos (az [] c.X.env)).any (·.1)=false:=by rfl)
  (hs:iO (.Call (.Attribute (.Name x p) "append" apos) [e] [] cpos) none pos.line c.X.env=pure false:=by rfl) :
  JS c (.Expr (.Call (.Attribute (.Name x p) "append" apos) [e] [] cpos) pos) (qu i g):=.of fun ρ=>by
 refine zR (vI (C6 fv B9 Ba C7 (oY z O L s) (ck (h ρ) fB l) k m j l b) hs) fun D T H n=>?_;obtain ⟨A,u,la,Hs,f,q⟩:=n;replace q:pj c.X.K c.cls c.E A u la D (qu i g ρ):=q;unfold qu at q;split at q
 ·rename_i ds ho
  obtain ⟨a,o,k1,k2,k3,S,k5⟩:=f.ow i _ ho;cases k5 with
  | @lst P _ r =>
   refine ⟨_,k1,.inl ⟨rfl,_,.of k2⟩,?_⟩;refine sE f q fun d v Q t G w B I=>?_;rw [G,bind_ok] at q;by_cases y:ds.length<1000
   ·rw [if_pos y] at q;have M:=r.same w.sh;exact ⟨a,P,v,rfl,rfl,w.all _ _ k2,cK (by rw [r.length];omega),q _ _ t (B.write i ho k1 (.lst (M.append (.cons I .nil))))⟩
   ·rw [if_neg y] at q;exact q.elim
 ·exact q.elim
def pT:D->Option eC
 |.int i=>some (.inl i)
 |.str x=>some (.inr x)
 |_=>none
theorem wc (h:pT d=some y):d=kD y:=by
 cases d<;>cases h<;>rfl
@[simp] theorem keyOf_of (y:eC):pT (kD y)=some y:=by cases y<;>rfl
def uj (kvs:List (D×D)) (k d:D):List (D×D):=if kvs.any (fun a=>bq a.1 k) then kvs.map (fun a=>if bq a.1 k then (a.1,d) else a) else kvs++[(k,d)]
theorem DV (a b:eC):bq (kD a) (kD b)=decide (a=b):=by
 cases a<;>cases b<;>simp [kD,bq,tj]
theorem RDk.any (y:eC):∀ {ds:List (D×D)},RDk K H kvs ds->(ds.any fun a=>bq a.1 (kD y))=kvs.any fun a=>decide (a.1=y):=by
 induction kvs with
 |nil=>intro ds h;cases h;rfl
 |cons x r b=>intro ds h;cases h with|cons h t=>rw [eJ,eJ,b t,DV]
theorem RDk.repl (y:eC) (b:RD K H v d):∀ {kvs:List (eC×V)}{ds:List (D×D)},RDk K H kvs ds ->
  RDk K H (kvs.map fun a=>if a.1=y then (a.1,v) else a) (ds.map fun a=>if bq a.1 (kD y) then (a.1,d) else a)
 |_,_,.nil=>.nil
 |_,_,.cons (k:=k) h t=>by
  rw [ax,ax];have e:=DV k y;by_cases c:k=y
  ·subst c;rw [show (if k=k then (k,v) else (k,_))=(k,v) from if_pos rfl,show (if bq (kD k) (kD k)=true then (kD k,d) else (kD k,_))=(kD k,d) from if_pos (by rw [e];simp)];exact .cons b (RDk.repl k b t)
  ·simp only [e,c,if_neg,decide_false,bA,not_false_eq_true];exact .cons h (RDk.repl y b t)
theorem RDk.snoc (y:eC) (a:RD K H v d):∀ {kvs:List (eC×V)}{ds:List (D×D)},RDk K H kvs ds->RDk K H (kvs++[(y,v)]) (ds++[(kD y,d)])
 |_,_,.nil=>.cons a .nil
 |_,_,.cons h t=>.cons h (RDk.snoc y a t)
theorem RDk.put (r:RDk K H kvs ds) (y:eC) (a:RD K H v d):RDk K H (m6 kvs y v) (uj ds (kD y) d):=by
 unfold m6 uj;rw [r.any y];split
 ·exact r.repl y a
 ·exact r.snoc y a
def iH (kvs:List (D×D)):Bool:=kvs.all fun a=>(pT a.1).isSome
def DW (i:Nat) (a g:aI->R D):aI->R Fl:=fun ρ=>match ρ[i]? with
 |some (Sl.own (.dict kvs))=>(g ρ).bind fun d=>(a ρ).bind fun k=>match pT k with
  |some _=>if kvs.length<1000/\iH kvs=true then .ok (.nx (ρ.set i (.own (.dict (uj kvs k d))))) else .no
  |none=>.no
 |_=>.no
theorem DX (h:RD K H v (kD y)):v=kV y:=by
 cases y<;>cases h<;>rfl
theorem RDt.flat (h:RDt K H kvs ds) (f:iH ds=true):kvs=[]/\ds=[]:=by
 cases h with
 |nil=>exact ⟨rfl,rfl⟩
 |cons h t=>simp [iH,tD,pT] at f
theorem Kl (i:Nat) (h:JE c e g) (hk:JE c k gk) (hu:c.X.A.units+1<gM) (hN:c.X.N[i]?=some x:=by rfl) (hv:Ny c.X.env.scope x:=by first|exact hZ rfl|exact eF (hZ rfl)|exact eF (eF rfl)) (hd:(x==("__debug__" : Str))=false:=by decide)
  (I:(x==("__classdict__" : Str))=false:=by decide) (hs:iO e (some (.Subscript (.Name x p) k apos)) pos.line c.X.env=pure false:=by rfl):JS c (.Assign [.Subscript (.Name x p) k apos] e pos) (DW i gk g):=.of fun ρ=>by
 refine zR (K5 hu (oY hN hv hd I) (hk ρ) (h ρ) hs) fun D U H M=>?_
 obtain ⟨Y,u,la,Hs,f,q⟩:=M
 replace q:pj c.X.K c.cls c.E Y u la D (DW i gk g ρ):=q
 unfold DW at q
 split at q
 ·rename_i kvs ho
  obtain ⟨a,o,k1,k2,k3,k4,k5⟩:=f.ow i _ ho
  have j:∀ {H:Hp}{Q:List (eC×V)},Fr c.X.K Y u la ρ U H Hs->H a=some (.dK Q)->RDk c.X.K Hs Q kvs->Uw (LU i) (TR c.X.K c.cls c.E ρ (gk ρ)) (TR c.X.K c.cls c.E ρ (g ρ)) D U H:=fun {H Q} f k2 r=>by
   refine sE f q fun d v S l s G m O=>?_
   rw [s,bind_ok] at q
   refine ⟨_,k1,sE m q fun y w H2 b B t L P=>?_⟩
   rw [B,bind_ok] at q
   split at q
   ·rename_i ky hy
    obtain rfl:=wc hy
    by_cases T:kvs.length<1000/\iH kvs=true
    ·rw [if_pos T] at q
     have ha:=t.all _ _ (G.all _ _ k2)
     have r':=(r.same G.sh).same t.sh
     rw [DX P]
     exact ⟨a,_,rfl,Fj.k ha (cK (by rw [r.length];omega)),q _ _ b (L.write i ho k1 (.dK (r'.put ky (O.same t.sh))))⟩
    ·rw [if_neg T] at q;exact q.elim
   ·exact q.elim
  cases k5 with
  |dK r=>exact j f k2 r
  |dT n r =>
   refine sE f q fun d v S l s G m O=>?_
   rw [s,bind_ok] at q
   refine ⟨_,k1,sE m q fun y w H2 b B t L P=>?_⟩
   rw [B,bind_ok] at q
   split at q
   ·rw [if_neg (fun z=>n (r.flat z.2).1)] at q;exact q.elim
   ·exact q.elim
  |dF n r =>
   refine sE f q fun d v S l s G m O=>?_
   rw [s,bind_ok] at q
   refine ⟨_,k1,sE m q fun y w H2 b B t L P=>?_⟩
   rw [B,bind_ok] at q
   split at q
   ·rw [if_neg (fun z=>by cases z.2)] at q;exact q.elim
   ·exact q.elim
 ·exact q.elim
def md (kvs:List (D×D)) (k:D):Option D:=(kvs.find? fun a=>bq a.1 k).map (·.2)
theorem RDk.val : ∀ {kvs:List (eC×V)}{ds:List (D×D)},RDk K H kvs ds->∀ (y:eC),(o_ kvs y=none/\md ds (kD y)=none)\/∃ v d,o_ kvs y=some v/\md ds (kD y)=some d/\RD K H v d
 |_,_,.nil,y=>.inl ⟨rfl,rfl⟩
 |_,_,.cons (k:=k) h t,y=>by
  unfold o_ md;rw [cj,cj,DV];by_cases a:k=y
  ·simp only [a,decide_true,da];exact .inr ⟨_,_,rfl,rfl,h⟩
  ·simp only [a,decide_false];exact RDk.val t y
def bj:D->D->R D
 |.dict kvs,k=>match pT k with
  |some _=>if iH kvs=true then (match md kvs k with
   |some d=>.ok d
   |none=>.no) else .no
  |none=>.no
 |x,k=>FO x k
theorem cw (M:c.X.A.units+1<gM) (B:JB c a ga) (E:JB c b gb) (hs:vL b:=by exact fun _ _=>rfl):JE c (.Subscript a b pos) (g2 ga gb bj):=.of fun ρ=>by
 by_cases g:∃ kvs,ga ρ=.ok (.dict kvs)
 ·obtain ⟨kvs,g⟩:=g;refine sj (K4 M (B ρ) (E ρ) hs) fun N H Q l=>?_;obtain ⟨H0,a0,la,Hs,f,q⟩:=l;refine one f q fun d v H1 S G z T Y=>?_;rw [g] at G;cases G;unfold g2 at q;rw [g,bind_ok] at q;refine one T (q.on z (q':=fun _=>True) fun _ _=>trivial) fun y w U s e2 I P x=>?_;rw [e2,bind_ok] at q;unfold bj at q;simp only at q;split at q
  ·rename_i t L
   obtain rfl:=wc L;by_cases i:iH kvs=true
   ·rw [if_pos i] at q;obtain ⟨p,rfl,h⟩:=(Y.step I).dict P.st.sub;have rk:w=kV t:=by
     rcases x with x|⟨_,o,rfl,_,_,ow⟩
     ·exact DX x
     ·cases t<;>cases ow
    subst rk;rcases h with ⟨K,m,j⟩|⟨K,m,hn,j⟩|⟨o,K,es,rfl,m,hn,j⟩
    ·rcases j.val t with ⟨_,n⟩|⟨u,d,n,h4,h5⟩
     ·rw [n] at q;exact q.elim
     ·rw [h4] at q;exact ⟨p,u,rfl,by rw [<- n];exact yC.k m,q _ U s (z.trans I) h5⟩
    ·exact (hn (j.flat i).1).elim
    ·cases i
   ·rw [if_neg i] at q;exact q.elim
  ·exact q.elim
 ·refine sj (Y0 B E hs ρ) fun N H Q q=>?_;have e:g2 ga gb bj ρ=g2 ga gb FO ρ:=by
   unfold g2;cases O:ga ρ with
   |ok d =>
    cases d with
    |dict kvs=>exact (g ⟨kvs,O⟩).elim
    |_=>rfl
   |_=>rfl
  rw [e] at q;exact q
def lQ:D->R D
 |.dict kvs=>if iH kvs=true then .ok (.list (kvs.map (·.1))) else .no
 |x=>Cj x
theorem FY : ∀ {kvs:List (eC×V)}{ds:List (D×D)},RDk K H kvs ds->RDs K H (kvs.map fun p=>kV p.1) (ds.map (·.1))
 |_,_,.nil=>.nil
 |_,_,.cons (k:=k) h t=>.cons (by cases k<;>constructor) (FY t)
theorem A4 (y:X.calm=true):Mm X (.type "list") (jn lQ):=by
 refine sy (fun d c n=>?_) fun b s p H x u Q Hs d d' I v sub k f q=>?_
 ·unfold lQ Cj;split<;>(try split)<;>(try split)<;>exact fun h=>by cases h
 ·by_cases w:∃ kvs,d=.dict kvs
  ·obtain ⟨kvs,rfl⟩:=w;unfold lQ at f;simp only at f;split at f
   ·rename_i t
    cases f;obtain ⟨a,rfl,⟨j,i,g⟩|⟨j,i,n,g⟩|⟨o,j,es,rfl,i,n,g⟩⟩:=k.dict sub
    ·exact zP y b s p H _ _ Q I (.cons v .nil) ⟨a,j,rfl,i,fun l m=>q _ _ _ (.new sub m) (.list (.of aS) ((FY g).same (cX.new sub m).sh))⟩
    ·exact (n (g.flat t).1).elim
    ·cases t
   ·cases f
  ·have e:lQ d=Cj d:=by
    cases d with
    |dict kvs=>exact (w ⟨kvs,rfl⟩).elim
    |_=>rfl
   rw [e] at f;exact (SQ (X:=X)).1 b s p H [x] [u] Q I (.cons v .nil) ⟨Hs,[d],sub,.cons k .nil,d',f,q⟩
section
open PyProof.Rows (envOfC)
section
variable {c:C}{e a b d:bZ}{g ga gb gc:aI->R D}{pos p cpos:Pos}{x:Str}
theorem Pe (hx:∀ x y c n,h x y≠.ex c n) (s:∀ x y c n,h' x y≠.ex c n) (q:TR K cls E ρ (sv ga gb gc h h' ρ) σ H Q) :
  Ix (rD K h) (rD K h') (TB K cls E ρ (ga ρ)) (TB K cls E ρ (gb ρ)) (TB K cls E ρ (gc ρ)) σ H Q:=by
 obtain ⟨H0,a0,la,Hs,f,q⟩:=q;refine one f q fun x v H1 T e1 l f1 r1=>?_;unfold sv at q;rw [e1,bind_ok] at q;refine one f1 (q.on l (q':=fun _=>True) fun _ _=>trivial) fun y u H2 I e2 o M N=>?_;rw [e2,bind_ok] at q;cases m:h x y with
 |ex c n=>exact (hx x y c n m).elim
 |no=>rw [m] at q;exact q.elim
 |ok z =>
  rw [m,bind_ok] at q;refine ⟨I,x,y,M.st.sub,r1.step o,N,z,m,fun w Y A j r3=>?_⟩;cases r3 with
  |bool k =>
   refine ⟨k,rfl,?_⟩;have X:=M.step j;cases k with
   |false=>exact Bk (q _ Y A (l.trans (o.trans j)) (.bool _))
   |true =>
    refine Ff (one X (q.on (l.trans (o.trans j)) (q':=fun _=>True) fun _ _=>trivial) fun t u' H4 G P L O U=>?_);simp only [P,bind_ok] at q;cases i:h' y t with
    |ex c n=>exact (s y t c n i).elim
    |no=>rw [i] at q;exact q.elim
    |ok z' =>
     rw [i] at q;exact ⟨G,y,t,O.st.sub,(N.step j).step L,U,z',i,fun w H5 B S r5=>q w H5 B (l.trans (o.trans (j.trans (L.trans S)))) r5⟩
  |none=>exact q.elim
  |int _=>exact q.elim
  |str _=>exact q.elim
  |list _ _=>exact q.elim
  |tuple _ _=>exact q.elim
  |dictK _ _=>exact q.elim
  |dictT _ _ _=>exact q.elim
  |dictF _ _ _=>exact q.elim
theorem FZ (ho:x_ c.X (bG op) h) (f:x_ c.X (bG op') h') (k:JB c a ga) (l:JB c b gb) (j:JB c d gc) (i:Nl [op,op'] [b,d]=false:=by with_unfolding_all rfl):JE c (.Compare a [op,op'] [b,d] pos) (sv ga gb gc h h') :=
 .of fun ρ=>sj (Oa ho.1 f.1 (k ρ) (l ρ) (j ρ) i) fun m H Q q=>Pe ho.2 f.2 q
theorem Pf (ho:x_ c.X (bG op) h) (f:x_ c.X (bG op') h') (k:JB c a ga) (l:JB c b gb) (j:JB c d gc) (i:Nl [op,op'] [b,d]=false:=by with_unfolding_all rfl):JT c (.Compare a [op,op'] [b,d] pos) (i3 (sv ga gb gc h h')) :=
 .of fun ρ=>XV (Ob ho.1 f.1 (k ρ) (l ρ) (j ρ) i) fun m H Q q=>Pe ho.2 f.2 (XX q)
def Wd:D->R D
 |.int i=>.ok (.int (-i))
 |_=>.no
def DY (g:aI->R D):aI->R D:=fun ρ=>(g ρ).bind Wd
theorem IV (h:JE c e g):JE c (.UnaryOp .USub e pos) (DY g):=.of fun ρ=>sj (Xr VO (h ρ)) fun t H Q j=>by
 obtain ⟨u,s,la,Hs,f,q⟩:=j;refine zS f q fun d v m k n l w o=>?_;unfold DY at q;rw [n,bind_ok] at q;cases o with
 |int i=>exact ⟨i,rfl,q _ m k l (.int _)⟩
 |_=>exact q.elim
inductive Ya (K:a8) (w:bQ) (cls:Str->aj) (E:XK) (ρ:aI) (r:R (List Str)) (σ:St) (H:Hp) (Q:VK):Prop
 |mk (H0 Hs0:Hp) (la:Nat->Option aj) (Hs:Hp) (f:Fr K H0 Hs0 la ρ σ H Hs) (q:Fin K cls E H Hs r fun ss=>∀ p H' Hs',cX H Hs H' Hs'->H' p=none->Q (.ref p) (upd H' p (mL w p ss))):Ya K w cls E ρ r σ H Q
def Zl (K:a8) (w:bQ) (cls:Str->aj) (E:XK) (ρ:aI) (r:R (List Str)):TE:=Ya K w cls E ρ r
structure S_ (c:C) (e:bZ) (g:aI->R (List Str)):Prop where of ::
 run:∀ ρ,PE c.X e (Zl c.X.K c.X.w c.cls c.E ρ (g ρ))
instance {c:C}{e:bZ}{g:aI->R (List Str)}:CoeFun (S_ c e g) (fun _=>∀ ρ,PE c.X e (Zl c.X.K c.X.w c.cls c.E ρ (g ρ))):=⟨S_.run⟩
theorem Km {K:a8}{w:bQ}{cls:Str->aj}{E:XK}{ρ:aI}{r:R (List Str)}{t:Type}{k:List Str->R t}{l:St}{H:Hp}{o j Hs:Hp}{la:Nat->Option aj}{Q:V->Hp->Prop}{q:t->Prop} (f:Fr K o j la ρ l H Hs)
  (h:Fin K cls E H Hs (r.bind k) q) (m:∀ u p H' i,r=.ok u->cX H Hs H' i->Fr K o j la ρ l H' i->H' p=none->Q (.ref p) (upd H' p (mL w p u))):Zl K w cls E ρ r l H Q:=by
 refine ⟨o,j,la,Hs,f,?_⟩;cases r with
 |ok d=>exact fun p H' i s n=>m d p H' i rfl s (f.step s) n
 |ex c n=>exact h
 |no=>exact h
variable {gset:aI->R (List Str)}
def uR:D->R (List Str)
 |.list ds=>match fD ds with
  |some f=>if f.length<60 then .ok (dJ [] f) else .no
  |none=>.no
 |.tuple ds=>match fD ds with
  |some f=>if f.length<60 then .ok (dJ [] f) else .no
  |none=>.no
 |_=>.no
def qv (g:aI->R D):aI->R (List Str):=fun ρ=>(g ρ).bind uR
theorem DZ (A:c.X.calm=true) (h:JB c e g) (n:Gl c.X "set") (t:c.X.mg "set"=none) (he:az [e] c.X.env=(false,dO e c.X.env)::az [] c.X.env:=by rfl) :
  S_ c (.Call (.Name "set" p) [e] [] cpos) (qv g):=.of fun ρ=>by
 refine sj (xk (FC A) n t PyProof.Rows.boot_set (ck (h ρ) fB he) (he:=he)) fun I H Q o=>?_;obtain ⟨K,E,la,Hs,f,q⟩:=o;refine one f q fun d v w k B u y z=>?_;unfold qv at q;rw [B,bind_ok] at q;unfold uR at q;split at q
 ·split at q
  ·rename_i l hs
   by_cases i:l.length<60
   ·rw [if_pos i] at q;obtain ⟨a,G,rfl,j,m⟩:=z.list y.st.sub;rw [ou hs] at m;rw [mO m] at j;exact ⟨a,l,rfl,.inl j,aC (LK i 1) (by decide),fun p s=>q p w k u s⟩
   ·rw [if_neg i] at q;exact q.elim
  ·exact q.elim
 ·split at q
  ·rename_i l hs
   by_cases i:l.length<60
   ·rw [if_pos i] at q;obtain ⟨a,G,rfl,j,m,_⟩:=z.tuple y.st.sub;rw [ou hs] at m;rw [mO m] at j;exact ⟨a,l,rfl,.inr j,aC (LK i 1) (by decide),fun p s=>q p w k u s⟩
   ·rw [if_neg i] at q;exact q.elim
  ·exact q.elim
 ·exact q.elim
def mf (g:aI->R (List Str)):aI->R D:=fun ρ=>(g ρ).bind fun f=>if f.length<64 then .ok (.list ((kP f).map .str)) else .no
theorem uS (u:c.X.calm=true) (h:S_ c e gset) (B:Gl c.X "sorted") (y:c.X.mg "sorted"=none) (he:az [e] c.X.env=(false,dO e c.X.env)::az [] c.X.env:=by rfl) :
  JE c (.Call (.Name "sorted" p) [e] [] cpos) (mf gset):=.of fun ρ=>by
 refine sj (pQ (yD u) B y eR (ck (h ρ) fB he) (he:=he)) fun G H Q k=>?_;obtain ⟨I,E,la,Hs,f,q⟩:=k;dsimp only [L2.X7,L2.F7,L2.Oe];refine Km (w:=c.X.w) f q fun n p o i A s z v=>?_;unfold mf at q;rw [A,bind_ok] at q;by_cases m:n.length<64
 ·rw [if_pos m] at q;have j:cX o i (upd o p (mL c.X.w p n)) i:=.mine z.st.sub v;exact ⟨p,n,rfl,aS,m,fun l t=>q _ _ _ (s.trans (j.trans (.new j.sub t))) (.list (.of aS) (vZ _))⟩
 ·rw [if_neg m] at q;exact q.elim
def we (g:aI->R (List Str)):aI->R D:=fun ρ=>(g ρ).bind fun f=>.ok (.int f.length)
theorem Mr (h:S_ c e gset) (v:Gl c.X "len") (s:c.X.mg "len"=none) (he:az [e] c.X.env=(false,dO e c.X.env)::az [] c.X.env:=by rfl) :
  JE c (.Call (.Name "len" p) [e] [] cpos) (we gset):=.of fun ρ=>by
 refine sj (pQ Br v s cA (ck (h ρ) fB he) (he:=he)) fun z H Q j=>?_;obtain ⟨A,y,la,Hs,f,q⟩:=j;dsimp only [L2.X7,L2.F7,L2.Oe];refine Km (w:=c.X.w) f q fun m p l i u n t o=>?_;unfold we at q;rw [u,bind_ok] at q;have k:cX l i (upd l p (mL c.X.w p m)) i:=.mine t.st.sub o;exact ⟨p,m,rfl,aS,q _ _ _ (n.trans k) (.int _)⟩
variable {elt iter tg:bZ}{ifs:List bZ}{scope:i5}{N':List Str}{nt:Nat}{ix:List Nat}{gi:aI->R (List D)}{gt:aI->R Bool}{ge:aI->R D}
def xu (nt:Nat) (ix:List Nat) (gi:aI->R (List D)) (gt:aI->R Bool) (ge:aI->R D):aI->R (List Str):=fun ρ=>(gi ρ).bind fun ds=>if ds.length<=60 then (ip (jI nt (pS nt ix ρ) gt ge) ds).bind fun ys=>match fD ys with
 |some f=>.ok (dJ [] f)
 |none=>.no else .no
theorem By : ∀ {f:List Str},fD (xs++ys)=some f->∃ i j,fD xs=some i/\fD ys=some j/\f=i++j:=by
 induction xs with
 |nil=>intro f h;exact ⟨[],f,rfl,h,rfl⟩
 |cons d r l =>
  intro f h;cases d with
  |str b =>
   have h:(fD (r++ys)).map (b::·)=some f:=h;cases k:fD (r++ys) with
   |none=>rw [k] at h;cases h
   |some z =>
    rw [k] at h;cases h;obtain ⟨i,j,m,n,rfl⟩:=l k;exact ⟨b::i,j,by show (fD r).map (b::·)=_;rw [m];rfl,n,rfl⟩
  |_=>cases h
theorem A5 (z:Str):∀ (l f:List Str),dJ f (l++[z])=if z∈dJ f l then dJ f l else dJ f l++[z]
 |[],f=>rfl
 |x::l,f=>by
  show dJ _ (l++[z])=_;rw [A5 z l];rfl
inductive scI (f:D->R (Option D)) (ds:List D) (ss:List Str) (H1 Hs1:Hp) (i m:Nat) (acc:List Str) (H':Hp):Prop
 |mk (done c7 zs sa sz Hs':_) (h0:ds=done++c7) (h1:done.length=i) (h2:c7.length=m) (h3:cX H1 Hs1 H' Hs') (h4:acc=dJ [] sa) (h5:sa.length<=i) (h6:ip f c7=.ok zs) (h7:fD zs=some sz) (h8:ss=sa++sz):scI f ds ss H1 Hs1 i m acc H'
theorem T2 (a0:nt=1\/nt=2)
  (q:Zl K w cls E ρ (xu nt ix gi gt ge ρ) B H Q) :
  OU w nt ix (Zj K cls E ρ (gi ρ)) (Mq K nt) (fun B H Q=>∃ j,Mj K cls E0 j (gt j) B H Q) (fun B H Q=>∃ j,TR K cls E0 j (ge j) B H Q) B H Q:=by
 obtain ⟨H0,b0,la,Hs,f,q⟩:=q;refine ⟨H0,b0,la,Hs,f,?_⟩;unfold xu at q;cases hi:gi ρ with
 |no=>rw [hi] at q;exact q
 |ex x n=>rw [hi] at q;exact q
 |ok ds =>
  rw [hi,bind_ok] at q;intro J H1 P Hn s1 sn it;by_cases hl:ds.length<=60
  ·rw [if_pos hl] at q;cases Y:ip (jI nt (pS nt ix ρ) gt ge) ds with
   |no=>rw [Y] at q;exact q.elim
   |ex x n=>exact (A1 (FV _ _ _ _) _ _ _ Y).elim
   |ok ys =>
    rw [Y,bind_ok] at q;cases hs:fD ys with
    |none=>rw [hs] at q;exact q.elim
    |some ss =>
     rw [hs] at q;obtain ⟨lb,fb⟩:=(f.step s1).block nt ix;refine ⟨scI (jI nt (pS nt ix ρ) gt ge) ds ss H1 P,
      ⟨ds.length,[],ds,ys,[],ss,P,rfl,rfl,rfl,.refl s1.sub,rfl,cG _,Y,hs,rfl⟩,?_⟩
     rintro i m b7 H' ⟨done,c7,zs,u,sz,S,l,s,T,st,rfl,yl,hz,I,U⟩;obtain ⟨a6,t,A⟩:=it H' S (sn.trans st.all) st.sh st.sub;cases c7 with
     |nil =>
      left;cases hz;cases I;rw [bT] at l U;subst U l;exact ⟨t i (by omega),fun p hp=>q p H' S (s1.trans st) hp⟩
     |cons d c7 =>
      right;have N:i<ds.length:=by rw [l,aO,aW];omega
      have a4:=gQ u [];simp at a4;refine ⟨a6 i N,wT (show (dJ [] u).length+1<=61 by omega) (by decide),fun x H2 a3=>?_⟩;obtain ⟨d',a2,hd,s2,r2⟩:=A i x H2 N a3;have a5:d'=d:=by
       rw [l,br (by omega)] at hd;simp [s] at hd;exact hd.symm
      subst a5;obtain ⟨o,G,k,O,rfl⟩:=z_ hz;have k:=Kj k;obtain ⟨so,L,h,hsz,rfl⟩:=By I;cases X:Y8 nt d' (pS nt ix ρ) with
      |no=>rw [X] at k;cases k
      |ex x n=>rw [X] at k;cases k
      |ok j =>
       rw [X,bind_ok] at k;refine FU a0 ((fb.step st).step s2) r2 X fun b6 f2=>⟨j,?_⟩;refine ⟨_,_,_,a2,f2,?_⟩;cases ht:gt j with
       |no=>rw [ht] at k;cases k
       |ex x n=>rw [ht] at k;cases k
       |ok b =>
        rw [ht,bind_ok] at k;intro H3 M s3;cases b with
        |false =>
         rw [if_neg a_] at k;cases k;cases h;refine Bk ⟨c7.length,by rw [<- T];simp,done++[d'],c7,G,u,L,M,by rw [l];simp,by simp [s],rfl,(st.trans s2).trans s3,rfl,by omega,O,hsz,by simpa using U⟩
        |true =>
         rw [if_pos rfl] at k;refine Ff ⟨j,_,_,_,M,f2.step s3,?_⟩;cases he:ge j with
         |no=>rw [he] at k;cases k
         |ex x n=>rw [he] at k;cases k
         |ok y =>
          rw [he,bind_ok] at k;cases k;intro v H4 a1 s4 r4;cases r4 with
          |str z =>
           cases h;exact ⟨z,c7.length,rfl,by rw [<- T];simp,done++[d'],c7,G,u++[z],L,a1,by rw [l];simp,by simp [s],rfl,((st.trans s2).trans s3).trans s4,(A5 z u []).symm,by simp;omega,O,hsz,by rw [U];simp⟩
          |none=>cases h
          |bool _=>cases h
          |int _=>cases h
          |list _ _=>cases h
          |tuple _ _=>cases h
          |dictK _ _=>cases h
          |dictT _ _ _=>cases h
          |dictF _ _ _=>cases h
  ·rw [if_neg hl] at q;exact q.elim
theorem Pg (nt:Nat) (f:nt=1\/nt=2) (h:c.X.calm=true) (S:pc c.X scope N' nt ix) (i:JI c tg iter gi) (j:w9 c N' scope nt tg ifs elt gt ge) (hs:∀ x,eV iter c.X.env x=pure x:=by intro _;rfl) :
  S_ c (.SetComp elt [⟨tg,iter,ifs,0⟩] scope pos) (xu nt ix gi gt ge):=.of fun ρ=>sj (IN h S (DS f) (i ρ) j.at hs) fun k H Q q=>T2 f q
end
def bX (n:Nat) (ds:List D):aI:=ds.map Sl.shr++o6 (n-ds.length) Sl.no
def gz (n:Nat) (g:aI->R Fl):List D->R D:=fun ds=>match g (bX n ds) with
 |.ok (.nx _)=>.ok .none
 |.ok (.rt d)=>.ok d
 |.ex c m=>.ex c m
 |_=>.no
theorem A6 {n:Nat}{ds:List D}{i:Nat}{s:Sl} (h:(bX n ds)[i]?=some s):(∃ d,ds[i]?=some d/\s=.shr d)\/s=.no:=by
 unfold bX at h;by_cases b:i<ds.length
 ·rw [bi (by simpa using b),aF] at h;cases a:ds[i]? with
  |none=>rw [a] at h;cases h
  |some z=>rw [a] at h;cases h;exact .inl ⟨z,rfl,rfl⟩
 ·rw [br (by simp;omega),bW] at h;split at h<;>cases h;exact .inr rfl
theorem Ms {N:List Str}{a:List V}{i:Nat}{v:V} (h:a[i]?=some v):(L2.start N a)[i]?=some (some v):=by
 unfold L2.start;have b:i<a.length:=(List.getElem?_eq_some_iff.mp h).1;rw [bi (by simpa using b),aF,h];rfl
theorem Fr.start {K : a8} {H Hs : Hp} {N : List Str} {b : List V} {ds : List D} (sub : dD Hs H) (r : RDs K Hs b ds) : Fr K H Hs (fun _ => none) (bX N.length ds) (L2.start N b) H Hs := by
  have c := r.length;refine ⟨.refl sub, by simp [bX, L2.start, c], fun i d h => ?_, fun i d h => ?_, fun i d h => ?_, fun i j d e a h _ _ _ => ?_, fun i a h => (nomatch h), fun i d h => ?_, fun i j d e h _ => ?_⟩
  · rcases A6 h with ⟨z, f, e⟩ | e
    · cases e;obtain ⟨v, k1, k2⟩ := r.get' f;exact ⟨v, Ms k1, k2⟩
    · cases e
  all_goals (rcases A6 h with ⟨z, _, e⟩ | e <;> cases e)
theorem UL (F:Fe K x qual st f fd) (S:bM N ps (ay st))
  (h:∀ (a:ac) (A:cf) (outer:List Env) (s:ao) (H:Hp) (E:XK),jO k (A.deeper (jZ qual (ay st) s.heap.objs.size f a))->Kg ⟨j_ (mM P w) P w K mg base N qual (ay st) f a A outer s H E,cls,E⟩ (i6 st) g) :
  qo P w K mg base (mM P w) (k+1) f fd ps (P6 K cls ps.length (gz N.length g)):=by
 obtain ⟨L,O,kV,p,I,M,a,ct,y,rfl,z,i⟩:=F.ex;refine Um z i S (fun G H Q E j=>by obtain ⟨Hs,ds,sub,o,r,q⟩:=j;exact by rw [r.length];exact o) fun A outer s H G Q E u l=>?_;obtain ⟨Hs,ds,sub,o,r,q⟩:=l;refine ⟨_,h a A outer s H E u (bX N.length ds),H,Hs,_,Hs,Fr.start sub r,?_⟩;unfold gz at q;cases m:g (bX N.length ds) with
 |no=>rw [m] at q;exact q
 |ex c n=>rw [m] at q;exact q
 |ok t =>
  rw [m] at q;cases t with
  |nx e=>exact fun σ' H' b B=>q .non H' b B.st .none
  |rt d=>exact fun v H' b s r=>q v H' b s r
  |bk e=>exact q.elim
  |ct e=>exact q.elim
theorem Yb (F:Fe K x qual st f fd) (S:bM N ps (ay st)) (b:mg x=some (.ref f)) (c:jG K fd ps [])
  (h:∀ (a:ac) (A:cf) (outer:List Env) (s:ao) (H:Hp) (E:XK),jO k (A.deeper (jZ qual (ay st) s.heap.objs.size f a))->Kg ⟨j_ (mM P w) P w K mg base N qual (ay st) f a A outer s H E,cls,E⟩ (i6 st) g) :
  Fn P w K mg base cls x (k+1) ps.length (gz N.length g):=⟨f,fd,ps,UL F S h,b,F.kp,c⟩
theorem fE:kO (mM X.prog X.w) X E0:=fun _ _ _ _ _ _ _ h=>by
 obtain ⟨_,_,_,_,_,_,_,_,_,q⟩:=h;exact q.elim
end
def clear2 (ρ:aI):aI:=ρ.map fun s=>match s with
 |.ow2 _=>.no
 |s=>s
theorem Fr.clear2 (f:Fr K H0 Hs0 la ρ σ H Hs):Fr K H0 Hs0 la (clear2 ρ) σ H Hs/\∀ (j:Nat) (d:List (List D)),¬ (J.clear2 ρ)[j]?=some (Sl.ow2 d):=by
 have un:∀ {j:Nat}{s:Sl},(J.clear2 ρ)[j]?=some s->(∀ d,s≠.ow2 d)/\(ρ[j]?=some s\/s=.no):=fun {j s} e=>by
  unfold J.clear2 at e;rw [aF] at e;cases h:ρ[j]? with
  |none=>rw [h] at e;cases e
  |some t =>
   rw [h] at e;cases t with
   |ow2 d=>cases e;exact ⟨fun _ z=>(by cases z),.inr rfl⟩
   |no=>cases e;exact ⟨fun _ z=>(by cases z),.inl rfl⟩
   |shr d=>cases e;exact ⟨fun _ z=>(by cases z),.inl rfl⟩
   |lck d=>cases e;exact ⟨fun _ z=>(by cases z),.inl rfl⟩
   |own d=>cases e;exact ⟨fun _ z=>(by cases z),.inl rfl⟩
 have c:∀ {j:Nat}{s:Sl},s≠.no->(J.clear2 ρ)[j]?=some s->ρ[j]?=some s:=fun {j s} n e=>(un e).2.resolve_right n;have b:∀ (j:Nat) (d:List (List D)),¬ (J.clear2 ρ)[j]?=some (Sl.ow2 d):=fun j d e=>(un e).1 d rfl;exact ⟨⟨f.st,by simp [J.clear2,f.len],fun j d h=>f.sh j d (c (fun z=>by cases z) h),fun j d h=>f.ow j d (c (fun z=>by cases z) h),fun j d h=>f.lk j d (c (fun z=>by cases z) h),fun j k d e a g i=>f.dj j k d e a (c (fun z=>by cases z) g) (c (fun z=>by cases z) i),f.lh,fun j d h=>(b j d h).elim,fun j k d e h _=>(b j d h).elim⟩,b⟩
def sC:List aj->Hp->Hp
 |[],H=>H
 |a::b,H=>sC b (upd H a (.lst []))
theorem A7:∀ (c:List aj) (H:Hp),(∀ a∈c,H a=none)->c.Nodup->dD H (sC c H)
 |[],H,_,_=>.refl H
 |a::c,H,h,e=>by
  obtain ⟨f,g⟩:=List.nodup_cons.mp e;refine (jQ (h a al)).trans (A7 c _ (fun b d=>?_) g);rw [aV (fun (z:b=a)=>f (z ▸ d))];exact h b (ag _ d)
theorem F_:∀ (d:List aj) (H:Hp),d.Nodup->∀ a∈d,sC d H a=some (.lst [])
 |a::d,H,i,b,k=>by
  obtain ⟨l,j⟩:=List.nodup_cons.mp i;show sC d (upd H a (.lst [])) b=_;by_cases f:b∈d
  ·exact F_ d _ j b f
  ·have e:b=a:=(List.mem_cons.mp k).resolve_right f;subst e;have:∀ (d:List aj) (H:Hp),b∉d->sC d H b=H b:=by
    intro d;induction d with
    |nil=>intro H _;rfl
    |cons c d g =>
     intro H h;show sC d (upd H c (.lst [])) b=_;rw [g _ (fun z=>h (ag _ z)),aV (fun (z:b=c)=>h (by rw [z];exact al))]
   rw [this d _ f,aS]
theorem nu:∀ (d:List aj) (H:Hp) (b:aj),sC d H b=none->H b=none/\b∉d
 |[],H,b,h=>⟨h,by simp⟩
 |a::d,H,b,h=>by
  obtain ⟨c,f⟩:=nu d (upd H a (.lst [])) b h;by_cases e:b=a
  ·subst e;rw [aS] at c;cases c
  ·rw [aV e] at c;exact ⟨c,fun z=>(List.mem_cons.mp z).elim e f⟩
def T3 (i:Nat):aI->R Fl:=fun ρ=>.ok (.nx ((clear2 ρ).set i (.ow2 [[],[],[],[]])))
theorem We (i:Nat) (hN:c.X.N.Nodup) (A:c.X.N[i]?=some x:=by rfl) (hx:Ue c.X.env.scope x:=by first|exact hZ rfl|exact eF rfl)
  (hs:iO (.List [.List [] p1,.List [] p2,.List [] p3,.List [] p4] p) (some (.Name x pos')) spos.line c.X.env=pure false:=by rfl)
  (hf:c.X.fn x=true\/c.X.env.scope.names.lookup x=some .local:=by first|exact .inl rfl|exact .inr rfl|assumption)
  (y:az [.List [] p1,.List [] p2,.List [] p3,.List [] p4] c.X.env=(false,dO (.List [] p1) c.X.env)::az [.List [] p2,.List [] p3,.List [] p4] c.X.env:=by rfl)
  (G:az [.List [] p2,.List [] p3,.List [] p4] c.X.env=(false,dO (.List [] p2) c.X.env)::az [.List [] p3,.List [] p4] c.X.env:=by rfl)
  (P:az [.List [] p3,.List [] p4] c.X.env=(false,dO (.List [] p3) c.X.env)::az [.List [] p4] c.X.env:=by rfl)
  (Q:az [.List [] p4] c.X.env=(false,dO (.List [] p4) c.X.env)::az [] c.X.env:=by rfl) :
  JS c (.Assign [.Name x pos'] (.List [.List [] p1,.List [] p2,.List [] p3,.List [] p4] p) spos) (T3 i):=.of fun ρ=>by
 refine zR (Do hN A hx (oZ (ck (oZ fB) (ck (oZ fB) (ck (oZ fB) (ck (oZ fB) fB Q) P) G) y)) hs hf) fun D σ H U=>?_;obtain ⟨H0,a5,la,Hs,f,q⟩:=U;replace q:pj c.X.K c.cls c.E H0 a5 la D (T3 i ρ):=q;obtain ⟨f,L⟩:=f.clear2;refine ⟨cG _,fun g n1=>⟨cG _,fun l n2=>⟨cG _,fun m n3=>⟨cG _,fun u n4=>⟨bw (cK (show 4<=1000 by decide)),fun a n=>?_⟩⟩⟩⟩⟩;have N:=nu [g,l,m,u] H a n;have M:=nu [g,l,m] H u n4;have T:=nu [g,l] H m n3;have N2:=nu [g] H l n2;simp only [aN,aZ,or_false,not_or] at N M T N2;have Y:[g,l,m,u].Nodup:=by
  simp only [iX,aN,aZ,or_false,not_or,gC,and_true,not_false_eq_true];exact ⟨⟨cV N2.2,cV T.2.1,cV M.2.1⟩,⟨cV T.2.2,cV M.2.2.1⟩,cV M.2.2.2⟩
 have free:∀ b∈[g,l,m,u],H b=none:=fun b w=>by
  simp only [aN,aZ,or_false] at w;rcases w with rfl|rfl|rfl|rfl
  ·exact n1
  ·exact N2.1
  ·exact T.1
  ·exact M.1
 have O:(a::[g,l,m,u]).Nodup:=List.nodup_cons.mpr ⟨by simp only [aN,aZ,or_false,not_or];exact N.2,Y⟩;have sm:dD H (sC [g,l,m,u] H):=A7 _ _ free Y;have all:dD H (upd (sC [g,l,m,u] H) a (.lst [.ref g,.ref l,.ref m,.ref u])):=sm.trans (jQ n);have v:∀ b∈a::[g,l,m,u],H b=none:=fun b w=>(List.mem_cons.mp w).elim (fun z=>z ▸ N.1) (free b);have st:cX H Hs (upd (sC [g,l,m,u] H) a (.lst [.ref g,.ref l,.ref m,.ref u])) Hs:=⟨all,.refl _,f.st.sub.trans all,fun _ _ _ _ z=>z⟩;have B:=f.step st;have hl:i<σ.length\/¬ i<σ.length:=Decidable.em _;have nx:∀ {j:Nat}{s:Sl},(∀ d,s≠.ow2 d)->((clear2 ρ).set i (.ow2 [[],[],[],[]]))[j]?=some s->(clear2 ρ)[j]?=some s/\i≠j:=fun {j s} hs e=>by
  by_cases t:i=j
  ·subst t;by_cases A:i<(clear2 ρ).length
   ·rw [aJ A] at e;exact absurd (bR e).symm (hs _)
   ·rw [cQ (by simpa using A)] at e;cases e
  ·rw [ak t] at e;exact ⟨e,t⟩
 refine q _ _ Hs ⟨B.st,by simp [B.len],fun j d h=>?_,fun j d h=>?_,fun j d h=>?_,fun j k d d' b y G P Q=>?_,B.lh,fun j d h=>?_,fun j k d d' y G=>?_⟩
 ·obtain ⟨h,t⟩:=nx (fun _ z=>by cases z) h;rw [ak t];exact B.sh j d h
 ·obtain ⟨h,t⟩:=nx (fun _ z=>by cases z) h;rw [ak t];exact B.ow j d h
 ·obtain ⟨h,t⟩:=nx (fun _ z=>by cases z) h;rw [ak t];exact B.lk j d h
 ·obtain ⟨y,t⟩:=nx (fun _ z=>by cases z) y;obtain ⟨G,I⟩:=nx (fun _ z=>by cases z) G;rw [ak t] at P;rw [ak I] at Q;exact B.dj j k d d' b y G P Q
 ·by_cases t:i=j
  ·subst t;by_cases A:i<(clear2 ρ).length
   ·rw [aJ A] at h;cases h;have a0:=F_ [g,l,m,u] H Y;have ne:∀ b∈[g,l,m,u],b≠a:=fun b w z=>(List.nodup_cons.mp O).1 (z ▸ w);have S:∀ b∈[g,l,m,u],upd (sC [g,l,m,u] H) a (.lst [.ref g,.ref l,.ref m,.ref u]) b=some (.lst []):=fun b w=>by rw [aV (ne b w)];exact a0 b w
    refine ⟨a,[g,l,m,u],aJ (by rw [<- B.len];exact A),aS,O,fun b w=>⟨f.st.sub.free (v b w),f.st.all.free (v b w)⟩,fun b w k e I=>?_,.cons (S _ (by simp)) .nil (.cons (S _ (by simp)) .nil (.cons (S _ (by simp)) .nil (.cons (S _ (by simp)) .nil .nil)))⟩;obtain ⟨I,nk⟩:=nx (fun _ z=>by cases z) I;rw [ak nk];intro z;obtain ⟨b',o,k1,k2,_⟩:=f.ow k e I;rw [z] at k1;cases k1;rw [v b w] at k2;cases k2
   ·rw [cQ (by simpa using A)] at h;cases h
  ·rw [ak t] at h;exact (L j d h).elim
 ·by_cases t:i=j
  ·by_cases I:i=k
   ·exact t.symm.trans I
   ·rw [ak I] at G;exact (L k d' G).elim
  ·rw [ak t] at y;exact (L j d y).elim
theorem Ph (h:JS c st gs):JS c st (fun ρ=>gs (dS ρ)):=.of fun ρ=>zR (h (dS ρ)) fun D i H a=>by
 obtain ⟨e,d,la,Hs,f,q⟩:=a;obtain ⟨b,g⟩:=f.shared;exact ⟨e,d,la,b,g,q⟩
def shareAt (i:Nat) (ρ:aI):aI:=match ρ[i]? with
 |some (Sl.own d)=>ρ.set i (.shr d)
 |_=>ρ
theorem Fr.shareAt (f:Fr K H0 Hs0 la ρ σ H Hs) (i:Nat):∃ G,Fr K H0 Hs0 la (J.shareAt i ρ) σ H G:=by
 unfold J.shareAt;split
 ·rename_i d ho
  obtain ⟨a,o,k1,k2,k3,M,k5⟩:=f.ow i d ho;have n:i<ρ.length:=(List.getElem?_eq_some_iff.mp ho).1;have m:dD Hs (upd Hs a o):=jQ k3;have nx:∀ {j:Nat}{s:Sl},(∀ d,s≠.shr d)->(ρ.set i (.shr d))[j]?=some s->ρ[j]?=some s/\i≠j:=fun {j s} hs e=>by
   by_cases g:i=j
   ·subst g;rw [aJ n] at e;exact absurd (bR e).symm (hs d)
   ·rw [ak g] at e;exact ⟨e,g⟩
  have ne:∀ (j:Nat) (e:D) (b:aj),i≠j->ρ[j]?=some (Sl.own e)->σ[j]?=some (some (V.ref b))->b≠a:=fun j e b g h w z=>by
   subst z;exact g (f.dj i j d e b ho h k1 w)
  refine ⟨upd Hs a o,⟨f.st.all,f.st.sh.trans m,fun b u e=>?_,fun b u e t z=>?_⟩,by simp [f.len],fun j e h=>?_,fun j e h=>?_,fun j e h=>?_,fun j k A B b y I N Q=>?_,f.lh,fun j e h=>?_,fun j k A B y I=>?_⟩
  ·by_cases w:b=a
   ·subst w;rw [aS] at e;cases e;exact k2
   ·rw [aV w] at e;exact f.st.sub b u e
  ·rw [aV (bh e M)];exact f.st.out b u e t z
  ·by_cases g:i=j
   ·subst g;rw [aJ n] at h;cases h;exact ⟨_,k1,k5.share k3⟩
   ·rw [ak g] at h;obtain ⟨v,l,q⟩:=f.sh j e h;exact ⟨v,l,q.same m⟩
  ·obtain ⟨h,g⟩:=nx (fun _ z=>by cases z) h;obtain ⟨b,u,l,q,L,E,x⟩:=f.ow j e h;exact ⟨b,u,l,q,by rw [aV (ne j e b g h l)];exact L,E,x.same m⟩
  ·obtain ⟨h,g⟩:=nx (fun _ z=>by cases z) h;obtain ⟨b,u,l,q,L,E,x,P⟩:=f.lk j e h;exact ⟨b,u,l,q,L,by rw [aV (bh x M)];exact E,x,P.same m⟩
  ·exact f.dj j k A B b (nx (fun _ z=>by cases z) y).1 (nx (fun _ z=>by cases z) I).1 N Q
  ·obtain ⟨h,g⟩:=nx (fun _ z=>by cases z) h;obtain ⟨b,T,O⟩:=f.o2 j e h;refine ⟨b,T,O.at_,O.ob,O.nd,fun c p=>⟨?_,(O.out c p).2⟩,fun c p k S U=>O.dj c p k S (nx (fun _ z=>by cases z) U).1,O.inn.step (.refl _) m⟩;rw [aV (fun z=>O.dj c p i d ho (by rw [z];exact k1))];exact (O.out c p).1
  ·exact f.u2 j k A B (nx (fun _ z=>by cases z) y).1 (nx (fun _ z=>by cases z) I).1
 ·exact ⟨Hs,f⟩
theorem IW (i:Nat) (h:JS c st gs):JS c st (fun ρ=>gs (shareAt i ρ)):=.of fun ρ=>zR (h (shareAt i ρ)) fun D j H a=>by
 obtain ⟨e,d,la,Hs,f,q⟩:=a;obtain ⟨b,g⟩:=f.shareAt i;exact ⟨e,d,la,b,g,q⟩
theorem Cg.get (h:Cg K H Hs as dss):∀ {j:Nat}{ds:List D},dss[j]?=some ds->∃ b a,as[j]?=some b/\H b=some (.lst a)/\RDs K Hs a ds:=by
 induction h with
 |nil=>intro j ds e;cases e
 |cons h r t c =>
  intro j ds e;cases j with
  |zero=>cases e;exact ⟨_,_,rfl,h,r⟩
  |succ j=>have q:=c (j:=j) e;exact q
theorem Cg.set (i:RDs K Hs vs' ds'):∀ {d:List aj}{c:List (List D)}{j:Nat}{b:aj},Cg K H Hs d c->d[j]?=some b->d.Nodup->Cg K (L2.upd H b (.lst vs')) Hs d (c.set j ds')
 |_,_,_,_,.nil,h,_=>by simp at h
 |_,_,0,b,.cons h r t,e,g=>by
  simp at e;subst e;exact .cons aS i (t.upd (List.nodup_cons.mp g).1)
 |_,_,j+1,b,.cons (a:=a) h r t,e,g=>by
  have f:_:=e;simp only [kK] at f;obtain ⟨k,l⟩:=List.nodup_cons.mp g;have m:b∈_:=cC f;exact .cons (by rw [aV (fun z=>k (by rw [z];exact m))];exact h) r (Cg.set i t f l)
def pU (i:Nat) (b g:aI->R D):aI->R Fl:=fun ρ=>match ρ[i]? with
 |some (Sl.ow2 a)=>(b ρ).bind fun k=>match k with
  |.int j=>if 0<=j then (match a[j.toNat]? with
   |some ds=>(g ρ).bind fun d=>if ds.length<1000 then .ok (.nx (ρ.set i (.ow2 (a.set j.toNat (ds++[d]))))) else .no
   |none=>.no) else .no
  |_=>.no
 |_=>.no
theorem A8 (i:Nat) (a3:JE c ie gi) (h:JE c e g) (hN:c.X.N[i]?=some x:=by rfl) (hv:Ny c.X.env.scope x:=by first|exact hZ rfl|exact eF (hZ rfl)|exact eF (eF rfl)) (hd:(x==("__debug__" : Str))=false:=by decide)
  (a0:(x==("__classdict__" : Str))=false:=by decide) (b6:vL ie:=by exact fun _ _=>rfl)
  (P:LC (.Subscript (.Name x p) ie p3) "append" c.X.env (dO (.Subscript (.Name x p) ie p3) c.X.env)=dO (.Subscript (.Name x p) ie p3) c.X.env:=by rfl)
  (T:((gG cpos (az [e] c.X.env)).all (fun x=>!x.1)&&(backToKw cpos (RF [] c.X.env)).all (fun x=>x.1.isSome)
   && decide ([e].length+([] : List Hu).length+(if ([] : List Hu).isEmpty then 0 else 1)<30))=true:=by rfl)
  (G:(apos.endLine==cpos.line)=true:=by rfl) (S:az [e] c.X.env=(false,dO e c.X.env)::az [] c.X.env:=by rfl) (A:(gG cpos (az [] c.X.env)).any (·.1)=false:=by rfl)
  (hs:iO (.Call (.Attribute (.Subscript (.Name x p) ie p3) "append" apos) [e] [] cpos) none pos.line c.X.env=pure false:=by rfl) :
  JS c (.Expr (.Call (.Attribute (.Subscript (.Name x p) ie p3) "append" apos) [e] [] cpos) pos) (pU i gi g):=.of fun ρ=>by
 refine zR (vI (C6 fv B9 Ba C7 (Uq vM (oY hN hv hd a0) (a3 ρ) b6) (ck (h ρ) fB S) P T G S A) hs) fun D σ H a2=>?_;obtain ⟨H0,a5,la,Hs,f,q⟩:=a2;replace q:pj c.X.K c.cls c.E H0 a5 la D (pU i gi g ρ):=q;unfold pU at q;split at q
 ·rename_i B ho
  obtain ⟨a,as,O⟩:=f.o2 i B ho;refine ⟨_,O.at_,?_⟩;refine sE f q fun k v H1 b8 e1 s1 f1 r1=>?_;rw [e1,bind_ok] at q;cases r1 with
  |int j =>
   simp only at q;by_cases M:0<=j
   ·rw [if_pos M] at q;split at q
    ·rename_i ds a6
     obtain ⟨b,vs,hb,hH,rv⟩:=O.inn.get a6;have b7:ET (as.map V.ref) j=some (.ref b):=by
      have:=tw (xs:=as.map V.ref) (j:=j.toNat) (v:=V.ref b) (by rw [aF,hb];rfl)
      rwa [eS M] at this
     refine ⟨a,_,j,_,rfl,rfl,.of (s1.all _ _ O.ob),b7,.inl ⟨rfl,_,.of (s1.all _ _ hH)⟩,?_⟩;refine sE f1 q fun d w H2 a4 e2 s2 o r2=>?_;rw [e2,bind_ok] at q;by_cases hl:ds.length<1000
     ·rw [if_pos hl] at q;have st:=s1.trans s2;refine ⟨b,vs,w,rfl,rfl,st.all _ _ hH,cK (by rw [rv.length];omega),?_⟩;have U:i<ρ.length:=(List.getElem?_eq_some_iff.mp ho).1;obtain ⟨a',L,l⟩:=o.o2 i B ho;have ea:a'=a:=by
       have:=l.at_;rw [O.at_] at this;cases this;rfl
      subst ea;have a1:L=as:=by
       have t:=l.ob;rw [st.all _ _ O.ob] at t;injection t with t;injection t with t;exact (Nv (fun x y z=>by cases z;rfl) |>.mp t).symm
      subst a1;have Q:b∈a'::L:=ag _ (cC hb);have nb:b≠a':=fun z=>(List.nodup_cons.mp O.nd).1 (z ▸ cC hb);obtain ⟨bs,b0⟩:=l.out b Q;have nx:∀ {m:Nat}{s:Sl},(∀ d,s≠.ow2 d)->(ρ.set i (.ow2 (B.set j.toNat (ds++[d]))))[m]?=some s->ρ[m]?=some s/\i≠m:=fun {m s} hs e=>by
       by_cases M:i=m
       ·subst M;rw [aJ U] at e;exact absurd (bR e).symm (hs _)
       ·rw [ak M] at e;exact ⟨e,M⟩
      refine q _ _ a4 ⟨⟨fun c u e=>?_,o.st.sh,fun c u e=>?_,o.st.out⟩,by simp [o.len],fun m d' h=>o.sh m d' (nx (fun _ z=>by cases z) h).1,fun m d' h=>?_,fun m d' h=>?_,fun m k' d' e' a t Y=>o.dj m k' d' e' a (nx (fun _ z=>by cases z) t).1 (nx (fun _ z=>by cases z) Y).1,o.lh,fun m d' h=>?_,fun m k' d' e' t Y=>?_⟩
      ·rw [aV (bh e b0)];exact o.st.all c u e
      ·rw [aV (bh e bs)];exact o.st.sub c u e
      ·obtain ⟨h,_⟩:=nx (fun _ z=>by cases z) h;obtain ⟨c',u,k1,k2,k3,k4,k5⟩:=o.ow m d' h;refine ⟨c',u,k1,?_,k3,k4,k5⟩;rw [aV (fun z=>l.dj b Q m d' h (by rw [<- z];exact k1))];exact k2
      ·obtain ⟨h,_⟩:=nx (fun _ z=>by cases z) h;obtain ⟨c',u,k1,k2,k3,k4,k5,k6⟩:=o.lk m d' h;refine ⟨c',u,k1,k2,?_,k4,k5,k6⟩;rw [aV (bh k5 b0)];exact k3
      ·by_cases n:i=m
       ·subst n;rw [aJ U] at h;cases h;refine ⟨a',L,l.at_,by rw [aV (cV nb)];exact l.ob,l.nd,l.out,fun c hc k e' hk=>l.dj c hc k e' (nx (fun _ z=>by cases z) hk).1,?_⟩;exact Cg.set ((rv.same st.sh).append (.cons r2 .nil)) l.inn hb (List.nodup_cons.mp l.nd).2
       ·rw [ak n] at h;exact (n (o.u2 i m _ _ ho h)).elim
      ·by_cases n:i=m
       ·by_cases I:i=k'
        ·exact n.symm.trans I
        ·rw [ak I] at Y;exact (I (o.u2 i k' _ _ ho Y)).elim
       ·rw [ak n] at t;exact (n (o.u2 i m _ _ ho t)).elim
     ·rw [if_neg hl] at q;exact q.elim
    ·exact q.elim
   ·rw [if_neg M] at q;exact q.elim
  |none=>exact q.elim
  |bool _=>exact q.elim
  |str _=>exact q.elim
  |list _ _=>exact q.elim
  |tuple _ _=>exact q.elim
  |dictK _ _=>exact q.elim
  |dictT _ _ _=>exact q.elim
  |dictF _ _ _=>exact q.elim
 ·exact q.elim
section
open PyProof.Rows (OwnCls)
structure Er (mg:Str->Option ac) (base:bK) (cls:Str->aj) (x:Str):Prop where
 ex:∃ bmB newId initId Bn,OwnCls x (cls x) bmB newId mg base/\ExcBaseFacts Bn newId initId bmB
def sD (x:Str) (a:aI->R (List D)):aI->R Fl:=fun ρ=>(a ρ).bind fun ds=>if ds.length<=1000 then .ex x none else .no
theorem A9 {x:Str}{u a p:Pos}{d:bZ}{c7:List bZ}{c:aI->R (List D)} (v:Er mg base cls x)
  (Q:Gl (j_ (mM P w) P w K mg base N qual scope f cd A outer s H E) x) (z:EU ⟨j_ (mM P w) P w K mg base N qual scope f cd A outer s H E,cls,E⟩ (d::c7) c)
  (he:az (d::c7) (j_ (mM P w) P w K mg base N qual scope f cd A outer s H E).env=(false,dO d (j_ (mM P w) P w K mg base N qual scope f cd A outer s H E).env)::az c7 (j_ (mM P w) P w K mg base N qual scope f cd A outer s H E).env:=by rfl)
  (j:(x==("__debug__" : Str))=false:=by decide) (o:(gG a (az c7 (j_ (mM P w) P w K mg base N qual scope f cd A outer s H E).env)).any (·.1)=false:=by rfl) :
  JS ⟨j_ (mM P w) P w K mg base N qual scope f cd A outer s H E,cls,E⟩ (.Raise (some (.Call (.Name x u) (d::c7) [] a)) none p) (sD x c):=.of fun ρ=>by
 obtain ⟨L,g,e,U,O,I⟩:=v.ex;refine zR (ON O I Q (z ρ) he j o) fun D T S l=>?_;obtain ⟨t,b,la,Hs,f,q⟩:=l;replace q:pj K cls E t b la D (sD x c ρ):=q;refine ⟨t,b,la,Hs,f,?_⟩;unfold sD at q;cases i:c ρ with
 |no=>rw [i] at q;exact q
 |ex y n=>rw [i] at q;exact fun H' k s=>q H' k (f.st.trans s)
 |ok ds =>
  rw [i,bind_ok] at q;intro X B m G M;by_cases h:ds.length<=1000
  ·rw [if_pos h] at q;exact ⟨bw (cK (by rw [M.length];exact h)),q B m (f.st.trans G)⟩
  ·rw [if_neg h] at q;exact q.elim
end
structure Bi (mg:Str->Option ac):Prop where
 len:mg "len"=none
 isinstance:mg "isinstance"=none
 all:mg "all"=none
 any:mg "any"=none
 zip:mg "zip"=none
 tuple:mg "tuple"=none
 list:mg "list"=none
 sorted:mg "sorted"=none
 set:mg "set"=none
 range:mg "range"=none
 enumerate:mg "enumerate"=none
 dict:mg "dict"=none
 sum:mg "sum"=none
 max:mg "max"=none
 min:mg "min"=none
 reversed:mg "reversed"=none
 str:mg "str"=none
 int:mg "int"=none
 bool:mg "bool"=none
structure Xf (K:a8) (base:bK) (cls:Str->aj) (names:List Str) (C:aj) (j:Nat):Prop where
 ek:OP K C
 is:∀ i n,names[i]?=some n->dQ K (.ref C) (.ref (cls n))=some (decide (i=j))
 ve:dQ K (.ref C) (.type "ValueError")=some true
 ox:∃ bm,DF base C bm/\bm.contains (.ref (cls "PlanError"))=true
 lt:j<11
inductive UM (K:a8) (base:bK) (cls:Str->aj) (names:List Str) (vs:List V) (H:Hp) (Q:VK) (z_3:XK):Prop
 |mk (ea C j:_) (h0:vs=[.ref ea]) (h1:H ea=some (zM ea C)) (h2:Xf K base cls names C j) (h3:∀ t H',dD H H'->H t=none->H' t=some (.tup [.str "refused",.int (j:Nat)])->Q (.ref t) H'):UM K base cls names vs H Q z_3
def Wf (K:a8) (base:bK) (cls:Str->aj) (names:List Str):Sp:=UM K base cls names
def bits (j:Nat):List Bool:=[decide (0=j),decide (1=j),decide (2=j),decide (3=j),decide (4=j),decide (5=j),decide (6=j),decide (7=j),decide (8=j),decide (9=j),decide (10=j)]
theorem IX:∀ j,j<11->(bits j).countP id=1:=by
 intro j h;have:∀ k:_root_.Fin 11,(bits k.val).countP id=1:=by decide
 exact this ⟨j,h⟩
theorem T4:∀ j,j<11->(bits j)[j]?=some true/\∀ m,m<j->(bits j)[m]?=some false:=by
 intro j h;have:∀ k:_root_.Fin 11,(bits k.val)[k.val]?=some true/\∀ m:_root_.Fin 11,m.val<k.val->(bits k.val)[m.val]?=some false:=by decide
 exact ⟨(this ⟨j,h⟩).1,fun m a=>(this ⟨j,h⟩).2 ⟨m,by omega⟩ a⟩
theorem ny (o:PE X e0 (LU 0)) (m:Gl X "isinstance") (h:X.mg "isinstance"=none) (b:Gl X n) (d:X.mg n=some (.ref (cls n))) (e:(n==("__debug__" : Str))=false:=by decide)
  (he:az [e0,.Name n p2] X.env=(false,dO e0 X.env)::az [.Name n p2] X.env:=by rfl) (c:(gG pos (az [.Name n p2] X.env)).any (·.1)=false:=by rfl) :
  PE X (.Call (.Name "isinstance" p) [e0,.Name n p2] [] pos) (fun f H Q=>∃ a C j i,f[0]?=some (some (V.ref a))/\H a=some (zM a C)/\Xf X.K base cls names C j/\names[i]?=some n/\Q (.bl (decide (i=j))) H) :=
 sj (pQ xZ m h lm (ck o (ck (Dk b d (v:=.ref (cls n)) rfl e) fB) he) (by decide) (by decide) he c) fun f H Q ⟨a,C,j,i,g,k,x,l,q⟩ =>
  ⟨_,g,.ref a,.ref (cls n),.ref (cls n),_,rfl,.inr ⟨_,rfl,rfl⟩,.inr ⟨a,C,rfl,k,x.ek,x.is i n l⟩,q⟩
theorem T5 (i:PE X e0 (LU 0)) (h:Gl X "isinstance") (g:X.mg "isinstance"=none) (b:Gl X "ValueError") (d:X.mg "ValueError"=none)
  (he:az [e0,.Name "ValueError" p2] X.env=(false,dO e0 X.env)::az [.Name "ValueError" p2] X.env:=by rfl) (c:(gG pos (az [.Name "ValueError" p2] X.env)).any (·.1)=false:=by rfl) :
  PE X (.Call (.Name "isinstance" p) [e0,.Name "ValueError" p2] [] pos) (fun e H Q=>∃ a C j,e[0]?=some (some (V.ref a))/\H a=some (zM a C)/\Xf X.K base cls names C j/\Q (.bl true) H) :=
 sj (pQ xZ h g lm (ck i (ck (JY b d (u:=.type "ValueError") (v:=.ty "ValueError") rfl rfl) fB) he) (by decide) (by decide) he c) fun e H Q ⟨a,C,j,f,k,x,q⟩ =>
  ⟨_,f,.ref a,.ty "ValueError",.type "ValueError",_,rfl,.inl ⟨_,rfl,rfl⟩,.inr ⟨a,C,rfl,k,x.ek,x.ve⟩,q⟩
end J
namespace J
open PySem L2
def Mt (b:Str->Option Nat) (gb:aI->R Fl):aI->R Fl:=fun ρ=>match gb ρ with
 |.ok a=>.ok a
 |.ex y none=>match b y with
  |some j=>.ok (.rt (.tuple [.str "refused",.int (j:Nat)]))
  |none=>.no
 |_=>.no
structure Wh (P:bu) (w:bQ) (K:a8) (mg:Str->Option ac) (base:bK) (cls:Str->aj) (x:Str) (names:List Str) (wh:Str->Option Nat):Prop where
 fn:∃ f fd ps,FE P w K mg base 1 f fd ps (Wf K base cls names)/\mg x=some (.ref f)/\cY K (.ref f)=true/\jG K fd ps []
 pe:mg "PlanError"=some (.ref (cls "PlanError"))
 ox:∃ bp,DF base (cls "PlanError") bp
 xf:∀ y j,wh y=some j->Xf K base cls names (cls y) j
end J
namespace L2
open PySem
theorem nq.mono1 (r:nq k A) (h:1<=k:=by decide):nq 1 A:=⟨by have:=r.dp;omega,by have:=r.un;omega⟩
end L2
namespace J
open PySem L2
section
open PyProof.Rows (OwnCls)
abbrev T6:List ac:=[.type "ValueError",.type "Exception",.type "BaseException",.type "object"]
theorem IY {K:a8}{h:bK}{y:Str->Option ac}{x:Str}{C:aj}{o:List ac}{c:String} (X:K.In h) (G:h.Ns bC y) (e:gP K bC x=some (some (.ref C))) (q:Bb K C o c=true) (I:cF K C (.type "BaseException")=some true) :
  OwnCls x C o c y h/\∃ bm,DF h C bm/\∀ v,(v==bf C)=false->cF K C v=some true->bm.contains v=true:=by
 have p:=jN X G e;unfold Bb at q;split at q
 ·rename_i dd t A look
  split at q
  ·rename_i s bm k0 k1 k2 k3 n k5 g a
   simp only [aY,beq_iff_eq,NK] at q;obtain ⟨⟨⟨⟨⟨rfl,rfl⟩,f⟩,tl⟩,d⟩,b⟩:=q;have j:A=#[k0,k1,k2,k3,some (.builtin n),k5]:=by
    cases A with|mk l=>simp only at a;rw [a]
   have k:∀ v,cF K s v=some true->t.mro.contains v=true:=fun v i=>by
    unfold cF g_ at i;rw [look] at i;simp only [qg] at i;split at i
    ·cases i
    ·exact bR i
   have c7:∀ v,(v==bf s)=false->cF K s v=some true->bm.contains v=true:=fun v E i=>by
    have:=k v i;rw [g,oj,E,vE] at this;exact this
   obtain ⟨nm,bs,H,w,u,z,sn,sub,ab,col,B⟩:=t;dsimp only at g f d b;subst g f j;have m:=X _ _ look;exact ⟨⟨p,bm,w,nm,u,bs,z,sn,sub,ab,col,dd,k0,k1,k2,k3,k5,_,m,.of_isNs (nh X d),fe X d b,PySem.W.tail_of_in X tl⟩,
    bm,⟨⟨nm,u,w,bs,z,sn,sub,ab,col,dd,k0,k1,k2,k3,k5,n,m⟩,c7 _ rfl I⟩,c7⟩
  ·cases q
 ·cases q
structure TopC (K:a8) (x:Str) (C:aj):Prop where
 ns:gP K bC x=some (some (.ref C))
 ex:Bb K C T6 "ValueError.__new__"=true
 mb:cF K C (.type "BaseException")=some true
theorem TopC.er {K:a8}{h:bK}{a:Str->Option ac}{cls:Str->aj}{x:Str}{C:aj} (T:TopC K x C) (X:K.In h) (G:h.Ns bC a) (b:cls x=C):Er a h cls x:=by
 subst b;exact ⟨_,_,_,_,(IY X G T.ns T.ex T.mb).1,PySem.F.excBase_ValueError⟩
theorem T7 {K:a8}{t C:aj}{f:ClassData}{b:Bool} (a:g_ K C=some f) (g:zt K (.ref C)=some (.type "type")) (c:oW K (.ref t) (.ref C)=some b) (d:b=false->t≠C):dQ K (.ref t) (.ref C)=some b:=by
 unfold dQ;split
 ·rename_i he
  have e:t=C:=by have:=eq_of_beq he;cases this;rfl
  cases b with
  |true=>rfl
  |false=>exact (d rfl e).elim
 ·unfold NL;simp only [a,g,vo,beq_self_eq_true,mG,if_true];exact c
theorem Wg (a:oW K (.ref t) (.type "ValueError")=some true):dQ K (.ref t) (.type "ValueError")=some true:=by
 unfold dQ;split
 ·rename_i he
  cases (eq_of_beq he)
 ·unfold NL;show (if PySem.W.kitMeta "ValueError"=true then _ else none)=some true;rw [if_pos (by decide +kernel)];exact a
inductive Yc (K:a8) (F:List D->R D) (vs:List V) (H:Hp) (Q:VK) (z_3:XK):Prop
 |mk (Hs ds d:_) (h0:dD Hs H) (h1:ds.length=1) (h2:RDs K Hs vs ds) (h3:F ds=.ok d) (h4:∀ v H' Hs',cX H Hs H' Hs'->RD K Hs' v d->Q v H'):Yc K F vs H Q z_3
def Yd (K:a8) (F:List D->R D):Sp:=Yc K F
theorem Wi : ∀ a H Q E,Yd K F a H Q E->P6 K cls 1 F a H Q E:=fun a H Q E ⟨Hs,ds,d,s,l,r,e,q⟩=>⟨Hs,ds,s,l,r,by rw [e];exact q⟩
def Ye (l:List (Str×aj)):Str->aj:=fun x=>(l.lookup x).getD 0
theorem Wj {K:a8}{F:List D->R D}{H:Hp}{a:aj}{b:List Int} (d:F [.list (b.map .int)]=.ok (.bool true)) (h:nl K H a (b.map V.int)):Yd K F [.ref a] H (fun v _=>v=.bl true) fun _ _ _=>False:=by
 have e:∀ b:List Int,RDs K H (b.map V.int) (b.map .int):=fun b=>by
  induction b with
  |nil=>exact .nil
  |cons x r c=>exact .cons (.int x) c
 refine ⟨H,[.list (b.map .int)],.bool true,.refl H,rfl,.cons (.list h (e b)) .nil,d,?_⟩;intro v H' f _ r;cases r;rfl
theorem Wk (h:mM P w [] H s (fun _ _ _=>False) e s'):False:=by
 obtain ⟨_,_,_,_,_,_,_,_,_,q⟩:=h;exact q
theorem walkF {l:yt}{k:Nat}{q:bu}{b:List Str}{A:(Str->Option ac)->bK->Prop}{i:bQ->bK->Prop}{d:DefRec}{K:Params->a8}{x:Str}{F0:List D->R D}
  (y:l.most=some 63) (g:d.params.defaults=[]) (v:jO k xQ) (o:∀ (w:bQ) (h:bK),i w h->(K w.params).In h)
  (F:∀ (w:bQ) (e:Str->Option ac) (m:aj) (h:bK),(K w.params).In h->h.Ns bC e->e d.name=some (.ref m) ->
   ∃ j:eI,(∀ (s:ao) (u:ac),xP s j ⟨[u],[]⟩ [(x,u)])/\∀ base:bK,(K w.params).In base->base.Ns bC e->qo l.prog w (K w.params) e base (mM l.prog w) k m j [x] (Yd (K w.params) F0))
  (p:∀ c:List Int,c.length<=63->F0 [.list (c.map .int)]=.ok (.bool true)) :
  Rp q b A i l.row.toRowW d [] (fun f B=>LD f B) :=
 L2.Su (n:=63) (k:=k) (x:=x) (CX:=fun w=>mM l.prog w) (sp:=fun w=>Yd (K w.params) F0) y (by decide) g v o F (fun w H a c t _ z=>Wj (p c t) z) fun _ _ _ _ _ h=>Wk h
def UN (i:Nat) (g:aI->R Fl):aI->R Fl:=fun ρ=>g (shareAt i ρ)
theorem IZ (i:Nat) (h:JS c st gs):JS c st (UN i gs):=IW i h
end
theorem Aa {b c:Type} (a:b) (f:b->R c):(R.ok a).bind f=f a:=id rfl
theorem Yf {a b:Type} (c:Str) (n:Option D) (f:a->R b):(R.ex c n:R a).bind f=.ex c n:=id rfl
def Mu (h:aI->R Fl):Fl->R Fl:=fun b=>match b with
 |.nx a=>h a
 |b=>.ok b
theorem Ab (g h:aI->R Fl):bc g h (s::ρ)=(g (s::ρ)).bind (Mu h):=id rfl
theorem wf (h:aI->R Fl) (ρ:aI):Mu h (.nx ρ)=h ρ:=id rfl
theorem G0 (h:aI->R Fl) (d:D):Mu h (.rt d)=.ok (.rt d):=id rfl
def ifK (g h:aI->R Fl) (ρ:aI):Bool->R Fl:=fun b=>bif b then g ρ else h ρ
theorem Yg (t:aI->R Bool) (g h:aI->R Fl):g9 t g h (s::ρ)=(t (s::ρ)).bind (ifK g h (s::ρ)):=by
 show (t (s::ρ)).bind _=_;congr 1;funext b;cases b<;>rfl
theorem Pi (g h:aI->R Fl) (ρ:aI):ifK g h ρ false=h ρ:=id rfl
theorem Pj (g h:aI->R Fl) (ρ:aI) (b:Bool):ifK g h ρ b=bif b then g ρ else h ρ:=id rfl
def rtK:D->R Fl:=fun d=>.ok (.rt d)
theorem UO (g:aI->R D):dE g (s::ρ)=(g (dS (s::ρ))).bind rtK:=id rfl
theorem Yh (d:D):rtK d=.ok (.rt d):=id rfl
def Ac:Sl->Sl
 |.own d=>.shr d
 |.ow2 a=>.shr (.list (a.map .list))
 |s=>s
theorem Kn:dS (s::ρ)=Ac s::dS ρ:=by cases s<;>rfl
theorem G1:dS []=[]:=id rfl
theorem Ko:Ac .no=.no:=id rfl
theorem G3 (d:D):Ac (.shr d)=.shr d:=id rfl
theorem G4 (d:D):Ac (.own d)=.shr d:=id rfl
theorem G5 (d:List (List D)):Ac (.ow2 d)=.shr (.list (d.map .list)):=id rfl
def Yi (i:Nat) (ρ:aI):D->R Fl:=fun d=>.ok (.nx (ρ.set i (.shr d)))
theorem Pk (i:Nat) (g:aI->R D):gS i g (s::ρ)=(g (s::ρ)).bind (Yi i (s::ρ)):=id rfl
theorem Pl (i:Nat) (ρ:aI) (d:D):Yi i ρ d=.ok (.nx (ρ.set i (.shr d))):=id rfl
def UP (i:Nat) (ρ:aI):D->R Fl:=fun d=>.ok (.nx (ρ.set i (.own d)))
theorem Pm (i:Nat) (g:aI->R D):gd i g (s::ρ)=(g (s::ρ)).bind (UP i (s::ρ)):=id rfl
theorem Kq (i:Nat) (ρ:aI) (d:D):UP i ρ d=.ok (.nx (ρ.set i (.own d))):=id rfl
def Op (ρ:aI):D->R Fl:=fun _=>.ok (.nx ρ)
theorem Pn (g:aI->R D):yb g (s::ρ)=(g (s::ρ)).bind (J.Op (s::ρ)):=id rfl
theorem Kr (ρ:aI) (d:D):J.Op ρ d=.ok (.nx ρ):=id rfl
def g2K (gb:aI->R D) (h:D->D->R D) (ρ:aI):D->R D:=fun x=>(gb ρ).bind (h x)
theorem Yj (a gb:aI->R D) (h:D->D->R D):g2 a gb h (s::ρ)=(a (s::ρ)).bind (g2K gb h (s::ρ)):=id rfl
theorem UQ (gb:aI->R D) (h:D->D->R D) (ρ:aI) (x:D):g2K gb h ρ x=(gb ρ).bind (h x):=id rfl
def T8:D->R Bool:=fun d=>match d with
 |.bool b=>.ok b
 |_=>.no
theorem UR (g:aI->R D):i3 g (s::ρ)=(g (s::ρ)).bind T8:=id rfl
theorem Po (b:Bool):T8 (.bool b)=.ok b:=id rfl
def Yk:Bool->R Bool:=fun b=>.ok (!b)
theorem US (g:aI->R Bool):nZ g (s::ρ)=(g (s::ρ)).bind Yk:=id rfl
theorem Pp (b:Bool):Yk b=.ok (!b):=id rfl
def Yl (h:aI->R Bool) (ρ:aI):Bool->R Bool:=fun b=>bif b then h ρ else .ok false
def orK (h:aI->R Bool) (ρ:aI):Bool->R Bool:=fun b=>bif b then .ok true else h ρ
theorem UT (g h:aI->R Bool):DI g h (s::ρ)=(g (s::ρ)).bind (Yl h (s::ρ)):=by
 show (g (s::ρ)).bind _=_;congr 1;funext b;cases b<;>rfl
theorem Ym (g h:aI->R Bool):OX g h (s::ρ)=(g (s::ρ)).bind (orK h (s::ρ)):=by
 show (g (s::ρ)).bind _=_;congr 1;funext b;cases b<;>rfl
theorem Pq (h:aI->R Bool) (ρ:aI) (b:Bool):Yl h ρ b=bif b then h ρ else .ok false:=id rfl
theorem UU (h:aI->R Bool) (ρ:aI) (b:Bool):orK h ρ b=bif b then .ok true else h ρ:=id rfl
def UV:Bool->R D:=fun b=>.ok (.bool (!b))
theorem Pr (g:aI->R D):FH g (s::ρ)=((g (s::ρ)).bind T8).bind UV:=id rfl
theorem Ks (b:Bool):UV b=.ok (.bool (!b)):=id rfl
def UW (h:aI->R D) (ρ:aI):Bool->R D:=fun b=>bif b then h ρ else .ok (.bool false)
theorem Ps (g h:aI->R D):zU g h (s::ρ)=((g (s::ρ)).bind T8).bind (UW h (s::ρ)):=by
 show (i3 g (s::ρ)).bind _=(i3 g (s::ρ)).bind _;congr 1;funext b;cases b<;>rfl
theorem Kt (h:aI->R D) (ρ:aI) (b:Bool):UW h ρ b=bif b then h ρ else .ok (.bool false):=id rfl
def Yn (gb a:aI->R D) (h h':D->D->R D) (ρ:aI):D->R D:=fun x=>(gb ρ).bind fun y=>(h x y).bind fun z=>match z with
 |.bool true=>(a ρ).bind fun w=>h' y w
 |.bool false=>.ok (.bool false)
 |_=>.no
def Yo (a:aI->R D) (h h':D->D->R D) (ρ:aI) (x:D):D->R D:=fun y=>(h x y).bind fun z=>match z with
 |.bool true=>(a ρ).bind fun w=>h' y w
 |.bool false=>.ok (.bool false)
 |_=>.no
def Yp (a:aI->R D) (h':D->D->R D) (ρ:aI) (y:D):D->R D:=fun z=>match z with
 |.bool true=>(a ρ).bind (h' y)
 |.bool false=>.ok (.bool false)
 |_=>.no
theorem Ku (b gb a:aI->R D) (h h':D->D->R D):sv b gb a h h' (s::ρ)=(b (s::ρ)).bind (Yn gb a h h' (s::ρ)):=id rfl
theorem Pt (gb a:aI->R D) (h h':D->D->R D) (ρ:aI) (x:D):Yn gb a h h' ρ x=(gb ρ).bind (Yo a h h' ρ x):=id rfl
theorem Pu (a:aI->R D) (h h':D->D->R D) (ρ:aI) (x y:D):Yo a h h' ρ x y=(h x y).bind (Yp a h' ρ y):=id rfl
theorem Pw (a:aI->R D) (h':D->D->R D) (ρ:aI) (y:D) (b:Bool):Yp a h' ρ y (.bool b)=bif b then (a ρ).bind (h' y) else .ok (.bool false):=by cases b<;>rfl
def Px (a:aI->R (List D)) (ρ:aI):D->R (List D):=fun d=>(a ρ).bind fun ds=>.ok (d::ds)
def Py (d:D):List D->R (List D):=fun ds=>.ok (d::ds)
theorem Pz (g:aI->R D) (a:aI->R (List D)):J.af g a (s::ρ)=(g (s::ρ)).bind (Px a (s::ρ)):=id rfl
theorem G6 (a:aI->R (List D)) (ρ:aI) (d:D):Px a ρ d=(a ρ).bind (Py d):=id rfl
theorem G7 (d:D) (ds:List D):Py d ds=.ok (d::ds):=id rfl
theorem UX (ρ:aI):J.aQ ρ=.ok []:=id rfl
def UY (k:List D->D):List D->R D:=fun ds=>if ds.length<=1000 then .ok (k ds) else .no
theorem PB (a:aI->R (List D)) (k:List D->D):fh a k (s::ρ)=(a (s::ρ)).bind (UY k):=id rfl
theorem Kv (k:List D->D) (ds:List D):UY k ds=if ds.length<=1000 then .ok (k ds) else .no:=id rfl
theorem PD (a:aI->R (List D)) (h:List D->R D):cr a h (s::ρ)=(a (s::ρ)).bind h:=id rfl
def fnK (n:Nat) (F:List D->R D):List D->R D:=fun ds=>if ds.length=n then F ds else .no
theorem Yq (n:Nat) (F:List D->R D) (a:aI->R (List D)):fH n F a (s::ρ)=(a (s::ρ)).bind (fnK n F):=id rfl
theorem UZ (n:Nat) (F:List D->R D) (ds:List D):fnK n F ds=if ds.length=n then F ds else .no:=id rfl
theorem U_ (h:D->R D) (d:D):jn h [d]=h d:=id rfl
theorem PF (d:D) (ρ:aI):HF (.shr d::ρ) 0=.ok d:=id rfl
theorem V1 (s:Sl) (ρ:aI) (n:Nat):HF (s::ρ) (n+1)=HF ρ n:=by simp [HF]
theorem PH (d:D) (ρ:aI):HG (.shr d::ρ) 0=.ok d:=id rfl
theorem PJ (d:D) (ρ:aI):HG (.own d::ρ) 0=.ok d:=id rfl
theorem V2 (s:Sl) (ρ:aI) (n:Nat):HG (s::ρ) (n+1)=HG ρ n:=by simp [HG]
def Yr (T:String):D->R D:=fun d=>if vY d then .ok (.bool (FP T d)) else .no
theorem V3 (g:aI->R D) (T:String):Bx g T (s::ρ)=(g (s::ρ)).bind (Yr T):=id rfl
theorem PK (T:String) (d:D):Yr T d=if vY d then .ok (.bool (FP T d)) else .no:=id rfl
def Ys (a b:aI->R (Option Int)) (ρ:aI):D->R D:=fun x=>(a ρ).bind fun l=>(b ρ).bind fun h=>Kf x l h
def Yt (a:aI->R (Option Int)) (ρ:aI) (x:D):Option Int->R D:=fun l=>(a ρ).bind fun h=>Kf x l h
theorem Yu (g:aI->R D) (b a:aI->R (Option Int)):UI g b a (s::ρ)=(g (s::ρ)).bind (Ys b a (s::ρ)):=id rfl
theorem PL (b a:aI->R (Option Int)) (ρ:aI) (x:D):Ys b a ρ x=(b ρ).bind (Yt a ρ x):=id rfl
theorem PM (a:aI->R (Option Int)) (ρ:aI) (x:D) (l:Option Int):Yt a ρ x l=(a ρ).bind (Kf x l):=id rfl
theorem V4 (ρ:aI):Xc ρ=.ok none:=id rfl
def Yv:D->R (Option Int):=fun d=>match d with
 |.int i=>.ok (some i)
 |_=>.no
theorem V5 (g:aI->R D):SM g (s::ρ)=(g (s::ρ)).bind Yv:=id rfl
theorem PN (i:Int):Yv (.int i)=.ok (some i):=id rfl
theorem Wl (g:aI->R D):m9 g (s::ρ)=(g (s::ρ)).bind zX:=id rfl
theorem PP (a:aI->R (List D)):zY a (s::ρ)=(a (s::ρ)).bind IT:=id rfl
theorem V6 (a:aI->R (List D)):IU a (s::ρ)=(a (s::ρ)).bind Zk:=id rfl
theorem V7 (a:aI->R (List D)):SW a (s::ρ)=(a (s::ρ)).bind zp:=id rfl
def V8 (nt:Nat) (ix:List Nat) (gt:aI->R Bool) (ge:aI->R D) (ρ:aI):List D->R D:=fun ds=>if ds.length<=1000 then (ip (jI nt (pS nt ix ρ) gt ge) ds).bind fun ys=>.ok (.list ys) else .no
def V9:List D->R D:=fun ys=>.ok (.list ys)
theorem PQ (nt:Nat) (ix:List Nat) (a:aI->R (List D)) (gt:aI->R Bool) (ge:aI->R D):fJ nt ix a gt ge (s::ρ)=(a (s::ρ)).bind (V8 nt ix gt ge (s::ρ)):=id rfl
theorem Kw (nt:Nat) (ix:List Nat) (gt:aI->R Bool) (ge:aI->R D) (ρ:aI) (ds:List D):V8 nt ix gt ge ρ ds=if ds.length<=1000 then (ip (jI nt (pS nt ix ρ) gt ge) ds).bind V9 else .no:=id rfl
theorem Kx (ys:List D):V9 ys=.ok (.list ys):=id rfl
theorem sF (a:aI->R (List D)) (kt:D->aI->R aI) (gb:aI->R Fl) (ds:List D) (h:a (s::ρ)=.ok ds):pp a kt gb (s::ρ)=jT kt gb ds (s::ρ):=by unfold pp;rw [h]
def PR (k:D->aI->R aI) (ρ:aI):D->R Fl:=fun d=>match k d ρ with
 |.ok a=>.ok (.nx a)
 |_=>.no
theorem Va (g:aI->R D) (k:D->aI->R aI):DP g k (s::ρ)=(g (s::ρ)).bind (PR k (s::ρ)):=id rfl
theorem Ck (ds:List D):zX (.list ds)=.ok ds:=id rfl
theorem Cm (ds:List D):zX (.tuple ds)=.ok ds:=id rfl
theorem Co (x:Str):zX (.str x)=.ok (pi x):=id rfl
theorem PU (ds:List D):Zk [.tuple ds]=.ok (jS 0 ds):=id rfl
theorem Yw (ds es:List D):zp [.tuple ds,.tuple es]=.ok (yG ds es):=id rfl
def Cq (ρ:aI) (i:Nat):Sl:=SY ((ρ[i]?).getD .no)
def PV (ix:List Nat) (ρ:aI):aI:=ix.map (Cq ρ)
theorem PX (ix:List Nat) (ρ:aI):pS 1 ix ρ=.no::PV ix ρ:=id rfl
theorem PY (ix:List Nat) (ρ:aI):pS 2 ix ρ=.no::.no::PV ix ρ:=id rfl
theorem PZ (ρ:aI):PV [] ρ=[]:=id rfl
theorem P_ (i:Nat) (ix:List Nat) (ρ:aI):PV (i::ix) ρ=Cq ρ i::PV ix ρ:=id rfl
theorem Q0 (s:Sl) (ρ:aI):Cq (s::ρ) 0=SY s:=id rfl
theorem Q1 (s:Sl) (ρ:aI) (n:Nat):Cq (s::ρ) (n+1)=Cq ρ n:=by simp [Cq]
theorem Cr (d:D):SY (.shr d)=.shr d:=id rfl
theorem D_ (h:ρ[i]?=some (Sl.own d)):shareAt i ρ=ρ.set i (.shr d):=by unfold shareAt;rw [h]
theorem eU {a:Type} (f:D->R (Option D)) (c:a->D) (h:a->D):∀ (xs:List a),(∀ x∈xs,f (c x)=.ok (some (h x)))->ip f (xs.map c)=.ok (xs.map h)
 |[],_=>rfl
 |x::r,e=>by
  rw [ax,ax];unfold ip;rw [e x al,bind_ok,eU f c h r fun y b=>e y (ag _ b),bind_ok]
theorem gU {a:Type} (f:D->R (Option D)) (c:a->D) (h:a->D) (p:a->Bool):∀ (xs:List a),(∀ x∈xs,f (c x)=.ok (if p x then some (h x) else none))->ip f (xs.map c)=.ok ((xs.filter p).map h)
 |[],_=>rfl
 |x::r,e=>by
  rw [ax];unfold ip;rw [e x al,bind_ok,gU f c h p r fun y d=>e y (ag _ d),bind_ok];cases b:p x<;>simp [b]
theorem Vb : jI 1 ρ gt ge d=Mp (((gt (ρ.set 0 (.shr d)))).bind fun b=>if b then (ge (ρ.set 0 (.shr d))).bind fun y=>.ok (some y) else .ok none):=id rfl
theorem i7 (a:gt (ρ.set 0 (.shr d))=.ok true) (b:ge (ρ.set 0 (.shr d))=.ok y):jI 1 ρ gt ge d=.ok (some y):=by
 rw [Vb,a,bind_ok,if_pos rfl,b];rfl
theorem qw (a:gt (ρ.set 0 (.shr d))=.ok b) (c:b=true->ge (ρ.set 0 (.shr d))=.ok y):jI 1 ρ gt ge d=.ok (if b then some y else none):=by
 rw [Vb,a,bind_ok];cases b with
 |true=>rw [if_pos rfl,c rfl];rfl
 |false=>rfl
theorem T9 (b:-(2 ^ 62)<=j) (f:j<2 ^ 62):IT [.int j]=.ok (sB 0 j.toNat):=by
 have h:-(2 ^ 62)<=j/\j<2 ^ 62:=⟨b,f⟩;unfold IT;split
 ·rename_i c e
  have a:j=c:=by injection e with e;injection e
  subst a;rw [if_pos h]
 ·rename_i d
  exact (d j rfl).elim
end J
namespace L2
open PySem PySem.Spec PyProof.Rows
theorem Q2 {X:Cx}{CX:M0}{k i:Nat}{f:aj}{m:eI}{o:List Str}{sp:Sp}{x:Str}{p b:Pos}{e:bZ}{es:List bZ}{t:TA}{E:XK}{ds:List ac}{c:List V}
  (F:qo X.prog X.w X.K X.mg X.base CX k f m o sp) (O:jO k X.A) (B:X.N[i]?=some x) (hv:Ny X.env.scope x) (hk:cY X.K (.ref f)=true) (S:jG X.K m o ds) (T:dH c ds) (hx:kO CX X E)
  (L:PA X (e::es) t) (j:(x==("__debug__" : Str))=false:=by decide) (g:(x==("__classdict__" : Str))=false:=by decide) (he:az (e::es) X.env=(false,dO e X.env)::az es X.env:=by rfl) (l:(gG b (az es X.env)).any (·.1)=false:=by rfl) :
  PE X (.Call (.Name x p) (e::es) [] b) (fun d H Q=>d[i]?=some (some (V.ref f))/\F8 sp c E t d H Q):=by
 intro a s d H Q I ⟨P,h⟩;refine lv (fZ (oY B hv j g a s d H (fun v H'=>v=V.ref f/\H'=H) I ⟨.ref f,P,rfl,rfl⟩) fun u Y ⟨v,M,n,z,G,U⟩=>?_);subst G U;cases z;refine uE (h₀:=X.base) n.ok.mod.kin hk (fZ (L b a Y d M _ n h) fun us s1 ⟨vs,H1,y,r,q⟩=>⟨y.kIn,?_⟩) he l;exact Og F O S T hx y r q
end L2
namespace J
open PySem L2
open PyProof.Rows (envOfC)
def Ct (a:Str->Option Nat):R D->R D
 |.ok d=>.ok d
 |.ex y none=>match a y with
  |some j=>.ok (.tuple [.str "refused",.int (j:Nat)])
  |none=>.no
 |_=>.no
def yc (a:Str->Option Nat) (F:List D->R D):List D->R D:=fun ds=>Ct a (F ds)
def spT (K:a8) (cls:Str->aj) (n:Nat) (a:aj) (F:List D->R D):Sp:=fun c H Q E=>∃ b,c=V.ref a::b/\P6 K cls n F b H Q E
structure Zm (P:bu) (w:bQ) (K:a8) (mg:Str->Option ac) (base:bK) (cls:Str->aj) (x y:Str) (k n:Nat) (F:List D->R D):Prop where
 ex:∃ f fd ps a,qo P w K mg base (mM P w) k f fd ps (spT K cls n a F)/\mg x=some (.ref f)/\cY K (.ref f)=true/\jG K fd ps []/\mg y=some (.ref a)
theorem Ta (G:Zm c.X.prog c.X.w c.X.K c.X.mg c.X.base c.cls x y k n F) (B:jO k c.X.A) (hg:Gl c.X x) (e:Gl c.X y) (Y:kO (mM c.X.prog c.X.w) c.X c.E) (u:EU c es gs)
  (h:(x==("__debug__" : Str))=false:=by decide) (g:(y==("__debug__" : Str))=false:=by decide) (he:az (.Name y q::es) c.X.env=(false,dO (.Name y q) c.X.env)::az es c.X.env:=by rfl) (o:(gG pos (az es c.X.env)).any (·.1)=false:=by rfl) :
  JE c (.Call (.Name x p) (.Name y q::es) [] pos) (fH n F gs):=.of fun ρ=>by
 obtain ⟨f,fd,ps,a,I,M,T,L,t⟩:=G.ex;refine sj (K1 (E:=c.E) I B hg M T L .nil Y (ck (Dk (v:=.ref a) e t rfl g) (u ρ) he) h he o) fun z H Q b=>?_;obtain ⟨H0,a0,la,Hs,fr,q⟩:=b;show Xa c.X.K c.cls c.E ρ (gs ρ) z H fun xs j=>spT c.X.K c.cls n a F (V.ref a::xs++[]) j Q c.E;refine Bu fr q fun ds vs H1 i O s N P=>?_;unfold fH at q;rw [O,bind_ok] at q;by_cases l:ds.length=n
 ·rw [if_pos l] at q;rw [bT];exact ⟨vs,rfl,i,ds,N.st.sub,l,P,q.on s fun d k v j m S U=>k v j m (s.trans S) U⟩
 ·rw [if_neg l] at q;exact q.elim
theorem Wm {i k n:Nat}{F:List D->R D}{f:aj}{I:eI}{L:List Str} (T:qo c.X.prog c.X.w c.X.K c.X.mg c.X.base (mM c.X.prog c.X.w) k f I L (P6 c.X.K c.cls n F)) (hk:cY c.X.K (.ref f)=true) (Y:jG c.X.K I L []) (S:jO k c.X.A) (hx:kO (mM c.X.prog c.X.w) c.X c.E) (P:EU c (e::es) gs)
  (O:c.X.N[i]?=some x:=by rfl) (hv:Ny c.X.env.scope x:=by first|exact hZ rfl|exact eF (hZ rfl)|exact eF (eF rfl)) (j:(x==("__debug__" : Str))=false:=by decide) (h:(x==("__classdict__" : Str))=false:=by decide) (he:az (e::es) c.X.env=(false,dO e c.X.env)::az es c.X.env:=by rfl) (z:(gG pos (az es c.X.env)).any (·.1)=false:=by rfl) (ρ:aI) :
  PS c.X (.Return (some (.Call (.Name x p) (e::es) [] pos)) rpos) (fun D b H=>b[i]?=some (some (V.ref f))/\SR c.X.K c.cls c.E ρ (dE (fH n F gs) ρ) D b H):=by
 refine zR (Dl (Q2 (E:=c.E) T S O hv hk Y .nil hx (P (dS ρ)) j h he z)) fun D b H ⟨U,Q,B,la,Hs,fr,q⟩=>⟨U,?_⟩;obtain ⟨a0,M⟩:=fr.shared;have t:TR c.X.K c.cls c.E (dS ρ) (fH n F gs (dS ρ)) b H D.rt:=sE M q fun d v G a u g l y=>by
  unfold dE at q;rw [u,bind_ok] at q;exact q v G a l.st y
 clear q M fr;obtain ⟨Q,B,la,Hs,fr,q⟩:=t;show Xa c.X.K c.cls c.E (dS ρ) (gs (dS ρ)) b H fun xs m=>P6 c.X.K c.cls n F (xs++[]) m D.rt c.E;refine Bu fr q fun ds vs G a u g l y=>?_;unfold fH at q;rw [u,bind_ok] at q;by_cases o:ds.length=n
 ·rw [if_pos o] at q;rw [bT];exact ⟨a,ds,l.st.sub,o,y,q.on g fun d k v m s s2 r2=>k v m s (g.trans s2) r2⟩
 ·rw [if_neg o] at q;exact q.elim
section
variable {c:C}{body:List dY}{x n:Str}{np np2 np3 hpos cpos rpos pos:Pos}{gb:aI->R Fl}{names:List Str}{wh:Str->Option Nat}
theorem Wn (i j:Nat) (W:Wh c.X.prog c.X.w c.X.K c.X.mg c.X.base c.cls x names wh) (hb:∀ (E:XK) (G:ac->ao->Prop) (B:List (aj×Obj)),kO (mM c.X.prog c.X.w) (UC c.X G B) E->Bh (UC c.X G B) body (fun D g H=>g[j]?=some (some (V.ref a))/\SR c.X.K c.cls E ρ (gb ρ) D g H))
  (hr:nq 1 c.X.A) (O:Gl c.X x) (hg:Gl c.X "PlanError") (hN:c.X.N.Nodup) (Q:c.X.N[i]?=some n:=by rfl) (hn:c.X.env.scope.names.lookup n=some .local:=by rfl)
  (L:∃ l,c.X.stack=c.X.env::l/\c.X.env.frame=some c.X.env.locals:=by exact ⟨_,rfl,rfl⟩) (S:c.X.ex=[]:=by rfl) (T:(x==("__debug__" : Str))=false:=by decide) (hd:(n==("__debug__" : Str))=false:=by decide) (M:(n==("__classdict__" : Str))=false:=by decide) :
  PS c.X (.Try body [.ExceptHandler (some (.Name "PlanError" np)) (some n) [.Return (some (.Call (.Name x np2) [.Name n np3] [] cpos)) rpos] hpos] [] [] pos) (fun D g H=>g[j]?=some (some (V.ref a))/\SR c.X.K c.cls c.E ρ (Mt wh gb ρ) D g H):=by
 obtain ⟨f,fd,ps,F,hm,hk,a0⟩:=W.fn;obtain ⟨bp,y⟩:=W.ox;have hs:∀ h,Bh (X9 c.X h) [.Return (some (.Call (.Name x np2) [.Name n np3] [] cpos)) rpos] (Xl (F8 (Wf c.X.K c.X.base c.cls names) [] E0 (F7 (LU i) Oe))):=fun h =>
  vH (Dl (OR (X:=X9 c.X h) F (hr.mark _) O hm hk a0 (ck (oY Q (.inl hn) hd M) fB) T))
 refine zR (W7 hg W.pe y hN Q hn L S (tb:=fun E D g H=>g[j]?=some (some (V.ref a))/\SR c.X.K c.cls E ρ (gb ρ) D g H) (fun E G B hp=>hb E G B hp) hs) fun D g H Y=>?_;obtain ⟨hj,H0,v,la,Hs,fr,q⟩:=Y;replace q:pj c.X.K c.cls c.E H0 v la D (Mt wh gb ρ):=q;refine ⟨hj,H0,v,la,Hs,fr,?_⟩;unfold Mt at q;cases k:gb ρ with
 |no=>rw [k] at q;exact q
 |ok fl =>
  rw [k] at q;cases fl<;>exact q
 |ex z m =>
  rw [k] at q;cases m with
  |some d=>exact q.elim
  |none =>
   simp only at q;cases P:wh z with
   |none=>rw [P] at q;exact q.elim
   |some j =>
    rw [P] at q;have X0:=W.xf z j P;intro H' U st;obtain ⟨bm,o1,o2⟩:=X0.ox;refine ⟨c.cls z,bm,rfl,o1,o2,fun h a1=>?_⟩;have hl:i<c.X.N.length:=(List.getElem?_eq_some_iff.mp Q).1;refine ⟨.ref h,aJ (by simpa [zN] using hl),h,c.cls z,j,rfl,aS,X0,fun t H2 sm ht hT=>?_⟩;have I:dD H' (upd H' h (zM h (c.cls z))):=jQ a1;have s:H' t=none:=I.free ht;refine q (.ref t) H2 (upd U t (.tup [.str "refused",.int (j:Nat)])) ?_ (.tuple aS (.cons (.str _) (.cons (.int _) .nil)));refine st.trans ⟨I.trans sm,jQ (st.sub.free s),fun b u e=>?_,fun a o e _ z=>by rw [aV (bh e s)];exact z⟩;by_cases p:b=t
    ·subst p;rw [aS] at e;cases e;exact hT
    ·rw [aV p] at e;exact sm b u (I b u (st.sub b u e))
end
theorem Fr.consNo (f:Fr K H0 Hs0 (fun _=>none) ρ σ H Hs):Fr K H0 Hs0 (fun _=>none) (.no::ρ) (some v::σ) H Hs:=by
 refine ⟨f.st,congrArg (· + 1) f.len,fun i d h=>?_,fun i d h=>?_,fun i d h=>?_,fun i j d e a c g k m=>?_,fun i a h=>(nomatch h),fun i d h=>?_,fun i j d e c g=>?_⟩
 ·cases i with
  |zero=>cases h
  |succ i=>exact f.sh i d h
 ·cases i with
  |zero=>cases h
  |succ i=>exact f.ow i d h
 ·cases i with
  |zero=>cases h
  |succ i=>exact f.lk i d h
 ·cases i with
  |zero=>cases c
  |succ i =>
   cases j with
   |zero=>cases g
   |succ j=>exact congrArg (· + 1) (f.dj i j d e a c g k m)
 ·cases i with
  |zero=>cases h
  |succ i =>
   obtain ⟨a,l,o⟩:=f.o2 i d h;refine ⟨a,l,o.at_,o.ob,o.nd,o.out,fun b n j e c=>?_,o.inn⟩;cases j with
   |zero=>cases c
   |succ j=>exact o.dj b n j e c
 ·cases i with
  |zero=>cases c
  |succ i =>
   cases j with
   |zero=>cases g
   |succ j=>exact congrArg (· + 1) (f.u2 i j d e c g)
def Tb (n:Nat) (g:aI->R Fl):List D->R D:=fun ds=>match g (.no::bX n ds) with
 |.ok (.nx _)=>.ok .none
 |.ok (.rt d)=>.ok d
 |.ex c m=>.ex c m
 |_=>.no
theorem Tc (G:Fe K x qual st f fd) (S:bM (x0::N) ps (ay st)) (hm:mg x=some (.ref f)) (U:jG K fd ps []) (I:mg y=some (.ref a)) (m:ps.length=n+1)
  (h:∀ (i:ac) (A:cf) (outer:List Env) (s:ao) (H:Hp) (E:XK),jO k (A.deeper (jZ qual (ay st) s.heap.objs.size f i))->∀ ρ,Bh (j_ (mM P w) P w K mg base (x0::N) qual (ay st) f i A outer s H E) (i6 st) (fun D B H=>B[0]?=some (some (V.ref a))/\SR K cls E ρ (g ρ) D B H))
  (L:∀ ds,ds.length=n->Tb N.length g ds=F ds):Zm P w K mg base cls x y (k+1) n F:=by
 refine ⟨f,fd,ps,a,?_,hm,G.kp,U,I⟩;obtain ⟨oc,od,kV,M,pm,an,i,ct,X,rfl,Y,p⟩:=G.ex;refine Um Y p S (fun vs H Q E o=>by obtain ⟨b,e,Hs,ds,sub,t,r,q⟩:=o;exact by rw [e,aW,r.length,t,m]) fun A outer s H vs Q E T u=>?_;obtain ⟨b,rfl,Hs,ds,sub,t,r,q⟩:=u;have fs:Fr K H Hs (fun _=>none) (.no::bX N.length ds) (L2.start (x0::N) (V.ref a::b)) H Hs:=by
  have:=(Fr.start (N:=N) sub r).consNo (v:=V.ref a);have e:L2.start (x0::N) (V.ref a::b)=some (V.ref a)::L2.start N b:=by
   unfold L2.start;rw [ax,aW,aW,Nat.add_sub_add_right];rfl
  rw [e];exact this
 refine ⟨_,h i A outer s H E T (.no::bX N.length ds),rfl,H,Hs,_,Hs,fs,?_⟩;rw [<- L ds t] at q;unfold Tb at q;cases z:g (.no::bX N.length ds) with
 |no=>rw [z] at q;exact q
 |ex c n=>rw [z] at q;exact q
 |ok O =>
  rw [z] at q;cases O with
  |nx l=>exact fun σ' H' j f'=>q .non H' j f'.st .none
  |rt d=>exact fun v H' j s r=>q v H' j s r
  |bk l=>exact q.elim
  |ct l=>exact q.elim
theorem Q3 (h:gs (dS (.no::bX m ds))=.ok ds) (b:ds.length=n):Tb m (Mt wh (dE (fH n F gs))) ds=yc wh F ds:=by
 unfold Tb Mt dE fH yc Ct;rw [h,bind_ok,if_pos b];cases F ds with
 |ok d=>rfl
 |no=>rfl
 |ex z o =>
  cases o with
  |some d=>rfl
  |none =>
   show (match (match wh z with
    |some j=>R.ok (Fl.rt (.tuple [.str "refused",.int (j:Nat)]))
    |none=>R.no:R Fl) with
    |.ok (.nx _)=>R.ok HA
    |.ok (.rt d)=>.ok d
    |.ex c m=>.ex c m
    |_=>.no)=_
   cases a:wh z<;>simp only [a]
theorem ln1 {c:Type}{b:List c} (h:b.length=1):∃ a,b=[a]:=by
 rcases b with _|⟨a0,_|⟨z,r⟩⟩
 ·simp at h
 ·exact ⟨_,rfl⟩
 ·simp at h
theorem ln2 {d:Type}{c:List d} (h:c.length=2):∃ a b,c=[a,b]:=by
 rcases c with _|⟨a0,_|⟨a0,_|⟨z,r⟩⟩⟩
 ·simp at h
 ·simp at h
 ·exact ⟨_,_,rfl⟩
 ·simp at h
theorem ln3 {e:Type}{d:List e} (h:d.length=3):∃ a b c,d=[a,b,c]:=by
 rcases d with _|⟨a0,_|⟨a0,_|⟨a0,_|⟨z,r⟩⟩⟩⟩
 ·simp at h
 ·simp at h
 ·simp at h
 ·exact ⟨_,_,_,rfl⟩
 ·simp at h
theorem ln4 {f:Type}{e:List f} (h:e.length=4):∃ a b c d,e=[a,b,c,d]:=by
 rcases e with _|⟨a0,_|⟨a0,_|⟨a0,_|⟨a0,_|⟨z,r⟩⟩⟩⟩⟩
 ·simp at h
 ·simp at h
 ·simp at h
 ·simp at h
 ·exact ⟨_,_,_,_,rfl⟩
 ·simp at h
theorem ln5 {g:Type}{f:List g} (h:f.length=5):∃ a b c d e,f=[a,b,c,d,e]:=by
 rcases f with _|⟨a0,_|⟨a0,_|⟨a0,_|⟨a0,_|⟨a0,_|⟨z,r⟩⟩⟩⟩⟩⟩
 ·simp at h
 ·simp at h
 ·simp at h
 ·simp at h
 ·simp at h
 ·exact ⟨_,_,_,_,_,rfl⟩
 ·simp at h
end J
namespace J
open PySem L2
end J
namespace HT
open PySem PyProof.Rows
section
open PySem.SeqAt
open PySem.AutoSeq1 (wpAny_loadPart')
open PySem.MeetsSeq PySem.MeetsSeq2 PySem.MeetsSeq3
end
end HT
namespace L2
open PySem PySem.Spec PyProof.Rows
section
variable {X:Cx}{e st:bZ}{te ts:TE}{pos p2:Pos}
end
end L2
namespace J
open PySem L2
section
variable {c:C}{e:bZ}{g:aI->R D}{pos p2 p3 p4:Pos}
end
end J
namespace L2
open PySem
def NA (a:Nat):Nat->Nat×Nat->Nat×Nat
 | 0,x=>x
 |n+1,x=>NA a n (SetTable.leap a x.1 x.2)
theorem Ky (a:Nat):∀ (n m:Nat) (x:Nat×Nat),NA a (n+m) x=NA a m (NA a n x)
 | 0,m,x=>by rw [e8];rfl
 |n+1,m,x=>by
  rw [Nat.succ_add];exact Ky a n m _
theorem Kz (a:Nat):∀ (n:Nat) (x:Nat×Nat),(NA a n x).2=x.2 / 32 ^ n
 | 0,x=>by simp [NA]
 |n+1,x=>by
  show (NA a n _).2=_;rw [Kz a n];show x.2 / 32 / 32 ^ n=_;rw [Nat.div_div_eq_div_mul,Nat.pow_succ,Ij]
theorem KA (a:Nat):∀ (n:Nat) (x:Nat×Nat),x.1<=a->(NA a n x).1<=a
 | 0,x,h=>h
 |n+1,x,h=>KA a n _ (by
  show (x.1*5+1+x.2 / 32) % (a+1)<=a;exact yv (Dd _ (Ik _)))
theorem Cu : ∀ (fuel i p:Nat),dX mask owner fuel i p=none->∀ n,n<fuel->(owner.getD (NA mask n (i,p)).1 (some 0)).isSome=true
 | 0,_,_,_,n,h=>absurd h (ni n)
 |fuel+1,i,p,e,n,h=>by
  unfold dX at e;split at e
  ·cases e
  ·rename_i b
   cases n with
   |zero =>
    have a:=List.find?_eq_none.mp b 0 (List.mem_range.mpr (by unfold SetTable.runEnd;split<;>omega));simp only [nW] at a;show (owner.getD i (some 0)).isSome=true;cases q:owner.getD i (some 0) with
    |none=>rw [q] at a;exact absurd rfl a
    |some _=>rfl
   |succ n=>exact Cu fuel _ _ e n (Il h)
theorem Cv : ∀ (fuel i p k:Nat),dX mask owner fuel i p=some k->owner.getD k (some 0)=none
 | 0,_,_,_,e=>nomatch e
 |fuel+1,i,p,k,e=>by
  unfold dX at e;split at e
  ·rename_i a b
   cases e;have:=List.find?_some b;cases q:owner.getD (i+a) (some 0) with
   |none=>rfl
   |some _=>rw [q] at this;cases this
  ·exact Cv fuel _ _ k e
def NB (a:Nat):Prop:=a=7\/a=15\/a=31
def Yx (a:Nat):Bool:=(bE (a+1)).all fun i=>(bE (a+1)).all fun j=>(bE (a+1)).any fun n=>decide ((NA a n (i,0)).1=j)
theorem Td (h:NB mask):Yx mask=true:=by
 rcases h with h|h|h<;>subst h<;>decide +kernel
theorem getD_none {owner:Array (Option Nat)}{k:Nat} (h:owner.getD k (some 0)=none):owner.toList[k]?=some none:=by
 by_cases a:k<owner.size
 ·rw [j8,bz a] at h;rw [aL,bz a];simpa using h
 ·rw [j8,cB (by omega)] at h;cases h
theorem Mv {a:Nat} (h:NB a) {owner:Array (Option Nat)}{j:Nat} (o:j<=a) (d:owner.toList[j]?=some none) {i p:Nat} (s:i<=a) (m:p<2 ^ 64) :
  ∃ k,dX a owner (rQ a) i p=some k/\owner.toList[k]?=some none:=by
 cases e:dX a owner (rQ a) i p with
 |some k=>exact ⟨k,rfl,getD_none (Cv _ _ _ _ e)⟩
 |none =>
  exfalso;have l:(NA a 13 (i,p)).2=0:=by
   rw [Kz];exact Nat.div_eq_of_lt (aC m (by decide))
  have f:=KA a 13 (i,p) s;have g:=Td h;unfold Yx at g;rw [cy] at g;have g:=g _ (List.mem_range.mpr (lz f));rw [cy] at g;have g:=g j (List.mem_range.mpr (lz o));rw [mn] at g;obtain ⟨n,c,b⟩:=g;have c:=List.mem_range.mp c;have b:=of_decide_eq_true b;have hs:(NA a (13+n) (i,p)).1=j:=by
   rw [Ky,<- b,<- l]
  have:=Cu _ _ _ e (13+n) (by unfold rQ;omega);rw [hs] at this;have q:owner.getD j (some 0)=none:=by
   rw [aL] at d;rw [j8,d];rfl
  rw [q] at this;cases this
theorem Te (h:Int):om h<2 ^ 64:=by
 unfold om;have:=oX h (show (0:Int)<2 ^ 64 by decide);have:=tm h (show (2 ^ 64:Int)≠0 by decide);omega
theorem G8:∀ {l:List (Option Nat)}{j:Nat},l[j]?=some none->((l.set j (some k)).filterMap id).Perm (k::l.filterMap id)
 |[],_,h=>nomatch h
 |x::r,0,h=>by
  cases h;exact .refl _
 |x::r,j+1,h=>by
  have a:=G8 (k:=k) (l:=r) (j:=j) h;cases x with
  |none=>exact a
  |some y=>exact (a.cons y).trans (.swap k y _)
theorem G9:∀ {l:List (Option Nat)},(l.filterMap id).length<l.length->∃ j,j<l.length/\l[j]?=some none
 |[],h=>absurd h (bY 0)
 |none::r,_=>⟨0,Ik _,rfl⟩
 |some y::r,h=>by
  obtain ⟨j,a,b⟩:=G9 (l:=r) (Il h);exact ⟨j+1,Nat.succ_lt_succ a,b⟩
def KB (a:Nat) (b:Option (Array (Option Nat)×Nat)) (h:Int):Option (Array (Option Nat)×Nat):=b.bind fun x=>(dX a x.1 (rQ a) (om h % (a+1)) (om h)).bind fun j=>some (x.1.setIfInBounds j (some x.2),x.2+1)
theorem Ga (a:Nat) (hs:Array Int):vq a hs=(hs.toList.foldl (KB a) (some (zu (a+1) none,0))).map (·.1):=by
 rw [Array.foldl_toList];rfl
theorem KC (n:NB mask):∀ (l:List Int) (owner:Array (Option Nat)) (k:Nat),owner.size=mask+1->(owner.toList.filterMap id).Perm (bE k)->k+l.length<=mask ->
  ∃ b,l.foldl (KB mask) (some (owner,k))=some (b,k+l.length)/\b.size=mask+1/\(b.toList.filterMap id).Perm (bE (k+l.length))
 |[],owner,k,a,c,_=>⟨owner,rfl,a,c⟩
 |h::r,owner,k,a,c,o=>by
  simp only [aW] at o ⊢;obtain ⟨j,g,q⟩:=G9 (l:=owner.toList) (by rw [c.length_eq,fG,au,a];omega);rw [au,a] at g;obtain ⟨m,t,p⟩:=Mv n (yv g) q (i:=om h % (mask+1)) (yv (Dd _ (Ik _))) (Te h);have e:KB mask (some (owner,k)) h=some (owner.setIfInBounds m (some k),k+1):=by
   unfold KB;simp only [qg,t]
  rw [db,e];obtain ⟨b,f,s,d⟩:=KC n r (owner.setIfInBounds m (some k)) (k+1) (by rw [Dg];exact a) (by
   rw [Bc];refine (G8 p).trans ?_;rw [List.range_succ];exact ((c.cons k).trans (List.perm_append_singleton k _).symm)) (by omega)
  rw [show k+1+r.length=k+(r.length+1) by omega] at f d;exact ⟨b,f,s,d⟩
theorem KD {n:Nat}{o:Array (Option Nat)} (h:o.size=n):(bE n).filterMap (fun j=>o.getD j none)=o.toList.filterMap id:=by
 have e:(bE n).map (fun j=>o.getD j none)=o.toList:=by
  refine yN (by simp [h]) fun i a b=>?_;simp only [ah,fG] at a;rw [ms,Nw,j8,bz (by omega)];simp
 rw [<- e,o7];rfl
theorem KG {mask finger moves:Nat}{led plain:Bool}{hs:Array Int} (f:NB mask) (i:hs.size<=mask):∃ place a,AZ mask finger moves led plain hs=some ({ mask,place,dummies:=#[],finger,led,moves,plain },a)/\place.size=hs.size/\a.toList.Perm (bE hs.size):=by
 obtain ⟨o,d,c,b⟩:=KC f hs.toList (zu (mask+1) none) 0 (by simp) (by
  have:(zu (mask+1) (none:Option Nat)).toList.filterMap id=[]:=by
   rw [Array.toList_replicate,List.filterMap_eq_nil_iff];intro x h;rw [(List.mem_replicate.mp h).2];rfl
  rw [this];exact .refl _) (by rw [au];omega)
 have g:vq mask hs=some o:=by
  rw [Ga,d];rfl
 rw [e8,au] at b;refine ⟨_,_,by unfold AZ;rw [g];rfl,?_,?_⟩
 ·have e:=congrArg jC (KD c);rw [b.length_eq,fG] at e;rw [aK,ah,<- e];rw [yw,yw];congr 1;funext j;cases o.getD j none<;>rfl
 ·rw [List.map_filterMap];refine .trans (.of_eq ?_) b;rw [<- KD c];show List.filterMap _ _=List.filterMap _ _;congr 1;funext j;cases o.getD j none<;>rfl
end L2
namespace L2
open PySem
theorem Q4:∀ n:_root_.Fin 31,n.val<cE n.val/\(cE n.val=8\/cE n.val=16\/cE n.val=32):=by decide +kernel
theorem Q5 (h:n<=30):n<=cE n-1/\NB (cE n-1)/\cE n<=32:=by
 obtain ⟨a,b⟩:=Q4 ⟨n,by omega⟩;simp only at a b;unfold NB;omega
theorem Ad {es:Array (Int×ac)}{a:Array Nat} (h:a.toList.Perm (bE es.size)):(a.filterMap (es[·]?)).toList.Perm es.toList:=by
 rw [Array.toList_filterMap];refine (h.filterMap _).trans (.of_eq ?_);have e:(bE es.size).map (fun i=>es[i]?)=es.toList.map some:=by
  refine yN (by simp) fun i b d=>?_;simp only [ah,fG] at b;rw [ms,Nw,ms,Array.getElem_toList];exact bz b
 have c:(bE es.size).filterMap (fun i=>es[i]?)=((bE es.size).map (fun i=>es[i]?)).filterMap id:=by rw [o7];rfl
 rw [c,e,o7];simp
theorem dn.of (I:dn w h a es ep t) (p:es'.toList.Perm es.toList) (f:t'.fits es'.size=true) (l:t'.led=t.led) (b:t'.plain=t.plain):dn w (h.update a (rY es' t')) a es' (ep+1) t':=by
 have sz:es'.size=es.size:=by rw [<- au,p.length_eq,au]
 refine ⟨tE I,fun e he=>I.txt e (p.mem_iff.mp he),(p.map li).nodup_iff.mpr I.nd,by rw [sz];exact I.few,f,l.trans I.led,?_⟩;rw [sz,b];exact I.pl
theorem Ae {t:mE}{n:Nat} (h:t.fits n=true):t.place.size=n/\t.fill<=t.mask:=by
 unfold og at h;rw [aY] at h;exact ⟨eq_of_beq h.1,of_decide_eq_true h.2⟩
theorem KH {mask finger moves:Nat}{led plain:Bool}{place:Array Nat}{n:Nat} (h:place.size=n) (a:n<=mask):og { mask,place,dummies:=#[],finger,led,moves,plain } n=true:=by
 unfold og NM;subst h;simp only [beq_self_eq_true,vG,decide_eq_true_eq];exact a
theorem I_ {a:aj}{es:Array (Int×ac)}{l:Nat}{t:mE}{b:Nat}{Q:Unit->ao->Prop} (I:dn w s.heap a es l t) (m:b<=30) (o:es.size<=b)
  (h:∀ h' es' d t',bI a s.heap h'->dn w h' a es' d t'->es'.toList.Perm es.toList->NB t'.mask->b<=t'.mask->Q () { s with heap:=h' }):ar (av P w) A (setRelay a b) Q E s:=by
 obtain ⟨k,i,p⟩:=Q5 m;obtain ⟨place,c,e,j,ho⟩:=KG (finger:=t.finger) (moves:=t.movedTo (cE b-1)) (led:=t.led) (plain:=t.plain) (hs:=es.map (·.1)) i (by rw [lf];omega);rw [lf] at j ho;have f:=Ad ho;have sz:(c.filterMap (es[·]?)).size=es.size:=by rw [<- au,f.length_eq,au]
 unfold setRelay;refine a7 (bD I.at_ rfl I.fits ?_);show ar _ _ (if cE b > sizeLine then _ else _) _ _ s;have n:(32:Nat)<=sizeLine:=by decide
 rw [if_neg (by omega)];refine a7 ?_;unfold LF;rw [e];show ar _ _ (if ((c.filterMap (es[·]?)).size != es.size)=true then _ else pure (c.filterMap (es[·]?),_)) _ _ s;rw [if_neg (by rw [sz];simp)];refine a9 ?_;have g:og { mask:=cE b-1,place,dummies:=#[],finger:=t.finger,led:=t.led,moves:=t.movedTo (cE b-1),plain:=t.plain } (c.filterMap (es[·]?)).size=true:=KH (by rw [sz];exact j) (by rw [sz];omega);refine jL I.at_ rfl ?_ (by rw [sz];exact fY I.few);exact h _ _ _ _ (bP s.heap a _) (I.of f g rfl rfl) f i k
theorem E2 {a:aj}{es:Array (Int×ac)}{e:Nat}{t:mE}{more:Nat}{Q:Unit->ao->Prop} (I:dn w s.heap a es e t) (m:es.size+more<=15) (g:es.size≠0\/NB t.mask)
  (h:∀ h' es' b t',bI a s.heap h'->dn w h' a es' b t'->es'.toList.Perm es.toList->(es.size≠0\/NB t'.mask)->more<=t'.mask->Q () { s with heap:=h' }):ar (av P w) A (setRoomFor a more) Q E s:=by
 obtain ⟨c,n⟩:=Ae I.fits;unfold setRoomFor;refine a7 (bD I.at_ rfl I.fits ?_);dsimp only;unfold SetTable.roomFor;by_cases d:(t.fill+more)*5 ≥ t.mask*3
 ·rw [if_pos d];refine I_ I (by rw [c];omega) (by rw [c];omega) fun h' es' b t' i k f l j=>?_;exact h h' es' b t' i k f (.inr l) (by rw [c] at j;omega)
 ·rw [if_neg d];exact a9 (h s.heap es e t (.refl ..) I (.refl _) g (by omega))
end L2
namespace L2
open PySem
theorem yY {c a:Type}{M:Model}{A:cf}{E:ac->ao->Prop}{Q:a->ao->Prop}{f:c->a->Sem (ForInStep a)}{b:a} (I:List c->ao->Prop)
  (step:∀ x r s,I (x::r) s->ar M A (f x b) (fun st s'=>st=.yield b/\I r s') E s) (fin:∀ s,I [] s->Q b s):∀ (l:List c) (s:ao),I l s->ar M A (forIn l b f) Q E s
 |[],s,h=>by rw [o9];exact a9 (fin s h)
 |x::r,s,h=>by
  rw [kw];refine a7 (bB (step x r s h) (fun st s' q=>?_) fun _ _ e=>e);obtain ⟨rfl,q⟩:=q;exact yY I step fin r s' q
theorem Gb (h:∀ a∈l,∃ es f t,dn w s.heap a es f t) (q:Q true s):ar (av P w) A (setsQuiet l) Q E s:=by
 unfold setsQuiet;refine a7 (yY (fun r s'=>s'=s/\∀ a∈r,∃ es f t,dn w s.heap a es f t) (fun a r s' c=>?_) (fun s' c=>?_) l s ⟨rfl,h⟩)
 ·obtain ⟨rfl,c⟩:=c;obtain ⟨es,f,t,I⟩:=c a al;unfold setEntries;refine a7 (a7 (bD I.at_ rfl I.fits (a9 ?_)));dsimp only;rw [<- LL];refine a7 (yY (fun i g=>g=s'/\∀ e∈i,uL w e) (fun e i g d=>?_) (fun g d=>?_) es.toList s' ⟨rfl,I.txt⟩)
  ·obtain ⟨rfl,d⟩:=d;obtain ⟨x,k,rfl⟩:=d e al;exact a9 ⟨rfl,rfl,fun e he=>d e (ag _ he)⟩
  ·obtain ⟨rfl,_⟩:=d;exact a9 ⟨rfl,rfl,fun b j=>c b (ag _ j)⟩
 ·obtain ⟨rfl,_⟩:=c;exact a9 q
theorem Mw (I:dn w s.heap o es ep t) (b:w.params.followText "set-order"=true\/t.plain=true\/es.size<=1)
  (q:∀ es',es'.toList.Perm es.toList->Q es' s):ar (av P w) A (setWalk o) Q E s:=by
 unfold setWalk;refine a7 (bD I.at_ rfl I.fits (a7 (fU ?_)));cases a:w.params.followText "set-order" with
 |true =>
  simp only [if_true];exact a7 (iP (a9 (q _ (xm _ _))))
 |false =>
  simp only [bA,if_false];have d:(!t.plain&&decide (es.size > 1))=false:=by
   rcases b with h|h|h
   ·rw [a] at h;cases h
   ·rw [h];rfl
   ·rw [decide_eq_false (by omega),o8]
  have c:t.led=true:=by rw [I.led,a];rfl
  show ar _ _ (if (!t.plain&&decide (es.size > 1))=true then _ else _) _ _ s;rw [d,if_neg a_];refine a7 ?_;show ar _ _ (if (!t.led&&decide (es.size > 1))=true then _ else pure ()) _ _ s;rw [c,if_neg (by simp)];exact a9 (a9 (q _ (.refl _)))
theorem yH (I:dn w s.heap o eo epo to) (J:dn w s.heap a es ep t)
  (q:∀ h' es' e t',bI a s.heap h'->dn w h' a es e t'->es'.toList.Perm eo.toList->Q es' { s with heap:=h' }):ar (av P w) A (setWalkUnseen o [a] (some a)) Q E s:=by
 unfold setWalkUnseen;refine a7 (bD I.at_ rfl I.fits (a7 (fU ?_)));cases d:(w.params.followText "set-order" || to.led&&to.plain||decide (eo.size<=1)) with
 |true =>
  rw [if_pos rfl];refine Mw I ?_ fun es' p=>q s.heap es' ep t (.refl ..) J p;rw [kA,kA,aY,decide_eq_true_eq] at d;rcases d with (h|h)|h
  ·exact .inl h
  ·exact .inr (.inl h.2)
  ·exact .inr (.inr h)
 |false =>
  rw [if_neg a_];rw [JU,JU,decide_eq_false_iff_not] at d;obtain ⟨⟨i,_⟩,j⟩:=d;refine a7 (Gb (fun b g=>?_) ?_)
  ·rcases List.mem_cons.mp g with h|h
   ·rw [h];exact ⟨_,_,_,I⟩
   ·rw [List.mem_singleton.mp h];exact ⟨_,_,_,J⟩
  rw [if_neg (by simp)];refine a7 (cW ?_);dsimp only;refine a7 (bD J.at_ rfl J.fits ?_);dsimp only;have f:to.plain=false:=I.pl.resolve_left (by omega);have c:(t.led&&to.led)=t.led:=by rw [I.led,J.led,mG]
  split
  ·refine a7 (jL J.at_ rfl ?_ (fY J.few));refine a9 (q _ _ _ _ (bP s.heap a _) (⟨tE J,J.txt,J.nd,J.few,?_,?_,?_⟩:dn w _ a es (ep+1) _) (.refl _))
   ·exact J.fits
   ·exact c.trans J.led
   ·exact .inr (by show (t.plain&&to.plain)=false;rw [f,o8])
  ·exact a9 (q s.heap eo ep t (.refl ..) J (.refl _))
end L2
namespace L2
open PySem
theorem dn.but (I:dn w h o eo epo to) (ne:a≠o) (b:bI a h h'):dn w h' o eo epo to:=I.keep fun _ e=>(b.2 o (cV ne)).trans e
theorem Af {a o:aj}{es c:Array (Int×ac)}{ep T:Nat}{t n:mE}{k:Sem Unit}{Q:Unit->ao->Prop} (ne:a≠o) (J:dn w s.heap a es ep t) (I:dn w s.heap o c T n)
  (hz:es.size+c.size<=15) (hm:es.size≠0\/NB t.mask) (he:∀ (s':ao) (Q':Unit->ao->Prop),dn w s'.heap o c T n->Q' () s'->ar (av P w) A k Q' E s')
  (q:∀ h' d es' a5 t',bI a s.heap h'->dn w h' a es' a5 t'->(∀ x,x∈es'.toList.map li↔x∈es.toList.map li\/x∈c.toList.map li)->(es'.size≠0\/NB t'.mask)->Q () { s with heap:=h',toks:=d }) :
  ar (av P w) A (setMerge a o k) Q E s:=by
 unfold setMerge;rw [if_neg (by simpa using ne)];refine a7 (bD I.at_ rfl I.fits ?_);dsimp only;by_cases p:c.size=0
 ·rw [if_pos (by simpa [Array.isEmpty] using p)];have e0:c=#[]:=lX p;exact a9 (q s.heap s.toks es ep t (.refl ..) J (fun x=>by rw [e0];simp) hm)
 rw [if_neg (by simpa [Array.isEmpty] using p)];refine a7 (E2 J hz hm fun G B M i j g p1 m1 r1=>?_);have I1:=I.but ne j;have b7:B.size=es.size:=by rw [<- au,p1.length_eq,au]
 refine a7 (bD (s:={ s with heap:=G }) g.at_ rfl g.fits ?_);dsimp only;obtain ⟨f1,f2⟩:=Ae g.fits;have N:n.plain=false:=I.pl.resolve_left p;have u:(i.led&&n.led)=i.led:=by rw [I.led,g.led,mG]
 have kp:∀ x,x∈B.toList.map li↔x∈es.toList.map li:=fun x=>(p1.map li).mem_iff;by_cases hf:i.fill=0
 ·have e1:es.size=0:=by
   unfold NM at hf;omega
  have mk:NB i.mask:=m1.resolve_left (by omega);have ee:es=#[]:=lX e1;unfold NN;rw [if_neg (by rw [hf];decide)];split
  ·refine jL (s:={ s with heap:=G }) g.at_ rfl ?_ (fY I.few);refine q _ s.toks _ _ _ (j.trans (bP G a _)) (⟨tE g,I.txt,I.nd,I.few,?_,?_,?_⟩:dn w _ a c (M+1) _) (fun x=>by rw [ee];simp) (.inl p)
   ·exact I.fits
   ·exact u.trans g.led
   ·exact .inr (by show (i.plain&&n.plain)=false;rw [N,o8])
  ·obtain ⟨b6,b,e,hp,ho⟩:=KG (finger:=i.finger) (moves:=i.moves) (led:=i.led&&n.led) (plain:=i.plain&&n.plain) (hs:=c.map (·.1)) mk (by rw [lf];exact r1);rw [lf] at hp ho;have U:=Ad ho;have sz:(b.filterMap (c[·]?)).size=c.size:=by rw [<- au,U.length_eq,au]
   refine a7 ?_;rw [e];show ar _ _ (if ((b.filterMap (c[·]?)).size != c.size)=true then _ else pure (b.filterMap (c[·]?),_)) _ _ _;rw [if_neg (by rw [sz];simp)];refine a9 ?_;refine jL (s:={ s with heap:=G }) g.at_ rfl ?_ (by rw [sz];exact fY I.few);refine q _ s.toks _ _ _ (j.trans (bP G a _)) (⟨tE g,fun x hx=>I.txt x (U.mem_iff.mp hx),(U.map li).nodup_iff.mpr I.nd,by rw [sz];exact I.few,KH (by rw [sz];exact hp) (by rw [sz];exact r1),u.trans g.led,.inr ?_⟩:dn w _ a (b.filterMap (c[·]?)) (M+1) _) (fun x=>?_) (.inl (by rw [sz];exact p))
   ·show (i.plain&&n.plain)=false;rw [N,o8]
   ·rw [(U.map li).mem_iff,ee];simp
  ·rename_i X
   split at X<;>cases X
 ·unfold NN;rw [if_pos (by simpa using hf)];dsimp only;refine a7 (yH (s:={ s with heap:=G }) I1 g fun h2 O b0 t2 a0 J2 p2=>?_);rw [<- LL];have hl:O.toList.length=c.size:=by rw [p2.length_eq,au]
  refine a7 (yY (fun r s'=>∃ h' d f L t',s'={ s with heap:=h',toks:=d }/\bI a s.heap h'/\dn w h' a f L t'/\f.size+r.length<=15/\(∀ e∈r,uL w e)/\∀ x,(x∈f.toList.map li\/x∈r.map li)↔x∈es.toList.map li\/x∈c.toList.map li) ?_ ?_ O.toList _ ⟨h2,s.toks,B,b0,t2,rfl,j.trans a0,J2,by omega,fun e he=>I.txt e (p2.mem_iff.mp he),fun x=>by rw [kp,(p2.map li).mem_iff]⟩)
  ·rintro e r s' ⟨h',d,f,L,t',rfl,v,J',z',z,Y⟩;obtain ⟨x,tk,rfl⟩:=z e al;simp only [aW] at z';dsimp only;refine a7 (cc (Cc (s:={ s with heap:=h',toks:=d }) (⟨f,L,t',J',.refl _⟩:mH w h' a (f.toList.map li)) (by rw [ah,au];exact aC (show f.size+1<100 by omega) (by decide)) fun S m H a1=>?_));obtain ⟨a6,a3,a4,a2,l⟩:=a1;have K:=v.trans H;have I3:=I.but ne K;refine a7 (he _ _ I3 ?_);refine a7 (bD (s:={ s with heap:=S,toks:=m }) I3.at_ rfl I3.fits ?_);dsimp only;rw [if_neg (by simp)];refine a9 ⟨rfl,S,m,a6,a3,a4,rfl,K,a2,?_,fun e he=>z e (ag _ he),fun y=>?_⟩
   ·have:=l.length_eq;rw [ah,au] at this;have l2:(if x∈f.toList.map li then f.toList.map li else f.toList.map li++[x]).length<=f.size+1:=by
     split<;>simp
    omega
   ·rw [<- Y y,l.mem_iff];have ek:li (hashStr w x,kF x tk)=x:=rfl;rw [ax,aN,ek];split
    ·rename_i hx
     constructor
     ·rintro (h|h)
      ·exact .inl h
      ·exact .inr (.inr h)
     ·rintro (h|h|h)
      ·exact .inl h
      ·rw [h];exact .inl hx
      ·exact .inr h
    ·rw [eT,c9];constructor
     ·rintro ((h|h)|h)
      ·exact .inl h
      ·exact .inr (.inl h)
      ·exact .inr (.inr h)
     ·rintro (h|h|h)
      ·exact .inl (.inl h)
      ·exact .inl (.inr h)
      ·exact .inr h
  ·rintro s' ⟨h',d,f,L,t',rfl,v,J',z',z,Y⟩;refine a9 (q h' d f L t' v J' (fun x=>?_) (.inl ?_))
   ·rw [<- Y x];simp
   ·intro e0;obtain ⟨e,hh⟩:∃ e,e∈c.toList:=by
     cases X:c.toList with
     |nil=>rw [<- au,X] at p;exact absurd rfl p
     |cons e r=>exact ⟨e,al⟩
    have:=(Y (li e)).mpr (.inr (bt hh));rw [lX e0] at this;simp at this
end L2
namespace L2
open PySem PyProof.Rows
theorem E3:HZ table "set.__or__"=some h_.«frozenset.__or__»:=H_ (id':="frozenset.__or__") (by kernel_rfl) rfl (by decide +kernel) (by kernel_rfl)
section
variable {P:bu}{w:bQ}{A:cf}{E:ac->ao->Prop}{s:ao}
theorem dn.ty (I:dn w s.heap a es ep t):s.TypeIs (.ref a) "set":=⟨_,I.at_,rfl⟩
theorem uT (I:dn w s.heap a es ep t) (q:Q true s):ar (av P w) A (ud (.ref a)) Q E s:=by
 unfold ud;refine a7 (gO I.ty NH ?_);exact a9 q
theorem Q6 (e:h.get? a=some (fM w)):dn w h a #[] 0 (.fresh 0 0 (!w.params.followText "set-order")) :=
 ⟨e,(fun _ h=>nomatch h),gC,by decide,rfl,rfl,.inl rfl⟩
theorem Tf (O:mH w s.heap a xs) (T:mH w s.heap b ys) (ne:a≠b) (hz:xs.length+ys.length<=15)
  (q:∀ h' j,bI s.heap.objs.size (s.heap.push (fM w)) h'->mH w h' s.heap.objs.size (dJ xs ys)->Q (.ref s.heap.objs.size) { s with heap:=h',toks:=j }) :
  ar (av P w) A (gY .BitOr (.ref a) (.ref b)) Q E s:=by
 obtain ⟨h,pa,ta,d,p⟩:=O;obtain ⟨H,U,tb,i,y⟩:=T;have sa:h.size=xs.length:=by rw [<- p.length_eq,ah,au]
 have sb:H.size=ys.length:=by rw [<- y.length_eq,ah,au]
 refine wpAny_binaryOp_same d.ty i.ty F.fills_set_or F.slot_set_or (bO F.slot_set_or d.ty E3 ?_ (F.args_set_or_2 _ _));have n:a<s.heap.objs.size:=aq d.at_;have t:b<s.heap.objs.size:=aq i.at_;show ar _ _ (RU "__or__" ⟨[.ref a,.ref b],[]⟩ >>= _) _ _ s;refine a7 (a7 (a9 (a9 ?_)));dsimp only;refine a7 (a7 (uT d (uT i ?_)));rw [if_neg (by simp)];refine a7 (a9 (a7 ?_));show ar _ _ (uI a >>= _) _ _ s;refine a7 ?_;unfold uI RV;refine a7 (a7 (gO d.ty NH (a9 ?_)));rw [if_pos rfl];refine a7 (ux ?_);have M:(s.heap.push (fM w)).get? s.heap.objs.size=some (fM w):=aw _ rfl;have K:=Q6 M;have m:dn w (s.heap.push (fM w)) a h pa ta:=d.keep fun _ e=>aa _ e;have u:dn w (s.heap.push (fM w)) b H U tb:=i.keep fun _ e=>aa _ e;have X:s.heap.objs.size≠a:=cV (aB n);have v:s.heap.objs.size≠b:=cV (aB t);refine a7 (a9 (a7 (Af (s:={ s with heap:=s.heap.push (fM w) }) X K m (by show 0+h.size<=15;omega) (.inr (.inl rfl)) (fun _ _ _ q=>a9 q) fun k f Y p1 t1 g I k1 m1=>a9 ?_)));have c:=u.but v g;have S:(Y.toList.map li).length<=h.size:=by
  have:=(gF I.nd d.nd).mpr fun x=>by rw [k1];simp
  rw [this.length_eq,ah,au];exact ap _
 rw [ah,au] at S;show ar _ _ (if (bf b != bf a)=true then _ else _) _ _ _;rw [if_pos (by simp;exact cV ne)];refine a7 (a9 (a7 (cc ?_)));show ar _ _ (kz _ s.heap.objs.size (bf b)) _ _ _;unfold kz;refine a7 (uT (s:={ s with heap:=k,toks:=f }) c ?_);rw [if_pos rfl];refine a7 (a9 ?_);unfold RW setEpoch;refine a7 (a7 (bD (s:={ s with heap:=k,toks:=f }) c.at_ rfl c.fits (a9 ?_)));refine Af (s:={ s with heap:=k,toks:=f }) v I c (by omega) m1 (fun s' Q' B q'=>?_) fun h2 o e2 L N l G k2 m2=>?_
 ·unfold RX setEpoch;refine a7 (a7 (bD B.at_ rfl B.fits (a9 ?_)));dsimp only;rw [if_neg (by simp)];exact a9 q'
 ·refine a9 (a9 ⟨_,rfl,(fun z=>nomatch z),q h2 o (g.trans l) ⟨e2,L,N,G,?_⟩⟩);refine (gF G.nd (ji _ _ (p.nodup_iff.mp d.nd))).mpr fun x=>?_;rw [k2,jt,k1,p.mem_iff,y.mem_iff];simp
end
end L2
namespace L2
open PySem PyProof.Rows
theorem Wo:rK X (gY .BitOr) (fun x y H Q=>∃ a b xs ys,x=.ref a/\y=.ref b/\a≠b/\H a=some (mL X.w a xs)/\H b=some (mL X.w b ys)/\xs.length+ys.length<=15/\∀ p,H p=none->Q (.ref p) (upd H p (mL X.w p (dJ xs ys)))):=by
 intro d s n H x y v u Q I f l h;obtain ⟨a,b,xs,ys,rfl,rfl,ne,i,j,g,q⟩:=h;cases f;cases l;have k:=(show de X.prog X.w H s.heap a (mL X.w a xs) from I.hok a _ i).1;have Sb:=(show de X.prog X.w H s.heap b (mL X.w b ys) from I.hok b _ j).1;refine Tf k Sb ne g fun h' c m S=>?_;refine ⟨.ref s.heap.objs.size,_,I.laid (t':=c) (fun b o e=>?_) (ap _) (DC S),rfl,q _ (I.hok.fresh (ap _))⟩;exact (m.2 b (aB (aq e))).trans (aa _ e)
end L2
namespace J
open PySem L2
def Wp (xs ys:List Str):R (List Str):=if xs.length+ys.length<=15 then .ok (dJ xs ys) else .no
def Q7 (a gb:aI->R (List Str)):aI->R (List Str):=fun ρ=>(a ρ).bind fun xs=>(gb ρ).bind (J.Wp xs)
theorem Wq (x:S_ c a ga) (B:S_ c b gb):S_ c (.BinOp a .BitOr b pos) (Q7 ga gb):=.of fun ρ=>sj (Uk Wo (x ρ) (B ρ)) fun K H Q h=>by
 obtain ⟨L,G,la,Hs,f,q⟩:=h;refine Km (w:=c.X.w) f q fun xs p n d E m s y=>?_;unfold Q7 at q;rw [E,bind_ok] at q;have k:cX n d (upd n p (mL c.X.w p xs)) d:=.mine s.st.sub y;refine Km (w:=c.X.w) (s.step k) (q.on (m.trans k) (q':=fun _=>True) fun _ _=>trivial) fun ys g j e I t A o=>?_;rw [I,bind_ok] at q;unfold J.Wp at q;by_cases i:xs.length+ys.length<=15
 ·rw [if_pos i] at q;have k1:j p=some (mL c.X.w p xs):=t.all p _ aS;have ne:p≠g:=fun z=>by rw [z,o] at k1;cases k1
  have u:cX j e (upd j g (mL c.X.w g ys)) e:=.mine A.st.sub o;exact ⟨p,g,xs,ys,rfl,rfl,ne,by rw [aV ne];exact k1,aS,i,fun l v=>q l _ _ (m.trans (k.trans (t.trans u))) v⟩
 ·rw [if_neg i] at q;exact q.elim
end J
namespace J
open PySem L2
def q09 (i j:Nat) (ρ:aI):List D->R Fl
 |[d,e]=>.ok (.nx ((ρ.set i (.shr d)).set j (.shr e)))
 |_=>.no
def Q8 (i j:Nat) (a:aI->R (List D)):aI->R Fl:=fun ρ=>(a ρ).bind (q09 i j ρ)
theorem Wr (i j:Nat) (u:c.X.calm=true) (o:c.X.N.Nodup) (t:EU c [a,b] gs) (A:c.X.N[i]?=some x:=by rfl) (E:c.X.N[j]?=some y:=by rfl) (k:i≠j:=by decide)
  (I:c.X.env.scope.names.lookup x=some .local:=by rfl) (p:c.X.env.scope.names.lookup y=some .local:=by rfl) (w:yK [.Tuple [.Name x px,.Name y py] kt pt] (.Tuple [a,b] k2 pt2) c.X.env=pure (some [x,y]):=by rfl)
  (hs:yJ [.Tuple [.Name x px,.Name y py] kt pt] (.Tuple [a,b] k2 pt2) pos.line c.X.env=pure false:=by rfl):JS c (.Assign [.Tuple [.Name x px,.Name y py] kt pt] (.Tuple [a,b] k2 pt2) pos) (Q8 i j gs):=.of fun ρ=>zR (VE u o A E k I p (t ρ) w hs) fun D K H h=>by
 obtain ⟨v,m,la,Hs,f,q⟩:=h;refine ⟨v,m,la,Hs,f,?_⟩;unfold Q8 at q;cases l:gs ρ with
 |ok ds =>
  rw [l,bind_ok] at q;intro L H' g s r
  match ds,r,q with
  |[],_,q=>exact q.elim
  |[_],_,q=>exact q.elim
  |[d,e],.cons B (.cons G .nil),q=>exact ⟨_,_,rfl,q _ _ g (((f.step s).set i B).set j G)⟩
  |_::_::_::_,_,q=>exact q.elim
 |ex z n =>
  rw [l] at q;exact fun H' g s=>q H' g (f.st.trans s)
 |no=>rw [l] at q;exact q.elim
end J
namespace J
open PySem L2
end J
namespace L2
open PySem PySem.Spec PyProof.Rows
theorem E4:zm (.type "list") "keys"=pure none:=by rw [EX,vF];kernel_rfl
theorem Cy:HZ table "dict.update.loop"=some h_.«dict.update.loop»:=entryFor_of_tree (by kernel_rfl)
theorem tL:plainId "dict.update.loop"=true:=by decide +kernel
theorem Ag
  (u:s.heap.get? a=some o) (l:o.cls=.type "list") (f:o.data=.seq xs k) (q:o.dict=none) (y:A.handled=none)
  (h:∀ h' v,(∀ b o,s.heap.get? b=some o->h'.get? b=some o)->Q none { s with heap:=h',toks:=v }) :
  ar (av prog w) A (RQ (.ref a) "keys") Q E s:=by
 obtain ⟨c,z,B,G⟩:=o;simp only at l f q;subst l f q;obtain ⟨H,g,d,v,p⟩:=s;have t:∀ i,(⟨H,g,d,i,p⟩:ao).TypeIs (.ref a) "list":=fun _=>⟨_,u,rfl⟩;have M:=sub_AttributeError;have L:=F.slot_list_getattribute.lookup;have I:=F.slot_list_getattribute.bind (.ref a);have K:=am_list_getattr_none;have j:(["__module__","__name__","__qualname__","__doc__","__annotations__"] : List Str).contains "keys"=false:=by decide +kernel
 unfold RQ getAttrBy? getAttrBy;repeat (any_goals (first|assumption|exact t _|((with_reducible show ar _ _ (call (Value.builtin "list.__getattribute__") _ _) _ _ _);refine zo F.slot_list_getattribute (t _) am_entry_list_getattribute (F.args_list_getattribute_2 _ _) (meets_getattribute_miss_list a xs k G "keys" _ E4 j (by size_fits)) ⟨u,y,fun h' i e m=>?_⟩)|wp_step))
 have n:=m.of;obtain ⟨ob,N,he,l,_⟩:=n.there;have x:(⟨h',g,d,i,p⟩:ao).TypeIs (.ref e) "AttributeError":=⟨_,he,l⟩;show ar _ _ (getattributeRaised _ _ _ _ _ _ _) _ _ _;unfold getattributeRaised;repeat (any_goals (first|assumption|wp_step))
 exact h _ _ n.keeps
end L2
namespace L2
open PySem PySem.Spec PyProof.Rows
def KI (b:List (eC×ac)) (l:List (eC×ac×ac)):List (eC×ac):=l.foldl (fun a t=>HW a t.1 t.2.2) b
theorem J4 (kvs:List (eC×ac)) (k:eC) (v:ac):(HW kvs k v).length<=kvs.length+1:=by
 unfold HW;split<;>simp
theorem Bz {I:aj}{Y u:List aj}{n:Nat}{U:Nat->ac->Prop}{St:Nat->bK->Prop} (W:No prog w A.in1 I Y u n U St) (D:aj) (hD:D∉Y) (xs:List (eC×ac×ac)) (pa:List aj) (hx:xs.length=n)
  (hv:∀ i v,U i v->∃ p x,pa[i]?=some p/\xs[i]?=some x/\v=.ref p) (hk:∀ x∈xs,(dG prog w).is x.1 x.2.1=true) (hp:∀ p∈pa,p∉D::u) (c:n<=1000) :
  ∀ (k i:Nat) (s:ao) (a:List (eC×ac)) (j:Int),n-i=k->i<=n->a.length<=i->St i s.heap->s.heap.DictOf (dG prog w) D a->(∀ (i:Nat) (p:aj) (x:eC×ac×ac),pa[i]?=some p->xs[i]?=some x->HJ s.heap p #[x.2.1,x.2.2]) ->
   (∀ h' f,(∀ b o,b∉D::u->s.heap.get? b=some o->h'.get? b=some o)->h'.DictOf (dG prog w) D (KI a (xs.drop i))->R (.ok (.ret .none)) { s with heap:=h',toks:=f }) ->
   iK (av prog w) A (.builtin "dict.update.loop" ⟨[.ref D,.ref I,cq j,.none],[]⟩) R s:=by
 have q:D∉u:=fun z=>hD (W.sub _ z);intro k;induction k with
 |zero =>
  intro i s a j G hi hl st O H K;obtain rfl:i=n:=by omega
  refine eA Cy ?_;rw [dB tL _];show ar _ A.in1 (kH (.ref I) >>= _) _ _ s;refine a7 (W.done s _ _ st fun h' f kp=>?_);show ar _ _ (Builtin.Dict.addKeywords D [] >>= _) _ _ _;refine a7 (a9 (a9 (K h' f (fun b o c e=>kp b o (fun z=>c (ag _ z)) e) ?_)));rw [Hx (by omega)];obtain ⟨o,es,y,e,r⟩:=O;exact ⟨o,es,y,kp D o q e,r⟩
 |succ k ih =>
  intro i s a j G hi hl st O H K;have l:i<n:=by omega
  refine eA Cy ?_;rw [dB tL _];show ar _ A.in1 (kH (.ref I) >>= _) _ _ s;refine a7 (W.item i s _ _ l st fun v h' f hP E kp=>?_);obtain ⟨p,x,h,d,rfl⟩:=hv i v hP;have M:=hp p (cC h);have L:h'.DictOf (dG prog w) D a:=by
   obtain ⟨o,es,y,e,r⟩:=O;exact ⟨o,es,y,kp D o q e,r⟩
  obtain ⟨ot,et,ct,nt,dt⟩:=H i p x h d;have g:h'.get? p=some ot:=kp p ot (fun z=>M (ag _ z)) et;have m:=hk x (cC d);refine a7 (cc (a7 (wpAny_tryCatch ?_)));unfold Builtin.Dict.pairItems;refine a7 (mD (T:="tuple") (s:={ s with heap:=h',toks:=f }) ⟨_,g,ct⟩ ?_);rw [if_pos (by decide)];refine a7 (eW (s:={ s with heap:=h',toks:=f }) g dt (a9 ?_));show ar _ _ (Ht [x.2.1,x.2.2] (dictSet D x.2.1 x.2.2)) _ _ _;refine cc ?_;unfold dictSet;refine cc (a7 ((dG prog w).pyHash (k:=x.1) m ?_));refine wpAny_dictSetHashed_pairs (s:={ s with heap:=h',toks:=f+1 }) m L (fun Q P S=>?_) (bL hl (bL hi (bL c (bw (cK (ap _))))));refine a9 ⟨lc tL _,ih (i+1) _ (HW a x.1 x.2.2) _ (by omega) l ?_ (W.frame _ _ _ E fun b c o e=>?_) P (fun i2 t x2 e1 e2=>?_) fun h3 N k3 B=>?_⟩
  ·have:=J4 a x.1 x.2.2;omega
  ·rw [S.2 b fun z=>hD (z ▸ c)];exact e
  ·obtain ⟨X,g2,r2⟩:=H i2 t x2 e1 e2;have hm:=hp t (cC e1);exact ⟨X,(S.2 t fun z=>hm (by rw [z];exact al)).trans (kp t X (fun z=>hm (ag _ z)) g2),r2⟩
  ·refine K h3 N (fun b o c e=>k3 b o c ?_) ?_
   ·show Q.get? b=_;rw [S.2 b fun z=>c (by rw [z];exact al)];exact kp b o (fun z=>c (ag _ z)) e
   ·have hd:xs.drop i=x::xs.drop (i+1):=by
     obtain ⟨h1,Q⟩:=List.getElem?_eq_some_iff.mp d;rw [pH h1,Q]
    rw [hd];exact B
theorem BA {l:aj}{q:Obj}{c:List ac}{n:Nat}{xs:List (eC×ac×ac)}{pa:List aj}{Q:ac->ao->Prop} (P:A.handled=none)
  (u:s.heap.get? l=some q) (y:q.cls=.type "list") (I:q.dict=none) (k:q.data=.seq c.toArray n) (U:∀ (i:Nat) (v:ac),c[i]?=some v->∃ p x,pa[i]?=some p/\xs[i]?=some x/\v=.ref p) (hx:xs.length=c.length) (hk:∀ x∈xs,(dG prog w).is x.1 x.2.1=true) (X:c.length<=1000)
  (hT:∀ (i:Nat) (p:aj) (x:eC×ac×ac),pa[i]?=some p->xs[i]?=some x->HJ s.heap p #[x.2.1,x.2.2]) (K:∀ p∈pa,p<s.heap.objs.size)
  (h:∀ (h':bK) (N:Nat),h'.DictOf (dG prog w) s.heap.objs.size (KI [] xs)->(∀ b o,s.heap.get? b=some o->h'.get? b=some o)->Q (.ref s.heap.objs.size) { s with heap:=h',toks:=N }) :
  ar (av prog w) A (call (.type "dict") [.ref l]) Q E s:=by
 refine callType_codes (Q₁:=fun t j=>t=.ref s.heap.objs.size/\j={ s with heap:=s.heap.push { cls:=.type "dict",data:=.dict #[] } }) F.kt_called_dict (F.kt_typeCall_dict_1 _) F.entry_dict_init (kt_code_dict_new _ ⟨rfl,rfl⟩) ?_;rintro t j ⟨rfl,rfl⟩;have a:(s.heap.push { cls:=.type "dict",data:=.dict #[] }).DictOf (dG prog w) s.heap.objs.size []:=Hv s.heap;have f:(s.heap.push { cls:=.type "dict",data:=.dict #[] }).get? l=some q:=aa _ u;have B:l<s.heap.objs.size:=aq u;refine ⟨a.typeIs,F.args_dict_init_2 _ _,?_⟩;unfold h_.«dict.__init__»;refine a7 ?_;unfold Builtin.Dict.selfAndRest;refine a7 (Rt a.typeIs ?_);show ar _ _ (pure (s.heap.objs.size,[bf l])) _ _ _;refine a9 ?_;show ar _ _ (yx "dict.__init__" s.heap.objs.size (.ref l) [] .none) _ _ _;unfold yx;refine a7 (mD (T:="list") ⟨_,f,y⟩ ?_);rw [if_pos (by decide)];refine a7 (Ag (s:={ s with heap:=s.heap.push { cls:=.type "dict",data:=.dict #[] } }) f y k I (by simpa using P) fun m G k1=>?_);rw [if_pos (by rfl)];refine a7 (cW ?_);have d:=k1 l q f;refine a7 (mz (s:={ s with heap:=m,toks:=G }) ⟨_,d,y,⟨_,k⟩⟩ ?_);have H:∃ o,m.get? s.heap.objs.size=some o:=by
  obtain ⟨o,es,O,e,_⟩:=a;exact ⟨o,k1 _ _ e⟩
 obtain ⟨oD,S⟩:=H;have M:=aq S;have W:=B4 (prog:=prog) (w:=w) (A:=A.in1.in1) (by simpa using P) m.objs.size l (aB (aq d)) c.toArray;have k2:∀ b o,m.get? b=some o->(m.push { cls:=.type "list_iterator",data:=.fields #[.ref l,.int 0 0] }).get? b=some o:=fun b o e=>aa _ e;have z:(m.push { cls:=.type "list_iterator",data:=.fields #[.ref l,.int 0 0] }).DictOf (dG prog w) s.heap.objs.size []:=by
  obtain ⟨o,es,O,e,r⟩:=a;exact ⟨o,es,O,k2 _ _ (k1 _ _ e),r⟩
 refine a9 ⟨lc tL _,Bz (A:=A.in1) W s.heap.objs.size ?_ xs pa (by rw [hx,aK]) (fun i v e=>U i v (by simpa using e)) hk (fun p hp=>?_) (by rw [aK];exact X) c.length 0 _ [] 0 (by rw [aK];omega) (cG _) (ap _) ⟨⟨_,aw _ rfl,rfl,rfl⟩,⟨_,k2 _ _ d,y,⟨_,k⟩⟩⟩ z (fun i p x Y e2=>?_) fun h' N kp L=>?_⟩
 ·simp only [aN,aZ,or_false,not_or];exact ⟨aB M,dv B⟩
 ·have:=K p hp;simp only [aN,aZ,or_false,not_or];exact ⟨aB this,aB (e7 this M)⟩
 ·obtain ⟨o,g,r⟩:=hT i p x Y e2;exact ⟨o,k2 _ _ (k1 _ _ (aa _ g)),r⟩
 ·refine ⟨rfl,h h' N L fun b o e=>kp b o ?_ (k2 _ _ (k1 _ _ (aa _ e)))⟩;have:=aq e;simp only [aN,aZ,or_false,not_or];exact ⟨aB this,aB (e7 this M)⟩
end L2
namespace L2
open PySem PySem.Spec PyProof.Rows
theorem Gc (ok:rq P w H h):∀ (pa:List aj) (kvs:List (eC×V)),kvs.length=pa.length->(∀ (i:Nat) (a:aj) (c:eC×V),pa[i]?=some a->kvs[i]?=some c->H a=some (.tup [kV c.1,c.2])) ->
  ∃ xs:List (eC×ac×ac),xs.length=pa.length/\(∀ (i:Nat) (p:aj) (x:eC×ac×ac),pa[i]?=some p->xs[i]?=some x->HJ h p #[x.2.1,x.2.2])/\(∀ x∈xs,(dG P w).is x.1 x.2.1=true)/\KV kvs (xs.map fun x=>(x.1,x.2.2))
 |[],[],_,_=>⟨[],rfl,fun i p x e=>by simp at e,fun _ e=>by simp at e,.nil⟩
 |a::pa,c::kvs,d,j=>by
  obtain ⟨xs,k,u,l,o⟩:=Gc ok pa kvs (Nat.succ.inj d) fun i b x f g=>j (i+1) b x f g;have B:=j 0 a c rfl rfl;obtain ⟨_,n,r,it⟩:=(show de P w H h a (.tup [kV c.1,c.2]) from ok a _ B);cases r with
  |cons s v =>
   cases v with
   |cons y q =>
    cases q;rename_i t m
    refine ⟨(c.1,t,m)::xs,by simp [k],fun i p x f g=>?_,fun x A=>?_,.cons ⟨rfl,y⟩ o⟩
    ·cases i with
     |zero=>cases f;cases g;exact it
     |succ i=>exact u i p x f g
    ·rcases List.mem_cons.mp A with z|z
     ·rw [z];exact C9 s
     ·exact l x z
 |[],_::_,d,_=>by simp at d
 |_::_,[],d,_=>by simp at d
theorem Cz:∀ {pa:List aj}{b:List ac},dH (pa.map V.ref) b->b=pa.map bf
 |[],b,h=>by cases h;rfl
 |a::pa,b,h=>by
  cases h with
  |cons r t=>rw [Cz t,show _=bf a from r];rfl
theorem E5 {X:Cx} (O:X.calm=true):jF X (.type "dict") (fun xs H Q=>∃ (l:aj) (pa:List aj) (kvs:List (eC×V)),xs=[.ref l]/\nl X.K H l (pa.map V.ref)/\kvs.length=pa.length/\pa.length<=1000/\(∀ (i:Nat) (a:aj) (j:eC×V),pa[i]?=some a->kvs[i]?=some j->H a=some (.tup [kV j.1,j.2]))/\∀ d,H d=none->Q (.ref d) (upd H d (.dK (zE [] kvs)))):=by
 intro y s σ H xs us Q I r h;obtain ⟨l,pa,kvs,rfl,P,f,t,A,q⟩:=h;obtain ⟨u,rfl,L⟩:=kM r;cases L;have U:=I.ok.hd O;obtain ⟨T,r',⟨o,n,ho,B,Y,N⟩,_⟩:=I.list P;obtain rfl:=Cz r';obtain ⟨ys,m,G,M,S⟩:=Gc I.hok pa kvs f A;refine BA (by simpa using U) ho B Y N (xs:=ys) (pa:=pa) (fun i v e=>?_) (by rw [m,ah]) M (by rw [ah];exact t) G (fun p b=>?_) fun h' E dd kp=>?_
 ·rw [aF] at e;cases b:pa[i]? with
  |none=>rw [b] at e;cases e
  |some p =>
   rw [b] at e;cases e;have c:i<ys.length:=by rw [m];exact (List.getElem?_eq_some_iff.mp b).1
   exact ⟨p,ys[i],rfl,aE c,rfl⟩
 ·obtain ⟨i,c,e⟩:=fR b;have hk:i<kvs.length:=by rw [f];exact c
  have:=A i p kvs[i] (by rw [<- e];exact aE c) (aE hk);obtain ⟨_,_,_,_,g,_⟩:=(show de X.prog X.w H s.heap p (.tup _) from I.hok p _ this);exact aq g
 ·have e:KI [] ys=merged [] (ys.map fun x=>(x.1,x.2.2)):=by unfold KI merged;rw [ur]
  rw [e] at dd;have k:=KV.merge S (Paired.nil:KV (κ:=eC) [] []);have z:=uw kvs [];simp only [bU] at z;refine ⟨.ref s.heap.objs.size,_,I.laid (t':=E) kp (ap _) (Oq (bL z (by rw [e8,f];exact bw (cK t))) ?_ k dd),rfl,q _ (I.hok.fresh (ap _))⟩;have:=I.big;exact beq_false_of_ne (dv this)
end L2
namespace J
open PySem L2
def oz:List D->Option (List (eC×D))
 |[]=>some []
 |.tuple [k,v]::r=>(pT k).bind fun y=>(oz r).map ((y,v)::·)
 |_::_=>none
def wg:D->R D
 |.list ds=>if ds.length<=1000 then (match oz ds with
  |some b=>.ok (.dict (b.foldl (fun a p=>uj a (kD p.1) p.2) []))
  |none=>.no) else .no
 |_=>.no
theorem CA : ∀ {ds:List D}{j:List V}{g:List (eC×D)},RDs K H j ds->oz ds=some g ->
  ∃ (pa:List aj) (kvs:List (eC×V)),j=pa.map V.ref/\kvs.length=pa.length/\(∀ (i:Nat) (a:aj) (f:eC×V),pa[i]?=some a->kvs[i]?=some f->H a=some (.tup [kV f.1,f.2]))/\RDk K H kvs (g.map fun p=>(kD p.1,p.2))
 |[],j,g,r,e=>by
  cases r;cases e;exact ⟨[],[],rfl,rfl,fun i a f e=>by simp at e,.nil⟩
 |d::ds,j,g,r,e=>by
  unfold oz at e;split at e
  ·rename_i h;cases h
  ·rename_i k v N h
   cases h;cases r with
   |cons E M =>
    rename_i B u
    cases n:pT k with
    |none=>rw [n] at e;cases e
    |some y =>
     rw [n] at e;cases m:oz ds with
     |none=>rw [m] at e;cases e
     |some O =>
      rw [m] at e;cases e;obtain ⟨pa,kvs,t,L,x,A⟩:=CA M m;obtain ⟨a,c,rfl,l,o⟩:∃ a c,B=V.ref a/\H a=some (.tup c)/\RDs K H c [k,v]:=by
       cases E with
       |tuple l o=>exact ⟨_,_,rfl,l,o⟩
      ·obtain ⟨P,G,rfl,z,I⟩:=o.two;have w:=wc n;subst w;have:=DX z;subst this;refine ⟨a::pa,(y,G)::kvs,by rw [t];rfl,by simp [L],fun i b f q s=>?_,.cons I A⟩;cases i with
       |zero=>cases q;cases s;exact l
       |succ i=>exact x i b f q s
  ·cases e
theorem Gd : ∀ {kvs:List (eC×V)}{es:List (D×D)}{b:List (eC×V)}{ds:List (D×D)},RDk K H kvs es->RDk K H b ds->RDk K H (zE b kvs) (es.foldl (fun a p=>uj a p.1 p.2) ds)
 |[],es,b,ds,r,c=>by
  cases r;exact c
 |e::kvs,es,b,ds,r,c=>by
  cases r with
  |cons h t =>
   rename_i k0 g f d
   have:=Gd (kvs:=kvs) t (c.put k0 h);exact this
def yZ (g:aI->R D):aI->R D:=fun ρ=>(g ρ).bind wg
theorem Mx (G:c.X.calm=true) (h:JE c e g) (o:Gl c.X "dict") (u:c.X.mg "dict"=none) (he:az [e] c.X.env=(false,dO e c.X.env)::az [] c.X.env:=by rfl) :
  JN c (.Call (.Name "dict" p) [e] [] cpos) (yZ g):=.of fun ρ=>by
 refine sj (xk (E5 G) o u PyProof.Rows.boot_dict (ck (h ρ) fB he) (he:=he)) fun S H Q s=>?_;obtain ⟨T,O,la,Hs,f,q⟩:=s;dsimp only [L2.X7,L2.F7,L2.Oe];refine zS f q fun d v A j t z x M=>?_;unfold yZ at q;rw [t,bind_ok] at q;unfold wg at q;split at q
 ·rename_i ds
  by_cases w:ds.length<=1000
  ·rw [if_pos w] at q;split at q
   ·rename_i U hs
    obtain ⟨a,k,rfl,n,m⟩:∃ a k,v=V.ref a/\nl c.X.K j a k/\RDs c.X.K j k ds:=by
     cases M with
     |list n m=>exact ⟨_,_,rfl,n,m⟩
    ·obtain ⟨pa,kvs,rfl,N,E,L⟩:=CA m hs;have y:=Gd L (RDk.nil (K:=c.X.K) (H:=j));rw [ur] at y;refine ⟨a,pa,kvs,rfl,?_,N,?_,fun i b I t P=>x.st.sub _ _ (E i b I t P),fun l B=>q l _ A j z B (.dK y)⟩
     ·exact dD.seq x.st.sub n
     ·have:=m.length;rw [ah] at this;omega
   ·exact q.elim
  ·rw [if_neg w] at q;exact q.elim
 ·exact q.elim
end J
namespace L2
open PySem PySem.Spec PyProof.Rows
def Wt (K:a8) (a:aj):It :=
 ⟨fun i H=>∃ xs x,nl K H a xs/\xs[i]?=some x,fun i H v H'=>∃ p,H p=none/\v=.ref p/\∀ xs,nl K H a xs->∃ x,xs[i]?=some x/\H'=upd H p (.tup [.int i,x]),fun i H=>∃ xs,nl K H a xs/\xs.length<=i⟩
theorem J5 {P:bu}{w:bQ}{K:a8}{y:List bZ}{x1}{S:Pos} (a e it:aj) (A:e≠it):zz P w K (.Tuple y x1 S) (Wt K a) [e,it] e (fun i h=>(∃ f,IsEnum h e it i f)/\h.IsListIter it a i) where
 mem:=by simp
 obj:=fun i h st b c=>by
  simp only [aN,aZ,or_false] at c;rcases c with rfl|rfl
  ·obtain ⟨⟨f,q⟩,_⟩:=st;exact ⟨_,q,fun v z=>by cases z⟩
  ·obtain ⟨_,o,q,_,d⟩:=st;exact ⟨o,q,fun v z=>by rw [d] at z;cases z⟩
 keep:=fun i h h' st k=>⟨let ⟨f,q⟩:=st.1;⟨f,k e (by simp) _ q⟩,let ⟨o,q,r⟩:=st.2;⟨o,k it (by simp) o q,r⟩⟩
 item:=by
  intro X O M L hc i j s σ H E I G st U;subst O M L;obtain ⟨xs,x,B,Y⟩:=U;obtain ⟨N,T,p,hz⟩:=I.list B;obtain ⟨u,hu,ru⟩:=T.get Y;obtain ⟨⟨f,he⟩,g⟩:=st;have m:=g;obtain ⟨oi,ei,_⟩:=m;have t:=aq he;refine wpAny_pyNext_enum_item he g p.isList (by simpa using hu) A ?_;intro h1 eo a0 tup sz k1;refine ⟨_,rfl,Ih eo fun h2 e2 l=>?_⟩;have Q:s.heap.objs.size≠e:=dv t;have I2:bH X j σ H { s with heap:=h2,toks:=s.toks+1 }:=I.turnedL (ch:=[e,it]) (fun b o c q=>by
   simp only [aN,aZ,or_false,not_or] at c;exact (l.2 b c.1).trans (k1 b o c.1 c.2 q)) G
  have fT:=I.fpOk (H':=H) (ap _) (I.hok.fresh (ap _));have n:h2.get? s.heap.objs.size=some { cls:=.type "tuple",data:=.seq #[.int i s.toks,u] }:=(l.2 _ Q).trans tup;have I3:=I2.track (ho:=.tup [.int i,x]) fT ⟨by show 2<=sizeLine;decide,[.int i s.toks,u],.cons ⟨s.toks,rfl⟩ (.cons ru .nil),⟨_,n,rfl,0,rfl⟩⟩;refine ⟨.ref s.heap.objs.size,_,I3,rfl,⟨_,fT.1,rfl,fun ys hy=>?_⟩,⟨⟨u,?_⟩,?_⟩,fun b c=>?_⟩
  ·rw [I.list_inj hy B];exact ⟨x,Y,rfl⟩
  ·have:(((i+1:Nat):Int))=(i:Int)+1:=by omega
   rw [this];exact e2
  ·obtain ⟨o,q,r⟩:=a0;exact ⟨o,(l.2 it (cV A)).trans q,r⟩
  ·rw [aV]
   ·exact (G b c).1
   ·simp only [aN,aZ,or_false] at c;rcases c with z|z
    ·rw [z];exact aB t
    ·rw [z];exact aB (aq ei)
 done:=by
  intro X O M L hc i j s σ H E I G st U;subst O M L;obtain ⟨xs,B,Y⟩:=U;obtain ⟨N,T,p,hz⟩:=I.list B;obtain ⟨⟨f,he⟩,g⟩:=st;have hl:=T.length;refine wpAny_pyNext_enum_end (by simpa using I.ok.hd hc) he g p.isList (by simp;omega) fun h' eb=>?_;exact ⟨rfl,I.turnedL (t':=s.toks) (ch:=[e,it]) (fun b o c q=>eb b o (by
   simp only [aN,aZ,or_false,not_or] at c;exact c.2) q) G⟩
 self:=fun _ _ _ _ _ st h=>let ⟨⟨_,q⟩,_⟩:=st;rP q h
def Wu (K:a8) (d:TA):TI:=fun c H R=>d c H fun e b=>∃ a xs,e=[.ref a]/\nl K b a xs/\R (Wt K a) b
theorem Q9 {X:Cx}{g:List bZ}{x1}{f p i:Pos}{a:bZ}{n:TA} (N:Gl X "enumerate") (E:X.mg "enumerate"=none) (w:PA X [a] n) (hs:az [a] X.env=[(false,dO a X.env)]:=by rfl) :
  PI X (.Tuple g x1 f) (.Call (.Name "enumerate" p) [a] [] i) (Wu X.K n):=by
 intro c s k H R I h;refine Call_ (uJ I N E boot_enumerate (fu (fZ (w i c s k H _ I h) fun Q e o=>?_) hs rfl));obtain ⟨S,j,d,L,y⟩:=o;obtain ⟨B,xs,rfl,x,q⟩:=y;obtain ⟨u,rfl,t⟩:=kM L;cases t;obtain ⟨A,P,v,O⟩:=d.list x;refine call_enumerate_list v.isList fun h' m M sz kp=>?_;refine rP m ?_;have G:bH X c k j { e with heap:=h' }:=d.kept (t':=e.toks) kp;refine ⟨e.heap.objs.size+1,[e.heap.objs.size+1,e.heap.objs.size],_,_,j,rfl,G,J5 B _ _ (dv (eu _)),⟨⟨.none,m⟩,M⟩,fun b l=>?_,q⟩;simp only [aN,aZ,or_false] at l;rcases l with z|z
 ·rw [z];exact d.fpOk (iL _) (d.hok.fresh (iL _))
 ·rw [z];exact d.fpOk (ap _) (d.hok.fresh (ap _))
end L2
namespace J
open PySem L2
theorem Qa (h:nl K Hn a vs) (r:RDs K Hs vs ds):P7 K (Wt K a) (jS 0 ds) Hn Hs:=fun n e f j k=>by
 have q:=f.seq h;have l:=xt ds 0;refine ⟨fun i c=>?_,fun i c=>⟨vs,q,by rw [r.length];omega⟩,fun i x m c y=>?_⟩
 ·have b:i<vs.length:=by rw [r.length];omega
  exact ⟨vs,vs[i],q,aE b⟩
 ·obtain ⟨p,g,rfl,y⟩:=y;obtain ⟨x,k0,rfl⟩:=y vs q;obtain ⟨d,k1,k2⟩:=r.get k0;have st:=cX.new (o:=.tup [.int i,x]) k g;refine ⟨.tuple [.int i,d],_,?_,st,.tuple aS (.cons (.int _) (.cons ((k2.same j).same st.sh) .nil))⟩;rw [xr,k1];simp
def Tg:List D->R (List D)
 |[.list ds]=>.ok (jS 0 ds)
 |_=>.no
def KJ (a:aI->R (List D)):aI->R (List D):=fun ρ=>(a ρ).bind Tg
theorem My {x1} (s:Gl c.X "enumerate") (k:c.X.mg "enumerate"=none) (j:EU c [a] gs) (hs:az [a] c.X.env=[(false,dO a c.X.env)]:=by rfl):Nz c (.Tuple elts x1 tpos) (.Call (.Name "enumerate" p) [a] [] pos) (KJ gs):=.of fun ρ=>Kh (Q9 s k (j ρ) hs) fun u H Q b=>by
 obtain ⟨v,t,la,Hs,f,q⟩:=b;refine Bu f q fun ds w i d m g l n=>?_;unfold KJ at q;rw [m,bind_ok] at q;unfold Tg at q;split at q
 ·obtain ⟨x,rfl,h⟩:=n.one;cases h with
  |list e o=>exact ⟨_,_,rfl,dD.seq l.st.sub e,q _ i d g (Qa e o)⟩
 ·exact q.elim
end J
namespace L2
open PySem PySem.Spec PyProof.Rows
end L2
namespace J
open PySem L2
end J
namespace J
open PySem L2
end J
namespace J
open PySem L2 PyProof.Rows
structure En where
 P:bu
 w:bQ
 K:a8
 mg:Str->Option ac
 base:bK
 cls:Str->aj
abbrev FN (e:En):=Fn e.P e.w e.K e.mg e.base e.cls
abbrev FT (e:En):=Zm e.P e.w e.K e.mg e.base e.cls
abbrev ER (e:En):=Er e.mg e.base e.cls
abbrev Cn (a:Str->Option ac) (x:Str) (n:Int):Prop:=∃ t,a x=some (.int n t)
structure iS (K:a8) (mg:Str->Option ac) (x:Str) (st:dY):Prop where
 ex:∃ f fd,Fe K x x st f fd/\mg x=some (.ref f)
section
variable {K:a8}{h:bK}{mg:Str->Option ac}{x:Str}
theorem d_in {st:dY}{A:aj}{m i:Option aj}{d:Array (Option ac)}{e kV f j b g:ac} (X:K.In h) (G:h.Ns bC mg) (a:gP K bC x=some (some (.ref A)))
  (l:K.lookup A=some ⟨e,m,.func (f9 x x (lP st) (i6 st) (ay st) .none kV f j i b g),d⟩) (c:kJ K b x=true) (k:cY K (.ref A)=true):iS K mg x st :=
 ⟨_,_,Oo l c k,jN X G a⟩
theorem cn_in (X:K.In h) (G:h.Ns bC mg) (t:gP K bC x=some (some (.int n tk))):Cn mg x n:=⟨_,jN X G t⟩
inductive Zs (K:a8):List Str->Prop
 |nil:Zs K []
 |cons {x:Str}{r:List Str}:gP K bC x=some none->Zs K r->Zs K (x::r)
theorem Zs.get (z:Zs K r):∀ x∈r,gP K bC x=some none:=by
 induction z with
 |nil=>exact fun _ h=>nomatch h
 |cons a _ b =>
  intro y c;rcases List.mem_cons.mp c with e|e
  ·rw [e];exact a
  ·exact b y e
abbrev zn:List Str:=["len","isinstance","all","any","zip","tuple","list","sorted","set","range","enumerate","dict","sum","max","min","reversed","str","int","bool","ValueError"]
theorem Yy (X:K.In h) (G:h.Ns bC mg) (z:Zs K zn):Bi mg:=by
 have q:∀ x∈zn,mg x=none:=fun x a=>Im X G (z.get x a);exact ⟨q _ (by decide),q _ (by decide),q _ (by decide),q _ (by decide),q _ (by decide),q _ (by decide),q _ (by decide),q _ (by decide),q _ (by decide),q _ (by decide),q _ (by decide),q _ (by decide),q _ (by decide),q _ (by decide),q _ (by decide),q _ (by decide),q _ (by decide),q _ (by decide),q _ (by decide)⟩
theorem Yz (X:K.In h) (G:h.Ns bC mg) (z:Zs K zn):mg "ValueError"=none:=Im X G (z.get _ (by decide))
end
section
variable {P:bu}{w:bQ}{K:a8}{mg:Str->Option ac}{base:bK}{N:List Str}{qual:Str}{scope:i5}{f:aj}{cd:ac}{A:cf}{outer:List Env}{s:ao}{H:Hp}{E:XK}
theorem px:kO (mM P w) (j_ (mM P w) P w K mg base N qual scope f cd A outer s H E) E:=FD fun _ _ h=>h
end
theorem jc (G:Fn c.X.prog c.X.w c.X.K c.X.mg c.X.base c.cls x k n F) (g:jO j c.X.A) (h:kO (mM c.X.prog c.X.w) c.X c.E) (d:EU c (e::es) gs)
  (f:k<=j:=by decide) (i:Gl c.X x:=by exact rfl) (a:(x==("__debug__" : Str))=false:=by decide) (he:az (e::es) c.X.env=(false,dO e c.X.env)::az es c.X.env:=by rfl) (b:(gG pos (az es c.X.env)).any (·.1)=false:=by rfl) :
  JE c (.Call (.Name x p) (e::es) [] pos) (fH n F gs):=SS G (g.mono f) i h d a he b
theorem jd (G:Zm c.X.prog c.X.w c.X.K c.X.mg c.X.base c.cls x y k n F) (h:jO j c.X.A) (i:kO (mM c.X.prog c.X.w) c.X c.E) (f:EU c es gs)
  (g:k<=j:=by decide) (l:Gl c.X x:=by exact rfl) (a:Gl c.X y:=by exact rfl) (d:(x==("__debug__" : Str))=false:=by decide) (b:(y==("__debug__" : Str))=false:=by decide) (he:az (.Name y q::es) c.X.env=(false,dO (.Name y q) c.X.env)::az es c.X.env:=by rfl) (e:(gG pos (az es c.X.env)).any (·.1)=false:=by rfl) :
  JE c (.Call (.Name x p) (.Name y q::es) [] pos) (fH n F gs):=Ta G (h.mono g) l a i f d b he e
abbrev Bq (x:Str) (st:dY) (c:List ac) (r:List (Str×ac)):Prop:=∀ (kV a f:ac) (d:Option aj) (b e:ac),RE (f9 x x (lP st) (i6 st) (ay st) .none kV a f d b e) ⟨c,[]⟩=pure r
section
variable {K:a8}{x:Str}{st:dY}{f:aj}{fd:eI}
theorem b1 (F:Fe K x x st f fd) (h:∀ u,Bq x st [u] [(a,u)]:=by exact fun _ _ _ _ _ _ _=>rfl):jG K fd [a] []:=F.binds fun _ _ _ _ _ _ c b=>by obtain ⟨_,rfl⟩:=ln1 b;exact h ..
theorem b2 (F:Fe K x x st f fd) (h:∀ u v,Bq x st [u,v] [(a,u),(b,v)]:=by exact fun _ _ _ _ _ _ _ _=>rfl):jG K fd [a,b] []:=F.binds fun _ _ _ _ _ _ d c=>by obtain ⟨_,_,rfl⟩:=ln2 c;exact h ..
theorem b3 (F:Fe K x x st f fd) (h:∀ u v w,Bq x st [u,v,w] [(a,u),(b,v),(c,w)]:=by exact fun _ _ _ _ _ _ _ _ _=>rfl):jG K fd [a,b,c] []:=F.binds fun _ _ _ _ _ _ e d=>by obtain ⟨_,_,_,rfl⟩:=ln3 d;exact h ..
theorem b4 (F:Fe K x x st f fd) (h:∀ u v w z,Bq x st [u,v,w,z] [(a,u),(b,v),(c,w),(d,z)]:=by exact fun _ _ _ _ _ _ _ _ _ _=>rfl):jG K fd [a,b,c,d] []:=F.binds fun _ _ _ _ _ _ g e=>by obtain ⟨_,_,_,_,rfl⟩:=ln4 e;exact h ..
theorem b5 (F:Fe K x x st f fd) (h:∀ u v w z y,Bq x st [u,v,w,z,y] [(a,u),(b,v),(c,w),(d,z),(e,y)]:=by exact fun _ _ _ _ _ _ _ _ _ _ _=>rfl):jG K fd [a,b,c,d,e] []:=F.binds fun _ _ _ _ _ _ i g=>by obtain ⟨_,_,_,_,_,rfl⟩:=ln5 g;exact h ..
end
theorem sG {e:En}{x:Str}{st:dY}{N c:List Str}{k:Nat}{g:aI->R Fl} (D:iS e.K e.mg x st) (S:bM N c (ay st)) (b:∀ {f:aj}{d:eI},Fe e.K x x st f d->jG e.K d c [])
  (h:∀ (f:aj) (a:ac) (A:cf) (outer:List Env) (s:ao) (H:Hp) (E:XK),jO k (A.deeper (jZ x (ay st) s.heap.objs.size f a))->Kg ⟨j_ (mM e.P e.w) e.P e.w e.K e.mg e.base N x (ay st) f a A outer s H E,e.cls,E⟩ (i6 st) g) :
  FN e x (k+1) c.length (gz N.length g):=by
 obtain ⟨f,d,F,i⟩:=D.ex;exact Yb F S i (b F) (h f)
def scB (N P:List Str) (a:i5):Bool:=decide (a.kind=.function) && !a.isCoroutine && !a.isGenerator&&decide N.Nodup&&decide (N.take P.length=P)&&P.all (fun x=>decide (a.names.lookup x=some .local)||decide (a.names.lookup x=some .cell))&&a.names.all fun y=>decide (y.2≠.free)
theorem eO (h:scB N P sc=true):bM N P sc:=by
 unfold scB at h;simp only [aY,decide_eq_true_eq,NK,cy,kA] at h;obtain ⟨⟨⟨⟨⟨⟨a,b⟩,c⟩,d⟩,e⟩,f⟩,g⟩:=h;exact ⟨a,b,c,d,e,f,g⟩
structure Cw (K:a8) (x:Str) (C:aj):Prop where
 ns:gP K bC x=some (some (.ref C))
 cl:∃ cd,g_ K C=some cd
 ty:zt K (.ref C)=some (.type "type")
theorem cw_in {K:a8}{x:Str}{C:aj}{b:ClassData} (a:gP K bC x=some (some (.ref C))) (i:g_ K C=some b) (y:zt K (.ref C)=some (.type "type")):Cw K x C:=⟨a,⟨_,i⟩,y⟩
inductive Th (K:a8):List Str->List aj->Prop
 |nil:Th K [] []
 |cons {x:Str}{C:aj}{ns:List Str}{Cs:List aj}:Cw K x C->Th K ns Cs->Th K (x::ns) (C::Cs)
inductive Sb (K:a8) (C:aj):List (aj×Bool)->Prop
 |nil:Sb K C []
 |cons {D:aj}{b:Bool}{l:List (aj×Bool)}:oW K (.ref C) (.ref D)=some b->(b=false->C≠D)->Sb K C l->Sb K C ((D,b)::l)
structure Wy (K:a8) (C CP:aj) (l:List (aj×Bool)):Prop where
 x1:i8 K (.ref C) "__getattribute__"=some (some (.builtin "BaseException.__getattribute__"))
 x2:i8 K (.ref C) "__getattr__"=some none
 x3:i8 K (.ref C) "__class__"=some (some (.builtin "object.__class__"))
 x4:vz K (.builtin "object.__class__") "__get__"=some (some (.builtin "getset_descriptor.__get__"))
 x5:yr K (.builtin "object.__class__")=some true
 x6:cF K C (.type "object")=some true
 x7:cF K C (.ref CP)=some true
 x8:oW K (.ref C) (.type "ValueError")=some true
 x9:(bf CP==bf C)=false
 sb:Sb K C l
theorem Th.at {K:a8}{c:List Str}{b:List aj} (N:Th K c b):∀ (i:Nat) (n:Str),c[i]?=some n->∃ C,b[i]?=some C/\Cw K n C:=by
 induction N with
 |nil=>intro i n h;simp at h
 |cons a _ d =>
  intro i n h;cases i with
  |zero=>cases h;exact ⟨_,rfl,a⟩
  |succ i=>exact d i n h
theorem Sb.at {K:a8}{C:aj}{l:List (aj×Bool)} (N:Sb K C l):∀ (i:Nat) (D:aj) (b:Bool),l[i]?=some (D,b)->oW K (.ref C) (.ref D)=some b/\(b=false->C≠D):=by
 induction N with
 |nil=>intro i D b h;simp at h
 |cons a c _ d =>
  intro i D b h;cases i with
  |zero=>cases h;exact ⟨a,c⟩
  |succ i=>exact d i D b h
theorem YA {K:a8}{h:bK}{f:Str->Option ac}{cls:Str->aj}{a:List Str}{b:List aj} (X:K.In h) (G:h.Ns bC f) (N:Th K a b) (j:a.map cls=b):∀ n∈a,f n=some (.ref (cls n)):=by
 intro n g;obtain ⟨i,l,e⟩:=fR g;have d:a[i]?=some n:=by rw [aE l,e]
 obtain ⟨C,c,k⟩:=N.at i n d;rw [<- j,aF,d] at c;cases c;exact jN X G k.ns
theorem Ti {K:a8}{base:bK}{cls:Str->aj}{x:Str}{C u:aj}{c:List Str}{g:List aj}{l:List (aj×Bool)}{j:Nat} (B:cF K C (.type "BaseException")=some true) (Q:∃ bm,DF base C bm/\∀ v,(v==bf C)=false->cF K C v=some true->bm.contains v=true) (W:Wy K C u l) (N:Th K c g)
  (E:cls x=C) (M:cls "PlanError"=u) (t:c.map cls=g) (s:l.map (·.1)=g) (I:l.map (·.2)=bits j) (O:j<11) (P:x∈c):Xf K base cls c (cls x) j:=by
 obtain ⟨bm,o,G⟩:=Q;subst E M;have p:(g_ K (cls x)).isSome=true:=by
  obtain ⟨i,m,e⟩:=fR P;have h:c[i]?=some x:=by rw [aE m,e]
  obtain ⟨C,a,k⟩:=N.at i x h;rw [<- t,aF,h] at a;cases a;obtain ⟨A,d⟩:=k.cl;rw [d];rfl
 refine ⟨⟨W.x1,W.x2,W.x3,W.x4,W.x5,W.x6,B,p⟩,fun i n e=>?_,Wg W.x8,⟨bm,o,G _ W.x9 W.x7⟩,O⟩;obtain ⟨D,a,k⟩:=N.at i n e;have d:g[i]?=some (cls n):=by rw [<- t,aF,e];rfl
 rw [a] at d;cases d;obtain ⟨A,H⟩:=k.cl;have m:l[i]?≠none:=fun z=>by
  rw [<- s,aF,z] at a;cases a
 cases f:l[i]? with
 |none=>exact (m f).elim
 |some q =>
  obtain ⟨D,b⟩:=q;have h:D=cls n:=by rw [<- s,aF,f] at a;cases a;rfl
  have w:(bits j)[i]?=some b:=by rw [<- I,aF,f];rfl
  subst h;obtain ⟨y,L⟩:=W.sb.at i _ b f;have S:b=decide (i=j):=by
   unfold bits at w
   match i,w with
   | 0,e|1,e|2,e|3,e|4,e|5,e|6,e|7,e|8,e|9,e|10,e=>simpa using e.symm
   |(i+11),e=>simp at e
  rw [<- S];exact T7 H k.ty y L
theorem Qb {K:a8}{base:bK}{e:Str->Option ac}{cls:Str->aj}{x:Str}{C c:aj}{a:List Str}{b:List aj}{l:List (aj×Bool)}{j:Nat} (X:K.In base) (G:base.Ns bC e) (T:TopC K x C) (W:Wy K C c l) (N:Th K a b)
  (i:cls x=C) (g:cls "PlanError"=c) (d:a.map cls=b) (f:l.map (·.1)=b) (m:l.map (·.2)=bits j) (h:j<11) (k:x∈a):Xf K base cls a (cls x) j:=Ti T.mb (IY X G T.ns T.ex T.mb).2 W N i g d f m h k
end J
namespace L2
open PySem PySem.Spec PyProof.Rows
theorem KL (b:s.heap.IsKeyIter it d i es.size c) (l:s.heap.get? d=some o) (ho:o.data=.dict es c) (he:es[i]?=some e)
  (h:∀ h':bK,h'.IsKeyIter it d (i+1) es.size c->bI it s.heap h'->Q (some e.key) { s with heap:=h' }) :
  ar (av prog w) A (kH (.ref it)) Q E s:=by
 obtain ⟨⟨v,z,u,y⟩,g,j,m⟩:=id b;simp only at j m;subst j m;unfold kH;refine a7 (iu ?_);refine cx (name:=i4 "__next__") b.typeIs f_ ?_;refine bO f_ b.typeIs ut ?_ (ue _);refine a7 (eK (a:=.ref it) rfl ?_);refine a7 (a7 (a7 (j9 b.typeIs (a9 ?_))));refine a7 (Ie g rfl ?_);show ar _ _ (if (bf d==e6)=true then _ else _) _ _ s;rw [if_neg (by simp)];refine a7 (eK (a:=d) rfl ?_);refine a7 (Bd l ho ?_);show ar _ _ (if ((es.size:Int) != (es.size:Int))=true then _ else _) _ _ s;rw [if_neg (by simp)];refine a7 (eK (a:=d) rfl ?_);refine a7 (EZ l ho ?_);show ar _ _ (if ((c:Int) != (c:Int))=true then _ else _) _ _ s;rw [if_neg (by simp)];refine a9 ?_;have n:(if (i:Int)<0 then none else es[(i:Int).toNat]?)=some e:=by
  rw [if_neg (by omega)];simpa using he
 simp only [n];refine a7 (a7 (j9 b.typeIs (a9 ?_)));refine a7 (Ru b.typeIs ?_);refine a7 (gZ g rfl (by simp [n6]) ?_);have st:∀ k x,k=1->x=cq ((i:Int)+1)->(s.heap.update it (eM (·.setIfInBounds k x))).IsKeyIter it d (i+1) es.size c:=fun k x p t=>by
  subst p t;have q:=gI (eM (·.setIfInBounds 1 (cq ((i:Int)+1)))) g rfl;refine ⟨_,q,rfl,?_⟩;show Data.fields ((#[.ref d,.int i 0,.int es.size 0,.int c 0] : Array ac).setIfInBounds 1 (cq ((i:Int)+1)))=_;simp [cq]
 have f:=st _ _ rfl rfl;refine a7 (cc (a7 (Ru f.typeIs ?_)));refine a9 ?_;exact a9 ⟨_,rfl,a9 (h _ f (bP ..))⟩
theorem Qc (l:A.handled=none) (c:s.heap.IsKeyIter it d i es.size e) (g:s.heap.get? d=some o) (ho:o.data=.dict es e) (he:es.size<=i)
  (h:∀ h':bK,JQ it s.heap h'->Q none { s with heap:=h' }) :
  ar (av prog w) A (kH (.ref it)) Q E s:=by
 obtain ⟨⟨q,u,t,p⟩,f,j,k⟩:=id c;simp only at j k;subst j k;unfold kH;refine a7 (iu ?_);refine cx (name:=i4 "__next__") c.typeIs f_ ?_;refine bO f_ c.typeIs ut ?_ (ue _);refine a7 (eK (a:=.ref it) rfl ?_);refine a7 (a7 (a7 (j9 c.typeIs (a9 ?_))));refine a7 (Ie f rfl ?_);show ar _ _ (if (bf d==e6)=true then _ else _) _ _ s;rw [if_neg (by simp)];refine a7 (eK (a:=d) rfl ?_);refine a7 (Bd g ho ?_);show ar _ _ (if ((es.size:Int) != (es.size:Int))=true then _ else _) _ _ s;rw [if_neg (by simp)];refine a7 (eK (a:=d) rfl ?_);refine a7 (EZ g ho ?_);show ar _ _ (if ((e:Int) != (e:Int))=true then _ else _) _ _ s;rw [if_neg (by simp)];refine a9 ?_;have n:(if (i:Int)<0 then none else es[(i:Int).toNat]?)=none:=by
  rw [if_neg (by omega)];simpa using he
 simp only [n];refine a7 (a7 (j9 c.typeIs (a9 ?_)));refine a7 (gZ f rfl (by simp [n6]) ?_);show ar _ _ (uG (.type "StopIteration") [] >>= _) _ _ _;refine a7 ?_;simp only [uG,RK];refine a7 (bS ?_ (by size_fits));refine a7 (m:=mF _ _) (eK (a:=e6) ?_ ?_)
 ·first
   |rfl
   |(simp only [mF];rfl)
 refine bS ?_ (by size_fits);simp only [uc];refine a7 (LG ?_);rw [show A.in1.handled=none from l];refine a7 (a9 (RL ?_));refine a7 (gO (T:="StopIteration") (b:=true) ⟨_,aw _ rfl,rfl⟩ wY ?_);exact a9 (h _ (((bP ..).extBut.push _).push _))
theorem Qd (hs:(d==fA)=false) (b:s.heap.get? d=some o) (c:o.ExactDict) (ho:o.data=.dict es ep)
  (h:Q (.ref s.heap.objs.size) { s with heap:=s.heap.push { cls:=.type "dict_keyiterator",data:=.fields #[.ref d,.int 0 0,.int es.size 0,.int ep 0] } }) :
  ar (av prog w) A (zi (.ref d)) Q E s:=by
 have ty:s.TypeIs (.ref d) "dict":=⟨o,b,c.1⟩;refine B6 ty Dh (bO Dh ty PySem.F.entry_dict_iter ?_ (PySem.F.args_dict_iter_1 _));refine a7 (a7 (Rt ty (a7 (eK (a:=(bf d,[])) rfl (a9 ?_)))));refine a7 (eK (a:=d) rfl ?_);refine a7 (eK (a:=()) (by unfold Builtin.Dict.showsAll;rw [hs];rfl) ?_);refine a7 (Bd b ho ?_);refine a7 (EZ b ho ?_);refine a7 (bS ?_ (by size_fits));exact a9 ⟨_,rfl,"dict_keyiterator",_,⟨_,aw _ rfl,rfl⟩,PySem.F.slot_dict_keyiterator_next.lookup,h⟩
def Itd (a:aj) (o:Obj) (kvs:List (List eC×V)):It :=
 ⟨fun i H=>H a=some (.frz o (.dT kvs))/\i<kvs.length,fun i H x H'=>H'=H/\∃ k v b,kvs[i]?=some (k,v)/\x=.ref b/\H b=some (.tup (k.map kV)),fun i H=>H a=some (.frz o (.dT kvs))/\kvs.length<=i⟩
theorem Mz {b c:Type}{F:b->c->Prop}{l:List b}{m:List c} (h:HI F l m):∀ {i:Nat}{x:b},l[i]?=some x->∃ y,m[i]?=some y/\F x y:=by
 induction h with
 |nil=>intro i x e;simp at e
 |cons a _ d =>
  intro i x e;cases i with
  |zero=>cases e;exact ⟨_,rfl,a⟩
  |succ i=>exact d e
theorem sH (ok:rq P w H h) (e:H a=some (.frz o (.dT kvs))):(a==fA)=false/\h.get? a=some o/\o.ExactDict/\∃ es c,o.data=.dict es c/\es.size=kvs.length /\
  ∀ (i:Nat) (k:List eC) (v:V),kvs[i]?=some (k,v)->∃ (g:ub) (b:aj),es[i]?=some g/\g.key=bf b/\H b=some (.tup (k.map kV)):=by
 obtain ⟨j,z,y,xs,r,u,es,c,d,p,l,f,t⟩:=(show de P w H h a (.frz o (.dT kvs)) from ok a _ e);rw [j] at d;cases d;refine ⟨y,j,p,es,c,l,?_,fun i k v s=>?_⟩
 ·rw [<- au,f,ah];exact (jV r).symm
 ·obtain ⟨q,m,n⟩:=Mz r s;refine ⟨entryOfKey (ua (dG P w)) q,q.2.1,?_,?_,n.2.1⟩
  ·rw [<- aL,f,aF,m];rfl
  ·rfl
theorem MA {P:bu}{w:bQ}{K:a8}{tg:bZ}{a it:aj}{o:Obj}{kvs:List (List eC×V)}{es:Array ub}{S:Nat} (M:o.data=.dict es S) (hn:es.size=kvs.length) :
  zz P w K tg (Itd a o kvs) [it] it (fun i h=>h.IsKeyIter it a i es.size S) where
 mem:=by simp
 obj:=fun i h st b g=>by
  have e:b=it:=by simpa using g
  subst e;obtain ⟨o,e,c,d⟩:=st;exact ⟨o,e,fun v z=>by rw [d] at z;cases z⟩
 keep:=fun i h h' st k=>st.at fun o e=>k it (by simp) o e
 item:=by
  intro X x q m O i f s Q H E I l st N;subst x q m;obtain ⟨p,t⟩:=N;obtain ⟨_,G,_,es',B,g2,U,T⟩:=sH I.hok p;rw [M] at g2;cases g2;obtain ⟨en,b,e1,e2,e3⟩:=T i _ _ (aE t);obtain ⟨L,A,Y,y,n,u⟩:=l it (by simp);refine KL st G M e1 fun h' j sb=>?_;have I1:bH X f Q H { s with heap:=h' }:=I.turned (t':=s.toks) (fun b o g e=>(sb.2 b g).trans e) L A y n u;obtain ⟨o',e,c,d⟩:=id j;refine ⟨_,rfl,J_ (s:={ s with heap:=h' }) e c d (by decide) ⟨.ref b,H,I1,?_,⟨rfl,_,_,b,aE t,rfl,e3⟩,j,fun b g=>(l b g).1⟩⟩;rw [e2];rfl
 done:=by
  intro X x q m O i f s Q H E I l st N;subst x q m;obtain ⟨p,t⟩:=N;obtain ⟨_,G,_,es',B,g2,U,T⟩:=sH I.hok p;obtain ⟨L,A,Y,y,n,u⟩:=l it (by simp);exact Qc (I.ok.hd O) st G M (by omega) fun h' eb=>⟨rfl,I.turned (t':=s.toks) (fun b o g e=>eb b o g e) L A y n u⟩
 self:=fun _ _ _ _ _ st h=>RY st h
def YB (tl:TE):TI:=fun c H R=>tl c H fun x b=>∃ a o kvs,x=.ref a/\b a=some (.frz o (.dT kvs))/\R (Itd a o kvs) b
theorem Tj {X:Cx}{tg l:bZ}{tl:TE} (m:PE X l tl):PI X tg l (YB tl):=by
 intro c s p H R I h;refine fZ (m c s p H _ I h) fun v f g=>?_;obtain ⟨x,i,d,w,t⟩:=g;obtain ⟨a,o,kvs,e,n,q⟩:=t;subst e;cases w;obtain ⟨y,z,j,es,A,g2,k,B⟩:=sH d.hok n;refine Qd y z j g2 ?_;refine ⟨f.heap.objs.size,[f.heap.objs.size],_,_,i,rfl,d.kept (t':=f.toks) fun b o e=>aa _ e,MA g2 k,⟨_,aw _ rfl,rfl,rfl⟩,fun b u=>?_,q⟩;rw [List.mem_singleton.mp u];exact d.fpOk (ap _) (d.hok.fresh (ap _))
def tD1 (d f:TE):TE:=fun c H Q=>∀ p,H p=none->d c (upd H p (.dT [])) fun y e=>f c e fun v a=>∃ kvs k b,a p=some (.dT kvs)/\y=.ref b/\a b=some (.tup (k.map kV))/\kvs.length<sizeLine/\Q (.ref p) (upd a p (.dT (m6 kvs k v)))
theorem Qe (hu:X.A.units+1<gM) (hk:PE X k tk) (hv:PE X v tv):PE X (.Dict [some k] [v] pos) (tD1 tk tv):=by
 intro d s g H Q I h;refine wpAny_Dict_any rfl rfl (by simp) (by simp) ?_;have O:bH X d g (upd H s.heap.objs.size (.dT [])) { s with heap:=s.heap.push { cls:=.type "dict",data:=.dict #[] } }:=I.laid (a:=s.heap.objs.size) (o:=.dT []) (t':=s.toks) (fun _ _ q=>aa _ q) (ap _) (Ot s.heap I.big);have h0:=h s.heap.objs.size (I.hok.fresh (ap _));simp only [pairTrees,evalPairs];refine a7 (fZ (hk d _ g _ _ O h0) fun u1 x u=>?_);obtain ⟨y,B,I1,S,M⟩:=u;refine a7 (cc (a7 (fZ (hv d x g B _ I1 M) fun u2 T h2=>?_)));obtain ⟨z,H2,j,r2,U⟩:=h2;obtain ⟨kvs,e,b,l,e2,t,e4,q⟩:=U;refine a7 (jA (a9 ?_));refine a7 (cc (a9 (a9 ?_)));subst e2;cases S;unfold storeAll;simp only [kw,o9,bind_assoc];obtain ⟨P,Y,xs,f,dd⟩:=Uv j.hok l;have L:xs.length<=sizeLine:=by rw [<- jV f];exact P
 have G:(m6 kvs e z).length<=sizeLine:=by have:=oo kvs e z;omega
 refine a7 (wpAny_dictSet_heap (by show X.A.units<gM;omega) (xl j.hok t) dd (fun h' i hs=>?_) L);obtain ⟨n,es,N,m,g2,E,g4,_,g5⟩:=i;have K:=Dt (t':=T.toks+(ua (dG X.prog X.w)).draws e) j (by rw [l];exact jB) hs ⟨n,m⟩ (ob:=.dT (m6 kvs e z)) ⟨G,Y,_,(f.put e t r2).keeps fun c ys p=>(by rw [aV (NU p l (fun z=>nomatch z))];exact p),n,es,N,m,g2,E,g4,g5⟩;exact a9 ⟨.ref s.heap.objs.size,_,K,rfl,q⟩
end L2
namespace J
open PySem L2
def keysOf:List D->Option (List eC)
 |[]=>some []
 |d::r=>(pT d).bind fun k=>(keysOf r).map (k::·)
def rE:D->Option (List eC)
 |.tuple ds=>keysOf ds
 |_=>none
theorem CB:∀ {ds:List D}{a:List eC},keysOf ds=some a->ds=a.map kD
 |[],a,h=>by cases h;rfl
 |d::r,a,h=>by
  unfold keysOf at h;cases b:pT d with
  |none=>rw [b] at h;cases h
  |some y =>
   rw [b,qg] at h;cases c:keysOf r with
   |none=>rw [c] at h;cases h
   |some l =>
    rw [c] at h;cases h;rw [ax,<- wc b,<- CB c]
theorem sI (h:rE d=some ks):d=tD ks:=by
 cases d<;>first|(cases h;done)|skip
 rename_i ds
 unfold tD;rw [<- CB (show keysOf ds=some ks from h)]
theorem CC:∀ a:List eC,keysOf (a.map kD)=some a
 |[]=>rfl
 |k::r=>by rw [ax,keysOf,keyOf_of,CC r];rfl
theorem Qf (a:List eC):rE (tD a)=some a:=CC a
theorem KM:∀ a b:List eC,fi (a.map kD) (b.map kD)=decide (a=b)
 |[],[]=>by simp [fi]
 |[],_::_=>by simp [fi]
 |_::_,[]=>by simp [fi]
 |x::a,y::b=>by
  rw [ax,ax];simp only [fi];rw [DV,KM a b];by_cases h:x=y<;>by_cases c:a=b<;>simp [h,c]
theorem E6 (a b:List eC):bq (tD a) (tD b)=decide (a=b):=by
 unfold tD;simp only [bq];exact KM a b
theorem RDt.any (y:List eC):∀ {ds:List (D×D)},RDt K H kvs ds->(ds.any fun a=>bq a.1 (tD y))=kvs.any fun a=>decide (a.1=y):=by
 induction kvs with
 |nil=>intro ds h;cases h;rfl
 |cons x r b=>intro ds h;cases h with|cons h t=>rw [eJ,eJ,b t,E6]
theorem RDt.repl (y:List eC) (f:RD K H v d):∀ {ds:List (D×D)},RDt K H kvs ds ->
  RDt K H (kvs.map fun a=>if a.1=y then (a.1,v) else a) (ds.map fun a=>if bq a.1 (tD y) then (a.1,d) else a):=by
 induction kvs with
 |nil=>intro ds h;cases h;exact .nil
 |cons x r b =>
  intro ds h;cases h with
  | @cons k _ _ _ _ h t =>
   rw [ax,ax];have e:=E6 k y;by_cases c:k=y
   ·subst c;rw [show (if k=k then (k,v) else (k,_))=(k,v) from if_pos rfl,show (if bq (tD k) (tD k)=true then (tD k,d) else (tD k,_))=(tD k,d) from if_pos (by rw [e];simp)];exact .cons f (b t)
   ·simp only [e,c,if_neg,decide_false,bA,not_false_eq_true];exact .cons h (b t)
theorem RDt.snoc (y:List eC) (b:RD K H v d):∀ {ds:List (D×D)},RDt K H kvs ds->RDt K H (kvs++[(y,v)]) (ds++[(tD y,d)]):=by
 induction kvs with
 |nil=>intro ds h;cases h;exact .cons b .nil
 |cons x r a=>intro ds h;cases h with|cons h t=>exact .cons h (a t)
theorem RDt.put (r:RDt K H kvs ds) (y:List eC) (a:RD K H v d):RDt K H (m6 kvs y v) (uj ds (tD y) d):=by
 unfold m6 uj;rw [r.any y];split
 ·exact r.repl y a
 ·exact r.snoc y a
theorem Wv {κ:Type} [DecidableEq κ] {kvs:List (κ×V)}{y:κ}{v:V}:m6 kvs y v≠[]:=by
 unfold m6;split
 ·rename_i h
  intro z;have:=List.map_eq_nil_iff.mp z;subst this;cases h
 ·simp
theorem RDt.val (y:List eC):∀ {ds:List (D×D)},RDt K H kvs ds->(o_ kvs y=none/\md ds (tD y)=none)\/∃ v d,o_ kvs y=some v/\md ds (tD y)=some d/\RD K H v d:=by
 induction kvs with
 |nil=>intro ds h;cases h;exact .inl ⟨rfl,rfl⟩
 |cons x r b =>
  intro ds h;cases h with
  | @cons k _ _ _ _ h t =>
   unfold o_ md;rw [cj,cj,E6];by_cases a:k=y
   ·simp only [a,decide_true,da];exact .inr ⟨_,_,rfl,rfl,h⟩
   ·simp only [a,decide_false];exact b t
def HH:List (D×D)->List (D×D)
 |(.none,_)::r=>r
 |l=>l
def kS (ds:List (D×D)):Bool:=!ds.isEmpty&&ds.all fun a=>(rE a.1).isSome
theorem RDk.notT (h:RDk K H kvs ds) (e:kS (HH ds)=true):False:=by
 cases h with
 |nil=>cases e
 | @cons k _ _ _ _ h t =>
  cases k<;>simp [HH,kS,kD,rE] at e
theorem RDt.un (h:RDt K H kvs ds):HH ds=ds:=by
 cases h<;>rfl
theorem wj (sub:dD Hs H) (h:RB K H Hs v (tD ks)):∃ b,v=.ref b/\H b=some (.tup (ks.map kV)):=by
 rcases h with h|⟨_,o,rfl,_,_,ow⟩
 ·cases h with
  |tuple q r =>
   have:=DH (c:=kD) (k:=kV) (fun h=>DX h) r;subst this;exact ⟨_,rfl,sub _ _ q⟩
 ·cases ow
theorem E7 (sub:dD Hs H) (h:RB K H Hs v (.dict ds)) (e:kS (HH ds)=true):∃ a kvs,v=.ref a/\RDt K Hs kvs (HH ds)/\∀ (b:aj) (k:List eC),H b=some (.tup (k.map kV))->yC H a (.ref b) (o_ kvs k):=by
 obtain ⟨a,i,g⟩:=h.dict sub;clear h;subst i;rcases g with ⟨kvs,d,c⟩|⟨kvs,d,hn,c⟩|⟨o,kvs,es,rfl,d,hn,c⟩
 ·exact (c.notT e).elim
 ·exact ⟨a,kvs,rfl,by rw [c.un];exact c,fun b k f=>yC.t d f⟩
 ·exact ⟨a,kvs,rfl,c,fun b k f=>.inr ⟨kvs,k,b,.inr ⟨o,d⟩,rfl,f,rfl⟩⟩
def Ge:D->D->R D
 |.dict ds,k=>match rE k with
  |some _=>if kS (HH ds)=true then (match md (HH ds) k with
   |some d=>.ok d
   |none=>.no) else .no
  |none=>.no
 |_,_=>.no
section
variable {c:C}{a b e k:bZ}{ga gb g gk:aI->R D}{pos p apos:Pos}{x:Str}
theorem E8 (B:c.X.A.units+1<gM) (G:JB c a ga) (l:JB c b gb) (hs:vL b:=by exact fun _ _=>rfl):JE c (.Subscript a b pos) (g2 ga gb Ge):=.of fun ρ=>by
 refine sj (K4 B (G ρ) (l ρ) hs) fun Y H Q h=>?_;obtain ⟨H0,S,la,Hs,f,q⟩:=h;refine one f q fun d v U I M n K N=>?_;unfold g2 at q;rw [M,bind_ok] at q;refine one K (q.on n (q':=fun _=>True) fun _ _=>trivial) fun y w L m T s o P=>?_;rw [T,bind_ok] at q;unfold Ge at q;split at q
 ·rename_i ds
  split at q
  ·rename_i t z
   obtain rfl:=sI z;by_cases i:kS (HH ds)=true
   ·rw [if_pos i] at q;obtain ⟨p,kvs,rfl,O,E⟩:=E7 o.st.sub (N.step s) i;obtain ⟨b,rfl,l⟩:=wj o.st.sub P;rcases O.val t with ⟨_,j⟩|⟨u,d,j,h5,h6⟩
    ·rw [j] at q;exact q.elim
    ·rw [h5] at q;exact ⟨p,u,rfl,by rw [<- j];exact E b t l,q _ L m (n.trans s) h6⟩
   ·rw [if_neg i] at q;exact q.elim
  ·exact q.elim
 ·exact q.elim
def inT (d:Bool):D->D->R D
 |k,.dict ds=>match rE k with
  |some _=>if kS (HH ds)=true then .ok (.bool (if d then !(md (HH ds) k).isSome else (md (HH ds) k).isSome)) else .no
  |none=>.no
 |_,_=>.no
theorem Qg (w:c.X.A.units+1<gM):x_ c.X (bG .In) (inT false):=by
 refine ⟨fun j s P H x y v u Q I L M h=>?_,fun x y c n=>?_⟩
 ·obtain ⟨Hs,S,O,sub,t,K,d,f,q⟩:=h;unfold inT at f;split at f
  ·rename_i ds
   split at f
   ·rename_i i o
    obtain rfl:=sI o;split at f
    ·rename_i B
     cases f;obtain ⟨p,kvs,rfl,N,z⟩:=E7 sub K B;obtain ⟨b,rfl,E⟩:=wj sub t;cases M;refine L2.d_in w I (z b i E) L fun s' G=>⟨.bl _,H,G,rfl,?_⟩;have e:(o_ kvs i).isSome=(md (HH ds) (tD i)).isSome:=by
      rcases N.val i with ⟨l,m⟩|⟨u,d,l,m,h6⟩<;>rw [l,m]<;>rfl
     rw [e];exact q _ H Hs (.refl sub) (.bool _)
    ·cases f
   ·cases f
  ·cases f
 ·unfold inT;split<;>(try split)<;>(try split)<;>exact fun h=>by cases h
theorem CD (w:c.X.A.units+1<gM):x_ c.X (bG .NotIn) (inT true):=by
 refine ⟨fun j s P H x y v u Q I L M h=>?_,fun x y c n=>?_⟩
 ·obtain ⟨Hs,S,O,sub,t,K,d,f,q⟩:=h;unfold inT at f;split at f
  ·rename_i ds
   split at f
   ·rename_i i o
    obtain rfl:=sI o;split at f
    ·rename_i B
     cases f;obtain ⟨p,kvs,rfl,N,z⟩:=E7 sub K B;obtain ⟨b,rfl,E⟩:=wj sub t;cases M;refine L2.Sv w I (z b i E) L fun s' G=>⟨.bl _,H,G,rfl,?_⟩;have e:(o_ kvs i).isSome=(md (HH ds) (tD i)).isSome:=by
      rcases N.val i with ⟨l,m⟩|⟨u,d,l,m,h6⟩<;>rw [l,m]<;>rfl
     rw [e];exact q _ H Hs (.refl sub) (.bool _)
    ·cases f
   ·cases f
  ·cases f
 ·unfold inT;split<;>(try split)<;>(try split)<;>exact fun h=>by cases h
def uy (i:Nat) (gk g:aI->R D):aI->R Fl:=fun ρ=>match ρ[i]? with
 |some (Sl.own (.dict kvs))=>(g ρ).bind fun d=>(gk ρ).bind fun k=>match rE k with
  |some _=>if kvs.length<1000/\kS kvs=true then .ok (.nx (ρ.set i (.own (.dict (uj kvs k d))))) else .no
  |none=>.no
 |_=>.no
theorem Gf (i:Nat) (h:JE c e g) (hk:JE c k gk) (M:c.X.A.units+1<gM) (I:c.X.N[i]?=some x:=by rfl) (hv:Ny c.X.env.scope x:=by first|exact hZ rfl|exact eF (hZ rfl)|exact eF (eF rfl)) (hd:(x==("__debug__" : Str))=false:=by decide)
  (l:(x==("__classdict__" : Str))=false:=by decide) (hs:iO e (some (.Subscript (.Name x p) k apos)) pos.line c.X.env=pure false:=by rfl):JS c (.Assign [.Subscript (.Name x p) k apos] e pos) (uy i gk g):=.of fun ρ=>by
 refine zR (K5 M (oY I hv hd l) (hk ρ) (h ρ) hs) fun D σ H m=>?_;obtain ⟨P,z,la,Hs,f,q⟩:=m;replace q:pj c.X.K c.cls c.E P z la D (uy i gk g ρ):=q;unfold uy at q;split at q
 ·rename_i kvs ho
  obtain ⟨a,o,k1,k2,k3,k4,k5⟩:=f.ow i _ ho;refine sE f q fun d v H1 S U B T Y=>?_;rw [U,bind_ok] at q;refine ⟨_,k1,sE T q fun y w H2 s e2 u G r2=>?_⟩;rw [e2,bind_ok] at q;split at q
  ·rename_i ky L
   obtain rfl:=sI L;by_cases j:kvs.length<1000/\kS kvs=true
   ·rw [if_pos j] at q;cases k5 with
    |dK r=>exact (r.notT (by cases r with|nil=>exact j.2 | @cons k _ _ _ _ _ _=>cases k<;>exact j.2)).elim
    |dF n r=>cases j.2
    |dT n r =>
     have O:=u.all _ _ (B.all _ _ k2);have r':=(r.same B.sh).same u.sh;obtain ⟨b,rfl,Q⟩:=wj G.st.sub (.inl r2);exact ⟨a,_,rfl,Fj.t O Q (cK (by rw [r.length];omega)),q _ _ s (G.write i ho k1 (.dT Wv (r'.put ky (Y.same u.sh))))⟩
   ·rw [if_neg j] at q;exact q.elim
  ·exact q.elim
 ·exact q.elim
end
end J
namespace J
open PySem L2
def mh (i:Nat) (ρ:aI):aI:=match ρ[i]? with
 |some (Sl.own (.dict ((.tuple a,v)::r)))=>ρ.set i (.own (.dict ((.none,.none)::(.tuple a,v)::r)))
 |_=>ρ
theorem Tl (I:bH X pins σ H s) (h:H a=some (.dT kvs)):∃ o,bH X pins σ (upd H a (.frz o (.dT kvs))) s:=by
 obtain ⟨z,y,xs,i,o,es,f,c,j,k,d,g⟩:=(show de X.prog X.w H s.heap a (.dT kvs) from I.hok a _ h);have new:de X.prog X.w (upd H a (.frz o (.dT kvs))) s.heap a (.frz o (.dT kvs)) :=
  ⟨c,z,y,xs,Paired.mapP i fun p q w=>⟨w.1,by rw [aV (NU w.2.1 h (fun z=>nomatch z))];exact w.2.1,w.2.2⟩,o,es,f,c,j,k,d,g⟩
 have:=I.write (x:=a) (e:=a) (h':=s.heap) (t':=s.toks) (by rw [h];trivial) (.inl rfl) (fun b u _ q=>q) ⟨o,c⟩ new;exact ⟨o,this⟩
theorem YC (h:PS X st t):PS X st (fun D c H=>t D c H\/∃ a kvs,H a=some (.dT kvs)/\∀ o,t D c (upd H a (.frz o (.dT kvs)))):=fun b s c H D I q=>by
 rcases q with q|⟨a,kvs,ha,q⟩
 ·exact h b s c H D I q
 ·obtain ⟨o,d⟩:=Tl I ha;exact h b s c _ D d (q o)
theorem Ww (i:Nat) (h:JS c st gs):JS c st (fun ρ=>gs (mh i ρ)):=.of fun ρ=>zR (YC (h (mh i ρ))) fun D' s H m=>by
 obtain ⟨j,g,la,Hs,f,q⟩:=m;by_cases l:∃ b v r,ρ[i]?=some (Sl.own (.dict ((.tuple b,v)::r)))
 ·obtain ⟨b,v,r,ho⟩:=l;have e:mh i ρ=ρ.set i (.own (.dict ((.none,.none)::(.tuple b,v)::r))):=by unfold mh;rw [ho]
  obtain ⟨a,o,k1,k2,k3,p,k5⟩:=f.ow i _ ho;generalize d:HB ((.tuple b,v)::r)=d0 at k5;cases k5 with
  |lst r=>cases d
  |dK rk =>
   cases d;generalize d:((.tuple b,v)::r:List (D×D))=d1 at rk;cases rk with
   |nil=>cases d
   | @cons k _ _ _ _ _ _=>cases k<;>cases d
  |dF n r=>cases d
  |dT n r =>
   cases d;exact .inr ⟨a,_,k2,fun o=>⟨j,g,la,Hs,by rw [e];exact f.write i ho k1 (.dF n r),q⟩⟩
 ·have e:mh i ρ=ρ:=by
   unfold mh;split
   ·rename_i b v r ho;exact (l ⟨b,v,r,ho⟩).elim
   ·rfl
  refine .inl ⟨j,g,la,Hs,by rw [e];exact f,q⟩
def E9:D->R (List D)
 |.dict ((.none,.none)::ds)=>.ok (ds.map (·.1))
 |_=>.no
def MB (g:aI->R D):aI->R (List D):=fun ρ=>(g ρ).bind E9
theorem RDt.get : ∀ {ds:List (D×D)}{i:Nat}{k:List eC}{v:V},RDt K H kvs ds->kvs[i]?=some (k,v)->∃ d,ds[i]?=some (tD k,d):=by
 induction kvs with
 |nil=>intro ds i k v h e;simp at e
 |cons x r a =>
  intro ds i k v h e;cases h with
  |cons h t =>
   cases i with
   |zero=>cases e;exact ⟨_,rfl⟩
   |succ i=>have q:=a (i:=i) t e;exact q
theorem Qh : ∀ a:List eC,RDs K H (a.map kV) (a.map kD)
 |[]=>.nil
 |k::r=>.cons (by cases k<;>constructor) (Qh r)
theorem Tn (h:Hn a=some (.frz o (.dT kvs))) (r:RDt K Hs kvs ds):P7 K (Itd a o kvs) (ds.map (·.1)) Hn Hs:=fun B g s E m=>by
 have q:=s _ _ h;have w:=r.length;refine ⟨fun i j=>⟨q,?_⟩,fun i j=>⟨q,?_⟩,fun i x A j y=>?_⟩
 ·rw [ah] at j;omega
 ·rw [ah] at j;omega
 ·obtain ⟨rfl,k,v,b,n,rfl,l⟩:=y;obtain ⟨d,p⟩:=r.get n;have same:dD g (upd g b (.tup (k.map kV))):=fun c u e=>by
   by_cases f:c=b
   ·subst f;have:=m _ _ e;rw [l] at this;cases this;exact aS
   ·rw [aV f];exact e
  refine ⟨tD k,upd g b (.tup (k.map kV)),by rw [aF,p];rfl,⟨.refl _,same,fun c u e=>?_,fun c u e t z=>?_⟩,.tuple aS (Qh k)⟩
  ·by_cases f:c=b
   ·subst f;rw [aS] at e;cases e;exact l
   ·rw [aV f] at e;exact m _ _ e
  ·by_cases f:c=b
   ·subst f;rw [l] at e;cases e;cases t
   ·rw [aV f];exact z
theorem KN (h:JB c l g):JI c tg l (MB g):=.of fun ρ=>by
 refine Kh (Tj (h ρ)) fun y H Q m=>?_;obtain ⟨z,x,la,Hs,f,q⟩:=m;refine one f q fun d v n j u p t w=>?_;unfold MB at q;rw [u,bind_ok] at q;unfold E9 at q;split at q
 ·obtain ⟨a,s,m⟩:=w.dict t.st.sub;rcases m with ⟨kvs,e,b⟩|⟨kvs,e,hn,b⟩|⟨o,kvs,es,he,e,hn,b⟩
  ·generalize i:((.none,.none)::_:List (D×D))=d0 at b;cases b with
   |nil=>cases i
   | @cons k _ _ _ _ _ _=>cases k<;>cases i
  ·generalize i:((.none,.none)::_:List (D×D))=d0 at b;cases b<;>cases i
  ·cases he;exact ⟨a,o,kvs,s,e,q _ n j n p (.refl _) (Tn e b)⟩
 ·exact q.elim
def Vc (b a:aI->R D):aI->R D:=fun ρ=>(b ρ).bind fun k=>(a ρ).bind fun v=>match rE k with
 |some _=>.ok (.dict [(k,v)])
 |none=>.no
theorem Gg (O:c.X.A.units+1<gM) (hk:JE c k gk) (hv:JE c v gv):JN c (.Dict [some k] [v] pos) (Vc gk gv):=.of fun ρ=>by
 refine sj (Qe O (hk ρ) (hv ρ)) fun σ H Q Y=>?_;obtain ⟨H0,a0,la,Hs,f,q⟩:=Y;intro p l;have s:cX H Hs (upd H p (.dT [])) Hs:=.mine f.st.sub l;have M:Hs p=none:=f.st.sub.free l;unfold Vc at q;refine zS (f.step s) (q.on s (q':=fun _=>True) fun _ _=>trivial) fun y w H1 T U G I r1=>?_;rw [U,bind_ok] at q;refine zS I (q.on (s.trans G) (q':=fun _=>True) fun _ _=>trivial) fun z u i g e2 K P r2=>?_;rw [e2,bind_ok] at q;split at q
 ·rename_i j L
  obtain rfl:=sI L;obtain ⟨b,rfl,S⟩:=wj I.st.sub (.inl r1);have d:=G.trans K;have E:i p=some (.dT []):=d.all _ _ aS;have B:g p=none:=d.out _ _ aS rfl M;let h:Hp:=fun x=>if x=p then none else i x
  have m:∀ x,x≠p->h x=i x:=fun x a=>if_neg a;have st:cX H Hs h g:=by
   refine ⟨fun x o e=>?_,d.sh,fun x o e=>?_,fun x o e t n=>?_⟩
   ·have a:=bh e l;rw [m x a];exact d.all _ _ (by rw [aV a];exact e)
   ·have a:x≠p:=fun z=>by rw [z,B] at e;cases e
    rw [m x a];exact P.st.sub _ _ e
   ·have a:=bh e l;exact d.out _ _ (by rw [aV a];exact e) t n
  have:=q p (.dT [(j,u)]) h g st (if_pos rfl) (.dT (by simp) (.cons r2 .nil));have N:upd h p (.dT [(j,u)])=upd i p (.dT (m6 [] j u)):=by
   funext x;by_cases a:x=p
   ·subst a;rw [aS,aS];rfl
   ·rw [aV a,aV a,m x a]
  rw [N] at this;exact ⟨[],j,b,E,rfl,K.all _ _ S,by rw [ik];decide,this⟩
 ·exact q.elim
def Ea (g:aI->R D):aI->R Bool:=fun ρ=>(g ρ).bind fun d=>match d with
 |.list ds=>.ok (!ds.isEmpty)
 |_=>.no
theorem Wx (h:JB c e g) (he:∀ whole,wR e c.X.env whole=(do let v <- whole;xO e.pos;Ht [v] (truthy v)):=by intro _;rfl):JT c e (Ea g):=.of fun ρ=>XV (Oc (h ρ) he) fun σ H Q hh=>by
 obtain ⟨H0,Hs0,la,Hs,f,q⟩:=hh;refine one f q fun d v H1 Hs1 e1 s1 f1 r1=>?_;unfold Ea at q;rw [e1,bind_ok] at q;split at q
 ·obtain ⟨a,vs,rfl,qa,ra⟩:=r1.list f1.st.sub;refine ⟨_,.inl ⟨vs,qa,rfl⟩,?_⟩;cases ra with
  |nil=>exact q H1 Hs1 s1
  |cons _ _=>exact q H1 Hs1 s1
 ·exact q.elim
end J
namespace L2
open PySem PySem.Spec PyProof.Rows
end L2
namespace J
open PySem L2
end J
namespace J
open PySem L2
def Wz (i:Nat) (g:aI->R Fl):aI->R Fl:=fun ρ=>g (mh i ρ)
theorem Qi (i:Nat) (h:JS c st gs):JS c st (Wz i gs):=Ww i h
end J
namespace J
open PySem L2
end J
namespace J
open PySem L2
def rS (i:Nat) (ρ:aI):R D:=HF ρ i
def rB (i:Nat) (ρ:aI):R D:=HG ρ i
def kI (n:Int) (_:aI):R D:=.ok (.int n)
def kB (b:Bool) (_:aI):R D:=.ok (.bool b)
def kN (_:aI):R D:=.ok .none
def kT (_:aI):R Bool:=.ok true
theorem YD (i:Nat) (ρ:aI):rS i ρ=HF ρ i:=id rfl
theorem WA (i:Nat) (ρ:aI):rB i ρ=HG ρ i:=id rfl
theorem YE (n:Int) (ρ:aI):kI n ρ=.ok (.int n):=id rfl
theorem YF (b:Bool) (ρ:aI):kB b ρ=.ok (.bool b):=id rfl
theorem YG (ρ:aI):kN ρ=.ok .none:=id rfl
end J
namespace L2
open PySem PySem.Spec PyProof.Rows
end L2
namespace J
open PySem L2
end J
namespace L2
open PySem PySem.Spec PyProof.Rows
section
open Builtin Builtin.ObjectAttr
inductive KO (h:bK) (bmB:List ac) (nms:List Str):List ac->Prop
 |base:KO h bmB nms bmB
 |own {A:aj}{c0:ac}{dd:Option aj}{cd:ClassData}{sl:Array (Option ac)}{mA:Str->Option ac}{tl:List ac} :
   h.get? A=some { cls:=c0,dict:=dd,data:=.cls cd,slots:=sl }->h.Ns cd.ns mA->(∀ n∈nms,mA n=none)->KO h bmB nms tl->KO h bmB nms (.ref A::tl)
section
variable {M:Model}{A:cf}{E:ac->ao->Prop}{h:bK}{g:Array HL}{d:Nk}{t:Nat}{os:OsState}
variable {nm q:Str}{C N x:aj}{bs bm bmB:List ac}{hdct:Bool}{sn:List Str}{sub:List ac}{ab:Bool}{col:Option Bool}{dd:Option aj}{k0 k1 k2 k3 k5:Option ac}{B newId initId sa owner:String}{nms:List Str}{name:Str}{v:ac}{mN:Str->Option ac}
end
section
variable {prog:bu}{w:bQ}{A:cf}{E:ac->ao->Prop}{h:bK}{g:Array HL}{d:Nk}{t:Nat}{os:OsState}
variable {nm q:Str}{C N x:aj}{bs bm bmB:List ac}{sn:List Str}{sub:List ac}{ab:Bool}{col:Option Bool}{dd:Option aj}{k0 k1 k2 k3 k5:Option ac}{B newId initId sa owner:String}{nms:List Str}{name:Str}{v:ac}{mN:Str->Option ac}
end
end
section
variable {prog:bu}{w:bQ}{A:cf}{E:ac->ao->Prop}{h:bK}{g:Array HL}{d:Nk}{t:Nat}{os:OsState}
variable {nm q:Str}{C N:aj}{bs bm bmB:List ac}{hdct:Bool}{sn:List Str}{sub:List ac}{ab:Bool}{col:Option Bool}{dd:Option aj}{k0 k1 k2 k3 k5:Option ac}{B newId initId:String}
end
structure WB (h:bK) (fI:aj):Prop where
 ex:∃ (oI:Obj) (fd:eI) (p1 p2 p3 p4:Pos),h.get? fI=some oI/\oI.cls=.type "function"/\oI.data=.func fd/\h.CodeRec fd.code fd.qualname/\fd.scope.isCoroutine=false/\fd.scope.isGenerator=false/\fd.scope.kind=.function /\
  fd.scope.names=[(("self" : Str),rR),(("number" : Str),rR)]/\fd.body=.stmts [.Assign [.Attribute (.Name "self" p1) "number" p2] (.Name "number" p3) p4]/\∀ (s:ao) (e v:ac),(∀ b o,h.get? b=some o->s.heap.get? b=some o)->xP s fd ⟨[e,v],[]⟩ [("self",e),("number",v)]
structure q0a (x:Str) (C:aj) (mg:Str->Option ac) (base:bK):Prop where
 bound:mg x=some (.ref C)
 obj:∃ nm q N bs bm sn sub ab col dd k0 k1 k2 k3 k5 mN fI,base.get? C=some (excClassObj nm q C N bs bm true sn sub ab col dd k0 k1 k2 k3 k5 "ValueError.__new__")/\base.Ns N mN/\mN "__init__"=some (.ref fI)/\mN "__setattr__"=none/\mN "number"=none /\
  KO base [.type "ValueError",.type "Exception",.type "BaseException",.type "object"] ["__init__","__setattr__","number"] bm/\WB base fI
section
variable {P:bu}{w:bQ}{K:a8}{mg:Str->Option ac}{base:bK}{N:List Str}{qual:Str}{scope:i5}{f:aj}{cd:ac}{A:cf}{outer:List Env}{s:ao}{H:Hp}{E:XK}
end
end L2
namespace J
open PySem L2
section
open PySem.W (nsIn nsOkIn codeIn fnOf)
theorem YH (X:K.In h) (G:h.Ns N mg) (e:nsIn K N n=some (some v)):mg n=some v:=by
 obtain ⟨o,es,g,ho,b,_,a⟩:=G;unfold gP at e;split at e
 ·rename_i c d es' i f q
  have:=X _ _ q;rw [ho] at this;cases this;cases b;split at e
  ·rename_i he
   rw [<- a];unfold nsFind findBy;rw [<- Lx,he];cases e;rfl
  ·split at e<;>cases e
 ·cases e
structure q0b (K:a8) (x:Str) (C:aj) (st:dY):Prop where
 ns:nsIn K bC x=some (some (.ref C))
 own:∀ {h:bK}{mg:Str->Option ac},K.In h->h.Ns bC mg->q0a x C mg h
 mb:cF K C (.type "BaseException")=some true
 ox:∀ {h:bK},K.In h->∃ bm,DF h C bm/\∀ v,(v==bf C)=false->cF K C v=some true->bm.contains v=true
theorem topN {K:a8}{x:Str}{C I T o a f:aj}{st:dY}{nm P E w S:Str}{bs M l i sub:List ac}{sn Y:List Str}{ab Q U j:Bool}{col m:Option Bool}{dd dP od dT an:Option aj}{k0 k1 k2 k3 k5:Option ac}{c0 kV g pm c ct cT:ac}{N H t:Array (Option ac)}{nT:Nat}{p1 p2 p3 p4:Pos}{cN cM:ac}{dN dM:Option aj}{b d:Array ub}{B L:Nat}{u O:Array (Option ac)}
  (a1:nsIn K bC x=some (some (.ref C))) (a4:cF K C (.type "BaseException")=some true)
  (y:K.lookup C=some ⟨.type "type",dd,.cls ⟨nm,bs,[.ref C,.ref I,.type "ValueError",.type "Exception",.type "BaseException",.type "object"],a,P,true,sn,sub,ab,col,false⟩,#[k0,k1,k2,k3,some (.builtin "ValueError.__new__"),k5]⟩)
  (a3:K.lookup I=some ⟨c0,dP,.cls ⟨E,M,l,f,w,U,Y,i,Q,m,j⟩,N⟩)
  (b1:nsIn K a "__init__"=some (some (.ref T))) (b2:nsIn K a "__setattr__"=some none) (b3:nsIn K a "number"=some none)
  (c1:nsIn K f "__init__"=some none) (c2:nsIn K f "__setattr__"=some none) (c3:nsIn K f "number"=some none)
  (d1:K.lookup T=some ⟨.type "function",od,.func (fnOf "__init__" S (lP st) (i6 st) (ay st) (.ref o) kV g pm an c ct),H⟩)
  (d2:K.lookup o=some ⟨cT,dT,.seq #[.none] nT,t⟩) (d3:codeIn K c S=true)
  (g1:K.lookup a=some ⟨cN,dN,.dict b B,u⟩) (g2:K.lookup f=some ⟨cM,dM,.dict d L,O⟩) (g3:(b.toList.all fun e=>match e.key with | .str _ _=>true|_=>false)=true) (g4:(d.toList.all fun e=>match e.key with | .str _ _=>true|_=>false)=true)
  (f1:i6 st=[.Assign [.Attribute (.Name "self" p1) "number" p2] (.Name "number" p3) p4]) (f2:(ay st).names=[(("self" : Str),rR),(("number" : Str),rR)])
  (f3:(ay st).isCoroutine=false) (f4:(ay st).isGenerator=false) (f5:(ay st).kind=.function)
  (f6:∀ e v,∃ k,RE (fnOf "__init__" S (lP st) (i6 st) (ay st) (.ref o) kV g pm an c ct) ⟨[e,v],[]⟩=Nq (.ref o) >>= k/\k (some #[.none])=pure [(("self" : Str),e),(("number" : Str),v)]):q0b K x C st:=by
 have p:nsOkIn K a=true:=by unfold NO;rw [g1];show b.all _=true;rw [<- yy];exact g3
 have q:nsOkIn K f=true:=by unfold NO;rw [g2];show d.all _=true;rw [<- yy];exact g4
 refine ⟨a1,fun {h mg} X G=>⟨jN X G a1,nm,P,a,bs,_,sn,sub,ab,col,dd,k0,k1,k2,k3,k5,h.nsMap a,T,X _ _ y,.of_isNs (nh X p),?_,fe X p b2,fe X p b3,?_,⟨_,_,p1,p2,p3,p4,X _ _ d1,rfl,rfl,uF X d3,f3,f4,f5,f2,congrArg FuncBody.stmts f1,fun s e v kb=>?_⟩⟩,a4,fun {h} X=>⟨_,⟨⟨nm,P,a,bs,true,sn,sub,ab,col,dd,k0,k1,k2,k3,k5,_,X _ _ y⟩,rfl⟩,fun v nv A=>?_⟩⟩
 ·exact YH X (.of_isNs (nh X p)) b1
 ·refine .own (X _ _ a3) (.of_isNs (nh X q)) (fun n hn=>?_) .base;rcases List.mem_cons.mp hn with z|hn
  ·rw [z];exact fe X q c1
  rcases List.mem_cons.mp hn with z|hn
  ·rw [z];exact fe X q c2
  ·rw [List.mem_singleton.mp hn];exact fe X q c3
 ·obtain ⟨k,k1,k2⟩:=f6 e v;exact BindsTo.of_defaults rfl (kb _ _ (X _ _ d2)) rfl k1 k2
 ·unfold cF g_ at A;rw [y] at A;have:(bf C::[bf I,.type "ValueError",.type "Exception",.type "BaseException",.type "object"]).contains v=true:=by simpa using A
  rw [oj,nv,vE] at this;exact this
end
end J
namespace L2
open PySem PySem.Spec PyProof.Rows
end L2
namespace L2
open PySem PySem.Spec PyProof.Rows
end L2
namespace J
open PySem L2
end J
namespace J
open PySem L2
end J
namespace L2
open PySem PySem.Spec PyProof.Rows
def Tks (H H':Hp):Prop:=∀ b ys,H b=some (.tup ys)->H' b=some (.tup ys)
end L2
namespace J
open PySem L2
section
variable {c:C}{pos:Pos}{x:Str}{kx vx iter tg:bZ}{ifs:List bZ}{scope:i5}{N':List Str}{nt:Nat}{ix:List Nat}{gi:aI->R (List D)}{gt:aI->R Bool}{gk gv:aI->R D}
end
end J
namespace L2
open PySem PySem.Spec PyProof.Rows
end L2
namespace J
open PySem L2
end J
namespace J
open PySem L2
def q0c (p:HO->Bool) (H Hs:Hp):Hp:=fun b=>match Hs b,H b with
 |some o,_=>some o
 |none,some o=>if p o then some o else none
 |none,none=>none
def q0o (p:HO->Bool) (H Hs a:Hp):Hp:=fun b=>match Hs b,H b with
 |none,some o=>if p o then none else a b
 |_,_=>a b
inductive YI (p:HO->Bool) (K:a8) (cls:Str->aj) (E:XK) (ρ:aI) (r:R (List D)) (σ:St) (H:Hp) (Q:List V->Hp->Prop):Prop
 |mk (H0 Hs0:Hp) (la:Nat->Option aj) (Hs:Hp) (f:Fr K H0 Hs0 la ρ σ H Hs) (q:Fin K cls E H Hs r fun d=>∀ v H' Hs',cX H Hs H' Hs'->RDs K (q0c p H' Hs') v d->Q v H'):YI p K cls E ρ r σ H Q
structure JL (p:HO->Bool) (c:C) (es:List bZ) (g:aI->R (List D)):Prop where of ::
 run:∀ ρ,PA c.X es (YI p c.X.K c.cls c.E ρ (g ρ))
end J
namespace L2
open PySem PySem.Spec PyProof.Rows
end L2
namespace J
open PySem L2
end J
namespace J
open PySem L2
end J
namespace L2
open PySem PySem.Spec PyProof.Rows
inductive YJ (X:Cx) (CX:M0) (E:XK) (t:TA) (σ:St) (Q:VK) (v:V) (H1:Hp):Prop
 |mk (k:Nat) (f:aj) (fd:eI) (ps:List Str) (sp:Sp) (h0:v=.ref f) (F:qo X.prog X.w X.K X.mg X.base CX k f fd ps sp) (hr:jO k X.A) (hk:cY X.K (.ref f)=true) (hb:jG X.K fd ps []) (q:F8 sp [] E t σ H1 Q):YJ X CX E t σ Q v H1
end L2
namespace J
open PySem L2
inductive Gh (c:C) (n j:Nat):List bZ->List (List D->R D)->List aj->Prop
 |nil:Gh c n j [] [] []
 |cons {x:Str}{p:Pos}{F:List D->R D}{k:Nat}{f:aj}{fd:eI}{ps:List Str}{es:List bZ}{Fs:List (List D->R D)}{as:List aj} (hf:qo c.X.prog c.X.w c.X.K c.X.mg c.X.base (mM c.X.prog c.X.w) k f fd ps (P6 c.X.K c.cls n F)) (hm:c.X.mg x=some (.ref f)) (hk:cY c.X.K (.ref f)=true) (hb:jG c.X.K fd ps []) (hj:k<=j) (hg:Gl c.X x) (hdb:(x==("__debug__" : Str))=false) (r:Gh c n j es Fs as):Gh c n j (.Name x p::es) (F::Fs) (f::as)
inductive Qj (c:C) (n j:Nat) (F:List D->R D) (f:aj):Prop
 |mk (k:Nat) (fd:eI) (ps:List Str) (hf:qo c.X.prog c.X.w c.X.K c.X.mg c.X.base (mM c.X.prog c.X.w) k f fd ps (P6 c.X.K c.cls n F)) (hk:cY c.X.K (.ref f)=true) (hb:jG c.X.K fd ps []) (hj:k<=j):Qj c n j F f
theorem MC (h:Gh c n j es b a):∀ {i:Nat}{F:List D->R D},b[i]?=some F->∃ f,a[i]?=some f/\Qj c n j F f:=by
 induction h with
 |nil=>intro i F e;simp at e
 | @cons x p F k f l g es b a s v o t m w u r d =>
  intro i F e;cases i with
  |zero=>cases e;exact ⟨f,rfl,k,l,g,s,o,t,m⟩
  |succ i=>have q:=d (i:=i) e;exact q
def Vd (c:List (List D->R D)) (n:Nat) (a:aI->R D) (b:aI->R (List D)) (ρ:aI):R Fl:=(a ρ).bind fun d=>match d with
 |.int k=>if 0<=k then (match c[k.toNat]? with
  |some F=>(b ρ).bind fun ds=>if ds.length=n then (F ds).bind fun d=>.ok (.rt d) else .no
  |none=>.no) else .no
 |_=>.no
theorem Dw (P:Gh c n j es Fs as) (T:jO j c.X.A) (f:Fr c.X.K H0 Hs0 la ρ σ H Hs) (S:H a=some (.lst (as.map V.ref))) (q:pj c.X.K c.cls c.E H0 Hs0 la D' (Vd Fs n gi gs ρ)) :
  TR c.X.K c.cls c.E ρ (gi ρ) σ H fun y L=>XB c.X.K (.ref a) y L (YJ c.X (mM c.X.prog c.X.w) c.E (Xa c.X.K c.cls c.E ρ (gs ρ)) σ D'.rt):=by
 refine sE f q fun d v L s e1 N o r1=>?_;unfold Vd at q;rw [e1,bind_ok] at q;cases r1 with
 |int k =>
  simp only at q;by_cases B:0<=k
  ·rw [if_pos B] at q;split at q
   ·rename_i F O
    obtain ⟨g,M,k',Q,ps,U,u,Y,hj⟩:=MC P O;have x:ET (as.map V.ref) k=some (.ref g):=by
     have:=tw (xs:=as.map V.ref) (j:=k.toNat) (v:=V.ref g) (by rw [aF,M];rfl)
     rwa [eS B] at this
    refine ⟨a,as.map V.ref,k,.ref g,rfl,rfl,.of (N.all _ _ S),x,k',g,Q,ps,_,rfl,U,T.mono hj,u,Y,H0,Hs0,la,s,o,?_⟩;cases G:gs ρ with
    |no=>rw [G] at q;exact q.elim
    |ex y m=>rw [G] at q;exact fun I b z=>q I b (o.st.trans z)
    |ok ds =>
     rw [G,bind_ok] at q;intro vs I b z r3;have p:=o.step z;by_cases t:ds.length=n
     ·rw [if_pos t] at q;show P6 _ _ _ _ (vs++[]) _ _ _;rw [bT];refine ⟨b,ds,p.st.sub,t,r3,?_⟩;cases h:F ds with
      |no=>rw [h] at q;exact q.elim
      |ex y m=>rw [h] at q;exact fun l e i=>q l e (p.st.trans i)
      |ok d=>rw [h] at q;exact fun v l e i r4=>q v l e (p.st.trans i) r4
     ·rw [if_neg t] at q;exact q.elim
   ·exact q.elim
  ·rw [if_neg B] at q;exact q.elim
 |list _ _=>exact q.elim
 |none=>exact q.elim
 |bool _=>exact q.elim
 |str _=>exact q.elim
 |tuple _ _=>exact q.elim
 |dictK _ _=>exact q.elim
 |dictT _ _ _=>exact q.elim
 |dictF _ _ _=>exact q.elim
end J
namespace J
open PySem L2
end J
namespace TS
open PySem PyProof.Rows
def To:Bool->cJ->Array cJ->Nat->Nat->Nat->StateT eQ Sem (Option Nat):=sortPriv% PySem.Builtin.gallop
section
variable {prog:bu}{w:bQ}{A:cf}{E:ac->ao->Prop}{s:ao}{kd:nX}{rk:ac->Nat}{L:List cJ}
def Cp (prog:bu) (w:bQ) (A:cf) (s:ao) (kd:nX) (rk:ac->Nat) (L:List cJ):Prop :=
 ∀ x∈L,∀ y∈L,∀ (Q:Bool->ao->Prop) (E:ac->ao->Prop),Q (decide (rk x.1<rk y.1)) s->ar (av prog w) A (keyLt' kd x.1 y.1) Q E s
theorem Qk {x y:cJ}{Q:Option Bool->eQ->Prop}{st:eQ} (a:Cp prog w A s kd rk L) (c:kindOf st=kd) (d:x∈L) (b:y∈L)
  (h:Q (some (decide (rk x.1<rk y.1))) st):wpS (av prog w) A E s (lt' x y) Q st:=by
 rw [lt'_eq];refine aA (nQ ?_);rw [c];exact aA (uf (iu (a x d y b _ _ ⟨rfl,aT h⟩)))
theorem gf {a:Array cJ}{i:Nat}{p:cJ}{Q:cJ->eQ->Prop}{st:eQ} (b:a[i]?=some p) (h:Q p st):wpS (av prog w) A E s (elem' a i) Q st:=by
 rw [elem'_eq,b];exact aT h
structure YK (rk:ac->Nat) (L:List cJ) (a:Array cJ) (b n:Nat) (g:Nat->Nat):Prop where
 at_:∀ i,i<n->∃ p,a[b+i]?=some p/\p∈L/\rk p.1=g i
 up:∀ i j,i<j->j<n->g i<g j
variable {l:Bool}{k:cJ}{a:Array cJ}{b n h i:Nat}{g:Nat->Nat}{st:eQ}
theorem KP (hC:Cp prog w A s kd rk L) (hk:kindOf st=kd) (hr:YK rk L a b n g) (hx:k∈L) (hne:∀ i,i<n->g i≠rk k.1) (hi:i<n)
  (h:Q (some (decide (g i<rk k.1))) st):wpS (av prog w) A E s (do
   let x <- elem' a (b+i)
   if l=true then lt' x k else do
    let o <- lt' k x
    pure (o.map (fun x=>!x))) Q st:=by
 obtain ⟨p,e,m,r⟩:=hr.at_ i hi;refine aA (gf e ?_);cases l with
 |true=>rw [if_pos rfl];refine Qk hC hk m hx ?_;rw [r];exact h
 |false =>
  rw [if_neg (by decide)];refine aA (Qk hC hk hx m (aT ?_));have e:(!decide (rk k.1<rk p.1))=decide (g i<rk k.1):=by
   have:=hne i hi;rw [r];rcases Nat.lt_trichotomy (g i) (rk k.1) with h|h|h
   ·simp [h,bw h]
   ·exact absurd h this
   ·simp [h,Nat.not_lt.2 (bw h)]
  rw [da,e];exact h
theorem pV (T:Cp prog w A s kd rk L) (U:kindOf st=kd) (P:YK rk L a b n g) (X:k∈L) (G:∀ i,i<n->g i≠rk k.1) (hh:h<n)
  (q:∀ m,m<=n->(∀ i,i<m->g i<rk k.1)->(∀ i,m<=i->i<n->rk k.1<g i)->Q (some m) st):wpS (av prog w) A E s (To l k a b n h) Q st:=by
 have p:∀ j,j<n->g j<rk k.1->∀ i,i<j+1->g i<rk k.1:=fun j hj Y i O=>by
  rcases cZ i j with h|h
  ·exact e7 (P.up i j h hj) Y
  ·rw [show i=j by omega];exact Y
 have o:∀ j,j<n->¬ g j<rk k.1->∀ i,j<=i->i<n->rk k.1<g i:=fun j hj Y i O hn=>by
  have h1:=G j hj;have K:rk k.1<g j:=by omega
  rcases cZ j i with h|h
  ·exact e7 K (P.up j i h hn)
  ·rw [show i=j by omega];exact K
 refine aA (KP T U P X G hh ?_);dsimp (config:={ zeta:=false }) only;extract_lets jp;have J:∀ x y lo O,lo<=O->O<=n->(∀ i,i<lo->g i<rk k.1)->(∀ i,O<=i->i<n->rk k.1<g i)->wpS (av prog w) A E s (jp () x y lo O) Q st:=by
  intro x y lo O h1 K h3 h4;refine aA (eX (df (I:=fun x c d=>d=st/\∃ l r,c=(none,l,r)/\l<=r/\r<=n/\r-l<=n-x/\(∀ i,i<l->g i<rk k.1)/\(∀ i,r<=i->i<n->rk k.1<g i))
   (Q:=fun c d=>d=st/\∃ l,c=(none,l,l)/\l<=n/\(∀ i,i<l->g i<rk k.1)/\(∀ i,l<=i->i<n->rk k.1<g i)) ?_ ?_ ⟨rfl,lo,O,rfl,h1,K,by omega,h3,h4⟩) ?_)
  ·rintro x c d - S ⟨rfl,l,r,rfl,B,H,z,f,t⟩;dsimp only;by_cases e:l ≥ r
   ·rw [if_pos e];have:l=r:=by omega
    subst this;exact aT ⟨rfl,l,rfl,H,f,t⟩
   ·rw [if_neg e];refine aA (KP T U P X G (by omega) ?_);dsimp only;by_cases N:g (l+(r-l) / 2)<rk k.1
    ·rw [if_pos (by simpa using N)];exact aT ⟨rfl,_,r,rfl,by omega,H,by omega,p _ (by omega) N,t⟩
    ·rw [if_neg (by simpa using N)];exact aT ⟨rfl,l,_,rfl,by omega,by omega,by omega,f,o _ (by omega) N⟩
  ·rintro c d ⟨rfl,l,r,rfl,B,H,z,f,t⟩;have:l=r:=by omega
   subst this;exact ⟨rfl,l,rfl,H,f,t⟩
  ·rintro c d ⟨rfl,l,rfl,H,f,t⟩;exact aT (q l H f t)
 by_cases N:g h<rk k.1
 ·rw [if_pos (by simpa using N)];refine aA (eX (df (I:=fun x c d=>d=st/\∃ u v,c=(none,u,v)/\u<v/\x<v/\h+u<n/\g (h+u)<rk k.1)
   (Q:=fun c d=>d=st/\∃ u v,c=(none,u,v)/\u<v/\h+u<n/\g (h+u)<rk k.1/\(n-h<=v\/(h+v<n/\¬ g (h+v)<rk k.1))) ?_ ?_ ⟨rfl,0,1,rfl,by omega,by omega,by omega,N⟩) ?_)
  ·rintro x c d - S ⟨rfl,u,v,rfl,B,H,z,f⟩;dsimp only;by_cases e:v ≥ n-h
   ·rw [if_pos e];exact aT ⟨rfl,u,v,rfl,B,z,f,.inl e⟩
   ·rw [if_neg e];refine aA (KP T U P X G (by omega) ?_);dsimp only;by_cases M:g (h+v)<rk k.1
    ·rw [if_neg (by simp [M])];exact aT ⟨rfl,v,_,rfl,by omega,by omega,by omega,M⟩
    ·rw [if_pos (by simp [M])];exact aT ⟨rfl,u,v,rfl,B,z,f,.inr ⟨by omega,M⟩⟩
  ·rintro c d ⟨rfl,u,v,rfl,B,H,z,f⟩;exact ⟨rfl,u,v,rfl,B,z,f,.inl (by omega)⟩
  ·rintro c d ⟨rfl,u,v,rfl,B,z,f,t⟩;refine J u v (h+u+1) (h+min v (n-h)) (by omega) (by omega) (p _ z f) ?_;rcases Nat.le_total (n-h) v with h1|h1
   ·intro i K h3;rw [Nat.min_eq_right h1] at K;omega
   ·rcases t with t|⟨t,a6⟩
    ·intro i K h3;rw [nj h1] at K;omega
    ·rw [nj h1];exact o _ t a6
 ·rw [if_neg (by simpa using N)];refine aA (eX (df (I:=fun x c d=>d=st/\∃ u v,c=(none,u,v)/\u<v/\x<v/\u<=h/\¬ g (h-u)<rk k.1)
   (Q:=fun c d=>d=st/\∃ u v,c=(none,u,v)/\u<v/\u<=h/\¬ g (h-u)<rk k.1/\(h+1<=v\/(v<=h/\g (h-v)<rk k.1))) ?_ ?_ ⟨rfl,0,1,rfl,by omega,by omega,by omega,N⟩) ?_)
  ·rintro x c d - S ⟨rfl,u,v,rfl,B,H,z,f⟩;dsimp only;by_cases e:v ≥ h+1
   ·rw [if_pos e];exact aT ⟨rfl,u,v,rfl,B,z,f,.inl e⟩
   ·rw [if_neg e];refine aA (KP T U P X G (by omega) ?_);dsimp only;by_cases M:g (h-v)<rk k.1
    ·rw [if_pos (by simp [M])];exact aT ⟨rfl,u,v,rfl,B,z,f,.inr ⟨by omega,M⟩⟩
    ·rw [if_neg (by simp [M])];exact aT ⟨rfl,v,_,rfl,by omega,by omega,by omega,M⟩
  ·rintro c d ⟨rfl,u,v,rfl,B,H,z,f⟩;exact ⟨rfl,u,v,rfl,B,z,f,.inl (by omega)⟩
  ·rintro c d ⟨rfl,u,v,rfl,B,z,f,t⟩;refine J u v (h+1-min v (h+1)) (h-u) (by omega) (by omega) ?_ (o _ (by omega) f);rcases t with t|⟨t,a6⟩
   ·intro i K;omega
   ·intro i K;exact p (h-v) (by omega) a6 i (by omega)
end
structure Mg {α:Type} (lt:α->α->Prop) (T out ra rb:List α):Prop where
 perm:(out++ra++rb).Perm T
 so:out.Pairwise lt
 sa:ra.Pairwise lt
 sb:rb.Pairwise lt
 oa:∀ x∈out,∀ y∈ra,lt x y
 ob:∀ x∈out,∀ y∈rb,lt x y
section
variable {α:Type}{lt:α->α->Prop}{T out ra rb p:List α}
theorem Mg.comm (h:Mg lt T out ra rb):Mg lt T out rb ra :=
 ⟨by
  refine qh ?_ h.perm;rw [dR,dR];exact List.Perm.append_left _ List.perm_append_comm,h.so,h.sb,h.sa,h.ob,h.oa⟩
theorem Mg.take (h:Mg lt T out (p++ra) rb) (d:∀ x∈p,∀ y∈rb,lt x y):Mg lt T (out++p) ra rb:=by
 have c:=i0.1 h.sa;refine ⟨by simpa [dR] using h.perm,i0.2 ⟨h.so,c.1,fun x a y b=>h.oa x a y (bg _ b)⟩,c.2.1,h.sb,?_,?_⟩
 ·intro x a y b;rcases eT.1 a with a|a
  ·exact h.oa x a y (aM _ b)
  ·exact c.2.2 x a y b
 ·intro x a y b;rcases eT.1 a with a|a
  ·exact h.ob x a y b
  ·exact d x a y b
theorem Mg.fin (h:Mg lt T out ra rb) (c:∀ x∈ra,∀ y∈rb,lt x y):(out++ra++rb).Perm T/\(out++ra++rb).Pairwise lt :=
 ⟨h.perm,i0.2 ⟨i0.2 ⟨h.so,h.sa,h.oa⟩,h.sb,fun x a y b=>(eT.1 a).elim (fun a=>h.ob x a y b) fun a=>c x a y b⟩⟩
end
section
variable {a:Array cJ}{i k:Nat}{x:cJ}
theorem Gi (h:x∈a.toList.drop i):∃ j,i<=j/\a[j]?=some x:=by
 obtain ⟨n,b⟩:=lY.1 h;rw [wN] at b;exact ⟨i+n,by omega,by rw [<- aL];exact b⟩
theorem pq (h:x∈(a.toList.drop i).take k):∃ j,i<=j/\j<i+k/\a[j]?=some x:=by
 obtain ⟨n,b⟩:=lY.1 h;rw [Nx] at b;split at b
 ·rw [wN] at b;exact ⟨i+n,by omega,by omega,by rw [<- aL];exact b⟩
 ·cases b
theorem Gj (h:x∈a.toList.take k):∃ j,j<k/\a[j]?=some x:=by
 obtain ⟨j,_,c,b⟩:=pq (i:=0) (k:=k) h;exact ⟨j,by omega,b⟩
theorem fm (h:a[i]?=some x):x∈a.toList:=by
 rw [<- aL] at h;exact cC h
theorem KQ (h:a[i]?=some x):a.toList.drop i=[x]++a.toList.drop (i+1):=by
 rw [<- aL] at h;obtain ⟨b,rfl⟩:=pI.1 h;exact pH b
theorem KR (h:a[i]?=some x):a.toList.take (i+1)=a.toList.take i++[x]:=by
 rw [<- aL] at h;rw [NQ,h];rfl
theorem CF:a.toList.drop i=(a.toList.drop i).take k++a.toList.drop (i+k):=by
 rw [<- B_];exact (gK k _).symm
theorem gj (h:i<a.size):∃ p,a[i]?=some p:=⟨a[i],bz h⟩
theorem Gk:(a.extract i (i+k)).toList=(a.toList.drop i).take k:=by
 rw [hG,eN,List.take_drop]
theorem tM:(a.extract i a.size).toList=a.toList.drop i:=by
 rw [hG,eN];rw [lr (by simp)]
end
def Tp (rk:ac->Nat) (a:Array cJ):Prop:=∀ (i j:Nat) (p q:cJ),i<j->a[i]?=some p->a[j]?=some q->rk p.1<rk q.1
def dW (rk:ac->Nat) (a:Array cJ) (i:Nat):Nat:=(a[i]?.map fun p=>rk p.1).getD 0
section
variable {rk:ac->Nat}{a:Array cJ}{L:List cJ}
theorem bN (h:a[i]?=some p):dW rk a i=rk p.1:=by unfold dW;rw [h];rfl
theorem Tp.pw (h:Tp rk a):a.toList.Pairwise fun x y=>rk x.1<rk y.1:=by
 rw [pJ];intro i j d c b;exact h i j _ _ b (by rw [<- aL];exact aE d) (by rw [<- aL];exact aE c)
theorem Tp.run (h:Tp rk a) (f:∀ p∈a.toList,p∈L) (k:b+n<=a.size):YK rk L a b n (fun i=>dW rk a (b+i)):=by
 refine ⟨fun i l=>?_,fun i j e g=>?_⟩
 ·obtain ⟨p,c⟩:=gj (a:=a) (i:=b+i) (by omega);exact ⟨p,c,f p (fm c),(bN c).symm⟩
 ·obtain ⟨p,c⟩:=gj (a:=a) (i:=b+i) (by omega);obtain ⟨q,d⟩:=gj (a:=a) (i:=b+j) (by omega);show dW rk a _<dW rk a _;rw [bN c,bN d];exact h _ _ p q (by omega) c d
end
def Ql:Array cJ->Array cJ->StateT eQ Sem (Array cJ):=sortPriv% PySem.Builtin.mergeLo
def YL:Nat->StateT eQ Sem Unit:=sortPriv% PySem.Builtin.setMinGallop
def Sm (st a:eQ):Prop:=kindOf a=kindOf st/\aR a=aR st/\bV a=bV st/\xc a=xc st
section
variable {prog:bu}{w:bQ}{A:cf}{E:ac->ao->Prop}{s:ao}{kd:nX}{rk:ac->Nat}{L:List cJ}{st st':eQ}
theorem Sm.rfl:Sm st st:=⟨RZ _,RZ _,RZ _,RZ _⟩
theorem Eb (a:Sm st0 st) (h:∀ st',Sm st0 st'->Q () st'):wpS (av prog w) A E s (YL n) Q st :=
 qm (h _ a)
structure Qm (rk:ac->Nat) (L:List cJ) (a b:Array cJ):Prop where
 sa:Tp rk a
 sb:Tp rk b
 la:∀ p∈a.toList,p∈L
 lb:∀ p∈b.toList,p∈L
 ne:∀ p∈a.toList,∀ q∈b.toList,rk p.1≠rk q.1
def WC (rk:ac->Nat) (x y:cJ):Prop:=rk x.1<rk y.1
def pW (rk:ac->Nat) (a b r:Array cJ):Prop:=r.toList.Perm (a.toList++b.toList)/\r.toList.Pairwise (WC rk)
def V (rk:ac->Nat) (a b out:Array cJ) (d c:Nat):Prop:=Mg (WC rk) (a.toList++b.toList) out.toList (a.toList.drop d) (b.toList.drop c)
variable {a b out:Array cJ}{ia ib k:Nat}{p q:cJ}
theorem y_ {x y:cJ} (t:Tp rk b) (c:b[ib]?=some q) (h:rk x.1<rk q.1) (d:y∈b.toList.drop ib):rk x.1<rk y.1:=by
 obtain ⟨j,f,e⟩:=Gi d;rcases cZ ib j with h1|h1
 ·exact e7 h (t _ _ _ _ h1 c e)
 ·rw [show j=ib by omega,c] at e;cases e;exact h
theorem V.pushA (v:V rk a b out ia ib) (t:Qm rk L a b) (c:a[ia]?=some p) (e:b[ib]?=some q) (h:rk p.1<rk q.1):V rk a b (out.push p) (ia+1) ib:=by
 unfold V at *;rw [j0];rw [KQ c] at v;exact v.take fun x f y d=>by
  rw [c9.1 f];exact y_ t.sb e h d
theorem V.pushB (v:V rk a b out ia ib) (t:Qm rk L a b) (c:a[ia]?=some p) (e:b[ib]?=some q) (h:rk q.1<rk p.1):V rk a b (out.push q) ia (ib+1):=by
 unfold V at *;rw [j0];rw [KQ e] at v;exact (v.comm.take fun x f y d=>by
  rw [c9.1 f];exact y_ t.sa c h d).comm
theorem V.moreA (v:V rk a b out ia ib) (t:Qm rk L a b) (d:b[ib]?=some q) (h:∀ i,i<k->dW rk a (ia+i)<rk q.1):V rk a b (out++a.extract ia (ia+k)) (ia+k) ib:=by
 unfold V at *;rw [cu,Gk];rw [CF (k:=k)] at v;exact v.take fun x f y c=>by
  obtain ⟨j,g,l,e⟩:=pq f;refine y_ t.sb d ?_ c;have:=h (j-ia) (by omega)
  rwa [show ia+(j-ia)=j by omega,bN e] at this
theorem V.moreB (v:V rk a b out ia ib) (t:Qm rk L a b) (c:a[ia]?=some p) (h:∀ i,i<k->dW rk b (ib+i)<rk p.1):V rk a b (out++b.extract ib (ib+k)) ia (ib+k):=by
 unfold V at *;rw [cu,Gk];rw [CF (a:=b) (k:=k)] at v;exact (v.comm.take fun x f y d=>by
  obtain ⟨j,g,l,e⟩:=pq f;refine y_ t.sa c ?_ d;have:=h (j-ib) (by omega)
  rwa [show ib+(j-ib)=j by omega,bN e] at this).comm
theorem V.done (v:V rk a b out ia ib) (h:ib=b.size):pW rk a b (out++a.extract ia a.size++b.extract ib b.size):=by
 unfold V at v;have e:b.toList.drop ib=[]:=List.drop_eq_nil_of_le (by simp [h]);unfold pW;rw [cu,cu,tM,tM];exact v.fin fun x _ y c=>by rw [e] at c;cases c
theorem V.last (v:V rk a b out ia ib) (c:a[ia]?=some p) (h:ia+1=a.size) (g:∀ y∈b.toList,rk y.1<rk p.1):pW rk a b (out++b.extract ib b.size++a.extract ia a.size):=by
 unfold V at v;unfold pW;rw [cu,cu,tM,tM];refine v.comm.fin fun x f y d=>?_;obtain ⟨j,i,e⟩:=Gi d;have:j<a.size:=by
  rcases cZ j a.size with h|h
  ·exact h
  ·rw [cB h] at e;cases e
 rw [show j=ia by omega,c] at e;cases e;exact g x (List.mem_of_mem_drop f)
theorem eZ {d:Type}{c:Prop} [Decidable c] {f e:StateT eQ Sem d}{Q:d->eQ->Prop} (g:c->wpS (av prog w) A E s f Q st) (i:¬ c->wpS (av prog w) A E s e Q st):wpS (av prog w) A E s (if c then f else e) Q st:=by
 by_cases h:c
 ·rw [if_pos h];exact g h
 ·rw [if_neg h];exact i h
theorem kU {c:Type}{m n:Nat}{f d:StateT eQ Sem c}{Q:c->eQ->Prop} (g:m=n->wpS (av prog w) A E s f Q st) (i:m≠n->wpS (av prog w) A E s d Q st):wpS (av prog w) A E s (if (m==n)=true then f else d) Q st :=
 eZ (fun h=>g (beq_iff_eq.1 h)) fun h=>i fun e=>h (beq_iff_eq.2 e)
def GP (rk:ac->Nat) (a b:Array cJ) (x:Nat) (st:eQ) (r:ForInStep (Option (Array cJ)×Array cJ×Nat×Nat×Nat×Nat×Nat)) (st':eQ):Prop:=Sm st st'/\match r with
 |.done c=>(∃ r z,c=(some r,z)/\pW rk a b r)\/∃ out ia ib g d e,c=(none,out,ia,ib,g,d,e)/\V rk a b out ia ib/\ia+1<a.size/\ib<b.size/\x+2<=ia+ib
 |.yield c=>∃ out ia ib g d e,c=(none,out,ia,ib,g,d,e)/\V rk a b out ia ib/\ia+1<a.size/\ib<b.size/\x+2<=ia+ib
theorem MD (hC:Cp prog w A s kd rk L) (hk:kindOf st=kd) (t:Qm rk L a b)
  (M:a[0]?=some p0) (N:b[0]?=some q0) (h0:rk q0.1<rk p0.1) (hl:∀ p,a[a.size-1]?=some p->∀ y∈b.toList,rk y.1<rk p.1)
  (h:∀ r st',Sm st st'->pW rk a b r->Q r st'):wpS (av prog w) A E s (Ql a b) Q st:=by
 have j:∀ {ia p out ib},V rk a b out ia ib->ia+1=a.size->a[ia]?=some p->pW rk a b (out++b.extract ib b.size++a.extract ia a.size):=fun v e d=>v.last d e (hl _ (by rw [<- e];exact d));have V0:V rk a b #[q0] 0 1:=V.pushB (out:=#[]) ⟨by simp,by simp,t.sa.pw,t.sb.pw,by simp,by simp⟩ t M N h0;have c0:0<a.size:=by
  rcases gJ a.size with e|e
  ·rw [cB (by omega)] at M;cases M
  ·exact e
 have b6:0<b.size:=by
  rcases gJ b.size with e|e
  ·rw [cB (by omega)] at N;cases N
  ·exact e
 refine aA (uf (cW ⟨rfl,?_⟩));refine aA (gf N ?_);refine kU (m:=1) (n:=b.size) (fun e1=>aT (h _ _ .rfl (V0.done e1))) fun e1=>?_;refine kU (m:=0+1) (n:=a.size) (fun e2=>aT (h _ _ .rfl (j V0 e2 M))) fun e2=>?_;refine aA (nQ ?_);refine aA (eX (df
  (I:=fun x c st'=>Sm st st'/\∃ out ia ib g,c=(none,out,ia,ib,g)/\V rk a b out ia ib/\ia+1<a.size/\ib<b.size/\x+1<=ia+ib)
  (Q:=fun c st'=>Sm st st'/\∃ r z,c=(some r,z)/\pW rk a b r) ?step ?fin ⟨.rfl,_,0,1,_,rfl,V0,by omega,by omega,by omega⟩) ?post)
 case fin =>
  rintro c st' ⟨_,out,ia,ib,g,rfl,v,B,u,O⟩;omega
 case post =>
  rintro c st' ⟨m,r,z,rfl,f⟩;exact aT (h r st' m f)
 case step =>
  rintro x c b9-hx ⟨m1,out,ia,ib,g,rfl,v,B,u,O⟩;refine aA (eX (df
   (I:=fun y c st'=>Sm st st'/\∃ out ia ib o l,c=(none,out,ia,ib,o,l)/\V rk a b out ia ib/\ia+1<a.size/\ib<b.size/\x+1+y<=ia+ib)
   (Q:=fun c st'=>Sm st st'/\((∃ r z,c=(some r,z)/\pW rk a b r)\/∃ out ia ib o l,c=(none,out,ia,ib,o,l)/\V rk a b out ia ib/\ia+1<a.size/\ib<b.size/\x+2<=ia+ib))
   ?istep ?ifin ⟨m1,out,ia,ib,0,0,rfl,v,B,u,by omega⟩) ?ipost)
  case ifin =>
   rintro c st' ⟨m,out,ia,ib,o,l,rfl,v,B,u,O⟩;exact ⟨m,.inr ⟨out,ia,ib,o,l,rfl,v,B,u,by omega⟩⟩
  case istep =>
   rintro y c st' - hy ⟨m,out,ia,ib,o,l,rfl,v,B,u,O⟩;dsimp only;obtain ⟨p,d⟩:=gj (a:=a) (i:=ia) (by omega);obtain ⟨q,G⟩:=gj u;refine aA (gf G (aA (gf d (aA (Qk hC (m.1.trans hk) (t.lb q (fm G)) (t.la p (fm d)) ?_)))));dsimp only;by_cases U:rk q.1<rk p.1
   ·rw [if_pos (by simpa using U)];refine aA (gf G ?_);have S:=v.pushB t d G U;by_cases X:ib+1=b.size
    ·rw [if_pos (by simpa using X)];exact aT ⟨m,.inl ⟨_,_,rfl,S.done X⟩⟩
    rw [if_neg (by simpa using X)];by_cases e4:l+1 ≥ g
    ·rw [if_pos e4];exact aT ⟨m,.inr ⟨_,_,_,_,_,rfl,S,B,by omega,by omega⟩⟩
    ·rw [if_neg e4];exact aT ⟨m,_,_,_,_,_,rfl,S,B,by omega,by omega⟩
   ·rw [if_neg (by simpa using U)];have Y:rk p.1<rk q.1:=by have:=t.ne p (fm d) q (fm G);omega
    refine aA (gf d ?_);have S:=v.pushA t d G Y;by_cases X:ia+1+1=a.size
    ·rw [if_pos (by simpa using X)];obtain ⟨p',T⟩:=gj (a:=a) (i:=ia+1) (by omega);exact aT ⟨m,.inl ⟨_,_,rfl,j S X T⟩⟩
    rw [if_neg (by simpa using X)];by_cases e4:o+1 ≥ g
    ·rw [if_pos e4];exact aT ⟨m,.inr ⟨_,_,_,_,_,rfl,S,by omega,u,by omega⟩⟩
    ·rw [if_neg e4];exact aT ⟨m,_,_,_,_,_,rfl,S,by omega,u,by omega⟩
  case ipost =>
   rintro c a3 ⟨m2,⟨r,z,rfl,f⟩|⟨out,ia,ib,o,l,rfl,v,B,u,O⟩⟩
   ·exact aT ⟨m2,r,_,rfl,f⟩
   refine aA (uf (cW ⟨rfl,?_⟩));refine aA (eX (df
    (I:=fun y c st'=>Sm st st'/\∃ out ia ib g o l,c=(none,out,ia,ib,g,o,l)/\V rk a b out ia ib/\ia+1<a.size/\ib<b.size/\x+2<=ia+ib)
    (Q:=fun c st'=>Sm st st'/\((∃ r z,c=(some r,z)/\pW rk a b r)\/∃ out ia ib g o l,c=(none,out,ia,ib,g,o,l)/\V rk a b out ia ib/\ia+1<a.size/\ib<b.size/\x+2<=ia+ib))
    ?gstep ?gfin ⟨m2,out,ia,ib,_,o,l,rfl,v,B,u,by omega⟩) ?gpost)
   case gfin =>
    rintro c st' ⟨m,out,ia,ib,g,o,l,rfl,v,B,u,O⟩;exact ⟨m,.inr ⟨out,ia,ib,g,o,l,rfl,v,B,u,O⟩⟩
   case gpost =>
    rintro c a3 ⟨m2,⟨r,z,rfl,f⟩|⟨out,ia,ib,g,o,l,rfl,v,B,u,O⟩⟩
    ·exact aT ⟨m2,r,_,rfl,f⟩
    exact aA (Eb m2 fun st' K=>aT ⟨K,out,ia,ib,_,rfl,v,B,u,O⟩)
   case gstep =>
    rintro y c st' - hy ⟨m,out,ia,ib,g,o,l,rfl,v,B,u,O⟩;extract_lets s1 a5 s2 b8 s3 d0 s4 g' s5 a6 c4 b7 jp;have J:∀ g,wpS (av prog w) A E s (jp () g) (GP rk a b x st) st':=by
     intro g;obtain ⟨q,G⟩:=gj u;have sa:=t.sa.run (b:=ia) (n:=a.size-ia) t.la (by omega);have na:∀ i,i<a.size-ia->dW rk a (ia+i)≠rk q.1:=fun i hi=>by
      obtain ⟨p,d⟩:=gj (a:=a) (i:=ia+i) (by omega);rw [bN d];exact t.ne p (fm d) q (fm G)
     refine aA (Eb m fun st' K=>?_);refine aA (gf (a:=b) (i:=ib) G ?_);refine aA (pV (a:=a) (b:=ia) (n:=a.size-ia) (h:=0) hC (K.1.trans hk) sa (t.lb q (fm G)) na (by omega) fun k k1 k2 k3=>?_);have v1:=v.moreA t G k2;have k4:ia+k<a.size:=by
      obtain ⟨p,d⟩:=gj (a:=a) (i:=a.size-1) (by omega);rcases cZ (ia+k) a.size with h|h
      ·exact h
      ·have h4:=k2 (a.size-1-ia) (by omega);have h5:=hl p d q (fm G);rw [show ia+(a.size-1-ia)=a.size-1 by omega,bN d] at h4;omega
     obtain ⟨p,d⟩:=gj k4;have a0:rk q.1<rk p.1:=by
      have:=k3 k (by omega) (by omega)
      rwa [bN d] at this
     dsimp (config:={ zeta:=false }) only;extract_lets nn a4;have J1:∀ out,V rk a b out (ia+k) ib->ia+k+1<a.size->wpS (av prog w) A E s (a4 () out (ia+k)) (GP rk a b x st) st':=by
      intro out v1 k5;refine aA (gf (a:=b) (i:=ib) G ?_);have v2:=v1.pushB t d G a0;refine kU (m:=ib+1) (n:=b.size) (fun e=>aT ⟨K,.inl ⟨_,_,rfl,v2.done e⟩⟩) fun e=>?_;refine aA (gf (a:=a) (i:=ia+k) d ?_);have sb:=t.sb.run (b:=ib+1) (n:=b.size-(ib+1)) t.lb (by omega);have nb:∀ i,i<b.size-(ib+1)->dW rk b (ib+1+i)≠rk p.1:=fun i hi=>by
       obtain ⟨q',H⟩:=gj (a:=b) (i:=ib+1+i) (by omega);rw [bN H];exact fun e=>t.ne p (fm d) q' (fm H) e.symm
      refine aA (pV (a:=b) (b:=ib+1) (n:=b.size-(ib+1)) (h:=0) hC (K.1.trans hk) sb (t.la p (fm d)) nb (by omega) fun P c1 c2 c3=>?_);have v3:=v2.moreB t d c2;dsimp (config:={ zeta:=false }) only;extract_lets d1 b0 a2;have J2:∀ out,V rk a b out (ia+k) (ib+1+P)->ib+1+P<b.size->wpS (av prog w) A E s (a2 () out (ib+1+P)) (GP rk a b x st) st':=by
       intro out v3 c5;obtain ⟨q',H⟩:=gj c5;have a1:rk p.1<rk q'.1:=by
        have:=c3 P (by omega) (by omega)
        rwa [bN H] at this
       have v4:=v3.pushA t d H a1;refine aA (gf (a:=a) (i:=ia+k) d ?_);refine kU (m:=ia+k+1+1) (n:=a.size) (fun e=>?_) fun e=>?_
       ·obtain ⟨p',T⟩:=gj (a:=a) (i:=ia+k+1) (by omega);exact aT ⟨K,.inl ⟨_,_,rfl,j v4 e T⟩⟩
       ·refine eZ (fun _=>aT ⟨K,.inr ⟨_,ia+k+1,ib+1+P,_,_,_,rfl,v4,by omega,by omega,by omega⟩⟩) fun _=>aT ⟨K,_,ia+k+1,ib+1+P,_,_,_,rfl,v4,by omega,by omega,by omega⟩
      refine eZ (fun _=>?_) fun hz=>?_
      ·refine kU (m:=ib+1+P) (n:=b.size) (fun e=>aT ⟨K,.inl ⟨_,_,rfl,v3.done e⟩⟩) fun e=>J2 _ v3 (by omega)
      ·obtain rfl:P=0:=by omega
       exact J2 _ v2 (by omega)
     refine eZ (fun _=>?_) fun hz=>?_
     ·refine kU (m:=ia+k+1) (n:=a.size) (fun e=>aT ⟨K,.inl ⟨_,_,rfl,j v1 e d⟩⟩) fun e=>?_;refine kU (m:=ia+k) (n:=a.size) (fun e=>by omega) fun e=>J1 _ v1 (by omega)
     ·obtain rfl:k=0:=by omega
      exact J1 _ v (by omega)
    exact eX (eZ (fun _=>J _) fun _=>J _) fun r _ hh=>by cases r<;>exact hh
end
def Qn:Array cJ->Array cJ->StateT eQ Sem (Array cJ):=sortPriv% PySem.Builtin.mergeHi
section
variable {prog:bu}{w:bQ}{A:cf}{E:ac->ao->Prop}{s:ao}{kd:nX}{rk:ac->Nat}{L:List cJ}{st st':eQ}
def W (rk:ac->Nat) (a b out:Array cJ) (c d:Nat):Prop:=Mg (fun x y=>WC rk y x) (a.toList++b.toList) out.toList (a.toList.take c).reverse (b.toList.take d).reverse
variable {a b out:Array cJ}{n m k:Nat}{p q:cJ}
theorem z0 {x y:cJ} (t:Tp rk b) (c:b[m]?=some q) (h:rk q.1<rk x.1) (d:y∈(b.toList.take (m+1)).reverse):rk y.1<rk x.1:=by
 obtain ⟨j,f,e⟩:=Gj (my.1 d);rcases cZ j m with h1|h1
 ·exact e7 (t _ _ _ _ h1 e c) h
 ·rw [show j=m by omega,c] at e;cases e;exact h
theorem W.pushA (v:W rk a b out (n+1) (m+1)) (t:Qm rk L a b) (d:a[n]?=some p) (f:b[m]?=some q) (h:rk q.1<rk p.1):W rk a b (out.push p) n (m+1):=by
 unfold W at *;rw [j0];rw [KR d,vv] at v;exact v.take fun x c y e=>by
  rw [HC] at c;rw [c9.1 c];exact z0 t.sb f h e
theorem W.pushB (v:W rk a b out (n+1) (m+1)) (t:Qm rk L a b) (d:a[n]?=some p) (f:b[m]?=some q) (h:rk p.1<rk q.1):W rk a b (out.push q) (n+1) m:=by
 unfold W at *;rw [j0];rw [KR f,vv] at v;exact (v.comm.take fun x c y e=>by
  rw [HC] at c;rw [c9.1 c];exact z0 t.sa d h e).comm
theorem CG {l:List cJ} (h:k<=n):(l.take n).reverse=((l.take n).drop k).reverse++(l.take k).reverse:=by
 rw [<- vv];conv=>lhs;rw [<- gK k (l.take n)]
 rw [List.take_take,nj h]
theorem KS:(a.extract k n).reverse.toList=((a.toList.take n).drop k).reverse:=by
 rw [ug,hG,eN,List.take_eq_take_min]
theorem pX:(a.extract 0 n).toList=a.toList.take n:=by
 rw [hG,eN];simp
theorem uz (h:x∈(a.toList.take n).drop k):∃ j,k<=j/\j<n/\a[j]?=some x:=by
 obtain ⟨i,c⟩:=lY.1 h;rw [wN,Nx] at c;split at c
 ·exact ⟨k+i,by omega,by omega,by rw [<- aL];exact c⟩
 ·cases c
theorem W.moreA (v:W rk a b out n (m+1)) (t:Qm rk L a b) (f:b[m]?=some q) (g:k<=n) (h:∀ i,k<=i->i<n->rk q.1<dW rk a (0+i)):W rk a b (out++(a.extract k n).reverse) k (m+1):=by
 unfold W at *;rw [cu,KS];rw [CG g] at v;exact v.take fun x l y d=>by
  obtain ⟨j,c,o,e⟩:=uz (my.1 l);refine z0 t.sb f ?_ d;have:=h j c o
  rwa [e8,bN e] at this
theorem W.moreB (v:W rk a b out (n+1) m) (t:Qm rk L a b) (c:a[n]?=some p) (g:k<=m) (h:∀ i,k<=i->i<m->rk p.1<dW rk b (0+i)):W rk a b (out++(b.extract k m).reverse) (n+1) k:=by
 unfold W at *;rw [cu,KS];rw [CG (n:=m) g] at v;exact (v.comm.take fun x l y f=>by
  obtain ⟨j,d,o,e⟩:=uz (my.1 l);refine z0 t.sa c ?_ f;have:=h j d o
  rwa [e8,bN e] at this).comm
theorem W.done (v:W rk a b out n m) (h:n=0):pW rk a b (a.extract 0 n++b.extract 0 m++out.reverse):=by
 subst h;have f:=v.comm.fin fun x _ y c=>by rw [List.take_zero] at c;cases c
 unfold pW;rw [cu,cu,pX,pX,ug];refine ⟨?_,?_⟩
 ·refine qh ?_ f.1;refine (pM _).symm.trans ?_;simp
 ·have:=lZ.2 f.2;simpa using this
theorem W.last (v:W rk a b out n m) (d:b[0]?=some q) (h:m=1) (i:∀ y∈a.toList,rk q.1<rk y.1):pW rk a b (b.extract 0 m++a.extract 0 n++out.reverse):=by
 subst h;have f:=v.fin fun x g y c=>by
  obtain ⟨j,l,e⟩:=Gj (my.1 c);rw [show j=0 by omega,d] at e;cases e;exact i x (List.mem_of_mem_take (my.1 g))
 unfold pW;rw [cu,cu,pX,pX,ug];refine ⟨?_,?_⟩
 ·refine qh ?_ f.1;refine (pM _).symm.trans ?_;simp
 ·have:=lZ.2 f.2;simpa using this
def HP (rk:ac->Nat) (a b:Array cJ) (x:Nat) (st:eQ) (r:ForInStep (Option (Array cJ)×Nat×Nat×Array cJ×Nat×Nat×Nat)) (st':eQ):Prop:=Sm st st'/\match r with
 |.done c=>(∃ r z,c=(some r,z)/\pW rk a b r)\/∃ out d e g f h,c=(none,d+1,e+2,out,g,f,h)/\W rk a b out (d+1) (e+2)/\d+1<=a.size/\e+2<=b.size/\d+e+3+x+2<=a.size+b.size
 |.yield c=>∃ out d e g f h,c=(none,d+1,e+2,out,g,f,h)/\W rk a b out (d+1) (e+2)/\d+1<=a.size/\e+2<=b.size/\d+e+3+x+2<=a.size+b.size
theorem ME (hC:Cp prog w A s kd rk L) (hk:kindOf st=kd) (t:Qm rk L a b)
  (P:a[a.size-1]?=some p0) (U:b[b.size-1]?=some q0) (h0:rk q0.1<rk p0.1) (M:b[0]?=some q1) (hl:∀ y∈a.toList,rk q1.1<rk y.1)
  (h:∀ r st',Sm st st'->pW rk a b r->Q r st'):wpS (av prog w) A E s (Qn a b) Q st:=by
 have d4:0<a.size:=by
  rcases gJ a.size with e|e
  ·rw [cB (by omega)] at P;cases P
  ·exact e
 have d1:0<b.size:=by
  rcases gJ b.size with e|e
  ·rw [cB (by omega)] at U;cases U
  ·exact e
 have V0:W rk a b #[p0] (a.size-1) b.size:=by
  have e:b.size=b.size-1+1:=by omega
  rw [e];refine W.pushA (out:=#[]) ?_ t P U h0;rw [<- e,show a.size-1+1=a.size by omega];unfold W;rw [lr (by simp),lr (by simp)];refine ⟨?_,by simp,lZ.2 t.sa.pw,lZ.2 t.sb.pw,by simp,by simp⟩;exact (pM _).append (pM _)
 refine aA (uf (cW ⟨rfl,?_⟩));refine aA (gf P ?_);refine kU (m:=a.size-1) (n:=0) (fun e1=>aT (h _ _ .rfl (V0.done e1))) fun e1=>?_;refine kU (m:=b.size) (n:=1) (fun e2=>aT (h _ _ .rfl (V0.last M e2 hl))) fun e2=>?_;refine aA (nQ ?_);refine aA (eX (df
  (I:=fun x c st'=>Sm st st'/\∃ out l d g,c=(none,l+1,d+2,out,g)/\W rk a b out (l+1) (d+2)/\l+1<=a.size/\d+2<=b.size/\l+d+3+x+1<=a.size+b.size)
  (Q:=fun c st'=>Sm st st'/\∃ r z,c=(some r,z)/\pW rk a b r) ?step ?fin ⟨.rfl,#[p0],a.size-2,b.size-2,gallopOf st,?e1,?e2,by omega,by omega,by omega⟩) ?post)
 case e1=>rw [show a.size-2+1=a.size-1 by omega,show b.size-2+2=b.size by omega]
 case e2=>rw [show a.size-2+1=a.size-1 by omega,show b.size-2+2=b.size by omega];exact V0
 case fin =>
  rintro c st' ⟨_,out,l,d,g,rfl,v,K,H,S⟩;omega
 case post =>
  rintro c st' ⟨m,r,z,rfl,f⟩;exact aT (h r st' m f)
 case step =>
  rintro x c d2-hx ⟨m1,out,l,d,g,rfl,v,K,H,S⟩;refine aA (eX (df
   (I:=fun y c st'=>Sm st st'/\∃ out l d B u,c=(none,l+1,d+2,out,B,u)/\W rk a b out (l+1) (d+2)/\l+1<=a.size/\d+2<=b.size/\l+d+3+x+1+y<=a.size+b.size)
   (Q:=fun c st'=>Sm st st'/\((∃ r z,c=(some r,z)/\pW rk a b r)\/∃ out l d B u,c=(none,l+1,d+2,out,B,u)/\W rk a b out (l+1) (d+2)/\l+1<=a.size/\d+2<=b.size/\l+d+3+x+2<=a.size+b.size))
   ?istep ?ifin ⟨m1,out,l,d,0,0,rfl,v,K,H,by omega⟩) ?ipost)
  case ifin =>
   rintro c st' ⟨m,out,l,d,B,u,rfl,v,K,H,S⟩;exact ⟨m,.inr ⟨out,l,d,B,u,rfl,v,K,H,by omega⟩⟩
  case istep =>
   rintro y c st' - hy ⟨m,out,l,d,B,u,rfl,v,K,H,S⟩;dsimp only;obtain ⟨p,o⟩:=gj (a:=a) (i:=l) (by omega);obtain ⟨q,G⟩:=gj (a:=b) (i:=d+1) (by omega);refine aA (gf G (aA (gf o (aA (Qk hC (m.1.trans hk) (t.lb q (fm G)) (t.la p (fm o)) ?_)))));dsimp only;by_cases Y:rk q.1<rk p.1
   ·rw [if_pos (by simpa using Y)];refine aA (gf o ?_);have X:=v.pushA t o G Y;refine kU (m:=l) (n:=0) (fun e3=>aT ⟨m,.inl ⟨_,_,rfl,X.done e3⟩⟩) fun e3=>?_;obtain ⟨l,rfl⟩:∃ n,l=n+1:=⟨l-1,by omega⟩;exact eZ (fun _=>aT ⟨m,.inr ⟨_,l,d,_,_,rfl,X,by omega,by omega,by omega⟩⟩) fun _=>aT ⟨m,_,l,d,_,_,rfl,X,by omega,by omega,by omega⟩
   ·rw [if_neg (by simpa using Y)];have a0:rk p.1<rk q.1:=by have:=t.ne p (fm o) q (fm G);omega
    refine aA (gf G ?_);have X:=v.pushB t o G a0;refine kU (m:=d+1) (n:=1) (fun e3=>aT ⟨m,.inl ⟨_,_,rfl,X.last M e3 hl⟩⟩) fun e3=>?_;obtain ⟨d,rfl⟩:∃ n,d=n+1:=⟨d-1,by omega⟩;exact eZ (fun _=>aT ⟨m,.inr ⟨_,l,d,_,_,rfl,X,by omega,by omega,by omega⟩⟩) fun _=>aT ⟨m,_,l,d,_,_,rfl,X,by omega,by omega,by omega⟩
  case ipost =>
   rintro c a4 ⟨m2,⟨r,z,rfl,f⟩|⟨out,l,d,B,u,rfl,v,K,H,S⟩⟩
   ·exact aT ⟨m2,r,_,rfl,f⟩
   refine aA (uf (cW ⟨rfl,?_⟩));refine aA (eX (df
    (I:=fun y c st'=>Sm st st'/\∃ out l d g B u,c=(none,l+1,d+2,out,g,B,u)/\W rk a b out (l+1) (d+2)/\l+1<=a.size/\d+2<=b.size/\l+d+3+x+2<=a.size+b.size)
    (Q:=fun c st'=>Sm st st'/\((∃ r z,c=(some r,z)/\pW rk a b r)\/∃ out l d g B u,c=(none,l+1,d+2,out,g,B,u)/\W rk a b out (l+1) (d+2)/\l+1<=a.size/\d+2<=b.size/\l+d+3+x+2<=a.size+b.size))
    ?gstep ?gfin ⟨m2,out,l,d,_,B,u,rfl,v,K,H,by omega⟩) ?gpost)
   case gfin =>
    rintro c st' ⟨m,out,l,d,g,B,u,rfl,v,K,H,S⟩;exact ⟨m,.inr ⟨out,l,d,g,B,u,rfl,v,K,H,S⟩⟩
   case gpost =>
    rintro c a4 ⟨m2,⟨r,z,rfl,f⟩|⟨out,l,d,g,B,u,rfl,v,K,H,S⟩⟩
    ·exact aT ⟨m2,r,_,rfl,f⟩
    exact aA (Eb m2 fun st' O=>aT ⟨O,out,l,d,_,rfl,v,K,H,by omega⟩)
   case gstep =>
    rintro y c st' - hy ⟨m,out,l,d,g,B,u,rfl,v,K,H,S⟩;extract_lets s1 b8 s2 d3 s3 b7 s4 g' s5 c5 d5 b9 jp;have J:∀ g,wpS (av prog w) A E s (jp () g) (HP rk a b x st) st':=by
     intro g;obtain ⟨q,G⟩:=gj (a:=b) (i:=d+1) (by omega);have sa:=t.sa.run (b:=0) (n:=l+1) t.la (by omega);have b0:∀ i,i<l+1->dW rk a (0+i)≠rk q.1:=fun i hi=>by
      obtain ⟨p,o⟩:=gj (a:=a) (i:=0+i) (by omega);rw [bN o];exact t.ne p (fm o) q (fm G)
     refine aA (Eb m fun st' O=>?_);refine aA (gf (a:=b) (i:=d+1) G ?_);refine aA (pV (a:=a) (b:=0) (n:=l+1) (h:=l) hC (O.1.trans hk) sa (t.lb q (fm G)) b0 (by omega) fun k k1 k2 k3=>?_);have v1:=v.moreA t G k1 k3;dsimp (config:={ zeta:=false }) only;extract_lets kk nn a5;have J1:∀ out i,k=i+1->W rk a b out (i+1) (d+2)->wpS (av prog w) A E s (a5 () (i+1) out) (HP rk a b x st) st':=by
      intro out i ei v1;obtain ⟨p,o⟩:=gj (a:=a) (i:=i) (by omega);have a1:rk p.1<rk q.1:=by
       have:=k2 i (by omega)
       rwa [e8,bN o] at this
      refine aA (gf (a:=b) (i:=d+1) G ?_);have v2:=v1.pushB t o G a1;refine kU (m:=d+1) (n:=1) (fun e=>aT ⟨O,.inl ⟨_,_,rfl,v2.last M e hl⟩⟩) fun e=>?_;refine aA (gf (a:=a) (i:=i) o ?_);have sb:=t.sb.run (b:=0) (n:=d+1) t.lb (by omega);have b6:∀ i,i<d+1->dW rk b (0+i)≠rk p.1:=fun i hi=>by
       obtain ⟨q',N⟩:=gj (a:=b) (i:=0+i) (by omega);rw [bN N];exact fun e=>t.ne p (fm o) q' (fm N) e.symm
      refine aA (pV (a:=b) (b:=0) (n:=d+1) (h:=d) hC (O.1.trans hk) sb (t.la p (fm o)) b6 (by omega) fun T c1 c2 c3=>?_);have v3:=v2.moreB t o c1 c3;have c4:0<T:=by
       rcases gJ T with e|e
       ·have h4:=c3 0 (by omega) (by omega);rw [bN M] at h4;have h5:=hl p (fm o);omega
       ·exact e
      dsimp (config:={ zeta:=false }) only;extract_lets c0 d6 d0 a3;have J2:∀ out j,T=j+2->W rk a b out (i+1) (j+2)->wpS (av prog w) A E s (a3 () (j+2) out) (HP rk a b x st) st':=by
       intro out j ej v3;obtain ⟨q',N⟩:=gj (a:=b) (i:=j+1) (by omega);have a2:rk q'.1<rk p.1:=by
        have:=c2 (j+1) (by omega)
        rwa [e8,bN N] at this
       have v4:=v3.pushA t o N a2;refine aA (gf (a:=a) (i:=i) o ?_);refine kU (m:=i) (n:=0) (fun e=>aT ⟨O,.inl ⟨_,_,rfl,v4.done e⟩⟩) fun e=>?_;obtain ⟨i,rfl⟩:∃ n,i=n+1:=⟨i-1,by omega⟩;exact eZ (fun _=>aT ⟨O,.inr ⟨_,i,j,_,_,_,rfl,v4,by omega,by omega,by omega⟩⟩) fun _=>aT ⟨O,_,i,j,_,_,_,rfl,v4,by omega,by omega,by omega⟩
      refine eZ (fun _=>?_) fun hz=>?_
      ·refine kU (m:=T) (n:=1) (fun e=>aT ⟨O,.inl ⟨_,_,rfl,v3.last M e hl⟩⟩) fun e=>?_;refine kU (m:=T) (n:=0) (fun e=>by omega) fun e=>?_;obtain ⟨j,rfl⟩:∃ j,T=j+2:=⟨T - 2,by omega⟩;exact J2 _ j rfl v3
      ·have a6:¬ d+1-T > 0:=hz;obtain ⟨j,rfl⟩:∃ j,d=j+1:=⟨d-1,by omega⟩;exact J2 _ j (by omega) v2
     refine eZ (fun _=>?_) fun hz=>?_
     ·refine kU (m:=k) (n:=0) (fun e=>aT ⟨O,.inl ⟨_,_,rfl,v1.done e⟩⟩) fun e=>?_;obtain ⟨j,rfl⟩:∃ j,k=j+1:=⟨k-1,by omega⟩;exact J1 _ j rfl v1
     ·have a6:¬ l+1-k > 0:=hz;exact J1 _ l (by omega) v
    exact eX (eZ (fun _=>J _) fun _=>J _) fun r _ hh=>by cases r<;>exact hh
end
def WD:Nat->Nat->StateT eQ Sem (Option Nat):=sortPriv% PySem.Builtin.countRun
def q0d:Nat->Nat->Nat->StateT eQ Sem Bool:=sortPriv% PySem.Builtin.binarySort
structure Bs (kd:nX) (L:List cJ) (st:eQ):Prop where
 kind:kindOf st=kd
 perm:(aR st).toList.Perm L
 ok:xc st=none
def Up (rk:ac->Nat) (a:Array cJ) (lo n:Nat):Prop:=∀ i j,lo<=i->i<j->j<lo+n->dW rk a i<dW rk a j
def Dn (rk:ac->Nat) (a:Array cJ) (lo n:Nat):Prop:=∀ i j,lo<=i->i<j->j<lo+n->dW rk a j<dW rk a i
section
variable {prog:bu}{w:bQ}{A:cf}{E:ac->ao->Prop}{s:ao}{kd:nX}{rk:ac->Nat}{L:List cJ}{st:eQ}{a:Array cJ}
theorem Bs.size (B:Bs kd L st):(aR st).size=L.length:=by rw [<- B.perm.length_eq];simp
theorem Bs.get (B:Bs kd L st) (c:i<L.length):∃ p,(aR st)[i]?=some p/\p∈L:=by
 obtain ⟨p,b⟩:=gj (a:=aR st) (i:=i) (by rw [B.size];exact c);exact ⟨p,b,B.perm.mem_iff.1 (fm b)⟩
theorem Bs.ne (B:Bs kd L st) (l:(L.map fun p=>rk p.1).Nodup) (m:i<L.length) (k:j<L.length) (h:i≠j):dW rk (aR st) i≠dW rk (aR st) j:=by
 have c:=(B.perm.map fun p=>rk p.1).nodup_iff.2 l;obtain ⟨p,f,_⟩:=B.get m;obtain ⟨q,g,_⟩:=B.get k;rw [bN f,bN g];intro e;have b:((aR st).toList.map fun p=>rk p.1)[i]?=some (rk p.1):=by rw [aF,aL,f];rfl
 have d:((aR st).toList.map fun p=>rk p.1)[j]?=some (rk p.1):=by rw [aF,aL,g,e];rfl
 obtain ⟨o,b⟩:=pI.1 b;obtain ⟨n,d⟩:=pI.1 d;exact h ((Rm c).1 (b.trans d.symm))
theorem Bs.put (B:Bs kd L st) (h:xs.Perm (aR st)):Bs kd L (setArr st xs):=⟨B.kind,(Array.perm_iff_toList_perm.1 h).trans B.perm,B.ok⟩
theorem xv (d:Cp prog w A s kd rk L) (B:Bs kd L st) (k:i<L.length) (e:j<L.length)
  (h:Q (some (decide (dW rk (aR st) i<dW rk (aR st) j))) st):wpS (av prog w) A E s (ltAt' i j) Q st:=by
 obtain ⟨p,b,f⟩:=B.get k;obtain ⟨q,c,g⟩:=B.get e;rw [bN b,bN c] at h;rw [ltAt'_eq];exact aA (nQ (aA (gf b (aA (gf c (Qk d B.kind f g h))))))
theorem k9 (h:a[i]?=b[j]?):dW rk a i=dW rk b j:=by unfold dW;rw [h]
theorem yd (b:j<=a.size) (k:Nat):dW rk (Io a i j ((j-i) / 2)) k=if i<=k/\k<j then dW rk a (i+j-1-k) else dW rk a k:=by
 have e:=getElem?_mirror_all (i:=i) b k;by_cases h:i<=k/\k<j
 ·rw [if_pos h] at e ⊢;exact k9 e
 ·rw [if_neg h] at e ⊢;exact k9 e
theorem ye (hs:src<a.size) (c:d<=src) (k:Nat) :
  dW rk (bubble a src d) k=if k=src-d then dW rk a src else if src-d<k/\k<=src then dW rk a (k-1) else dW rk a k:=by
 have e:=getElem?_bubble hs d c k;by_cases h:k=src-d
 ·rw [if_pos h] at e ⊢;exact k9 e
 ·rw [if_neg h] at e ⊢;by_cases b:src-d<k/\k<=src
  ·rw [if_pos b] at e ⊢;exact k9 e
  ·rw [if_neg b] at e ⊢;exact k9 e
theorem Up.more {lo n:Nat} (u:Up rk a lo n) (h:1<=n->dW rk a (lo+n-1)<dW rk a (lo+n)):Up rk a lo (n+1):=by
 intro i j b c d;rcases cZ j (lo+n) with h4|h4
 ·exact u i j b c h4
 ·obtain rfl:j=lo+n:=by omega
  rcases cZ i (lo+n-1) with h5|h5
  ·exact e7 (u i (lo+n-1) b h5 (by omega)) (h (by omega))
  ·rw [show i=lo+n-1 by omega];exact h (by omega)
theorem Dn.more {lo n:Nat} (u:Dn rk a lo n) (h:1<=n->dW rk a (lo+n)<dW rk a (lo+n-1)):Dn rk a lo (n+1):=by
 intro i j b c d;rcases cZ j (lo+n) with h4|h4
 ·exact u i j b c h4
 ·obtain rfl:j=lo+n:=by omega
  rcases cZ i (lo+n-1) with h5|h5
  ·exact e7 (h (by omega)) (u i (lo+n-1) b h5 (by omega))
  ·rw [show i=lo+n-1 by omega];exact h (by omega)
def Kp (lo:Nat) (a b:Array cJ):Prop:=∀ i,i<lo->b[i]?=a[i]?
theorem KU {lo r:Nat}{Q:Option Nat->eQ->Prop} (y:Cp prog w A s kd rk L) (O:(L.map fun p=>rk p.1).Nodup) (B:Bs kd L st) (o:1<=r) (X:lo+r<=L.length)
  (h:∀ n b,Bs kd L b->bV b=bV st->Kp lo (aR st) (aR b)->1<=n->n<=r->Up rk (aR b) lo n->Q (some n) b) :
  wpS (av prog w) A E s (WD lo r) Q st:=by
 refine aA (eX (df (I:=fun x c b=>b=st/\c=(none,x)/\Up rk (aR st) lo x)
  (Q:=fun c b=>b=st/\∃ n,c=(none,n)/\1<=n/\n<=r/\Up rk (aR st) lo n/\(n=r\/dW rk (aR st) (lo+n)<dW rk (aR st) (lo+n-1))) ?_ ?_ ⟨rfl,rfl,fun i j o T S=>by omega⟩) ?_)
 ·rintro x c b l z ⟨rfl,rfl,u⟩;refine aA (xv (i:=lo+x) (j:=lo+x-1) y B (by omega) (by omega) ?_);by_cases k:dW rk (aR b) (lo+x)<dW rk (aR b) (lo+x-1)
  ·exact eZ (fun _=>aT ⟨rfl,x,rfl,l,by omega,u,.inr k⟩) fun h=>absurd (by simpa using k) h
  ·refine eZ (fun h=>absurd (by simpa using h) k) fun _=>aT ⟨rfl,rfl,u.more fun _=>?_⟩;have:=B.ne O (i:=lo+x) (j:=lo+x-1) (by omega) (by omega) (by omega);omega
 ·rintro c b ⟨rfl,rfl,u⟩;rw [show max 1 r=r by omega] at u ⊢;exact ⟨rfl,r,rfl,o,ap _,u,.inl rfl⟩
 rintro c b ⟨rfl,n,rfl,t,v,u,e⟩;refine kU (m:=n) (n:=r) (fun e=>aT (h n b B rfl (fun _ _=>rfl) t v u)) fun ne=>?_;have e:=e.resolve_left ne;extract_lets U;refine eZ (fun H=>?_) fun H=>?_
 ·refine aA (xv (i:=lo) (j:=lo+n-1) y B (by omega) (by omega) ?_);have k:dW rk (aR b) lo<dW rk (aR b) (lo+n-1):=u lo (lo+n-1) (ap _) (by have:n > 1:=H;omega) (by have:n > 1:=H;omega);exact eZ (fun _=>aT (h n b B rfl (fun _ _=>rfl) t v u)) fun h=>absurd (by simpa using k) h
 obtain rfl:n=1:=by have:¬ n > 1:=H;omega
 refine aA (uf (cW ⟨rfl,?_⟩));refine aA (eX (df (I:=fun x c g=>g=b/\c=(none,x,0)/\Dn rk (aR b) lo x)
  (Q:=fun c g=>g=b/\∃ n,c=(none,n,0)/\1<=n/\n<=r/\Dn rk (aR b) lo n) ?_ ?_ ⟨rfl,rfl,Dn.more (n:=1) (fun i j o T S=>by omega) fun _=>e⟩) ?_)
 ·rintro x c g l z ⟨rfl,rfl,u⟩;refine aA (xv (i:=lo+x) (j:=lo+x-1) y B (by omega) (by omega) ?_);by_cases k:dW rk (aR g) (lo+x)<dW rk (aR g) (lo+x-1)
  ·refine eZ (fun _=>?_) fun h=>absurd (by simpa using k) h;exact eZ (fun h=>absurd h (bY 0)) fun _=>aT ⟨rfl,rfl,u.more fun _=>k⟩
  ·refine eZ (fun h=>absurd (by simpa using h) k) fun _=>?_;refine aA (xv (i:=lo+x-1) (j:=lo+x) y B (by omega) (by omega) ?_);have:=B.ne O (i:=lo+x) (j:=lo+x-1) (by omega) (by omega) (by omega);have N:dW rk (aR g) (lo+x-1)<dW rk (aR g) (lo+x):=by omega
   exact eZ (fun _=>aT ⟨rfl,x,rfl,by omega,by omega,u⟩) fun h=>absurd (by simpa using N) h
 ·rintro c g ⟨rfl,rfl,u⟩;rw [show max (1+1) r=r by omega] at u ⊢;exact ⟨rfl,r,rfl,o,ap _,u⟩
 rintro c g ⟨rfl,n,rfl,t,v,d⟩;refine eZ (fun h=>absurd h (bY 0)) fun _=>?_;refine aA (qm (f:=fun s=>setArr s (Io (aR s) lo (lo+n) ((lo+n-lo) / 2))) ?_);have hsz:lo+n<=(aR g).size:=by rw [B.size];omega
 have G:Bs kd L (setArr g (Io (aR g) lo (lo+n) ((lo+n-lo) / 2))):=B.put (mirror_perm _ _ _ _);have kp:Kp lo (aR g) (Io (aR g) lo (lo+n) ((lo+n-lo) / 2)):=fun i Y=>by
  rw [getElem?_mirror_all hsz,if_neg (by omega)]
 have P:Up rk (Io (aR g) lo (lo+n) ((lo+n-lo) / 2)) lo n:=by
  intro i j o T S;rw [yd hsz,yd hsz,if_pos (by omega),if_pos (by omega)];exact d _ _ (by omega) (by omega) (by omega)
 generalize q:setArr g (Io (aR g) lo (lo+n) ((lo+n-lo) / 2))=st3 at G;have M:aR st3=Io (aR g) lo (lo+n) ((lo+n-lo) / 2):=by rw [<- q]
 have K:bV st3=bV g:=by rw [<- q]
 rw [<- M] at kp P;refine aA (eX (df (I:=fun x c b=>b=st3/\c=(none,x)/\Up rk (aR st3) lo x)
  (Q:=fun c b=>b=st3/\∃ n,c=(none,n)/\1<=n/\n<=r/\Up rk (aR st3) lo n) ?_ ?_ ⟨rfl,rfl,P⟩) ?_)
 ·rintro x c b l z ⟨rfl,rfl,u⟩;have l:n<=x:=l;refine aA (xv (i:=lo+x) (j:=lo+x-1) y G (by omega) (by omega) ?_);by_cases k:dW rk (aR b) (lo+x)<dW rk (aR b) (lo+x-1)
  ·exact eZ (fun _=>aT ⟨rfl,x,rfl,by omega,by omega,u⟩) fun h=>absurd (by simpa using k) h
  ·refine eZ (fun h=>absurd (by simpa using h) k) fun _=>aT ⟨rfl,rfl,u.more fun _=>?_⟩;have:=G.ne O (i:=lo+x) (j:=lo+x-1) (by omega) (by omega) (by omega);omega
 ·rintro c b ⟨rfl,rfl,u⟩;rw [show max n r=r by omega] at u ⊢;exact ⟨rfl,r,rfl,o,ap _,u⟩
 rintro c b ⟨rfl,n,rfl,t,v,u⟩;exact aT (h n b G K kp t v u)
theorem Ve {lo n k0:Nat}{Q:Bool->eQ->Prop} (T:Cp prog w A s kd rk L) (S:(L.map fun p=>rk p.1).Nodup) (B:Bs kd L st) (X:lo+n<=L.length) (Y:1<=k0) (O:k0<=n) (u:Up rk (aR st) lo k0)
  (h:∀ b,Bs kd L b->bV b=bV st->Kp lo (aR st) (aR b)->Up rk (aR b) lo n->Q true b) :
  wpS (av prog w) A E s (q0d lo n k0) Q st:=by
 refine aA (eX (df (I:=fun k c b=>c=(none,())/\Bs kd L b/\bV b=bV st/\Kp lo (aR st) (aR b)/\Up rk (aR b) lo k)
  (Q:=fun c b=>c=(none,())/\Bs kd L b/\bV b=bV st/\Kp lo (aR st) (aR b)/\Up rk (aR b) lo n) ?step ?fin ⟨rfl,B,rfl,fun _ _=>rfl,by rw [show max k0 1=k0 by omega];exact u⟩) ?post)
 case post =>
  rintro c b ⟨rfl,g,q,kp,u⟩;exact aT (h b g q kp u)
 case fin =>
  rintro c b ⟨rfl,g,q,kp,u⟩;rw [show max (max k0 1) n=n by omega] at u;exact ⟨rfl,g,q,kp,u⟩
 case step =>
  rintro k c d U P ⟨rfl,g,q,kp,u⟩;refine aA (eX (df (I:=fun x c e=>e=d/\∃ l r,c=(none,l,r)/\l<=r/\r<=k/\r-l<=k-x /\
    (∀ i,i<l->dW rk (aR d) (lo+i)<dW rk (aR d) (lo+k))/\(∀ i,r<=i->i<k->dW rk (aR d) (lo+k)<dW rk (aR d) (lo+i)))
   (Q:=fun c e=>e=d/\∃ l r,c=(none,l,r)/\l<=k /\
    (∀ i,i<l->dW rk (aR d) (lo+i)<dW rk (aR d) (lo+k))/\(∀ i,l<=i->i<k->dW rk (aR d) (lo+k)<dW rk (aR d) (lo+i))) ?_ ?_ ⟨rfl,0,k,rfl,by omega,by omega,by omega,fun i H=>by omega,fun i G K=>by omega⟩) ?_)
  ·rintro x c b - hx ⟨rfl,l,r,rfl,N,z,M,o,m⟩;refine eZ (fun v=>?_) fun v=>?_
   ·have v:l ≥ r:=v;obtain rfl:l=r:=by omega
    exact aT ⟨rfl,l,l,rfl,z,o,m⟩
   have v:¬ l ≥ r:=v;refine aA (xv (i:=lo+k) (j:=lo+(l+r) / 2) T g (by omega) (by omega) ?_);by_cases y:dW rk (aR b) (lo+k)<dW rk (aR b) (lo+(l+r) / 2)
   ·refine eZ (fun _=>aT ⟨rfl,l,(l+r) / 2,rfl,by omega,by omega,by omega,o,fun i G K=>?_⟩) fun h=>absurd (by simpa using y) h;rcases cZ ((l+r) / 2) i with h3|h3
    ·exact e7 y (u _ _ (by omega) (by omega) (by omega))
    ·rw [show i=(l+r) / 2 by omega];exact y
   ·refine eZ (fun h=>absurd (by simpa using h) y) fun _=>aT ⟨rfl,(l+r) / 2+1,r,rfl,by omega,by omega,by omega,fun i G=>?_,m⟩;have ne:=g.ne S (i:=lo+k) (j:=lo+(l+r) / 2) (by omega) (by omega) (by omega);have t:dW rk (aR b) (lo+(l+r) / 2)<dW rk (aR b) (lo+k):=by omega
    rcases cZ i ((l+r) / 2) with h3|h3
    ·exact e7 (u _ _ (by omega) (by omega) (by omega)) t
    ·rw [show i=(l+r) / 2 by omega];exact t
  ·rintro c b ⟨rfl,l,r,rfl,N,z,M,o,m⟩;obtain rfl:l=r:=by omega
   exact ⟨rfl,l,l,rfl,z,o,m⟩
  ·rintro c b ⟨rfl,l,r,rfl,z,o,m⟩;refine aA (qm (f:=fun s=>setArr s (bubble (aR s) (lo+k) (lo+k-(lo+l)))) (aT ⟨rfl,g.put (bubble_perm _ _ _),q,?_,?_⟩))
   ·intro i H;rw [<- kp i H];show (bubble (aR b) (lo+k) (lo+k-(lo+l)))[i]?=_;rw [getElem?_bubble (by rw [g.size];omega) _ (by omega),if_neg (by omega),if_neg (by omega)]
   ·intro i j G K h3;show dW rk (bubble (aR b) (lo+k) (lo+k-(lo+l))) i<dW rk (bubble (aR b) (lo+k) (lo+k-(lo+l))) j;have hs:lo+k<(aR b).size:=by rw [g.size];omega
    rw [ye hs (by omega),ye hs (by omega),show lo+k-(lo+k-(lo+l))=lo+l by omega]
    repeat' split
    all_goals first
     |(exfalso;omega)
     |exact u _ _ (by omega) (by omega) (by omega)
     |(have:=m (j-1-lo) (by omega) (by omega);rwa [show lo+(j-1-lo)=j-1 by omega] at this)
     |(have:=o (i-lo) (by omega);rwa [show lo+(i-lo)=i by omega] at this)
end
def WE:Nat->StateT eQ Sem Bool:=sortPriv% PySem.Builtin.mergeAt
section
variable {prog:bu}{w:bQ}{A:cf}{E:ac->ao->Prop}{s:ao}{kd:nX}{rk:ac->Nat}{L:List cJ}{st:eQ}{a:Array cJ}
theorem KW (c:Nat):∀ (l:List cJ) (i:Nat) (a:Array cJ),c+i+l.length<=a.size ->
  ((l.zipIdx i).foldl (fun a x=>match x with|(p,j)=>a.setIfInBounds (c+j) p) a).toList=a.toList.take (c+i)++l++a.toList.drop (c+i+l.length)
 |[],i,a,_=>by simp
 |p::l,i,a,h=>by
  have b:(p::l).length=l.length+1:=rfl;rw [yO,db,KW c l (i+1) _ (by rw [Dg];omega)];dsimp only;rw [Bc,show c+(i+1)=c+i+1 by omega,b,show c+i+(l.length+1)=c+i+1+l.length by omega];rw [List.drop_set_of_lt (by omega)];have e:List.take (c+i+1) (a.toList.set (c+i) p)=a.toList.take (c+i)++[p]:=by
   rw [NQ,List.take_set_of_le (ap _),aJ (by simp;omega)];rfl
  rw [e];simp
theorem YM (h:Q ⟨⟩ b):wpS (av prog w) A E s (set b:StateT eQ Sem PUnit) Q st:=by
 unfold wpS;exact a9 ⟨rfl,h⟩
theorem J6 (h:(a.extract i j)[k]?=some p):i+k<j/\a[i+k]?=some p:=by
 rw [iG] at h;split at h
 ·exact ⟨by omega,h⟩
 ·cases h
theorem Up.srt {i j lo n:Nat} (u:Up rk a lo n) (h:lo<=i) (k:j<=lo+n):Tp rk (a.extract i j):=by
 intro x y p q d e f;obtain ⟨l,b⟩:=J6 e;obtain ⟨g,c⟩:=J6 f;rw [<- bN (rk:=rk) b,<- bN (rk:=rk) c];exact u _ _ (by omega) (by omega) (by omega)
theorem kW (h:p∈(a.extract i j).toList):∃ k,i<=k/\k<j/\a[k]?=some p:=by
 obtain ⟨k,b⟩:=lY.1 h;rw [aL] at b;obtain ⟨c,d⟩:=J6 b;exact ⟨i+k,by omega,c,d⟩
theorem Bs.ne' (B:Bs kd L st) (e:(L.map fun p=>rk p.1).Nodup) {i j:Nat}{p q:cJ} (c:(aR st)[i]?=some p) (b:(aR st)[j]?=some q) (h:i≠j):rk p.1≠rk q.1:=by
 have f:i<L.length:=by rw [<- B.size];exact (gy.1 c).1
 have d:j<L.length:=by rw [<- B.size];exact (gy.1 b).1
 have:=B.ne e f d h
 rwa [bN c,bN b] at this
theorem Qo (x y z:Nat×Nat×Nat):((#[x,y].setIfInBounds 0 z).eraseIdxIfInBounds (0+1)).size=1:=by
 simp [Array.eraseIdxIfInBounds]
theorem YN (h:a.toList.Pairwise (WC rk)):Up rk a 0 a.size:=by
 intro i j _ d e;obtain ⟨p,b⟩:=gj (a:=a) (i:=i) (by omega);obtain ⟨q,c⟩:=gj (a:=a) (i:=j) (by omega);rw [bN b,bN c];rw [pJ] at h;have:=h i j (by simp;omega) (by simp;omega) d;obtain ⟨_,rfl⟩:=gy.1 b;obtain ⟨_,rfl⟩:=gy.1 c;exact this
theorem MF {n m pw:Nat}{Q:Bool->eQ->Prop} (hC:Cp prog w A s kd rk L) (hn:(L.map fun p=>rk p.1).Nodup) (B:Bs kd L st)
  (pe:bV st=#[(0,n,pw),(n,m,0)]) (h1:0<n) (h2:0<m) (hr:n+m=L.length) (S:Up rk (aR st) 0 n) (I:Up rk (aR st) n m)
  (h:∀ c,Bs kd L c->(bV c).size=1->Up rk (aR c) 0 L.length->Q true c):wpS (av prog w) A E s (WE 0) Q st:=by
 have sz:=B.size;obtain ⟨T,d,a2⟩:=B.get (i:=n) (by omega);have mem:∀ {i p},(aR st)[i]?=some p->p∈L:=fun e=>B.perm.mem_iff.1 (fm e);refine aA (nQ ?_);rw [show (sortPriv% PySem.Builtin.SortState.pending) st=#[(0,n,pw),(n,m,0)] from pe];refine aA (YM ?_);refine aA (gf d ?_);have r1:YK rk L (aR st) 0 n (fun i=>dW rk (aR st) (0+i)):=⟨fun i hi=>by
  obtain ⟨p,o,lp⟩:=B.get (i:=0+i) (by omega);exact ⟨p,o,lp,(bN o).symm⟩,fun i j G hj=>S _ _ (by omega) (by omega) (by omega)⟩
 have r2:YK rk L (aR st) n m (fun i=>dW rk (aR st) (n+i)):=⟨fun i hi=>by
  obtain ⟨p,o,lp⟩:=B.get (i:=n+i) (by omega);exact ⟨p,o,lp,(bN o).symm⟩,fun i j G hj=>I _ _ (by omega) (by omega) (by omega)⟩
 refine aA (pV (a:=aR st) (b:=0) (n:=n) (h:=0) hC B.kind r1 a2 (fun i hi=>?_) h1 fun k k1 k2 k3=>?_)
 ·have:=B.ne hn (i:=0+i) (j:=n) (by omega) (by omega) (by omega)
  rwa [bN d] at this
 refine kU (m:=n-k) (n:=0) (fun e=>aT (h _ ⟨B.kind,B.perm,B.ok⟩ (Qo ..) ?_)) fun e=>?_
 ·intro i j _ G hj;rcases cZ j n with c1|c1
  ·exact S i j (by omega) G (by omega)
  ·rcases cZ i n with c2|c2
   ·have K:=k2 i (by omega);rw [e8] at K;show dW rk (aR st) i<dW rk (aR st) j;rcases cZ n j with Y|Y
    ·have c5:=I n j (by omega) Y (by omega);rw [bN d] at c5;omega
    ·rw [show j=n by omega,bN d];exact K
   ·exact I i j (by omega) G (by omega)
 obtain ⟨p0,u,a0⟩:=B.get (i:=n-1) (by omega);refine aA (gf (i:=0+k+(n-k)-1) (by rw [show 0+k+(n-k)-1=n-1 by omega];exact u) ?_);refine aA (pV (a:=aR st) (b:=n) (n:=m) (h:=m-1) hC B.kind r2 a0 (fun i hi=>?_) (by omega) fun g c1 c2 K=>?_)
 ·have:=B.ne hn (i:=n+i) (j:=n-1) (by omega) (by omega) (by omega)
  rwa [bN u] at this
 have c0:0<g:=by
  rcases gJ g with e0|e0
  ·have Y:=K 0 (by omega) (by omega);have c5:=k3 (n-1) (by omega) (by omega);rw [e8,bN u] at c5;rw [nW,bN d] at Y;omega
  ·exact e0
 refine kU (m:=g) (n:=0) (fun e=>by omega) fun _=>?_;have t:Qm rk L ((aR st).extract (0+k) n) ((aR st).extract n (n+g)):=by
  refine ⟨S.srt (by omega) (by omega),I.srt (by omega) (by omega),fun p o=>?_,fun p o=>?_,fun p o q hq=>?_⟩
  ·obtain ⟨_,_,_,e⟩:=kW o;exact mem e
  ·obtain ⟨_,_,_,e⟩:=kW o;exact mem e
  ·obtain ⟨_,_,_,e1⟩:=kW o;obtain ⟨_,_,_,U⟩:=kW hq;exact B.ne' hn e1 U (by omega)
 have za:((aR st).extract (0+k) n).size=n-k:=by rw [LM];omega
 have zb:((aR st).extract n (n+g)).size=g:=by rw [LM];omega
 obtain ⟨pk,M,_⟩:=B.get (i:=0+k) (by omega);obtain ⟨ql,a1,_⟩:=B.get (i:=n+(g - 1)) (by omega);have e1:((aR st).extract (0+k) n)[0]?=some pk:=by rw [iG,if_pos (by omega)];exact M
 have U:((aR st).extract n (n+g))[0]?=some T:=by rw [iG,if_pos (by omega)];exact d
 have e3:((aR st).extract (0+k) n)[((aR st).extract (0+k) n).size-1]?=some p0:=by
  rw [za,iG,if_pos (by omega),show 0+k+(n-k-1)=n-1 by omega];exact u
 have e4:((aR st).extract n (n+g))[((aR st).extract n (n+g)).size-1]?=some ql:=by
  rw [zb,iG,if_pos (by omega)];exact a1
 have g1:rk T.1<rk pk.1:=by
  have:=k3 k (ap _) (by omega)
  rwa [bN M] at this
 have g2:∀ y∈((aR st).extract n (n+g)).toList,rk y.1<rk p0.1:=fun y z=>by
  obtain ⟨j,j1,j2,e⟩:=kW z;have:=c2 (j-n) (by omega)
  rwa [show n+(j-n)=j by omega,bN e] at this
 have g3:∀ y∈((aR st).extract (0+k) n).toList,rk T.1<rk y.1:=fun y z=>by
  obtain ⟨j,j1,j2,e⟩:=kW z;have:=k3 j (by omega) (by omega)
  rwa [e8,bN e] at this
 extract_lets x y jp;have J:∀ r c,kindOf c=kd->aR c=aR st->xc c=none->(bV c).size=1->pW rk ((aR st).extract (0+k) n) ((aR st).extract n (n+g)) r->wpS (av prog w) A E s (jp r) Q c:=by
  rintro r c z1 z2 z3 z4 ⟨X,f2⟩;have rl:r.toList.length=n-k+g:=by rw [X.length_eq,aO,au,au,za,zb]
  have pa:=KW (0+k) r.toList 0 (aR c) (by rw [z2,rl];omega);refine aA (qm (aA (nQ (aT ?_))));have e5:(xc c).isNone=true:=by rw [z3];rfl
  show Q ((xc c).isNone) _;rw [e5];generalize hb:List.foldl (fun a x=>match x with|(p,j)=>a.setIfInBounds (0+k+j) p) (aR c) r.toList.zipIdx=nw at pa;have hT:(aR c).toList.take (0+k+0)=((aR st).extract 0 k).toList:=by rw [z2,pX,nW,e8]
  have hD:(aR c).toList.drop (0+k+0+r.toList.length)=((aR st).extract (n+g) (aR st).size).toList:=by
   rw [z2,tM,rl];congr 1;omega
  rw [hT,hD] at pa;have P:nw.toList.Perm L:=by
   refine qh ?_ B.perm;rw [pa];refine ((X.append_left _).append_right _).trans (JV ?_);rw [pX,tM,hG,hG,eN,eN];conv=>rhs;rw [<- gK k (aR st).toList,<- gK (n-k) ((aR st).toList.drop k),B_,<- gK g ((aR st).toList.drop (k+(n-k))),B_]
   rw [show k+(n-k)=n by omega,List.drop_take,List.drop_take,show n+g - n=g by omega,e8];simp [dR]
  have N:∀ x∈((aR st).extract 0 k).toList,rk x.1<rk T.1:=fun x v=>by
   obtain ⟨i,_,i2,e⟩:=kW v;have:=k2 i i2
   rwa [e8,bN e] at this
  have H:∀ {j y},n<=j->(aR st)[j]?=some y->rk T.1<=rk y.1:=fun {j y} hj e=>by
   have lj:j<(aR st).size:=(gy.1 e).1;rcases cZ n j with h|h
   ·have:=I n j (ap _) h (by omega);rw [bN d,bN e] at this;omega
   ·rw [show j=n by omega,d] at e;cases e;exact ap _
  refine h _ ⟨z1,P,z3⟩ z4 ?_;have up:=YN (a:=nw) (rk:=rk) ?_
  ·have:nw.size=L.length:=by rw [<- P.length_eq];simp
   rwa [this] at up
  rw [pa];refine i0.2 ⟨i0.2 ⟨(S.srt (by omega) (by omega)).pw,f2,fun x v y z=>?_⟩,(I.srt (by omega) (by omega)).pw,fun x v y z=>?_⟩
  ·have l:=N x v;rcases eT.1 (X.mem_iff.1 z) with z|z
   ·exact e7 l (g3 y z)
   ·obtain ⟨j,j1,_,e⟩:=kW z;exact aC l (H j1 e)
  ·obtain ⟨j,j1,j2,e⟩:=kW z;rcases eT.1 v with v|v
   ·exact aC (N x v) (H (by omega) e)
   ·rcases eT.1 (X.mem_iff.1 v) with v|v
    ·obtain ⟨i,i1,i2,O⟩:=kW v;have l:=K (j-n) (by omega) (by omega);rw [show n+(j-n)=j by omega,bN e] at l;rcases cZ i (n-1) with h|h
     ·have:=S i (n-1) (by omega) h (by omega);rw [bN u,bN O] at this;exact e7 this l
     ·rw [show i=n-1 by omega,u] at O;cases O;exact l
    ·obtain ⟨i,i1,i2,O⟩:=kW v;have:=I i j (by omega) (by omega) (by omega)
     rwa [bN e,bN O] at this
 refine eZ (fun _=>aA (MD hC B.kind t e1 U g1 (fun p o=>?_) fun r c m f=>?_)) fun _=>aA (ME hC B.kind t e3 e4 (g2 ql (fm e4)) U g3 fun r c m f=>?_)
 ·rw [e3] at o;cases o;exact g2
 ·exact J r c (m.1.trans B.kind) m.2.1 (m.2.2.2.trans B.ok) (by rw [m.2.2.1];exact Qo ..) f
 ·exact J r c (m.1.trans B.kind) m.2.1 (m.2.2.2.trans B.ok) (by rw [m.2.2.1];exact Qo ..) f
end
section
variable {prog:bu}{w:bQ}{A:cf}{E:ac->ao->Prop}{s:ao}{kd:nX}{rk:ac->Nat}{L:List cJ}{st:eQ}{a:Array cJ}
theorem MG (d:2<=N) (b:N<=64):1<=HD N N 0/\HD N N 0<=N/\N<=2*HD N N 0:=by
 obtain ⟨f,c⟩:∃ f,N=f+1:=⟨N-1,by omega⟩;by_cases h:N<64
 ·have:HD (f+1) N 0=N:=by rw [minRun'_succ,if_pos h];rfl
  rw [<- c] at this;rw [this];omega
 ·obtain rfl:N=64:=by omega
  have:HD 64 64 0=32:=by rfl
  rw [this];omega
theorem WF (U:Cp prog w A s kd rk L) (S:(L.map fun p=>rk p.1).Nodup) (B:Bs kd L st) (pe:bV st=#[]) (h2:2<=L.length) (a2:L.length<=64)
  (h:∀ st',Bs kd L st'->Up rk (aR st') 0 L.length->Q () st'):wpS (av prog w) A E s sortRuns' Q st:=by
 obtain ⟨m1,m2,m3⟩:=MG h2 a2;refine aA (nQ ?_);extract_lets size g lo;have hsz:size=L.length:=B.size;have a1:g=HD L.length L.length 0:=by rw [<- hsz];rfl
 rw [<- a1] at m1 m2 m3
 clear_value size g;subst hsz;refine aA (eX (df
  (I:=fun x c st'=>Bs kd L st'/\((x=0/\c=(none,0)/\bV st'=#[])\/(x=1/\∃ n,c=(none,n)/\bV st'=#[(0,n,0)]/\g<=n/\n<=L.length/\Up rk (aR st') 0 n) \/
   (∃ n m pw,c=(none,L.length)/\bV st'=#[(0,n,pw),(n,m,0)]/\0<n/\0<m/\n+m=L.length/\Up rk (aR st') 0 n/\Up rk (aR st') n m)))
  (Q:=fun c st'=>Bs kd L st'/\((∃ n,c=(none,n)/\(bV st').size=1/\Up rk (aR st') 0 L.length) \/
   (∃ n m pw,c=(none,L.length)/\bV st'=#[(0,n,pw),(n,m,0)]/\0<n/\0<m/\n+m=L.length/\Up rk (aR st') 0 n/\Up rk (aR st') n m))) ?step ?fin ⟨B,.inl ⟨rfl,rfl,pe⟩⟩) ?post)
 case fin =>
  rintro c st' ⟨f,⟨e,_⟩|⟨e,_⟩|c3⟩
  ·omega
  ·omega
  ·exact ⟨f,.inr c3⟩
 case step =>
  rintro x c X-hx ⟨M,⟨rfl,rfl,k⟩|⟨rfl,n,rfl,k,K,P,u⟩|⟨n,m,pw,rfl,k,K,P,n3,T,q⟩⟩
  ·refine eZ (fun l=>?_) fun _=>?_
   ·have l:0 ≥ L.length:=l;omega
   refine aA (KU (lo:=0) (r:=L.length-0) U S M (by omega) (by omega) fun n t H z k2 K P q=>?_);dsimp (config:={ zeta:=false }) only;extract_lets nn jp;have J:∀ n st',Bs kd L st'->bV st'=#[]->g<=n->n<=L.length->Up rk (aR st') 0 n->wpS (av prog w) A E s (jp () n) (fun r st'=>∃ c,r=.yield c/\Bs kd L st'/\∃ n,c=(none,n)/\bV st'=#[(0,n,0)]/\g<=n/\n<=L.length/\Up rk (aR st') 0 n) st':=by
    intro n st' f y N O u;refine aA (nQ ?_);extract_lets a0;rw [show (sortPriv% PySem.Builtin.SortState.pending) st'=#[] from y];refine aA (qm (aT ⟨_,rfl,⟨f.kind,f.perm,f.ok⟩,n,?_,?_,N,O,u⟩))
    ·show ((none,0+n):Option Unit×Nat)=(none,n);rw [e8]
    ·show (bV st').push _=_;rw [y];rfl
   refine eX (Q:=fun r st'=>∃ c,r=.yield c/\Bs kd L st'/\∃ n,c=(none,n)/\bV st'=#[(0,n,0)]/\g<=n/\n<=L.length/\Up rk (aR st') 0 n) (eZ (fun o=>?_) fun o=>?_) ?_
   ·have o:n<g:=o;refine aA (uf (cW ⟨rfl,?_⟩));have hf:min (L.length-0) g=g:=by omega
    refine aA (Ve (lo:=0) (n:=min (L.length-0) g) U S H (by omega) K (by omega) q fun G B3 p3 k3 Y=>?_);refine eZ (fun h=>by cases h) fun _=>?_;rw [hf] at Y;exact J (min (L.length-0) g) G B3 (p3.trans (z.trans k)) (by omega) (by omega) (by rw [hf];exact Y)
   ·have o:¬ n<g:=o;exact J n t H (z.trans k) (by omega) (by omega) q
   ·rintro r st' ⟨c,rfl,f,n,rfl,y,N,O,u⟩;exact ⟨f,.inr (.inl ⟨rfl,n,rfl,y,N,O,u⟩)⟩
  ·refine eZ (fun l=>aT ⟨M,.inl ⟨n,rfl,by rw [k];rfl,?_⟩⟩) fun l=>?_
   ·have l:n ≥ L.length:=l;rw [show L.length=n by omega];exact u
   have l:¬ n ≥ L.length:=l;refine aA (KU (lo:=n) (r:=L.length-n) U S M (by omega) (by omega) fun m t H z k2 m1 m2 q=>?_);dsimp (config:={ zeta:=false }) only;extract_lets nn jp;have up:∀ {st':eQ},Kp n (aR X) (aR st')->Up rk (aR st') 0 n:=fun {st'} kp i j h1 h2 h3=>by
    rw [k9 (rk:=rk) (kp i (by omega)),k9 (rk:=rk) (kp j (by omega))];exact u i j h1 h2 h3
   have J:∀ m st',Bs kd L st'->bV st'=#[(0,n,0)]->n+m=L.length->0<m->Up rk (aR st') 0 n->Up rk (aR st') n m->wpS (av prog w) A E s (jp () m) (fun r st'=>∃ c,r=.yield c/\Bs kd L st'/\∃ n m pw,c=(none,L.length)/\bV st'=#[(0,n,pw),(n,m,0)]/\0<n/\0<m/\n+m=L.length/\Up rk (aR st') 0 n/\Up rk (aR st') n m) st':=by
    intro m st' f y N O T q;refine aA (nQ ?_);extract_lets a0;rw [show (sortPriv% PySem.Builtin.SortState.pending) st'=#[(0,n,0)] from y];refine aA (eX (df (I:=fun _ c d=>d=st'/\c=(none,())) (Q:=fun c d=>d=st'/\c=(none,())) ?_ (fun _ _ v=>v) ⟨rfl,rfl⟩) ?_)
    ·rintro x c d - _ ⟨rfl,rfl⟩;refine aA (nQ ?_);rw [show (sortPriv% PySem.Builtin.SortState.pending) d=#[(0,n,0)] from y];exact aT ⟨rfl,rfl⟩
    ·rintro c d ⟨rfl,rfl⟩;refine aA (qm (aA (qm (aT ⟨_,rfl,⟨f.kind,f.perm,f.ok⟩,n,m,(sortPriv% PySem.Builtin.power) L.length (2*0+n) (2*0+n+n+m) L.length,?_,?_,by omega,O,N,T,q⟩))))
     ·show ((none,n+m):Option Unit×Nat)=(none,L.length);rw [N]
     ·show Array.push (Array.modify (bV d) ((bV d).size-1) _) _=_;rw [y];rfl
   refine eX (Q:=fun r st'=>∃ c,r=.yield c/\Bs kd L st'/\∃ n m pw,c=(none,L.length)/\bV st'=#[(0,n,pw),(n,m,0)]/\0<n/\0<m/\n+m=L.length/\Up rk (aR st') 0 n/\Up rk (aR st') n m) (eZ (fun o=>?_) fun o=>?_) ?_
   ·have o:m<g:=o;refine aA (uf (cW ⟨rfl,?_⟩));have hf:min (L.length-n) g=L.length-n:=by omega
    refine aA (Ve (lo:=n) (n:=min (L.length-n) g) U S H (by omega) m1 (by omega) q fun G B3 p3 k3 Y=>?_);refine eZ (fun h=>by cases h) fun _=>?_;exact J (min (L.length-n) g) G B3 (p3.trans (z.trans k)) (by omega) (by omega) (up fun i hi=>(k3 i hi).trans (k2 i hi)) Y
   ·have o:¬ m<g:=o;exact J m t H (z.trans k) (by omega) (by omega) (up k2) q
   ·rintro r st' ⟨c,rfl,f,v⟩;exact ⟨f,.inr (.inr v)⟩
  ·exact eZ (fun _=>aT ⟨M,.inr ⟨n,m,pw,rfl,k,K,P,n3,T,q⟩⟩) fun l=>absurd (ap _) l
 case post =>
  have fin:∀ {st'},Bs kd L st'->(bV st').size=1->Up rk (aR st') 0 L.length->Bs kd L st'/\(bV st').size=1/\Up rk (aR st') 0 L.length:=fun b p u=>⟨b,p,u⟩;rintro c X ⟨M,v⟩;obtain ⟨lo,rfl⟩:∃ lo,c=(none,lo):=by
   rcases v with ⟨n,rfl,_⟩|⟨n,m,pw,rfl,_⟩
   ·exact ⟨_,rfl⟩
   ·exact ⟨_,rfl⟩
  refine aA (eX (df
   (I:=fun x c st'=>c=(none,())/\Bs kd L st'/\(((bV st').size=1/\Up rk (aR st') 0 L.length)\/(x=0/\∃ n m pw,bV st'=#[(0,n,pw),(n,m,0)]/\0<n/\0<m/\n+m=L.length/\Up rk (aR st') 0 n/\Up rk (aR st') n m)))
   (Q:=fun c st'=>c=(none,())/\Bs kd L st'/\Up rk (aR st') 0 L.length) ?_ ?_ ⟨rfl,M,?_⟩) ?_)
  ·rintro x c st' - hx ⟨rfl,f,⟨k,u⟩|⟨rfl,n,m,pw,k,K,P,n3,T,q⟩⟩
   ·refine aA (nQ (eZ (fun _=>aT ⟨rfl,f,u⟩) fun l=>absurd ?_ l));show (bV st').size<=1;omega
   ·refine aA (nQ ?_);rw [show (sortPriv% PySem.Builtin.SortState.pending) st'=#[(0,n,pw),(n,m,0)] from k];refine eZ (fun h=>?_) fun _=>?_
    ·have h:(2:Nat)<=1:=h;omega
    refine aA (MF U S f k K P n3 T q fun t H z u=>?_);exact eZ (fun h=>by cases h) fun _=>aT ⟨rfl,H,.inl ⟨z,u⟩⟩
  ·rintro c st' ⟨rfl,f,⟨k,u⟩|⟨e,_⟩⟩
   ·exact ⟨rfl,f,u⟩
   ·omega
  ·rcases v with ⟨n,_,p,u⟩|⟨n,m,pw,_,v⟩
   ·exact .inl ⟨p,u⟩
   ·exact .inr ⟨rfl,n,m,pw,v⟩
  ·rintro c st' ⟨rfl,f,u⟩;exact aT (h st' f u)
end
end TS
namespace TS
open PySem PyProof.Rows PySem.W
def Ss:List ac->List Str->Prop
 |[],[]=>True
 |v::a,x::xs=>(∃ t,v=.str x t)/\Ss a xs
 |_,_=>False
def tl:List Str->List Str->Bool
 |[],[]=>false
 |[],_::_=>true
 |_::_,[]=>false
 |x::xs,y::ys=>if x=y then tl xs ys else decide (x.cps.toList<y.cps.toList)
def Tk (h:bK) (v:ac) (x:List Str):Prop:=∃ a o b n,v=.ref a/\h.get? a=some o/\o.cls=.type "tuple"/\o.data=.seq b n/\Ss b.toList x
section
variable {prog:bu}{w:bQ}{A:cf}{E:ac->ao->Prop}{s:ao}
theorem wk : tl (x::xs) (y::ys)=if x=y then tl xs ys else decide (x.cps.toList<y.cps.toList):=rfl
theorem KY : ∀ {c b:List ac}{x y:List Str}{i:Nat},Ss c x->Ss b y->fin=decide (c.length<b.length)->Q (tl x y) s->KatLex prog w A true fin Q (c.zip b) i s
 |[],[],[],[],_,_,_,e,q=>by subst e;exact q
 |[],_::_,[],_::_,_,_,_,e,q=>by subst e;rw [List.zip_nil_left];refine kat_nil ?_;simpa [tl] using q
 |_::_,[],_::_,[],_,_,_,e,q=>by subst e;rw [List.zip_nil_right];refine kat_nil ?_;simpa [tl] using q
 |v::c,u::b,x::xs,y::ys,i,f,g,e,q=>by
  obtain ⟨⟨t,rfl⟩,f⟩:=f;obtain ⟨⟨t',rfl⟩,g⟩:=g;rw [wO];refine kat_cons (Da ?_);rw [wk] at q;by_cases a:x=y
  ·rw [if_pos a] at q;have d:(x==y)=true:=by simp [a]
   first|rw [d]|(rw [show decide (x=y)=true by simp [a]])
   exact kat_yes (KY f g (by rw [e];simp) q)
  ·rw [if_neg a] at q;have d:(x==y)=false:=by simp [a]
   first|rw [d]|(rw [show decide (x=y)=false by simp [a]])
   refine kat_no ?_;cases (true&&i==0) with
   |true=>exact oneLt_str q
   |false=>exact kat_one _ _ (lt_str q)
 |[],_,_::_,_,_,h,_,_,_=>h.elim
 |_::_,_,[],_,_,h,_,_,_=>h.elim
 |_,[],_,_::_,_,_,h,_,_=>h.elim
 |_,_::_,_,[],_,_,h,_,_=>h.elim
theorem Tq (c:Tk s.heap v x) (f:Tk s.heap u y) (q:Q (tl x y) s):ar (av prog w) A (keyLt' (tuples' true) v u) Q E s:=by
 obtain ⟨a,o,k,n,rfl,e,_,h,i⟩:=c;obtain ⟨b,l,p,m,rfl,d,_,g,j⟩:=f;exact kat_lt e h d g (KY i j (by simp) q)
theorem uA (X:Tk s.heap (.ref a) x) (L:Tk s.heap (.ref b) y) (h:P (.done (.ret (.bool (tl x y)))) s) :
  ar (av prog w) A (h_.«tuple.__lt__» ⟨[.ref a,.ref b],[]⟩) P E s:=by
 obtain ⟨_,oa,xs,na,M,I,S,K,H⟩:=X;obtain ⟨_,ob,ys,nb,U,n,B,z,p⟩:=L;cases M;cases U;show ar _ _ (zr (.ref b) (.type "tuple") >>= _) _ _ s;refine a7 (gO (T:="tuple") ⟨_,n,B⟩ isSubtype_tuple_tuple ?_);simp only [kg,bA,if_false];refine a7 (wpAny_tupleItemsOf I K ?_);refine a7 (wpAny_tupleItemsOf n z ?_);refine a7 ?_;refine wpAny_forIn_list _
  (fun c7 r s'=>r.1=none/\s'=s/\∃ k l e d,c7=List.zip e d/\Ss e k/\Ss d l/\tl k l=tl x y/\(decide (e.length<d.length))=(decide (xs.size<ys.size)))
  _ ?_ ?_ _ _ ⟨rfl,rfl,x,y,xs.toList,ys.toList,rfl,H,p,rfl,by simp⟩
 ·rintro ⟨u,v⟩ c7 r s' ⟨q,rfl,k,l,e,d,g,i,j,c,f⟩
  match k,l,e,d,g,i,j,c,f with
  |k1::k,k2::l,N::e,O::d,g,⟨⟨t,Q⟩,i⟩,⟨⟨t',Y⟩,j⟩,c,f =>
   rw [wO] at g;obtain ⟨e3,rfl⟩:=zv g;obtain ⟨rfl,rfl⟩:=Prod.mk.inj e3;subst Q;subst Y;refine a7 (Da ?_);rw [wk] at c;by_cases m:k1=k2
   ·rw [if_pos m] at c;have G:(k1==k2)=true:=by simp [m]
    first|rw [G]|(rw [show decide (k1=k2)=true by simp [m]])
    simp only [kg,bA,if_false];refine a9 ⟨rfl,rfl,k,l,e,d,rfl,i,j,c,by simpa using f⟩
   ·rw [if_neg m] at c;have G:(k1==k2)=false:=by simp [m]
    first|rw [G]|(rw [show decide (k1=k2)=false by simp [m]])
    simp only [jE,if_true];rw [<- c] at h;refine a7 (cW (a7 (lt_str ?_)));exact a7 (a9 (a9 (a9 h)))
  |[],_,N::e,_,_,h,_,_,_=>exact h.elim
  |_::_,_,[],_,g,h,_,_,_=>exact h.elim
  |[],_,[],_,g,_,_,_,_=>simp at g
  |_::_,[],_::_,O::d,g,_,h,_,_=>exact h.elim
  |_::_,_::_,_::_,[],g,_,h,_,_=>exact h.elim
  |_::_,[],_::_,[],g,_,_,_,_=>simp at g
 ·rintro ⟨r1,r2⟩ s' ⟨q,rfl,k,l,e,d,g,i,j,c,f⟩;simp only at q;subst q;refine a9 ?_;have o:decide (xs.size<ys.size)=tl x y:=by
   rw [<- c,<- f]
   match k,l,e,d,g,i,j with
   |[],[],[],[],_,_,_=>simp [tl]
   |[],_::_,[],_::_,_,_,_=>simp [tl]
   |_::_,[],_::_,[],_,_,_=>simp [tl]
   |_::_,_::_,_::_,_::_,g,_,_=>simp at g
   |[],_,_::_,_,_,h,_=>exact h.elim
   |_::_,_,[],_,_,h,_=>exact h.elim
   |_,[],_,_::_,_,_,h=>exact h.elim
   |_,_::_,_,[],_,_,h=>exact h.elim
  show P (.done (.ret (.bool (decide (xs.size<ys.size))))) s';rw [o];exact h
theorem Tk.typeIs (h:Tk s.heap v x):s.TypeIs v "tuple":=by
 obtain ⟨a,o,d,n,rfl,b,c,_⟩:=h;exact ⟨_,b,c⟩
theorem WG (h:A.units<gM) (c:Tk s.heap v x) (g:Tk s.heap u y) (q:Q (tl x y) s):ar (av prog w) A (keyLt' general' v u) Q E s:=by
 have f:=c;have d:=g;obtain ⟨a,_,_,_,rfl,_⟩:=f;obtain ⟨b,_,_,_,rfl,_⟩:=d;refine kat_one _ _ (wpAny_richCompare_same_room (op:=.Lt) c.typeIs g.typeIs uu
  (bO uu c.typeIs F.entry_tuple_lt (uA c g ⟨_,rfl,(fun e=>nomatch e),q⟩) (F.args_tuple_lt_2 _ _)) h)
theorem WH (g:A.units<gM) (c:Tk s.heap v x) (f:Tk s.heap u y) (q:Q (tl x y) s):ar (av prog w) A (keyLt' oneType' v u) Q E s:=by
 have e:=c;have d:=f;obtain ⟨a,_,_,_,rfl,_⟩:=e;obtain ⟨b,_,_,_,rfl,_⟩:=d;rw [keyLt'_oneType,oneLt'_eq];simp only [if_true];refine a7 (wpAny_cRoomFor_or (.inr g) ?_);refine a7 (wpAny_callSpecialIfBound?_slot c.typeIs uu (bO uu c.typeIs F.entry_tuple_lt (uA c f ⟨_,rfl,?_⟩) (F.args_tuple_lt_2 _ _)));exact dC q
end
theorem WI {x y:Str} (h:x.cps.toList=y.cps.toList):x=y:=by
 cases x;cases y;exact congrArg _ (yz.1 h)
theorem tl_irrefl:∀ x:List Str,tl x x=false
 |[]=>rfl
 |x::xs=>by rw [wk,if_pos rfl];exact tl_irrefl xs
theorem tl_total:∀ x y:List Str,tl x y=false->tl y x=false->x=y
 |[],[],_,_=>rfl
 |[],_::_,h,_=>by cases h
 |_::_,[],_,h=>by cases h
 |x::xs,y::ys,a,b=>by
  rw [wk] at a b;by_cases e:x=y
  ·subst e;rw [if_pos rfl] at a b;rw [tl_total xs ys a b]
  ·rw [if_neg e] at a;rw [if_neg (cV e)] at b;exact absurd (WI (PyProof.Rows.strKind.total x.cps.toList y.cps.toList a b)) e
theorem tl_trans:∀ x y z:List Str,tl x y=true->tl y z=true->tl x z=true
 |[],_,[],b,a=>by
  rename_i y
  cases y with
  |nil=>cases b
  |cons=>cases a
 |[],_,_::_,_,_=>rfl
 |_::_,[],_,h,_=>by cases h
 |_::_,_::_,[],_,h=>by cases h
 |x::xs,y::ys,z::f,b,a=>by
  rw [wk] at b a ⊢;by_cases e:x=y
  ·subst e;rw [if_pos rfl] at b;by_cases c:x=z
   ·subst c;rw [if_pos rfl] at a ⊢;exact tl_trans xs ys f b a
   ·rw [if_neg c] at a ⊢;exact a
  ·rw [if_neg e] at b;by_cases c:y=z
   ·subst c;rw [if_neg e];exact b
   ·rw [if_neg c] at a;have d:=PyProof.Rows.strKind.trans x.cps.toList y.cps.toList z.cps.toList b a;rw [if_neg fun g=>by subst g;rw [PyProof.Rows.strKind.irrefl] at d;cases d];exact d
theorem CH {c:Type}{p q:c->Bool}:∀ {l:List c}{a:c},(∀ z∈l,p z=true->q z=true)->a∈l->p a=false->q a=true->l.countP p<l.countP q
 |b::l,a,h,ha,pa,f=>by
  rw [Rv,Rv];have mono:l.countP p<=l.countP q:=List.countP_mono_left fun z e=>h z (ag _ e);rcases aN.1 ha with rfl|ha
  ·rw [if_neg (by simp [pa]),if_pos f];omega
  ·have:=CH (fun z e=>h z (ag _ e)) ha pa f;have g:=h b (al ..);cases d:p b with
   |false=>simp;split<;>omega
   |true=>rw [g d];simp;omega
def Gm (xs:List (List Str)) (x:List Str):Nat:=xs.countP fun y=>tl y x
theorem KZ (a:x∈xs) (h:tl x y=true):Gm xs x<Gm xs y :=
 CH (fun z _ b=>tl_trans z x y b h) a (tl_irrefl x) h
theorem wl (c:x∈xs) (b:y∈xs):decide (Gm xs x<Gm xs y)=tl x y:=by
 cases h:tl x y with
 |true=>exact decide_eq_true (KZ c h)
 |false =>
  refine decide_eq_false fun d=>?_;cases a:tl y x with
  |true=>have:=KZ b a;omega
  |false=>rw [tl_total x y h a] at d;omega
theorem Qp (a:x∈xs) (b:y∈xs) (h:Gm xs x=Gm xs y):x=y:=by
 refine tl_total x y ?_ ?_
 ·rw [<- wl a b];simp [h]
 ·rw [<- wl b a];simp [h]
theorem Ss.inj:∀ {c:List ac}{x y:List Str},Ss c x->Ss c y->x=y
 |[],[],[],_,_=>rfl
 |v::c,x::xs,y::ys,a,b=>by
  obtain ⟨⟨t,rfl⟩,a⟩:=a;obtain ⟨⟨t',e⟩,b⟩:=b;cases e;rw [Ss.inj a b]
 |[],_::_,_,h,_=>h.elim
 |[],[],_::_,_,h=>h.elim
 |_::_,[],_,h,_=>h.elim
 |_::_,_::_,[],_,h=>h.elim
theorem Tk.inj (d:Tk h v x) (g:Tk h v y):x=y:=by
 obtain ⟨a,o,l,n,rfl,e,_,i,j⟩:=d;obtain ⟨_,p,q,m,f,b,_,c,k⟩:=g;cases f;rw [e] at b;cases b;rw [i] at c;cases c;exact j.inj k
def Tks (h:bK):List ac->List (List Str)->Prop
 |[],[]=>True
 |v::a,x::xs=>Tk h v x/\Tks h a xs
 |_,_=>False
theorem Tks.len:∀ {a:List ac}{xs:List (List Str)},Tks h a xs->a.length=xs.length
 |[],[],_=>rfl
 |_::_,_::_,t=>congrArg (· + 1) t.2.len
 |[],_::_,t=>t.elim
 |_::_,[],t=>t.elim
theorem Tks.mem : ∀ {a:List ac}{xs:List (List Str)},Tks h a xs->v∈a->∃ x∈xs,Tk h v x
 |c::a,x::xs,t,hm=>by
  rcases aN.1 hm with rfl|hm
  ·exact ⟨x,al ..,t.1⟩
  ·obtain ⟨y,b,e⟩:=Tks.mem t.2 hm;exact ⟨y,ag _ b,e⟩
 |[],_,_,hm=>by cases hm
 |_::_,[],t,_=>t.elim
theorem Tks.keep (k:∀ v x,Tk h v x->Tk h' v x):∀ {a:List ac}{xs:List (List Str)},Tks h a xs->Tks h' a xs
 |[],[],_=>trivial
 |_::_,_::_,t=>⟨k _ _ t.1,Tks.keep k t.2⟩
 |[],_::_,t=>t.elim
 |_::_,[],t=>t.elim
theorem Tks.perm:∀ {d a:List ac}{xs:List (List Str)},d.Perm a->Tks h a xs->∃ ys,Tks h d ys/\ys.Perm xs:=by
 intro d a xs p;induction p generalizing xs with
 |nil=>exact fun t=>⟨xs,t,.refl _⟩
 |cons v p e =>
  intro t;cases xs with
  |nil=>exact t.elim
  |cons x xs =>
   obtain ⟨ys,c,b⟩:=e t.2;exact ⟨x::ys,⟨t.1,c⟩,b.cons x⟩
 |swap v u l =>
  intro t
  match xs,t with
  |x::y::xs,t=>exact ⟨y::x::xs,⟨t.2.1,t.1,t.2.2⟩,.swap x y xs⟩
  |[_],t=>exact t.2.elim
  |[],t=>exact t.elim
 |trans p q ih1 ih2 =>
  intro t;obtain ⟨ys,c,b⟩:=ih2 t;obtain ⟨f,i,g⟩:=ih1 c;exact ⟨f,i,g.trans b⟩
open Classical in
noncomputable def MH (h:bK) (xs:List (List Str)) (v:ac):Nat:=if e:∃ x,Tk h v x then Gm xs e.choose else 0
theorem tN (t:Tk h v x):MH h xs v=Gm xs x:=by
 have e:∃ x,Tk h v x:=⟨x,t⟩;unfold MH;rw [dif_pos e,e.choose_spec.inj t]
def Kd (kd:nX):Prop:=kd=tuples' true\/kd=general'\/kd=oneType'
theorem YO (d:A.units<gM) (k:Kd kd) (t:Tks s.heap vs xs):Cp prog w A s kd (MH s.heap xs) (vs.zip vs):=by
 intro x i y e Q E q;obtain ⟨l,j⟩:=Be i;obtain ⟨m,g⟩:=Be e;obtain ⟨a,f,c⟩:=t.mem j;obtain ⟨b,h,tb⟩:=t.mem g;rw [tN c,tN tb,wl f h] at q;rcases k with rfl|rfl|rfl
 ·exact Tq c tb q
 ·exact WG d c tb q
 ·exact WH d c tb q
theorem Gn:∀ {a:List ac}{xs ys:List (List Str)}{h:bK},Tks h a xs->(∀ x∈xs,x∈ys)->xs.Nodup->((a.zip a).map fun p=>MH h ys p.1).Nodup
 |[],[],_,_,_,_,_=>gC
 |v::a,x::xs,ys,h,t,s,n=>by
  rw [wO,ax,iX];refine ⟨fun c=>?_,Gn t.2 (fun x f=>s x (ag _ f)) (iX.1 n).2⟩;obtain ⟨p,d,e⟩:=eL.1 c;obtain ⟨y,b,ty⟩:=t.2.mem (Be d).2;rw [tN ty,tN t.1] at e;rw [Qp (s y (ag _ b)) (s x (al ..)) e] at b;exact (iX.1 n).1 b
 |[],_::_,_,_,t,_,_=>t.elim
 |_::_,[],_,_,t,_,_=>t.elim
theorem Qq (t:Tk s.heap v x) (q:∀ o,(o=none\/∃ b u,o=some (.str b u))->Q o s):ar (av prog w) A (firstOfTuple' v) Q E s:=by
 obtain ⟨a,o,d,n,rfl,c,f,g,e⟩:=t;rw [kas_first_eq];refine a7 (Looks.here (show Looks (av prog w) s.heap (typeOf (.ref a)) o.cls from (Looks.ld c).andThen .now) ?_);rw [f,if_neg (by first|decide|simp)];refine a7 (listItems_at c g (a9 (q _ ?_)));rw [<- aL]
 match d.toList,x,e with
 |[],[],_=>exact .inl rfl
 |v::d,x::xs,h=>obtain ⟨⟨t,rfl⟩,_⟩:=h;exact .inr ⟨x,t,rfl⟩
theorem CI:∀ {d:List ac}{xs:List (List Str)}{Q:List (Option ac)->ao->Prop},Tks s.heap d xs->(∀ c:List (Option ac),c.length=d.length->(∀ o∈c,o=none\/∃ b u,o=some (.str b u))->Q c s)->ar (av prog w) A (d.mapM firstOfTuple') Q E s
 |[],[],_,_,q=>by rw [List.mapM_nil];exact a9 (q [] rfl (by simp))
 |v::d,x::xs,Q,t,q=>by
  rw [List.mapM_cons];refine a7 (Qq t.1 fun o ho=>a7 (CI t.2 fun c e f=>a9 (q _ (by simp [e]) ?_)));intro g a;rcases aN.1 a with rfl|a
  ·exact ho
  ·exact f _ a
 |[],_::_,_,t,_=>t.elim
 |_::_,[],_,t,_=>t.elim
theorem Qr {b:List ac}{T:ac}{Q:Option ac->ao->Prop} (e:0<b.length) (f:∀ v∈b,Looks (av prog w) s.heap (typeOf v) T) (c:(T==T)=true) (q:Q (some T) s):ar (av prog w) A (oneTypeOnly' b.toArray) Q E s:=by
 match b,e with
 |v::b,_ =>
  rw [oneTypeOnly'_eq,NR,map_eq_pure_bind];refine a7 (a7 (kas_mapM (r:=T) _ (fun v g Q' d=>(f v g).here d) (a9 ?_)));have a:((xT (fun _=>T) (v::b)).toArray.all fun x=>x==T)=true:=by
   simp only [List.all_toArray,nR,cy];intro _ _;exact c
  have h:(xT (fun _=>T) (v::b)).toArray[0]?=some T:=by simp
  rw [h];simp only [a,if_true];exact a9 q
theorem Tr {i:List ac}{xs:List (List Str)}{Q:nX->ao->Prop} (z:2<=i.length) (t:Tks s.heap i xs) (q:∀ kd,Kd kd->Q kd s):ar (av prog w) A (keyKind' i.toArray) Q E s:=by
 rw [kat_kind_eq,NR,map_eq_pure_bind];refine a7 (a7 (CI t fun c B p=>a9 ?_));by_cases d:(c.toArray.all fun x=>x.isSome)=true
 ·rw [if_pos d];refine a7 (cW ?_);have hs:∀ o∈c,∃ b u,o=some (.str b u):=fun o ho=>by
   rcases p o ho with rfl|h
   ·simp at d;have:=d _ ho;cases this
   ·exact h
  have f:c.toArray.filterMap id=(c.filterMap id).toArray:=by simp
  rw [f];have y:(c.filterMap id).length=c.length:=by
   have:∀ c:List (Option ac),(∀ o∈c,∃ b u,o=some (.str b u))->(c.filterMap id).length=c.length:=by
    intro c;induction c with
    |nil=>intro _;rfl
    |cons o c k =>
     intro hs;obtain ⟨b,u,rfl⟩:=hs o (al ..);rw [ng];simp only [id];rw [aW,k fun o ho=>hs o (ag _ ho)];rfl
   exact this c hs
  refine a7 (Qr (T:=.type "str") (by omega) (fun v g=>?_) (by rfl) (a9 (q _ (.inl rfl))));obtain ⟨o,ho,e⟩:=List.mem_filterMap.1 g;obtain ⟨b,u,rfl⟩:=hs o ho;cases e;exact .now
 ·rw [if_neg d];by_cases j:(c.toArray[0]?.bind id).isSome=true
  ·rw [if_pos j];exact a9 (q _ (.inr (.inl rfl)))
  ·rw [if_neg j];refine a7 (Qr (T:=.type "tuple") (by omega) (fun v g=>?_) (by rfl) (a9 (q _ (.inr (.inr rfl)))));obtain ⟨x,_,a,o,G,n,rfl,l,m,_⟩:=t.mem g;rw [<- m];exact (Looks.ld l).andThen .now
theorem Tks.inj:∀ {c:List ac}{xs ys:List (List Str)},Tks h c xs->Tks h c ys->xs=ys
 |[],[],[],_,_=>rfl
 |_::_,_::_,_::_,b,a=>by rw [b.1.inj a.1,Tks.inj b.2 a.2]
 |[],_::_,_,t,_=>t.elim
 |[],[],_::_,_,t=>t.elim
 |_::_,[],_,t,_=>t.elim
 |_::_,_::_,[],_,t=>t.elim
theorem Tk.keepNe (g:h.get? a=some (jJ "list" vs n)) (k:∀ b o,b≠a->h.get? b=some o->h'.get? b=some o) (v:ac) (x:List Str) (t:Tk h v x):Tk h' v x:=by
 obtain ⟨b,o,f,m,rfl,c,d,i⟩:=t;refine ⟨b,o,f,m,rfl,k b o (fun e=>?_) c,d,i⟩;subst e;rw [g] at c;cases c;simp at d
theorem Tt {a:List ac}{xs:List cJ} (p:xs.Perm (a.zip a)):(xs.map (·.2)).Perm a/\xs.map (·.1)=xs.map (·.2):=by
 refine ⟨?_,il fun c b=>(Be (p.mem_iff.1 b)).1⟩;have:=p.map (·.2)
 rwa [Rw (ap _)] at this
theorem Ah : ∀ {xs:List cJ}{e:List (List Str)},Tks h (xs.map (·.1)) e->(∀ z∈e,z∈ys)->xs.Pairwise (WC (MH h ys))->e.Pairwise (fun a b=>tl a b=true)
 |[],[],_,_,_=>rW
 |x::xs,z::e,t,f,p=>by
  have g:=kG.1 p;refine kG.2 ⟨fun b hb=>?_,Ah t.2 (fun z m=>f z (ag _ m)) g.2⟩;have:∀ {d:List cJ}{c:List (List Str)},Tks h (d.map (·.1)) c->b∈c->∃ u∈d,Tk h u.1 b:=by
   intro d;induction d with
   |nil=>intro c t hb;cases c with
    |nil=>cases hb
    |cons=>exact t.elim
   |cons u d i=>intro c t hb;cases c with
    |nil=>cases hb
    |cons w c =>
     rcases aN.1 hb with rfl|hb
     ·exact ⟨u,al ..,t.1⟩
     ·obtain ⟨q,j,n⟩:=i t.2 hb;exact ⟨q,ag _ j,n⟩
  obtain ⟨u,o,k⟩:=this t.2 hb;have l:=g.1 u o;unfold WC at l;rw [tN t.1,tN k] at l;rw [<- wl (f z (al ..)) (f b (ag _ hb))];exact decide_eq_true l
 |[],_::_,t,_,_=>t.elim
 |_::_,[],t,_,_=>t.elim
theorem YQ (u:Up rk a 0 a.size):a.toList.Pairwise (WC rk):=by
 rw [pJ];intro i j f e c;have b:i<a.size:=by simpa using f
 have d:j<a.size:=by simpa using e
 have:=u i j (cG _) c (by omega);rw [bN (bz b),bN (bz d)] at this;exact this
theorem Go {a:aj}{c:List ac}{xs:List (List Str)}{n:Nat}{P:Fin->ao->Prop} (O:A.units<gM) (ho:s.heap.get? a=some (jJ "list" c.toArray n))
  (t:Tks s.heap c xs) (hx:xs.Nodup) (X:c.length<=64)
  (h:∀ (g:List ac) (i:List (List Str)),g.Perm c->Tks s.heap g i->i.Perm xs->i.Pairwise (fun a b=>tl a b=true)->P (.done (.ret .none)) { s with heap:=sortedHeap s.heap a c g.toArray }) :
  ar (av prog w) A (h_.«list.sort» ⟨[.ref a],[]⟩) P E s:=by
 rw [list_sort_plain];have I:a<s.heap.objs.size:=aq ho;have B:c.length<=sizeLine:=by rw [ik];omega
 refine a7 (listItems_at ho rfl ?_);refine a7 (LN ho rfl ?_ (by simpa using B) (cG _));obtain ⟨G,k⟩:∃ G,(s.heap.update a (i9 fun _=>#[])).get? a=some (jJ "list" #[] G):=⟨_,get?_update_seq ho (fun _=>#[])⟩;refine a7 (R_ k rfl ?_);refine a7 (wpAny_newTuple ?_ (by simpa using B));refine a7 (LH ?_ (cG _));refine cc ?_;have f:(((s.heap.update a (i9 fun _=>#[])).push (jJ "tuple" c.toArray 0)).push (jJ "list" #[] 0)).get? a=some (jJ "list" #[] G):=by
  rw [NS _ _ _ (by rw [size_push',yQ];exact aB (eP I)),NS _ _ _ (by rw [yQ];exact aB I)];exact k
 have p:Tks (((s.heap.update a (i9 fun _=>#[])).push (jJ "tuple" c.toArray 0)).push (jJ "list" #[] 0)) c xs :=
  t.keep (Tk.keepNe ho fun b o x e=>aa _ (aa _ ((fX _ _ (cV x)).trans e)))
 show ar (av prog w) A _ P E { s with heap:=((s.heap.update a (i9 fun _=>#[])).push (jJ "tuple" c.toArray 0)).push (jJ "list" #[] 0) };dsimp only;have hsz:c.toArray.size=c.length:=by simp
 by_cases v:c.toArray.size<2
 ·rw [if_pos v,if_pos v];refine a7 (a9 ?_);rw [StateT.run_pure];refine a7 (a9 ?_);dsimp only;refine a7 (R_ f rfl ?_);refine a7 (LN f rfl ?_ (hsz2:=by rw [lf,Array.size_zip,aK,Ip];exact yA B));simp only [bne_self_eq_false,bA,if_false];have e:(c.toArray.zip c.toArray).map (·.2)=c.toArray:=by
   apply yz.1;rw [Array.toList_map,NT,Rw (ap _)]
  refine a9 ?_;have:=h c xs (.refl _) t (.refl _) (by
   have:=t.len
   match xs,this with
   |[],_=>exact .nil
   |[_],_=>exact E_ ..
   |_::_::_,e=>simp at e;omega)
  rw [<- e] at this;exact this
 ·rw [if_neg v,if_neg v];refine a7 (Tr (by omega) p fun kd Y=>?_);refine a7 (bB (WF (kd:=kd) (L:=c.zip c) (st:=SortSt.mk' kd (c.toArray.zip c.toArray) #[] 7 none)
   (Q:=fun _ d=>(aR d).toList.Perm (c.zip c)/\xc d=none/\Up (MH _ xs) (aR d) 0 (c.zip c).length)
   (YO O Y p) (Gn p (fun _ h=>h) hx) ⟨rfl,by rw [NT],rfl⟩ rfl (by rw [r_];omega) (by rw [r_];omega) fun d b u=>⟨b.perm,b.ok,u⟩) ?_ fun _ _ e=>e)
  rintro ⟨⟨⟩,d⟩ s' ⟨rfl,M,U,hs⟩;dsimp only;have l:(aR d).size=c.length:=by
   have:=M.length_eq;rw [au,r_,Ip] at this;exact this
  refine a7 (R_ f rfl ?_);refine a7 (LN f rfl ?_ (hsz2:=by rw [lf];show (aR d).size<=_;rw [l,ik];omega));rw [U];simp only [bne_self_eq_false,bA,if_false];refine a9 ?_;obtain ⟨y,K⟩:=Tt M;obtain ⟨ys,q,N⟩:=p.perm y;obtain ⟨j,H,S⟩:=t.perm y;rw [<- K] at q;have m:(c.zip c).length=(aR d).size:=by rw [r_,l,Ip]
  rw [m] at hs;have so:=Ah (ys:=xs) q (fun z T=>N.mem_iff.1 T) (YQ hs);have:j=ys:=by
   rw [K] at q;exact Tks.inj (H.keep (Tk.keepNe ho fun b o x e=>aa _ (aa _ ((fX _ _ (cV x)).trans e)))) q
  subst this;have:=h _ j y H S so;have e:(aR d).map (·.2)=((aR d).toList.map (·.2)).toArray:=by apply yz.1;simp
  rw [<- e] at this;exact this
theorem sorted_T (O:A.units+2<gM) (y:ar (av prog w) A.in1 (B8 x) (fun g c=>∃ xs,Tks c.heap g xs/\xs.Nodup/\g.length<=64 /\
   ∀ (h':bK) (d:List ac) (f:List (List Str)) (e:Nat),(∀ b o,c.heap.get? b=some o->h'.get? b=some o)->h'.get? c.heap.objs.size=some (jJ "list" d.toArray e)->d.Perm g->Tks c.heap d f->f.Perm xs->f.Pairwise (fun a b=>tl a b=true) ->
    Q (.ref c.heap.objs.size) { c with heap:=h' }) E s):ar (av prog w) A (call (.builtin "sorted") [x]) Q E s:=by
 refine oV kind_sorted plain_sorted entry_sorted (args_sorted1 _) ?_;unfold h_.«sorted»;refine a7 (m:=checkCount "sorted" 1 1 _) (a9 ?_);refine a7 (bB y (fun g c z=>?_) fun _ _ z=>z);obtain ⟨xs,t,M,i,B⟩:=z;refine a7 (LH ?_ (by rw [ik];omega));have h:(c.heap.push (jJ "list" g.toArray 0)).get? c.heap.objs.size=some (jJ "list" g.toArray 0):=aw _ rfl;show ar _ _ _ _ _ { c with heap:=c.heap.push (jJ "list" g.toArray 0) };have l:∀ v x,Tk c.heap v x->Tk (c.heap.push (jJ "list" g.toArray 0)) v x:=fun v x ⟨b,o,K,m,G,H,N⟩=>⟨b,o,K,m,G,aa _ H,N⟩;refine a7 (cc (bO slot_list_sort ⟨_,h,rfl⟩ entry_list_sort (Go (by show A.units+1+1<gM;omega) h (t.keep l) M i fun d f k I u L=>⟨_,rfl,?_⟩) (args_list_sort _)));obtain ⟨e,j⟩:=sortedHeap_at (out:=d.toArray) h;obtain ⟨ys,p,P⟩:=t.perm k;obtain rfl:ys=f:=(p.keep l).inj I;refine a9 ⟨_,rfl,B _ _ ys e (fun b o q=>?_) j k p u L⟩;have n:=aq q;rw [sortedHeap_old (aB n) (by rw [size_push'];exact eP n)];exact aa _ q
end TS
namespace L2
open PySem PySem.Spec PyProof.Rows PySem.W
def MI (x:List Str):List (List Str)->List (List Str)
 |[]=>[x]
 |y::l=>if TS.tl x y=true then x::y::l else y::MI x l
def jj:List (List Str)->List (List Str)
 |[]=>[]
 |x::l=>MI x (jj l)
theorem xw (x:List Str):∀ l,(MI x l).Perm (x::l)
 |[]=>.refl _
 |y::l=>by
  unfold MI;split
  ·exact .refl _
  ·exact ((xw x l).cons y).trans (.swap x y l)
theorem iA:∀ l,(jj l).Perm l
 |[]=>.refl _
 |x::l=>(xw x _).trans ((iA l).cons x)
abbrev Xe (l:List (List Str)):Prop:=l.Pairwise fun a b=>TS.tl a b=true
theorem K_:∀ {l:List (List Str)},Xe l->x∉l->Xe (MI x l)
 |[],_,_=>E_ ..
 |y::l,h,b=>by
  have h':=kG.1 h;unfold MI;split
  ·rename_i e
   refine kG.2 ⟨fun z a=>?_,h⟩;rcases aN.1 a with rfl|a
   ·exact e
   ·exact TS.tl_trans x y z e (h'.1 z a)
  ·rename_i e
   refine kG.2 ⟨fun z a=>?_,K_ h'.2 fun q=>b (ag _ q)⟩;rcases aN.1 ((xw x l).mem_iff.1 a) with rfl|a
   ·cases q:TS.tl y z with
    |true=>rfl
    |false=>exact absurd (aN.2 (.inl (TS.tl_total z y (by simpa using e) q))) b
   ·exact h'.1 z a
theorem wn:∀ {l:List (List Str)},l.Nodup->Xe (jj l)
 |[],_=>.nil
 |x::l,h=>K_ (wn (iX.1 h).2) fun q=>(iX.1 h).1 ((iA l).mem_iff.1 q)
theorem Qs (e:Xe l) (d:Xe m) (p:l.Perm m):l=m :=
 List.Perm.eq_of_pairwise (le:=fun a b=>TS.tl a b=true) (fun a b _ _ c f=>by
  have:=TS.tl_trans a b a c f;rw [TS.tl_irrefl] at this;cases this) e d p
theorem Qt (n:l.Nodup) (p:l'.Perm l) (h:Xe l'):l'=jj l:=Qs h (wn n) (p.trans (iA l).symm)
theorem yf (n:l.Nodup) (p:l'.Perm l):jj l'=jj l:=Qs (wn (p.nodup_iff.2 n)) (wn n) ((iA _).trans (p.trans (iA _).symm))
def CJ (H:Hp):List aj->List (List Str)->Prop
 |[],[]=>True
 |a::b,x::xs=>H a=some (.tup (x.map V.str))/\CJ H b xs
 |_,_=>False
theorem Vf {pins σ H s} (I:bH X pins σ H s) (h:H a=some (.tup (x.map V.str))):TS.Tk s.heap (.ref a) x:=by
 obtain ⟨b,r,⟨o,d,g,n,f⟩,_⟩:=I.tuple (.inl (.of h));refine ⟨a,o,b.toArray,n,rfl,d,g,f,?_⟩;have:∀ {c:List ac}{x:List Str},rO c x->TS.Ss c x:=by
  intro c x q;induction q with
  |nil=>trivial
  |cons x t _ e=>exact ⟨⟨t,rfl⟩,e⟩
 exact this (kQ r)
theorem J7 {pins σ H s} (I:bH X pins σ H s):∀ {a:List aj}{xs:List (List Str)},CJ H a xs->TS.Tks s.heap (a.map bf) xs
 |[],[],_=>trivial
 |_::_,_::_,t=>⟨Vf I t.1,J7 I t.2⟩
 |[],_::_,t=>t.elim
 |_::_,[],t=>t.elim
theorem CJ.mem : ∀ {c:List aj}{xs:List (List Str)},CJ H c xs->a∈c->∃ x:List Str,H a=some (.tup (x.map V.str))
 |b::c,x::xs,t,h=>by
  rcases aN.1 h with rfl|h
  ·exact ⟨x,t.1⟩
  ·exact CJ.mem t.2 h
 |[],_,_,h=>by cases h
 |_::_,[],t,_=>t.elim
theorem Vg {pins σ H s} (I:bH X pins σ H s) (t:CJ H as xs):∀ {bs:List aj}{ys:List (List Str)},(∀ b∈bs,b∈as)->TS.Tks s.heap (bs.map bf) ys->CJ H bs ys
 |[],[],_,_=>trivial
 |b::bs,y::ys,h,q=>by
  obtain ⟨x,e⟩:=t.mem (h b (al ..));rw [(Vf I e).inj q.1] at e;exact ⟨e,Vg I t (fun b a=>h b (ag _ a)) q.2⟩
 |[],_::_,_,q=>q.elim
 |_::_,[],_,q=>q.elim
theorem L3:∀ {a:List aj}{b:List ac},dH (a.map V.ref) b->b=a.map bf
 |[],_,.nil=>rfl
 |_::_,_,.cons r t=>by cases r;rw [L3 t];rfl
theorem xx:∀ b:List aj,dH (b.map V.ref) (b.map bf)
 |[]=>.nil
 |a::b=>.cons rfl (xx b)
theorem MJ (p:us.Perm (as.map bf)):∃ bs:List aj,us=bs.map bf/\bs.Perm as:=by
 refine ⟨us.map fun v=>match v with | .ref a=>a|_=>0,?_,?_⟩
 ·rw [bJ];refine (List.map_id us).symm.trans (il fun v b=>?_);obtain ⟨a,_,rfl⟩:=eL.1 (p.mem_iff.1 b);rfl
 ·have:=p.map fun v=>match v with | .ref a=>a|_=>(0:aj)
  rw [bJ] at this;refine this.trans (JV ?_);exact (il fun a _=>rfl).trans (List.map_id as)
theorem Ai {pins σ H s} (K:X.A.units+2<gM) (I:bH X pins σ H s) (t:CJ H as xs) (z:xs.Nodup) (p:as.length<=64)
  (N:∀ (P:List ac->ao->Prop),(∀ (h':bK) (j:Nat),(∀ b o,s.heap.get? b=some o->h'.get? b=some o)->s.heap.objs.size<=h'.objs.size->P (as.map bf) { s with heap:=h',toks:=j })->ar (av X.prog X.w) X.A.in1 (B8 v) P X.xe s)
  (q:∀ l bs,H l=none->bs.Perm as->CJ H bs (jj xs)->Q (.ref l) (upd H l (.lst (bs.map V.ref)))) :
  ar (av X.prog X.w) X.A (call (.builtin "sorted") [v]) (EP X pins σ Q) X.xe s:=by
 refine TS.sorted_T K (N _ fun h' j kp sz=>⟨xs,(J7 I t).keep ?_,z,by rw [ah];exact p,fun B L ys e a g n G E u=>?_⟩)
 ·exact fun v x ⟨b,o,h,m,d,f,k⟩=>⟨b,o,h,m,d,kp b o f,k⟩
 ·obtain ⟨bs,rfl,c⟩:=MJ n;obtain rfl:=Qt z E u;obtain ⟨ys,y,_⟩:=(J7 I t).perm n;have:=(y.keep fun v x ⟨b,o,h,m,d,f,k⟩=>(⟨b,o,h,m,d,kp b o f,k⟩:TS.Tk h' v x)).inj G;subst this;have M:∀ b o,s.heap.get? b=some o->B.get? b=some o:=fun b o e=>a b o (kp b o e);have i:de X.prog X.w (upd H h'.objs.size (.lst (bs.map V.ref))) B h'.objs.size (.lst (bs.map V.ref)) :=
   ⟨by rw [ah,c.length_eq];exact bL p (by rw [ik];decide),bs.map bf,e,xx bs,g⟩
  exact ⟨.ref h'.objs.size,_,I.laid (t':=j) M sz i,rfl,q _ bs (I.hok.fresh sz) c (Vg I t (fun b O=>c.mem_iff.1 O) y)⟩
theorem L5 (hs:(d==fA)=false) (f:o.ExactDict) (ho:o.data=.dict es ep) :
  KdlSrc prog w "dict" d d es.size (fun i v=>∃ e,es[i]?=some e/\v=e.key) (fun h=>h.get? d=some o) where
 type:=fun s e=>⟨o,e,f.1⟩
 there:=fun h e=>⟨aq e,aq e⟩
 keep:=fun h h' e k=>k d (.inl rfl) o e
 notList:=by decide
 notTuple:=by decide
 hint:=fun A E s Q e q=>kdl_hint_dict ⟨o,e,f.1⟩ q
 iter:=fun A s l e=>by
  refine ⟨{ cls:=.type "dict_keyiterator",data:=.fields #[.ref d,.int 0 0,.int es.size 0,.int ep 0] },fun i h=>h.IsKeyIter s.heap.objs.size d i es.size ep/\h.get? d=some o,fun E Q q=>Qd hs e f ho q,?_,⟨_,aw _ rfl,rfl,rfl⟩,aa _ e⟩;have ne:d≠s.heap.objs.size:=aB (aq e);refine ⟨by simp,fun i h h' st k=>⟨st.1.at fun o q=>k _ (by simp) o q,k _ (by simp) o st.2⟩,fun i s' Q E g st q=>?_,fun s' Q E st q=>?_,fun i s' Q E st q=>RY st.1 q⟩
  ·refine KL st.1 st.2 ho (bz g) fun h' c j=>q _ h' s'.toks ⟨_,bz g,rfl⟩ ⟨c,(j.2 d ne).trans st.2⟩ fun b o a e=>(j.2 b (by simpa using a)).trans e
  ·exact Qc l st.1 st.2 ho (ap _) fun h' m=>q h' s'.toks fun b o a e=>m b o (by simpa using a) e
theorem Ec (hh:A.handled=none) (hs:(d==fA)=false) (hx:o.ExactDict) (ho:o.data=.dict es ep) (hd:s.heap.get? d=some o) (hz:es.size<=sizeLine)
  (h:∀ (vs:List ac) (h':bK) (tk:Nat),vs=es.toList.map (·.key)->(∀ b o,s.heap.get? b=some o->h'.get? b=some o)->s.heap.objs.size<=h'.objs.size->Q vs { s with heap:=h',toks:=tk }) :
  ar (av prog w) A (B8 (.ref d)) Q E s:=by
 have hlt:=aq hd;unfold B8;refine a7 (HY (eA Nr ?_));rw [dB Nt _];show ar _ A.in1 (newList [] >>= fun l=>RC (.builtin "list.__iadd__" ⟨[l,.ref d],[]⟩)) _ _ s;refine a7 (bS ?_);refine a9 ⟨lc ro _,eA F.entry_list_iadd ?_⟩;rw [dB ro _];have at1:(s.heap.push { cls:=.type "list",data:=.seq ([] : List ac).toArray }).get? s.heap.objs.size=some { cls:=.type "list",data:=.seq ([] : List ac).toArray }:=aw _ rfl;show ar _ A.in1 (lN (.ref s.heap.objs.size) (.ref d) (.ref s.heap.objs.size)) _ _ { s with heap:=s.heap.push { cls:=.type "list",data:=.seq ([] : List ac).toArray } };refine kdl_extend (R:=fun r s'=>match r with | .ok (.ret v)=>ar (av prog w) A (match v with | .ref a=>(do let o <- load a;match o.data with | .seq xs _=>pure xs.toList|_=>wX "internal:collect")|_=>wX "internal:collect") Q E s' | .ok _=>False | .error e=>E e s') (s:={ s with heap:=s.heap.push { cls:=.type "list",data:=.seq ([] : List ac).toArray } }) (L5 hs hx ho) (by simpa using hh) (aa _ hd) s.heap.objs.size (dv hlt) (dv hlt) _ 0 at1 (fun h' tk acc c kp at2 ia=>?_) hz;show ar _ A (load s.heap.objs.size >>= _) _ _ _;refine a7 (wpAny_load at2 (a9 ?_));refine h _ h' tk ?_ (fun b o e=>kp b o (aB (aq e)) (aa _ e)) (bw (aq at2));apply xS;intro j;rw [aL,aF,aL];by_cases hj:j<acc.size
 ·obtain ⟨e,e1,e2⟩:=ia.2 j acc[j] (bz hj);rw [e1,bz hj,e2];rfl
 ·rw [cB (by omega),cB (by rw [<- ia.1];omega)];rfl
theorem Aj {P:bu}{w:bQ}{H:Hp}{es:Array ub}:∀ {kvs:List (List eC×V)}{xs:List (List Str)}{l:List ub},l.length=kvs.length->kvs.map (·.1)=xs.map (fun x=>x.map im) ->
  (∀ (i:Nat) (k:List eC) (v:V),kvs[i]?=some (k,v)->∃ (e:ub) (b:aj),l[i]?=some e/\e.key=bf b/\H b=some (.tup (k.map kV)))->∃ d:List aj,l.map (·.key)=d.map bf/\CJ H d xs
 |[],[],[],_,_,_=>⟨[],rfl,trivial⟩
 |(k,v)::kvs,x::xs,e::l,c,a,h=>by
  obtain ⟨n,b,m,q,s⟩:=h 0 k v rfl;cases m;rw [ax,ax] at a;obtain ⟨g,f⟩:=zv a;have g:k=x.map im:=g;subst g;obtain ⟨d,j,o⟩:=Aj (P:=P) (w:=w) (H:=H) (es:=es) (l:=l) (by simpa using c) f fun i k v p=>h (i+1) k v p;refine ⟨b::d,by rw [ax,ax,q,j],?_,o⟩;rw [s,bJ];rfl
 |[],_::_,_,_,a,_=>by cases a
 |_::_,[],_,_,a,_=>by cases a
 |[],[],_::_,c,_,_=>by cases c
 |_::_,_::_,[],c,_,_=>by cases c
theorem Ak (j:X.A.units+2<gM):jF X (.builtin "sorted") (fun xs H Q=>∃ p a c,xs=[.ref p]/\nl X.K H p (a.map V.ref)/\CJ H a c/\c.Nodup/\a.length<=64/\∀ l bs,H l=none->bs.Perm a->CJ H bs (jj c)->Q (.ref l) (upd H l (.lst (bs.map V.ref)))):=by
 intro f s z H xs B Q I r h;obtain ⟨p,a,c,rfl,k,t,v,i,q⟩:=h;obtain ⟨u,rfl,g⟩:=kM r;cases g;obtain ⟨m,x,y,d⟩:=I.list k;obtain rfl:=L3 x;refine Ai j I t v i (fun P w=>collect_list y.isList ?_ (by rw [ah] at d ⊢;exact d)) q;refine w _ s.toks (fun b o e=>?_) ?_
 ·have n:=aq e;exact (fX _ _ (dv n)).trans (aa _ e)
 ·rw [yQ,cm];exact iL _
theorem Al (E:X.calm=true) (z:X.A.units+2<gM):jF X (.builtin "sorted") (fun xs H Q=>∃ p o kvs a,xs=[.ref p]/\H p=some (.frz o (.dT kvs))/\kvs.map (·.1)=a.map (fun x=>x.map im)/\a.Nodup/\a.length<=64/\∀ l bs,H l=none->CJ H bs (jj a)->Q (.ref l) (upd H l (.lst (bs.map V.ref)))):=by
 intro e s σ H xs us Q I r h;obtain ⟨p,o,kvs,a,rfl,G,g,N,hz,q⟩:=h;obtain ⟨u,rfl,n⟩:=kM r;cases n;obtain ⟨y,U,t,es,ep,g2,c,g4⟩:=sH I.hok G;have f:kvs.length=a.length:=by simpa using congrArg jC g
 obtain ⟨T,d,S⟩:=Aj (P:=X.prog) (w:=X.w) (es:=es) (H:=H) (l:=es.toList) (by rw [au];exact c) g fun i k v L=>by
  obtain ⟨M,b,O,e2⟩:=g4 i k v L;exact ⟨M,b,by rw [aL];exact O,e2⟩
 have la:T.length=a.length:=by
  have:=congrArg jC d;rw [ah,ah,au,c,f] at this;exact this.symm
 refine Ai z I S N (by omega) (fun P Y=>Ec (by simpa using I.ok.hd E) y t g2 U (by rw [c,f,ik];omega) fun vs h' m B kp sz=>?_) fun l bs j _ K=>q l bs j K;subst B;rw [d];exact Y h' m kp sz
end L2
namespace J
open PySem L2
def qx:List D->Option (List (List Str))
 |[]=>some []
 |.tuple ds::r=>(fD ds).bind fun x=>(qx r).map (x::·)
 |_::_=>none
def uk (x:List Str):D:=.tuple (x.map .str)
theorem qy:∀ xs:List (List Str),qx (xs.map uk)=some xs
 |[]=>rfl
 |x::xs=>by
  show (fD (x.map aU)).bind (fun y=>(qx (xs.map uk)).map (y::·))=_;rw [strsOf_map,qy xs];rfl
theorem oA:∀ {ds:List D}{xs:List (List Str)},qx ds=some xs->ds=xs.map uk
 |[],xs,h=>by cases h;rfl
 |d::ds,xs,h=>by
  cases d with
  |tuple c =>
   have h:(fD c).bind (fun y=>(qx ds).map (y::·))=some xs:=h;cases a:fD c with
   |none=>rw [a] at h;cases h
   |some x =>
    cases b:qx ds with
    |none=>rw [a,b] at h;cases h
    |some ys =>
     rw [a,b] at h;cases h;rw [ax,<- oA b,ou a];rfl
  |_=>cases h
def nz (a:List (List Str)):R D:=if a.Nodup/\a.length<=64 then .ok (.list ((jj a).map uk)) else .no
def jY:D->R D
 |.list ds=>match qx ds with
  |some a=>nz a
  |none=>.no
 |.dict ((.none,.none)::ds)=>match qx (ds.map (·.1)) with
  |some a=>nz a
  |none=>.no
 |_=>.no
theorem Gp : ∀ {c:List V}{xs:List (List Str)},RDs K H c (xs.map uk)->∃ b:List aj,c=b.map V.ref/\CJ H b xs
 |_,[],.nil=>⟨[],rfl,trivial⟩
 |_,x::xs,.cons h t=>by
  obtain ⟨b,e,d⟩:=Gp t;subst e;unfold uk at h;cases h with
  | @tuple a ys _ q r =>
   rw [mO r] at q;exact ⟨a::b,rfl,q,d⟩
theorem uU : ∀ {bs:List aj}{ys:List (List Str)}{Hs:Hp},CJ H bs ys->dD Hs H->∃ f,cX H Hs H f/\RDs K f (bs.map V.ref) (ys.map uk)
 |[],[],Hs,_,s=>⟨Hs,.refl s,.nil⟩
 |b::bs,y::ys,Hs,t,s=>by
  obtain ⟨d,st,r⟩:=uU (K:=K) t.2 s;have sub:=st.sub;have same:dD d (upd d b (.tup (y.map V.str))):=fun c u e=>by
   by_cases a:c=b
   ·subst a;have:=sub _ _ e;rw [t.1] at this;cases this;exact aS
   ·rw [aV a];exact e
  refine ⟨upd d b (.tup (y.map V.str)),st.trans ⟨.refl _,same,fun c u e=>?_,fun c u e n z=>?_⟩,.cons (.tuple aS (vZ y)) (r.same same)⟩
  ·by_cases a:c=b
   ·subst a;rw [aS] at e;cases e;exact t.1
   ·rw [aV a] at e;exact sub _ _ e
  ·by_cases a:c=b
   ·subst a;rw [t.1] at e;cases e;cases n
   ·rw [aV a];exact z
 |[],_::_,_,t,_=>t.elim
 |_::_,[],_,t,_=>t.elim
theorem L6 (s:dD Hs H):∀ {a:List aj}{xs:List (List Str)},CJ Hs a xs->CJ H a xs
 |[],[],_=>trivial
 |_::_,_::_,t=>⟨s _ _ t.1,L6 s t.2⟩
 |[],_::_,t=>t.elim
 |_::_,[],t=>t.elim
theorem L7:∀ {a:List aj}{xs:List (List Str)},CJ H a xs->a.length=xs.length
 |[],[],_=>rfl
 |_::_,_::_,t=>congrArg (· + 1) (L7 t.2)
 |[],_::_,t=>t.elim
 |_::_,[],t=>t.elim
theorem Gq:∀ {k:List eC}{x:List Str},k.map kD=x.map aU->k=x.map im
 |[],[],_=>rfl
 |.inr a::k,x::xs,h=>by
  simp only [ax,xg] at h;obtain ⟨b,c⟩:=h;cases b;rw [Gq c];rfl
 |.inl _::_,_::_,h=>by
  simp only [ax,xg] at h;cases h.1
 |[],_::_,h=>by cases h
 |_::_,[],h=>by cases h
theorem Am : ∀ {kvs:List (List eC×V)}{ds:List (D×D)}{xs:List (List Str)},RDt K H kvs ds->ds.map (·.1)=xs.map uk->kvs.map (·.1)=xs.map fun x=>x.map im
 |_,_,[],.nil,_=>rfl
 |_,_,x::xs,.cons h t,e=>by
  rw [ax,ax] at e;obtain ⟨a,b⟩:=zv e;rw [ax,ax,Am t b];have a:tD _=uk x:=a;unfold tD uk at a;injection a with a;rw [Gq a]
 |_,_,_::_,.nil,e=>by cases e
 |_,_,[],.cons _ _,e=>by cases e
theorem qz (O:X.calm=true) (w:X.A.units+64<gM):Mm X (.builtin "sorted") (jn jY):=by
 have w:X.A.units+2<gM:=by omega
 refine sy (fun d c n=>?_) fun g s z H x u Q Hs d d' I G sub y b q=>?_
 ·unfold jY nz;split<;>(try split)<;>(try split)<;>exact fun h=>by cases h
 ·have fin:∀ {f:List (List Str)}{l:aj}{bs:List aj},H l=none->CJ H bs (jj f)->Q (.ref l) (upd H l (.lst (bs.map V.ref)))\/d'≠.list ((jj f).map uk):=fun {f l bs} j tb=>by
   by_cases e:d'=.list ((jj f).map uk)
   ·subst e;obtain ⟨p,st,r⟩:=uU (K:=X.K) tb sub;have E:cX H p (upd H l (.lst (bs.map V.ref))) (upd p l (.lst (bs.map V.ref))):=.new st.sub j;exact .inl (q _ _ _ (st.trans E) (.list (.inl (.of aS)) (r.same E.sh)))
   ·exact .inr e
  unfold jY at b;split at b
  ·split at b
   ·rename_i f v
    unfold nz at b;split at b
    ·rename_i m
     cases b;obtain ⟨a,T,rfl,M,L⟩:=y.list sub;rw [oA v] at L;obtain ⟨S,rfl,B⟩:=Gp L;exact Ak w g s z H _ _ Q I (.cons G .nil) ⟨a,S,f,rfl,M,L6 sub B,m.1,by rw [L7 B];exact m.2,fun l bs j _ tb=>(fin j tb).resolve_right fun h=>h rfl⟩
    ·cases b
   ·cases b
  ·split at b
   ·rename_i f v
    unfold nz at b;split at b
    ·rename_i m
     cases b;obtain ⟨a,N,P⟩:=y.dict sub;subst N;rcases P with ⟨kvs,t,i⟩|⟨kvs,t,hn,i⟩|⟨o,kvs,es,he,t,hn,i⟩
     ·generalize b:((.none,.none)::_:List (D×D))=d0 at i;cases i with
      |nil=>cases b
      | @cons k _ _ _ _ _ _=>cases k<;>cases b
     ·generalize b:((.none,.none)::_:List (D×D))=d0 at i;cases i<;>cases b
     ·cases he;exact Al O w g s z H _ _ Q I (.cons G .nil) ⟨a,o,kvs,f,rfl,t,Am i (oA v),m.1,m.2,fun l bs j tb=>(fin j tb).resolve_right fun h=>h rfl⟩
    ·cases b
   ·cases b
  ·cases b
end J
namespace L2
open PySem PySem.Spec PyProof.Rows PySem.W
theorem Ed (T:X.calm=true):jF X (.type "list") (fun xs H Q=>∃ p o kvs f,xs=[.ref p]/\H p=some (.frz o (.dT kvs))/\kvs.map (·.1)=f.map (fun x=>x.map im)/\f.length<=64/\∀ l bs,H l=none->CJ H bs f->Q (.ref l) (upd H l (.lst (bs.map V.ref)))):=by
 intro B s σ H xs us Q I r h;obtain ⟨p,o,kvs,f,rfl,U,L,hz,q⟩:=h;obtain ⟨u,rfl,N⟩:=kM r;cases N;obtain ⟨y,g1,O,es,ep,g2,g,g4⟩:=sH I.hok U;have E:kvs.length=f.length:=by simpa using congrArg jC L
 obtain ⟨d,A,ta⟩:=Aj (P:=X.prog) (w:=X.w) (es:=es) (H:=H) (l:=es.toList) (by rw [au];exact g) L fun i k v Y=>by
  obtain ⟨en,b,m,z⟩:=g4 i k v Y;exact ⟨en,b,by rw [aL];exact m,z⟩
 refine kdl_call (L5 y O g2) (I.ok.hd T) g1 (by rw [g,E,ik];omega) fun h' M a c kp n G=>?_;have S:a.toList=d.map bf:=by
  rw [<- A];apply xS;intro j;rw [aL,aF,aL];by_cases K:j<a.size
  ·obtain ⟨e,m,z⟩:=G.2 j a[j] (bz K);rw [m,bz K,z];rfl
  ·rw [cB (by omega),cB (by rw [<- G.1];omega)];rfl
 have la:d.length=f.length:=by
  have:=congrArg jC A;rw [ah,ah,au,g,E] at this;exact this.symm
 have t:de X.prog X.w (upd H s.heap.objs.size (.lst (d.map V.ref))) h' s.heap.objs.size (.lst (d.map V.ref)) :=
  ⟨by rw [ah,la,ik];omega,d.map bf,c,xx d,by rw [<- S];exact n⟩
 exact ⟨.ref s.heap.objs.size,_,I.laid (t':=M) kp (ap _) t,rfl,q _ d (I.hok.fresh (ap _)) ta⟩
end L2
namespace J
open PySem L2
def CK:D->R D
 |.dict ((.none,.none)::ds)=>match qx (ds.map (·.1)) with
  |some a=>if a.length<=64 then .ok (.list (a.map uk)) else .no
  |none=>.no
 |_=>.no
theorem Qu (y:X.calm=true):Mm X (.type "list") (jn CK):=by
 refine sy (fun d c n=>?_) fun f s z H x u Q Hs d d' I E sub m b q=>?_
 ·unfold CK;split<;>(try split)<;>(try split)<;>exact fun h=>by cases h
 ·unfold CK at b;split at b
  ·split at b
   ·rename_i A p
    split at b
    ·rename_i w
     cases b;obtain ⟨a,t,B⟩:=m.dict sub;subst t;rcases B with ⟨kvs,i,e⟩|⟨kvs,i,hn,e⟩|⟨o,kvs,es,he,i,hn,e⟩
     ·generalize b:((.none,.none)::_:List (D×D))=d0 at e;cases e with
      |nil=>cases b
      | @cons k _ _ _ _ _ _=>cases k<;>cases b
     ·generalize b:((.none,.none)::_:List (D×D))=d0 at e;cases e<;>cases b
     ·cases he;refine Ed y f s z H _ _ Q I (.cons E .nil) ⟨a,o,kvs,A,rfl,i,Am e (oA p),w,fun l bs v tb=>?_⟩;obtain ⟨g,st,r⟩:=uU (K:=X.K) tb sub;have j:cX H g (upd H l (.lst (bs.map V.ref))) (upd g l (.lst (bs.map V.ref))):=.new st.sub v;exact q _ _ _ (st.trans j) (.list (.inl (.of aS)) (r.same j.sh))
    ·cases b
   ·cases b
  ·cases b
end J
namespace J
open PySem PySem.Spec PyProof.Rows L2
end J
namespace L2
open PySem PySem.Spec PyProof.Rows
end L2
namespace J
open PySem L2
end J
namespace Z
open PySem L2 J
def RA (y:Str):Option Nat:=if y="NoState" then some 1 else if y="NoBook" then some 0 else if y="NoNumber" then some 8 else none
def kX:aI->R Fl:=(dE (FH (cr (af (fJ 1 [1] (m9 (rB 0)) kT (g2 (rB 0) (rB 1) (FJ false))) aQ) (jn (hJ fun bs=>bs.any id)))))
def gV:List D->R D:=gz 2 kX
def tO:aI->R Fl:=(dE (cr (af (fJ 1 [1] (m9 (rB 0)) (i3 (g2 (rB 0) (rB 1) (FJ true))) (rS 0)) aQ) (jn iR)))
def tP:List D->R D:=gz 2 tO
def wo:aI->R Fl:=(dE (cr (af (mf (Q7 (qv (rB 0)) (qv (rB 1)))) aQ) (jn iR)))
def wp:List D->R D:=gz 2 wo
def tQ:aI->R Fl:=(bc (g9 (OX (nZ (i3 (Bx (rB 0) "str"))) (nZ (i3 (sv (kI 1) (cr (af (rB 0) aQ) (jn mI)) (kI 6) P3 P3)))) (dE (kB false)) (fun ρ=>.ok (.nx ρ))) (dE (cr (af (fJ 1 [] (m9 (rB 0)) kT (sv (fun _=>.ok (.str "a")) (rB 0) (fun _=>.ok (.str "z")) P3 P3)) aQ) (jn (hJ fun bs=>bs.all id)))))
def pY:List D->R D:=gz 1 tQ
def iB:aI->R Fl:=(bc (g9 (OX (nZ (i3 (Bx (rB 0) "tuple"))) (nZ (i3 (cr (af (fJ 1 [] (m9 (rB 0)) kT (fH 1 pY (af (rS 0) aQ))) aQ) (jn (hJ fun bs=>bs.all id)))))) (dE (kB false)) (fun ρ=>.ok (.nx ρ))) (dE (cr (af (fJ 2 [] (SW (af (rS 0) (af (UI (rB 0) (SM (kI 1)) Xc) aQ))) kT (g2 (rB 0) (rB 1) Bv)) aQ) (jn (hJ fun bs=>bs.all id)))))
def gm:List D->R D:=gz 1 iB
def oB:aI->R Fl:=(dE (zU (fH 1 gm (af (rS 1) aQ)) (cr (af (fJ 1 [0] (m9 (rB 1)) kT (g2 (rB 0) (rB 1) (FJ false))) aQ) (jn (hJ fun bs=>bs.all id)))))
def kn:List D->R D:=gz 2 oB
def qA:aI->R Fl:=(bc (g9 (OX (nZ (i3 (Bx (rB 0) "int"))) (i3 (Bx (rB 0) "bool"))) (dE (kB false)) (fun ρ=>.ok (.nx ρ))) (dE (sv (rB 1) (rB 0) (rB 2) P3 P3)))
def jk:List D->R D:=gz 3 qA
def oC:aI->R Fl:=(bc (g9 (OX (nZ (i3 (Bx (rB 1) "tuple"))) (i3 (g2 (cr (af (rB 1) aQ) (jn mI)) (kI 6) (rA true)))) (dE (kB false)) (fun ρ=>.ok (.nx ρ))) (bc (DP (rS 1) (mP 6 (cR (c6 2) (cR (c6 3) (cR (c6 4) (cR (c6 5) (cR (c6 6) (cR (c6 7) n_)))))))) (bc (g9 (OX (nZ (i3 (fH 1 pY (af (rS 2) aQ)))) (nZ (i3 (fH 3 jk (af (rS 7) (af (kI 0) (af (kI 9) aQ))))))) (dE (kB false)) (fun ρ=>.ok (.nx ρ))) (bc (g9 (nZ (i3 (cr (af (fJ 1 [0] (m9 (fh (af (rS 3) (af (rS 4) (af (rS 5) (af (rS 6) aQ)))) .tuple)) kT (fH 2 kn (af (rS 1) (af (rS 0) aQ)))) aQ) (jn (hJ fun bs=>bs.all id))))) (dE (kB false)) (fun ρ=>.ok (.nx ρ))) (dE (zU (fH 2 gV (af (rS 3) (af (rS 4) aQ))) (fH 2 gV (af (rS 5) (af (rS 6) aQ)))))))))
def oE:List D->R D:=gz 8 oC
def tR:aI->R Fl:=(bc (g9 (OX (nZ (i3 (Bx (rB 0) "tuple"))) (i3 (g2 (cr (af (rB 0) aQ) (jn mI)) (kI 2) (rA true)))) (dE (kB false)) (fun ρ=>.ok (.nx ρ))) (bc (DP (rS 0) (mP 2 (cR (c6 1) (cR (c6 2) n_)))) (bc (g9 (OX (nZ (i3 (fH 1 gm (af (rS 1) aQ)))) (i3 (g2 (cr (af (rB 1) aQ) (jn mI)) (kI 6) Xb))) (dE (kB false)) (fun ρ=>.ok (.nx ρ))) (bc (g9 (OX (nZ (i3 (Bx (rB 2) "tuple"))) (i3 (g2 (cr (af (rB 2) aQ) (jn mI)) (kI 6) Xb))) (dE (kB false)) (fun ρ=>.ok (.nx ρ))) (bc (g9 (nZ (i3 (cr (af (fJ 1 [1] (m9 (rB 2)) kT (fH 2 oE (af (rS 1) (af (rS 0) aQ)))) aQ) (jn (hJ fun bs=>bs.all id))))) (dE (kB false)) (fun ρ=>.ok (.nx ρ))) (dE (g2 (we (xu 1 [] (m9 (rB 2)) kT (g2 (rB 0) (kI 0) bj))) (cr (af (rB 2) aQ) (jn mI)) (rA false))))))))
def tS:List D->R D:=gz 3 tR
def lR:aI->R Fl:=(g9 (nZ (i3 (fH 2 kn (af (g2 (rB 0) (kI 0) bj) (af (rS 1) aQ))))) (sD "NoState" (af (fun _=>.ok (.str "a state is a rising tuple of the book's facts, none twice")) aQ)) (fun ρ=>.ok (.nx ρ)))
def lS:List D->R D:=gz 2 lR
def tT:aI->R Fl:=(bc (DP (rS 1) (mP 2 (cR (c6 2) (cR (c6 3) n_)))) (dE (zU (cr (af (fJ 1 [0] (m9 (rB 2)) kT (g2 (rB 0) (rB 1) (FJ false))) aQ) (jn (hJ fun bs=>bs.all id))) (fH 2 gV (af (rS 3) (af (rS 0) aQ))))))
def tU:List D->R D:=gz 4 tT
def oF:aI->R Fl:=(dE (fH 2 tU (af (rS 1) (af (fh (af (g2 (rB 0) (kI 1) bj) (af (g2 (rB 0) (kI 2) bj) aQ)) .tuple) aQ))))
def oG:List D->R D:=gz 2 oF
def kY:aI->R Fl:=(bc (Q8 2 3 (af (g2 (rB 0) (kI 3) bj) (af (g2 (rB 0) (kI 4) bj) aQ))) (dE (fH 2 wp (af (fH 2 tP (af (rS 1) (af (rS 3) aQ))) (af (rS 2) aQ)))))
def kZ:List D->R D:=gz 4 kY
def tV:aI->R Fl:=(bc (g9 (nZ (i3 (fH 1 tS (af (rS 0) aQ)))) (sD "NoBook" (af (fun _=>.ok (.str "a book is a tuple of facts and errands, each as the document tells")) aQ)) (fun ρ=>.ok (.nx ρ))) (dE (rS 0)))
def tW:List D->R D:=gz 1 tV
def lT:aI->R Fl:=(bc (yb (fH 1 tW (af (rS 0) aQ))) (yb (fH 2 lS (af (rS 0) (af (rS 1) aQ)))))
def jU:List D->R D:=gz 2 lT
def mR:aI->R Fl:=(dE (fJ 1 [1] (m9 (g2 (rB 0) (kI 1) bj)) (i3 (fH 2 oG (af (rS 0) (af (rS 1) aQ)))) (fh (af (rS 0) (af (fH 2 kZ (af (rS 0) (af (rS 1) aQ))) aQ)) .tuple)))
def k_:List D->R D:=gz 2 mR
def mS:aI->R Fl:=(bc (gd 2 (Vc (rS 1) (fh aQ .list))) (bc (gd 3 (fh (af (rS 1) aQ) .list)) (bc (jK (Ea (rB 3)) (bc (gd 4 (fh aQ .list)) (bc (wa 3 (c6 5) (pp (m9 (fH 2 k_ (af (rS 0) (af (rS 5) aQ)))) (mP 2 (cR (c6 6) (cR (c6 7) n_))) (g9 (i3 (g2 (rB 7) (rB 2) (inT true))) (bc (uy 2 (rS 7) (g2 (g2 (rB 2) (rB 5) Ge) (fh (af (g2 (rB 6) (kI 0) bj) aQ) .list) eB)) (qu 4 (rS 7))) (fun ρ=>.ok (.nx ρ))))) (UN 4 (gS 3 (rS 4))))) 100000) (Wz 2 (dE (rS 2))))))
def iC:List D->R D:=gz 8 mS
def l5:aI->R Fl:=(g9 (nZ (i3 (fH 3 jk (af (rS 0) (af (kI 0) (af (kI 64) aQ)))))) (sD "NoNumber" (af (fun _=>.ok (.str "it is no whole number from 0 to 64")) aQ)) (fun ρ=>.ok (.nx ρ)))
def ju:List D->R D:=gz 1 l5
def tX:aI->R Fl:=(bc (yb (fH 2 jU (af (rS 0) (af (rS 1) aQ)))) (dE (cr (af (fH 2 iC (af (rS 0) (af (rS 1) aQ))) aQ) (jn jY))))
def pZ:List D->R D:=gz 2 tX
def sJ:aI->R Fl:=(bc (yb (fH 2 jU (af (rS 0) (af (rS 1) aQ)))) (bc (yb (fH 1 ju (af (rS 2) aQ))) (bc (gS 3 (fH 2 iC (af (rS 0) (af (rS 1) aQ)))) (dE (cr (af (fJ 1 [3,2] (MB (rB 3)) (i3 (g2 (cr (af (g2 (rB 1) (rB 0) Ge) aQ) (jn mI)) (rB 2) P3)) (rS 0)) aQ) (jn jY))))))
def l7:List D->R D:=gz 4 sJ
def lU:aI->R Fl:=(bc (g9 (i3 (g2 (rB 1) (cr (af (rB 0) aQ) (jn mI)) Bv)) (dE (g2 (rB 0) (rB 1) bj)) (fun ρ=>.ok (.nx ρ))) (bc (g9 (i3 (g2 (rB 0) (fh aQ .list) (rA false))) (dE (kI 0)) (fun ρ=>.ok (.nx ρ))) (dE (g2 (g2 (g2 (rB 0) (g2 (rB 1) (cr (af (rB 0) aQ) (jn mI)) Mk) bj) (kI 31) yF) (rB 1) eB))))
def lV:List D->R D:=gz 2 lU
def oH:aI->R Fl:=(bc (gS 3 (g2 (g2 (g2 (g2 (fH 2 lV (af (rS 0) (af (rS 1) aQ))) (g2 (kI 7919) (rB 1) yF) eB) (kI 1) eB) (kI 48271) yF) (kI 2147483647) Mk)) (dE (g2 (g2 (g2 (g2 (g2 (rB 3) (rB 3) yF) (g2 (kI 7) (rB 3) yF) eB) (rB 1) eB) (kI 2147483629) Mk) (rB 2) Mk)))
def bv:List D->R D:=gz 4 oH
def qB:aI->R Fl:=(bc (gS 2 (fun _=>.ok (.str ""))) (bc (pp (zY (af (g2 (fh (af (kI 1) (af (kI 2) (af (kI 3) (af (kI 6) (af (kI 1) (af (kI 4) aQ)))))) .list) (fH 3 bv (af (rS 0) (af (rS 1) (af (kI 6) aQ)))) bj) aQ)) (c6 3) (gS 2 (g2 (rB 2) (g2 (fun _=>.ok (.str "abcdefghijklmnopqrstuvwxyz")) (fH 3 bv (af (rS 0) (af (g2 (g2 (rB 1) (kI 1) eB) (rB 3) eB) (af (kI 26) aQ)))) bj) eB))) (dE (rS 2))))
def lG:List D->R D:=gz 4 qB
def oJ:aI->R Fl:=(bc (gd 3 (fun _=>.ok (.dict []))) (bc (pp (zY (af (fH 3 bv (af (rS 0) (af (rS 1) (af (g2 (rB 2) (kI 1) eB) aQ)))) aQ)) (c6 4) (DW 3 (fH 2 lG (af (rS 0) (af (g2 (g2 (rB 1) (kI 1) eB) (g2 (kI 8) (rB 4) yF) eB) aQ))) (kB true))) (dE (cr (af (cr (af (cr (af (rB 3) aQ) (jn lQ)) aQ) (jn tK)) aQ) (jn iR)))))
def oK:List D->R D:=gz 5 oJ
def qC:aI->R Fl:=(dE (cr (af (fJ 2 [0,1,3] (IU (af (rS 2) aQ)) (i3 (g2 (fH 3 bv (af (rS 2) (af (g2 (rB 3) (rB 0) eB) (af (kI 12) aQ)))) (rB 4) Bv)) (rS 1)) aQ) (jn iR)))
def qD:List D->R D:=gz 4 qC
def qF:aI->R Fl:=(bc (gS 4 (g2 (rB 2) (fH 3 bv (af (rS 0) (af (g2 (rB 1) (kI 10) eB) (af (cr (af (rB 2) aQ) (jn mI)) aQ)))) bj)) (bc (gS 5 (g2 (rB 2) (fH 3 bv (af (rS 0) (af (g2 (rB 1) (kI 11) eB) (af (cr (af (rB 2) aQ) (jn mI)) aQ)))) bj)) (bc (gS 6 (g2 (rB 2) (fH 3 bv (af (rS 0) (af (g2 (rB 1) (kI 12) eB) (af (cr (af (rB 2) aQ) (jn mI)) aQ)))) bj)) (bc (gS 7 (UI (fh (af (rS 4) (af (rS 5) aQ)) .list) Xc (SM (g2 (kI 1) (g2 (fH 3 bv (af (rS 0) (af (g2 (rB 1) (kI 13) eB) (af (kI 3) aQ)))) (kI 2) P0) eB)))) (bc (gd 8 (fJ 1 [7,0,1] (m9 (fh (af (rS 6) aQ) .list)) (DI (i3 (g2 (rB 0) (rB 1) (FJ true))) (i3 (g2 (fH 3 bv (af (rS 2) (af (g2 (rB 3) (kI 14) eB) (af (kI 4) aQ)))) (kI 0) (rA false)))) (rS 0))) (bc (gd 9 (fJ 1 [6,0,1] (m9 (fh (af (rS 4) aQ) .list)) (DI (i3 (g2 (rB 0) (rB 1) (rA true))) (i3 (g2 (fH 3 bv (af (rS 2) (af (g2 (rB 3) (kI 15) eB) (af (kI 3) aQ)))) (kI 0) (rA false)))) (rS 0))) (bc (UN 8 (UN 9 (gd 10 (fJ 1 [] (m9 (fh (af (rS 7) (af (rS 8) (af (fh (af (rS 6) aQ) .list) (af (rS 9) aQ)))) .tuple)) kT (cr (af (mf (qv (rB 0))) aQ) (jn iR)))))) (dE (fh (af (rS 3) (af (g2 (rB 10) (kI 0) bj) (af (g2 (rB 10) (kI 1) bj) (af (g2 (rB 10) (kI 2) bj) (af (g2 (rB 10) (kI 3) bj) (af (fH 3 bv (af (rS 0) (af (rS 1) (af (kI 5) aQ)))) aQ)))))) .tuple)))))))))
def qG:List D->R D:=gz 11 qF
def jv:aI->R Fl:=(bc (g9 (DI (i3 (g2 (rB 2) (fh aQ .tuple) (rA true))) (i3 (g2 (fH 3 bv (af (rS 0) (af (kI 97) (af (kI 2) aQ)))) (kI 0) (rA false)))) (dE (fH 4 qG (af (rS 0) (af (rS 1) (af (rS 2) (af (rS 3) aQ)))))) (fun ρ=>.ok (.nx ρ))) (bc (T3 4) (bc (pp (IU (af (rS 2) aQ)) (mP 2 (cR (c6 5) (cR (c6 6) n_))) (bc (gS 7 (fH 3 bv (af (rS 0) (af (g2 (g2 (rB 1) (kI 10) eB) (rB 5) eB) (af (kI 8) aQ))))) (bc (g9 (i3 (g2 (rB 7) (kI 3) Bv)) (pU 4 (g2 (fh (af (kI 0) (af (kI 0) (af (kI 1) aQ))) .list) (rB 7) bj) (rS 6)) (fun ρ=>.ok (.nx ρ))) (bc (gS 7 (fH 3 bv (af (rS 0) (af (g2 (g2 (rB 1) (kI 20) eB) (rB 5) eB) (af (kI 8) aQ))))) (g9 (i3 (g2 (rB 7) (kI 4) Bv)) (pU 4 (g2 (fh (af (kI 2) (af (kI 2) (af (kI 3) (af (kI 3) aQ)))) .list) (rB 7) bj) (rS 6)) (fun ρ=>.ok (.nx ρ))))))) (bc (fun ρ=>(gd 8 (fJ 1 [] (m9 (rB 4)) kT (cr (af (rB 0) aQ) (jn iR)))) (dS ρ)) (dE (fh (af (rS 3) (af (g2 (rB 8) (kI 0) bj) (af (g2 (rB 8) (kI 1) bj) (af (g2 (rB 8) (kI 2) bj) (af (g2 (rB 8) (kI 3) bj) (af (fH 3 bv (af (rS 0) (af (rS 1) (af (kI 5) aQ)))) aQ)))))) .tuple))))))
def jw:List D->R D:=gz 9 jv
def nA:aI->R Fl:=(bc (gS 4 (fH 3 oK (af (rS 0) (af (rS 1) (af (rS 2) aQ))))) (bc (gd 5 (fun _=>.ok (.dict []))) (bc (pp (zY (af (fH 3 bv (af (rS 0) (af (g2 (rB 1) (kI 60) eB) (af (g2 (rB 3) (kI 1) eB) aQ)))) aQ)) (c6 6) (bc (gS 7 (fH 2 lG (af (rS 0) (af (g2 (g2 (rB 1) (kI 70) eB) (g2 (kI 40) (rB 6) yF) eB) aQ)))) (DW 5 (rS 7) (fH 4 jw (af (rS 0) (af (g2 (g2 (rB 1) (kI 80) eB) (g2 (kI 40) (rB 6) yF) eB) (af (rS 4) (af (rS 7) aQ)))))))) (bc (gS 8 (cr (af (rB 5) aQ) (jn lQ))) (bc (gS 9 (fH 3 bv (af (rS 0) (af (g2 (rB 1) (kI 61) eB) (af (g2 (cr (af (rB 8) aQ) (jn mI)) (kI 1) eB) aQ))))) (dE (fh (af (rS 4) (af (cr (af (fJ 1 [5] (m9 (g2 (UI (rB 8) (SM (rS 9)) Xc) (UI (rB 8) Xc (SM (rS 9))) eB)) kT (g2 (rB 1) (rB 0) bj)) aQ) (jn iR)) aQ)) .tuple)))))))
def nC:List D->R D:=gz 10 nA
def nD:aI->R Fl:=(bc (gd 3 (fh aQ .list)) (bc (gd 4 (fh aQ .list)) (bc (pp (IU (af (rS 2) aQ)) (mP 2 (cR (c6 5) (cR (c6 6) n_))) (bc (gS 7 (fH 3 bv (af (rS 0) (af (g2 (rB 1) (rB 5) eB) (af (kI 8) aQ))))) (g9 (i3 (g2 (rB 7) (kI 2) Bv)) (qu 3 (rS 6)) (g9 (i3 (g2 (rB 7) (kI 2) (rA false))) (qu 4 (rS 6)) (fun ρ=>.ok (.nx ρ)))))) (dE (fh (af (cr (af (rB 3) aQ) (jn iR)) (af (cr (af (rB 4) aQ) (jn iR)) aQ)) .tuple)))))
def uV:List D->R D:=gz 8 nD
def qH:aI->R Fl:=(bc (gS 3 (fH 4 nC (af (rS 0) (af (kI 100) (af (rS 1) (af (rS 2) aQ)))))) (bc (gS 4 (fH 4 qD (af (rS 0) (af (kI 20) (af (g2 (rB 3) (kI 0) bj) (af (g2 (fh (af (kI 2) (af (kI 4) aQ)) .list) (fH 3 bv (af (rS 0) (af (kI 97) (af (kI 2) aQ)))) bj) aQ)))))) (dE (fh (af (rS 3) (af (rS 4) (af (fH 3 uV (af (rS 0) (af (kI 30) (af (g2 (rB 3) (kI 0) bj) aQ)))) aQ))) .tuple))))
def qI:List D->R D:=gz 5 qH
def qJ:aI->R Fl:=(dE (zU (cr (af (fJ 1 [0] (m9 (g2 (rB 1) (kI 0) bj)) kT (g2 (rB 0) (rB 1) (FJ false))) aQ) (jn (hJ fun bs=>bs.all id))) (FH (cr (af (fJ 1 [0] (m9 (g2 (rB 1) (kI 1) bj)) kT (g2 (rB 0) (rB 1) (FJ false))) aQ) (jn (hJ fun bs=>bs.any id))))))
def qK:List D->R D:=gz 2 qJ
def qL:aI->R Fl:=(bc (g9 (nZ (i3 (fH 2 qK (af (rS 1) (af (UI (rB 0) (SM (kI 1)) (SM (kI 3))) aQ))))) (dE kN) (fun ρ=>.ok (.nx ρ))) (bc (gd 2 (fJ 1 [0] (m9 (rB 1)) (i3 (g2 (rB 0) (g2 (rB 1) (kI 4) bj) (FJ true))) (rS 0))) (dE (cr (af (mf (qv (g2 (rB 2) (cr (af (g2 (rB 0) (kI 3) bj) aQ) (jn lQ)) eB))) aQ) (jn iR)))))
def eE:List D->R D:=gz 3 qL
def mT:aI->R Fl:=(bc (gd 2 (Vc (rS 1) (kI 0))) (bc (gd 3 (fh (af (rS 1) aQ) .list)) (bc (gS 4 (kI 0)) (bc (jK (i3 (g2 (rB 4) (cr (af (rB 3) aQ) (jn mI)) Bv)) (bc (pp (m9 (g2 (rB 0) (kI 1) bj)) (c6 5) (bc (gS 6 (fH 2 eE (af (rS 5) (af (g2 (rB 3) (rB 4) bj) aQ)))) (g9 (DI (i3 (g2 (rB 6) kN (EV true))) (i3 (g2 (rB 6) (rB 2) (inT true)))) (bc (uy 2 (rS 6) (g2 (g2 (rB 2) (g2 (rB 3) (rB 4) bj) Ge) (kI 1) eB)) (qu 3 (rS 6))) (fun ρ=>.ok (.nx ρ))))) (gS 4 (g2 (rB 4) (kI 1) eB))) 100000) (Wz 2 (dE (rS 2)))))))
def mU:List D->R D:=gz 7 mT
def qM:aI->R Fl:=(bc (gd 5 (fh aQ .list)) (bc (pp (zY (af (rB 4) aQ)) (c6 6) (bc (gd 7 (fJ 1 [3] (m9 (g2 (rB 2) (kI 1) bj)) (i3 (g2 (fH 2 eE (af (rS 0) (af (rS 1) aQ))) kN (EV true))) (rS 0))) (bc (g9 (i3 (g2 (rB 7) (fh aQ .list) (rA false))) (dE (rS 5)) (fun ρ=>.ok (.nx ρ))) (bc (gS 8 (g2 (rB 7) (fH 3 bv (af (rS 0) (af (g2 (rB 1) (rB 6) eB) (af (cr (af (rB 7) aQ) (jn mI)) aQ)))) bj)) (bc (qu 5 (g2 (rB 8) (kI 0) bj)) (gS 3 (fH 2 eE (af (rS 8) (af (rS 3) aQ))))))))) (dE (rS 5))))
def qN:List D->R D:=gz 9 qM
def mV:aI->R Fl:=(bc (gd 3 (yZ (fJ 1 [] (m9 (g2 (rB 0) (kI 1) bj)) kT (fh (af (g2 (rB 0) (kI 0) bj) (af (rS 0) aQ)) .tuple)))) (bc (gd 4 (fh (af (rS 1) aQ) .list)) (bc (pp (KJ (af (rS 2) aQ)) (mP 2 (cR (c6 5) (cR (c6 6) n_))) (bc (gS 7 (fH 2 eE (af (g2 (rB 3) (rB 6) bj) (af (g2 (rB 4) (DY (kI 1)) bj) aQ)))) (bc (g9 (i3 (g2 (rB 7) kN (EV false))) (dE (rS 5)) (fun ρ=>.ok (.nx ρ))) (qu 4 (rS 7))))) (dE (rS 4)))))
def iD:List D->R D:=gz 8 mV
def L8:aI->R Fl:=(bc (DP (fH 3 qI (af (rS 0) (af (kI 6) (af (kI 6) aQ)))) (mP 3 (cR (c6 1) (cR (c6 2) (cR (c6 3) n_))))) (bc (gS 4 (fH 2 mU (af (rS 1) (af (rS 2) aQ)))) (bc (g9 (i3 (g2 (fH 2 pZ (af (rS 1) (af (rS 2) aQ))) (cr (af (cr (af (rB 4) aQ) (jn CK)) aQ) (jn jY)) (rA true))) (dE (kB false)) (fun ρ=>.ok (.nx ρ))) (bc (gS 5 (fH 3 iD (af (rS 1) (af (rS 2) (af (fH 5 qN (af (rS 0) (af (kI 300) (af (rS 1) (af (rS 2) (af (kI 12) aQ)))))) aQ))))) (bc (g9 (nZ (i3 (cr (af (fJ 1 [4] (m9 (rB 5)) kT (g2 (rB 0) (rB 1) (inT false))) aQ) (jn (hJ fun bs=>bs.all id))))) (dE (kB false)) (fun ρ=>.ok (.nx ρ))) (bc (g9 (nZ (i3 (cr (af (fJ 1 [4] (m9 (fH 2 pZ (af (rS 1) (af (g2 (rB 5) (DY (kI 1)) bj) aQ)))) kT (g2 (rB 0) (rB 1) (inT false))) aQ) (jn (hJ fun bs=>bs.all id))))) (dE (kB false)) (fun ρ=>.ok (.nx ρ))) (bc (pp (m9 (fh (af (kI 0) (af (kI 1) (af (kI 2) (af (kI 3) (af (kI 64) aQ))))) .tuple)) (c6 6) (g9 (i3 (g2 (fH 3 (yc RA l7) (af (rS 1) (af (rS 2) (af (rS 6) aQ)))) (cr (af (fJ 1 [4,6] (MB (rB 4)) (i3 (g2 (g2 (rB 1) (rB 0) Ge) (rB 2) P3)) (rS 0)) aQ) (jn jY)) (rA true))) (dE (kB false)) (fun ρ=>.ok (.nx ρ)))) (dE (g2 (fH 3 (yc RA l7) (af (rS 1) (af (rS 2) (af (g2 (fh (af (DY (kI 1)) (af (kI 65) (af kN (af (kB true) (af (fun _=>.ok (.str "1")) aQ))))) .list) (fH 3 bv (af (rS 0) (af (kI 0) (af (kI 5) aQ)))) bj) aQ)))) (fh (af (fun _=>.ok (.str "refused")) (af (kI 8) aQ)) .tuple) (rA false))))))))))
def F_law:List D->R D:=gz 7 L8
end Z
section
set_option hygiene false
namespace Z
open PySem L2 J
local macro_rules | `(tactic| left) => `(tactic| simp only [YD, WA, YE, YF, YG, Ab, wf, G0, Yg, Pi, Pj, UO, Yh, Kn, G1, Ko, G3, G4, G5, Pk, Pl, Pm, Kq, Pn, Kr, Yj, UQ, UR, Po, US, Pp, UT, Ym, Pq, UU, Pr, Ks, Ps, Kt, Ku, Pt, Pu, Pw, Pz, G6, G7, UX, PB, Kv, PD, Yq, UZ, U_, PF, V1, PH, PJ, V2, V3, PK, Yu, PL, PM, V4, V5, PN, Wl, PP, V6, V7, PQ, Kw, Kx, Va, Ck, Cm, Co, PU, Yw, PX, PY, PZ, P_, Q0, Q1, Cr, Aa, Yf, eB, yF, Mk, P0, IP, Bv, P3, Xb, Ml, mI, ax, ft, aW, bU, ah, Rx, kC, LO, LP, wP, wQ, Nat.reduceSub, Nat.reduceAdd, S0, S1, Nat.sub_self, if_true, if_false, ite_true, ite_false, bA, decide_true, decide_false, cond_true, cond_false, kg, jE, ap, cG, Iq, Int.reduceLE, Int.reduceAdd, Int.reduceMul, Nat.reduceLT, Int.reduceNeg, reduceIte])
local macro_rules | `(tactic| walk_at "yy") => `(tactic| simp only [YD, WA, YE, YF, YG, Ab, wf, G0, UO, Yh, Kn, G1, Ko, G3, G4, G5, Pk, Pl, Pm, Kq, Pn, Kr, Yj, UQ, UR, Po, US, Pp, UT, Ym, Pq, UU, Pr, Ks, Ps, Kt, Ku, Pt, Pu, Pw, Pz, G6, G7, UX, PB, Kv, PD, Yq, UZ, U_, PF, V1, PH, PJ, V2, V3, PK, Yu, PL, PM, V4, V5, PN, Wl, PP, V6, V7, PQ, Kw, Kx, Va, Ck, Cm, Co, PU, Yw, PX, PY, PZ, P_, Q0, Q1, Cr, Aa, Yf, eB, mI, ax, ft, aW, bU, ah, Rx, kC, LO, LP, wP, wQ, Nat.reduceSub, Nat.reduceAdd, S0, S1, Nat.sub_self, if_true, if_false, ite_true, ite_false, bA, decide_true, decide_false, cond_true, cond_false, kg, jE, ap, cG, Iq, Int.reduceLE, Int.reduceAdd, Int.reduceMul, Nat.reduceLT, Int.reduceNeg, reduceIte])
theorem dA (h:g (bX n ds)=.ok (.rt d)):gz n g ds=.ok d:=by unfold gz;rw [h]
theorem Qv (h:g (bX n ds)=.ex c m):gz n g ds=.ex c m:=by unfold gz;rw [h]
def L9 (a:List Int) (k:Int):Int:=if k<a.length then a.getD k.toNat 0 else if a=[] then 0 else a.getD (k % a.length).toNat 0*31+k
theorem Qw (a:List Int):cz (a.map .int)=true:=by
 induction a with
 |nil=>rfl
 |cons x r b=>simp [cz,eG,b]
theorem Tu (a:List Int):bq (.list (a.map .int)) (.list [])=decide (a=[]):=by
 cases a with
 |nil=>rfl
 |cons x r=>simp [bq,fi]
theorem WJ (a:List Int):rA false (.list (a.map .int)) (.list [])=.ok (.bool (decide (a=[]))):=by
 unfold rA;have b:(fW (a.map .int)).canLay0=true:=by simp only [eG];exact Qw a
 have d:(fW []).canLay0=true:=rfl;have c:min (fW (a.map .int)).depth (fW []).depth<=60:=bL (rH _ _) (by decide);rw [b,d,decide_eq_true c,Tu];rfl
theorem WK (a:List Int) (k:Int) (c:0<=k) (d:k<a.length):ET (a.map d_) k=some (.int (a.getD k.toNat 0)):=by
 have b:k.toNat<a.length:=by omega
 have:=tw (xs:=a.map d_) (j:=k.toNat) (v:=.int (a.getD k.toNat 0)) (by rw [aF,aE b];simp [b])
 rwa [eS c] at this
theorem Qx (a:List Int) (k:Int) (c:0<=k) (b:k<a.length):bj (.list (a.map .int)) (.int k)=.ok (.int (a.getD k.toNat 0)):=by
 have e:∀ xs k,bj (.list xs) k=FO (.list xs) k:=fun _ _=>rfl;rw [e];unfold FO;simp only [WK a k c b]
theorem La (a:-(2 ^ 64)<j) (b:j<2 ^ 64):Ch i j=true:=by
 unfold Ch;simp only [kA,aY,decide_eq_true_eq];exact .inr ⟨a,b⟩
theorem tY (a:-(2 ^ 64)<i) (b:i<2 ^ 64):Ch i j=true:=by
 unfold Ch;simp only [kA,aY,decide_eq_true_eq];exact .inl ⟨a,b⟩
theorem Tv (a:List Int) (k:Int) (d:0<=k):lV [.list (a.map .int),.int k]=.ok (.int (L9 a k)):=by
 unfold lV;refine dA ?_;unfold lU bX L9;left;by_cases h:k<a.length
 ·simp only [h,decide_true,cond_true,if_true,Qx a k d h,bind_ok];left
 ·simp only [h,decide_false,cond_false,if_false];left;rw [WJ];left;by_cases b:a=[]
  ·simp only [b,decide_true,cond_true,if_true];left
  ·have c:(0:Int)<a.length:=by have:0<a.length:=List.length_pos_iff.mpr b;omega
   simp only [b,decide_false,cond_false,if_false,c,decide_true];left;simp only [b,decide_false,cond_false,if_false,c,decide_true,if_true];left;rw [Qx a _ (tm _ (by omega)) (oX _ c)];left;rw [La (by decide) (by decide)];left
def An (a:List Int) (k:Int):Int:=(L9 a k+7919*k+1)*48271 % 2147483647
def fO (a:List Int) (k m:Int):Int:=(An a k*An a k+7*An a k+k) % 2147483629 % m
theorem fP (a:List Int) (k m:Int) (h:0<m):0<=fO a k m:=tm _ (by omega)
theorem gW (a:List Int) (k m:Int) (h:0<m):fO a k m<m:=oX _ h
theorem fQ (a:List Int) (k m:Int) (c:0<=k) (b:0<m):bv [.list (a.map .int),.int k,.int m]=.ok (.int (fO a k m)):=by
 have e:0<=An a k:=tm _ (by decide);have d:An a k<2147483647:=oX _ (by decide);unfold bv;refine dA ?_;unfold oH bX;left;rw [Tv a k c];left;rw [tY (by decide) (by decide)];left;rw [La (by decide) (by decide)];left;rw [show (L9 a k+7919*k+1)*48271 % 2147483647=An a k from rfl,tY (i:=An a k) (by omega) (by omega)];left;rw [tY (i:=7) (by decide) (by decide)];left;rw [decide_eq_true b];left;rfl
theorem sK {d e:Type}{kt:D->aI->R aI}{gb:aI->R Fl} (c:d->D) (f:e->d->e) (P:List d->e->aI->Prop) (h:∀ x c7 b ρ,P (x::c7) b ρ->∃ ρ1 a,kt (c x) ρ=.ok ρ1/\gb ρ1=.ok (.nx a)/\P c7 (f b x) a) :
  ∀ (xs:List d) (b:e) (ρ:aI),P xs b ρ->∃ a,jT kt gb (xs.map c) ρ=.ok (.nx a)/\P [] (xs.foldl f b) a
 |[],b,ρ,p=>⟨ρ,rfl,p⟩
 |x::r,b,ρ,p=>by
  obtain ⟨ρ1,ρ2,i,k,l⟩:=h x r b ρ p;obtain ⟨g,m,j⟩:=sK c f P h r (f b x) ρ2 l;refine ⟨g,?_,j⟩;rw [ax];unfold jT;rw [i];simp only [k];exact m
theorem Lb {d g:Type}{kt:D->aI->R aI}{gb i:aI->R Fl}{r:R Fl} (c:d->D) (f:g->d->g) (P:List d->g->aI->Prop) {xs:List d} (b:g) {ρ:aI}
  (h:∀ x c7 b ρ,P (x::c7) b ρ->∃ ρ1 a,kt (c x) ρ=.ok ρ1/\gb ρ1=.ok (.nx a)/\P c7 (f b x) a) (j:P xs b ρ) (k:∀ a,P [] (xs.foldl f b) a->i a=r):(jT kt gb (xs.map c) ρ).bind (Mu i)=r:=by
 obtain ⟨a,e,p⟩:=sK c f P h xs b ρ j;rw [e,bind_ok,wf];exact k a p
theorem zc (n:Nat) (h:n<=1000):IT [.int (n:Int)]=.ok ((bE n).map fun (i:Nat)=>d_ (i:Int)):=by
 have e:IT [.int (n:Int)]=.ok (sB 0 (n:Int).toNat):=T9 (by omega) (by omega);rw [e];unfold sB;rw [lw];exact congrArg R.ok (il fun a _=>congrArg d_ (Int.zero_add _))
def BB (x:Str):Bool:=decide (1<=x.cps.size)&&decide (x.cps.size<=6/\x.cps.size≠5)&&x.cps.toList.all fun c=>decide (97<=c)&&decide (c<=122)
def uB (a:List Int) (k:Int):Nat:=[1,2,3,6,1,4].getD (fO a k 6).toNat 0
def Ee (a:List Int) (k:Int) (i:Nat):Nat:=97+(fO a (k+1+i) 26).toNat
def mi (a:List Int) (k:Int):Str:=⟨((bE (uB a k)).map (Ee a k)).toArray⟩
theorem Lc (a:List Int) (k:Int):1<=uB a k/\(uB a k<=6/\uB a k≠5):=by
 have c:=fP a k 6 (by decide);have b:=gW a k 6 (by decide);unfold uB;have:∀ j:_root_.Fin 6,1<=[1,2,3,6,1,4].getD j.val 0/\([1,2,3,6,1,4].getD j.val 0<=6/\[1,2,3,6,1,4].getD j.val 0≠5):=by decide
 exact this ⟨(fO a k 6).toNat,by omega⟩
theorem Tw (a:List Int) (k:Int) (i:Nat):97<=Ee a k i/\Ee a k i<=122:=by
 have c:=fP a (k+1+i) 26 (by decide);have b:=gW a (k+1+i) 26 (by decide);unfold Ee;omega
theorem Gr (a:List Int) (k:Int):BB (mi a k)=true:=by
 have ⟨h1,h2⟩:=Lc a k;unfold BB mi;simp only [aK,ah,fG,aY,decide_eq_true_eq,cy];refine ⟨⟨h1,h2⟩,fun c b=>?_⟩;obtain ⟨i,_,rfl⟩:=List.mem_map.mp b;exact Tw a k i
theorem Qy (j:Int) (d:0<=j) (g:j<26):bj (.str "abcdefghijklmnopqrstuvwxyz") (.int j)=.ok (.str ⟨#[97+j.toNat]⟩):=by
 have e:∀ x k,bj (.str x) k=FO (.str x) k:=fun _ _=>rfl;rw [e];unfold FO;have c:("abcdefghijklmnopqrstuvwxyz" : Str).cps.toList=(bE 26).map (97 + ·):=by decide +kernel
 have f:("abcdefghijklmnopqrstuvwxyz" : Str).length<=1000:=by decide +kernel
 have b:j.toNat<26:=by omega
 have a:=tw (xs:=(bE 26).map (97 + ·)) (j:=j.toNat) (v:=97+j.toNat) (by rw [aF,LJ b];rfl);rw [eS d] at a;simp only [f,if_true,c,a]
theorem Tx (j:Int) (a:0<=j) (c:j<6):bj (.list [.int 1,.int 2,.int 3,.int 6,.int 1,.int 4]) (.int j)=.ok (.int (([1,2,3,6,1,4].getD j.toNat 0:Nat):Int)):=by
 obtain ⟨n,rfl⟩:=rJ a;have b:n<6:=by omega
 match n,b with
 | 0,_=>rfl
 | 1,_=>rfl
 | 2,_=>rfl
 | 3,_=>rfl
 | 4,_=>rfl
 | 5,_=>rfl
theorem Ef (l:List Nat):∀ (b:Str),l.foldl (fun (a:Str) c=>a++⟨#[c]⟩) b=⟨(b.cps.toList++l).toArray⟩:=by
 induction l with
 |nil=>intro b;simp
 |cons c r d =>
  intro b;rw [db,d];show (⟨((b.cps++#[c]).toList++r).toArray⟩:Str)=_;simp
theorem MK:("" : Str).cps.toList=[]:=by decide +kernel
theorem Ld (b:List Int) (k:Int) (f:0<=k):lG [.list (b.map .int),.int k]=.ok (.str (mi b k)):=by
 have h:=fP b k 6 (by decide);have d:=gW b k 6 (by decide);have ⟨w1,w2⟩:=Lc b k;unfold lG;refine dA ?_;unfold qB bX;left;rw [sF (ds:=(bE (uB b k)).map fun (i:Nat)=>d_ i)]
 ·refine Lb (fun (i:Nat)=>d_ i) (fun (a:Str) i=>a++⟨#[Ee b k i]⟩) (fun c7 a ρ=>a.length+c7.length<=900/\∃ z,ρ=[.shr (.list (b.map .int)),.shr (.int k),.shr (.str a),z]) "" ?_ ⟨by rw [fG,show ("" : Str).length=0 by decide];omega,_,rfl⟩ ?_
  ·rintro i c7 a ρ ⟨j,z,rfl⟩;simp only [aW] at j;refine ⟨_,[.shr (.list (b.map .int)),.shr (.int k),.shr (.str (a++⟨#[Ee b k i]⟩)),.shr (.int i)],rfl,?_,?_,_,rfl⟩
   ·left;rw [fQ b _ 26 (by omega) (by decide)];left;rw [Qy _ (fP _ _ _ (by decide)) (gW _ _ _ (by decide))];left;have l:a.length+(⟨#[97+(fO b (k+1+i) 26).toNat]⟩:Str).length<=1000:=by
     show a.length+1<=1000;omega
    rw [if_pos l];left;rw [show 97+(fO b (k+1+i) 26).toNat=Ee b k i from rfl]
   ·show (a.cps++#[_]).size+c7.length<=900;rw [Array.size_append];show a.cps.size+1+c7.length<=900;have:a.length=a.cps.size:=rfl
    omega
  ·rintro e ⟨_,z,rfl⟩;left;have:(bE (uB b k)).foldl (fun (a:Str) i=>a++⟨#[Ee b k i]⟩) ""=mi b k:=by
    have:=Ef ((bE (uB b k)).map (Ee b k)) "";rw [ur] at this;rw [this,MK];unfold mi;rw [kC]
   rw [this]
 ·left;rw [fQ b k 6 f (by decide)];left;have c:=Tx (fO b k 6) h d;have g:[1,2,3,6,1,4].getD (fO b k 6).toNat 0=uB b k:=rfl;rw [g] at c;rw [c];left;rw [zc (uB b k) (by omega)]
def iZ (l:List (Str×D)):List (D×D):=l.map fun p=>(.str p.1,p.2)
def ul (l:List (Str×D)) (x:Str) (d:D):List (Str×D):=if l.any (fun p=>decide (p.1=x)) then l.map (fun p=>if p.1=x then (p.1,d) else p) else l++[(x,d)]
theorem wq (x y:Str):bq (.str x) (.str y)=decide (x=y):=by
 show (x==y)=_;rw [tj]
theorem Le (l:List (Str×D)) (x:Str) (d:D):uj (iZ l) (.str x) d=iZ (ul l x d):=by
 unfold uj ul iZ;rw [xU];have e:((fun a:D×D=>bq a.1 (.str x))∘fun p:Str×D=>(aU p.1,p.2))=fun p=>decide (p.1=x):=by
  funext p;exact wq p.1 x
 rw [e];split
 ·rw [bJ,bJ];apply il;intro p _;simp only [Function.comp,wq];by_cases h:p.1=x
  ·simp [h]
  ·simp [h]
 ·simp
theorem Ao (l:List (Str×D)):iH (iZ l)=true:=by
 unfold iH iZ;rw [nR,cy];intro p _;rfl
theorem Gs (l:List (Str×D)) (x:Str) (d:D):(ul l x d).length<=l.length+1:=by
 unfold ul;split<;>simp
theorem CL (l:List (Str×D)) (x:Str) (d:D):(ul l x d).map (·.1)=if x∈l.map (·.1) then l.map (·.1) else l.map (·.1)++[x]:=by
 unfold ul;have e:(l.any fun p=>decide (p.1=x))=decide (x∈l.map (·.1)):=by
  rw [iU];simp only [mn,decide_eq_true_eq,eL]
 rw [e];by_cases h:x∈l.map (·.1)
 ·rw [decide_eq_true h,if_pos rfl,if_pos h,bJ];apply il;intro p _;by_cases a:p.1=x<;>simp [a]
 ·rw [decide_eq_false h,if_neg a_,if_neg h,bd];rfl
theorem Qz {Q:Str->D->Prop}{l:List (Str×D)}{x:Str}{d:D} (h:∀ p∈l,Q p.1 p.2) (c:Q x d):∀ p∈ul l x d,Q p.1 p.2:=by
 unfold ul;split
 ·intro p a;obtain ⟨f,b,rfl⟩:=List.mem_map.mp a;by_cases e:f.1=x
  ·rw [if_pos e];rw [e];exact c
  ·rw [if_neg e];exact h f b
 ·intro p a;rcases List.mem_append.mp a with a|a
  ·exact h p a
  ·rw [List.mem_singleton.mp a];exact c
theorem ML {l:List Str}{x:Str} (h:l.Nodup):(if x∈l then l else l++[x]).Nodup:=by
 by_cases a:x∈l
 ·rw [if_pos a];exact h
 ·rw [if_neg a];exact yT h a
theorem Vh (c:ρ[i]?=some (Sl.own (.dict (iZ l)))) (f:g ρ=.ok d) (b:gk ρ=.ok (.str x)) (h:l.length<1000):DW i gk g ρ=.ok (.nx (ρ.set i (.own (.dict (iZ (ul l x d)))))):=by
 have a:(iZ l).length<1000:=by unfold iZ;rw [ah];exact h
 have e:DW i gk g ρ=(g ρ).bind fun d=>(gk ρ).bind fun k=>match pT k with
  |some _=>if (iZ l).length<1000/\iH (iZ l)=true then .ok (.nx (ρ.set i (.own (.dict (uj (iZ l) k d))))) else .no
  |none=>.no:=by
  unfold DW;simp only [c];try rfl
 rw [e,f,Aa,b,Aa];simp only [pT,if_pos (vt a (Ao l)),Le]
theorem Gu (l:List (Str×D)):lQ (.dict (iZ l))=.ok (.list ((l.map (·.1)).map .str)):=by
 have e:∀ kvs,lQ (.dict kvs)=if iH kvs=true then .ok (.list (kvs.map (·.1))) else .no:=fun _=>rfl
 rw [e,if_pos (Ao l)];unfold iZ;rw [bJ,bJ];rfl
theorem sorted_strs (a:List Str) (h:a.length<64):tK (.list (a.map .str))=.ok (.list ((kP a).map .str)):=by
 have e:∀ ds,tK (.list ds)=match fD ds with
  |some a=>if a.length<64 then .ok (.list ((kP a).map .str)) else .no
  |none=>.no:=fun _=>rfl
 rw [e,strsOf_map];simp only [if_pos h]
theorem hU (ds:List D):iR (.list ds)=.ok (.tuple ds):=id rfl
def Eg (a:List Int) (k:Int) (n:Nat):List Str:=(bE n).map fun (i:Nat)=>mi a (k+1+8*(i:Int))
def Eh (a:List Int) (k m:Int):List Str:=kP (dJ [] (Eg a k (fO a k (m+1)).toNat))
structure QA (fs:List Str) (n:Nat):Prop where
 ok:∀ x∈fs,BB x=true
 up:fs.Pairwise fun a b=>rz a b=true
 len:fs.length<=n
theorem QB {c:Type}{a b:List c} (h:a.Perm b):a.length=b.length:=h.length_eq
theorem J8 (b:List Int) (k m:Int) (e:0<=m):QA (Eh b k m) m.toNat:=by
 have f:=fP b k (m+1) (by omega);have d:=gW b k (m+1) (by omega);have c:=iy (dJ [] (Eg b k (fO b k (m+1)).toNat));refine ⟨fun x a=>?_,?_,?_⟩
 ·have a:=c.mem_iff.mp a;rw [jt] at a;rcases a with a|a
  ·cases a
  ·obtain ⟨i,_,rfl⟩:=List.mem_map.mp a;exact Gr _ _
 ·exact xp (si _) (c.nodup_iff.mpr (ji _ [] gC))
 ·unfold Eh;rw [QB c];have:=gQ (Eg b k (fO b k (m+1)).toNat) [];unfold Eg at this ⊢;simp at this;omega
theorem MM (f:Nat->Str) (l:List Nat):∀ b:List (Str×D),((l.foldl (fun (a:List (Str×D)) i=>ul a (f i) (.bool true)) b).map (·.1))=dJ (b.map (·.1)) (l.map f):=by
 induction l with
 |nil=>intro b;rfl
 |cons i r c =>
  intro b;rw [db,c,ax,CL];rfl
theorem QC (b:List Int) (k m:Int) (h:0<=k) (o:0<=m) (f:m<=20):oK [.list (b.map .int),.int k,.int m]=.ok (.tuple ((Eh b k m).map .str)):=by
 have j:=fP b k (m+1) (by omega);have n:=gW b k (m+1) (by omega);unfold oK;refine dA ?_;unfold oJ bX;left;rw [sF (ds:=(bE (fO b k (m+1)).toNat).map fun (i:Nat)=>d_ i)]
 ·refine Lb (fun (i:Nat)=>d_ i) (fun (a:List (Str×D)) i=>ul a (mi b (k+1+8*(i:Int))) (.bool true)) (fun c7 a ρ=>a.length+c7.length<=60/\∃ z,ρ=[.shr (.list (b.map .int)),.shr (.int k),.shr (.int m),.own (.dict (iZ a)),z]) [] ?_ ⟨by simp;omega,_,rfl⟩ ?_
  ·rintro i c7 a ρ ⟨c,z,rfl⟩;simp only [aW] at c;refine ⟨_,[.shr (.list (b.map .int)),.shr (.int k),.shr (.int m),.own (.dict (iZ (ul a (mi b (k+1+8*(i:Int))) (.bool true)))),.shr (.int i)],rfl,?_,?_,_,rfl⟩
   ·refine (Vh (l:=a) (x:=mi b (k+1+8*(i:Int))) (d:=.bool true) rfl rfl ?_ (by omega)).trans rfl;left;rw [tY (by decide) (by decide)];left;rw [Ld b _ (by omega)]
   ·have:=Gs a (mi b (k+1+8*(i:Int))) (.bool true);omega
  ·rintro g ⟨c,z,rfl⟩;simp only [bU] at c;left;rw [Gu];left;have e:=MM (fun i=>mi b (k+1+8*(i:Int))) (bE (fO b k (m+1)).toNat) [];rw [e,sorted_strs]
   ·left;rw [hU];left;rfl
   ·rw [<- e,ah];omega
 ·left;rw [fQ b k (m+1) h (by omega)];left;have:=zc (fO b k (m+1)).toNat (by omega);rw [eS j] at this;exact this
structure iI where
 name:Str
 needs:List Str
 bars:List Str
 makes:List Str
 ends:List Str
 price:Int
abbrev aD (xs:List Str):D:=.tuple (xs.map .str)
def dh (e:iI):D:=.tuple [.str e.name,aD e.needs,aD e.bars,aD e.makes,aD e.ends,.int e.price]
structure rF (fs xs:List Str):Prop where
 up:xs.Pairwise fun a b=>rz a b=true
 mem:∀ x∈xs,x∈fs
structure sL (fs:List Str) (e:iI):Prop where
 name:BB e.name=true
 needs:rF fs e.needs
 bars:rF fs e.bars
 makes:rF fs e.makes
 ends:rF fs e.ends
 nb:∀ x∈e.needs,x∉e.bars
 me:∀ x∈e.makes,x∉e.ends
 p0:0<=e.price
 p9:e.price<=9
def srt (xs:List Str):List Str:=kP (dJ [] xs)
theorem oM : x∈srt xs↔x∈xs:=by
 unfold srt;rw [(iy _).mem_iff,jt];simp
theorem J9 (xs:List Str):(srt xs).Pairwise fun a b=>rz a b=true:=xp (si _) ((iy _).nodup_iff.mpr (ji _ [] gC))
theorem zd (h:∀ x∈xs,x∈fs):rF fs (srt xs):=⟨J9 xs,fun x a=>h x (oM.mp a)⟩
theorem Ei (fs:List Str) (j:Int) (c:0<=j) (d:j<fs.length):∃ x,x∈fs/\bj (aD fs) (.int j)=.ok (.str x):=by
 have a:j.toNat<fs.length:=by omega
 refine ⟨fs[j.toNat],io a,?_⟩;have e:∀ xs k,bj (.tuple xs) k=FO (.tuple xs) k:=fun _ _=>rfl;rw [e];have b:=tw (xs:=fs.map aU) (j:=j.toNat) (v:=.str fs[j.toNat]) (by rw [aF,aE a];rfl);rw [eS c] at b;unfold FO;simp only [b]
theorem Ap (x:Str):∀ ys:List Str,((ys.map aU).any fun y=>bq y (.str x))=decide (x∈ys)
 |[]=>rfl
 |y::r=>by
  rw [ax,eJ,Ap x r,wq];by_cases h:y=x
  ·subst h;simp
  ·simp [h,cV h]
theorem Aq (ys:List Str):(ys.map aU).all mK=true:=by
 rw [nR,cy];intro _ _;rfl
theorem Tz (a:Bool) (x:Str) (ys:List Str):FJ a (.str x) (.list (ys.map .str))=.ok (.bool (if a then !decide (x∈ys) else decide (x∈ys))):=by
 have e:FJ a (.str x) (.list (ys.map .str))=if mK (.str x)&&(ys.map aU).all mK then .ok (.bool (if a then !((ys.map aU).any fun y=>bq y (.str x)) else (ys.map aU).any fun y=>bq y (.str x))) else .no:=rfl
 rw [e,Aq,Ap];rfl
theorem sM (a:Bool) (x:Str) (ys:List Str):FJ a (.str x) (aD ys)=.ok (.bool (if a then !decide (x∈ys) else decide (x∈ys))):=by
 have e:FJ a (.str x) (aD ys)=if mK (.str x)&&(ys.map aU).all mK then .ok (.bool (if a then !((ys.map aU).any fun y=>bq y (.str x)) else (ys.map aU).any fun y=>bq y (.str x))) else .no:=rfl
 rw [e,Aq,Ap];rfl
theorem qO (c:Bool) (a b:Int):rA c (.int a) (.int b)=.ok (.bool (if c then !decide (a=b) else decide (a=b))):=by
 have e:rA c (.int a) (.int b)=.ok (.bool (if c then !(a==b) else (a==b))):=rfl;rw [e,tj]
theorem ze (h:BB x=true):(aU x).canLay0=true:=by
 unfold BB at h;simp only [aY,cy,decide_eq_true_eq] at h;show PyData.strOk x=true;unfold PyData.strOk;rw [<- yy,cy];intro c a;have:=h.2 c a;exact decide_eq_true (by omega)
theorem TC (a:Bool) (b:BB x=true) (c:BB y=true):rA a (.str x) (.str y)=.ok (.bool (if a then !decide (x=y) else decide (x=y))):=by
 unfold rA;rw [ze b,ze c,wq];rfl
theorem Ar (a:List Str) (h:a.length<60):uR (.list (a.map .str))=.ok (dJ [] a):=by
 have e:∀ ds,uR (.list ds)=match fD ds with
  |some a=>if a.length<60 then .ok (dJ [] a) else .no
  |none=>.no:=fun _=>rfl
 rw [e,strsOf_map];simp only [if_pos h]
theorem Lf (g:aI->R D) (s:Sl) (ρ:aI):qv g (s::ρ)=(g (s::ρ)).bind uR:=id rfl
def Vi:List Str->R D:=fun a=>if a.length<64 then .ok (.list ((kP a).map .str)) else .no
theorem xy (g:aI->R (List Str)) (s:Sl) (ρ:aI):mf g (s::ρ)=(g (s::ρ)).bind Vi:=id rfl
theorem As (a:List Str) (h:a.length<64):Vi a=.ok (.list ((kP a).map .str)):=if_pos h
theorem MN (a:List Str) (h:a.length<60) (ρ:aI):(cr (J.af (mf (qv (rB 0))) J.aQ) (jn iR)) (.shr (.list (a.map .str))::ρ)=.ok (aD (srt a)):=by
 left;rw [xy,Lf];left;rw [Ar a h];left;rw [As _ (by have:=gQ a [];simp at this;omega)];left;rw [hU];rfl
theorem Gv (a:ρ=s::r) (h:gt (.shr (.str x)::r)=.ok b):ip (jI 1 ρ gt (rS 0)) [.str x]=.ok ((if b then [x] else []).map .str):=by
 subst a;have e:=qw (ρ:=s::r) (gt:=gt) (ge:=(rS 0)) (d:=.str x) (y:=.str x) (b:=b) h fun _=>rfl;unfold ip;rw [e,Aa];unfold ip;rw [Aa];cases b<;>rfl
theorem WL (p q r t:List Str) (b:p.length<60) (c:q.length<60) (e:r.length<60) (d:t.length<60):ip (jI 1 [Sl.no] kT (cr (J.af (mf (qv (rB 0))) J.aQ) (jn iR))) [.list (p.map .str),.list (q.map .str),.list (r.map .str),.list (t.map .str)]=.ok [aD (srt p),aD (srt q),aD (srt r),aD (srt t)] :=
 eU _ (fun a:List Str=>fW (a.map .str)) (fun a=>aD (srt a)) [p,q,r,t] fun a hs=>i7 rfl (MN a (by simp at hs;rcases hs with h|h|h|h<;>(rw [h];assumption)) _)
theorem Vj (a b c d:D):bj (.list [a,b,c,d]) (.int 0)=.ok a:=id rfl
theorem Vk (a b c d:D):bj (.list [a,b,c,d]) (.int 1)=.ok b:=id rfl
theorem Vl (a b c d:D):bj (.list [a,b,c,d]) (.int 2)=.ok c:=id rfl
theorem Vm (a b c d:D):bj (.list [a,b,c,d]) (.int 3)=.ok d:=id rfl
theorem TD (d:List Int) (k:Int) (O:0<=k) (fs:List Str) (A:∀ x∈fs,BB x=true) (S:0<fs.length) (nm:Str) (M:BB nm=true) :
  ∃ e,qG [.list (d.map .int),.int k,aD fs,.str nm]=.ok (dh e)/\sL fs e/\e.name=nm:=by
 have l:(0:Int)<(fs.length:Int):=by omega
 obtain ⟨a,s,K⟩:=Ei fs (fO d (k+10) fs.length) (fP _ _ _ l) (gW _ _ _ l);obtain ⟨b,L,N⟩:=Ei fs (fO d (k+11) fs.length) (fP _ _ _ l) (gW _ _ _ l);obtain ⟨c,v,P⟩:=Ei fs (fO d (k+12) fs.length) (fP _ _ _ l) (gW _ _ _ l);have H:=fP d (k+13) 3 (by decide);have E:=gW d (k+13) 3 (by decide);obtain ⟨i,u,w,o⟩:∃ i:List Str,(∀ x∈i,x∈fs)/\i.length<60/\Kf (.list [.str a,.str b]) none (some (1+fO d (k+13) 3 / 2))=.ok (.list (i.map .str)):=by
  by_cases h:fO d (k+13) 3=2
  ·exact ⟨[a,b],by simp [s,L],by simp,by rw [h];rfl⟩
  ·have:fO d (k+13) 3 / 2=0:=by omega
   exact ⟨[a],by simp [s],by simp,by rw [this];rfl⟩
 let m:Bool:=!decide (c∈i)&&decide (fO d (k+14) 4=0)
 let j:Bool:=!decide (a=c)&&decide (fO d (k+15) 3=0)
 have I:=fP d k 5 (by decide);have Q:=gW d k 5 (by decide);refine ⟨⟨nm,srt i,srt (if m then [c] else []),srt [c],srt (if j then [a] else []),fO d k 5⟩,?_,⟨M,zd u,zd ?_,zd (by simp [v]),zd ?_,fun x t h=>?_,fun x t h=>?_,I,by show fO d k 5<=9;omega⟩,rfl⟩
 ·unfold qG;refine dA ?_;unfold qF bX;left;rw [fQ d _ _ (by omega) l];left;rw [K];left;rw [fQ d (k+11) _ (by omega) l];left;rw [N];left;rw [fQ d (k+12) _ (by omega) l];left;rw [P];left;rw [fQ d (k+13) 3 (by omega) (by decide)];left;simp only [Iq,decide_true,mG,if_true];left;rw [o];left;rw [Gv (b:=m) rfl]
  ·left;rw [Gv (b:=j) rfl]
   ·left;simp only [UN];rw [D_ rfl,D_ rfl];left;have y:=WL i (if m then [c] else []) [c] (if j then [a] else []) w (by cases m<;>simp) (by simp) (by cases j<;>simp);rw [show ([c].map aU)=[aU c] from rfl] at y;rw [y];left;rw [Vj];left;rw [Vk];left;rw [Vl];left;rw [Vm];left;rw [fQ d k 5 O (by decide)];left;rfl
   ·left;rw [TC true (A a s) (A c v)];left;by_cases q:a=c
    ·simp only [j,q,decide_true,kg,BV,if_true,cond_false]
    ·simp only [j,q,decide_false,jE,vG,if_true,cond_true];rw [fQ d (k+15) 3 (by omega) (by decide)];left;rw [qO];left
  ·left;rw [Tz];left;by_cases p:c∈i
   ·simp only [m,p,decide_true,kg,BV,if_true,cond_false]
   ·simp only [m,p,decide_false,jE,vG,if_true,cond_true];rw [fQ d (k+14) 4 (by omega) (by decide)];left;rw [qO];left
 ·intro x n;cases f:m
  ·simp [f] at n
  ·simp [f] at n;rw [n];exact v
 ·intro x n;cases g:j
  ·simp [g] at n
  ·simp [g] at n;rw [n];exact s
 ·have h:x∈(if m then [c] else []):=oM.mp h;cases f:m
  ·simp [f] at h
  ·simp [f] at h;subst h;have:(!decide (x∈i))=true:=by
    have:(!decide (x∈i)&&decide (fO d (k+14) 4=0))=true:=f
    simp only [aY] at this;exact this.1
   simp at this;exact this (oM.mp t)
 ·cases g:j
  ·have h:x∈(if j then [a] else []):=oM.mp h;simp [g] at h
  ·skip;have B:x∈[c]:=oM.mp t;have G:x∈(if j then [a] else []):=oM.mp h;simp only [c9] at B;simp only [g,if_true,c9] at G;have:(!decide (a=c)&&decide (fO d (k+15) 3=0))=true:=g
   simp only [aY] at this;have z:=this.1;simp at z;exact z (G.symm.trans B)
theorem Ej (a:ρ[i]?=some (Sl.ow2 dss)) (c:gi ρ=.ok (.int j)) (e:0<=j) (h:dss[j.toNat]?=some ds) (b:g ρ=.ok d) (f:ds.length<1000):pU i gi g ρ=.ok (.nx (ρ.set i (.ow2 (dss.set j.toNat (ds++[d]))))):=by
 unfold pU;simp only [a,c,bind_ok,if_pos e,h,b,if_pos f]
def oN (n:Nat):List Str->List (Nat×Str)
 |[]=>[]
 |x::r=>(n,x)::oN (n+1) r
abbrev cI (p:Nat×Str):D:=.tuple [.int (p.1:Nat),.str p.2]
theorem zf:∀ (xs:List Str) (n:Nat),jS n (xs.map .str)=(oN n xs).map cI
 |[],_=>rfl
 |x::r,n=>by
  show cn [.int n,.str x]::jS (n+1) (r.map .str)=cI (n,x)::(oN (n+1) r).map cI;rw [zf r (n+1)]
theorem tZ:∀ (xs:List Str) (n:Nat),(oN n xs).map (·.2)=xs
 |[],_=>rfl
 |x::r,n=>by
  show x::(oN (n+1) r).map (·.2)=x::r;rw [tZ r]
theorem At:∀ (fs:List Str),(∀ x∈fs,BB x=true)->cz (fs.map .str)=true
 |[],_=>rfl
 |x::r,h=>by
  have a:=ze (h x al);have c:=At r fun y b=>h y (ag _ b);simp only [ax,cz,a,c,mG]
theorem Lg (fs:List Str) (c:∀ x∈fs,BB x=true):rA true (aD fs) (.tuple [])=.ok (.bool (!decide (fs=[]))):=by
 unfold rA;have a:(aD fs).canLay0=true:=by simp only [eG];exact At fs c
 have e:(cn []).canLay0=true:=rfl;have b:min (aD fs).depth (cn []).depth<=60:=bL (rH _ _) (by decide);have d:bq (aD fs) (.tuple [])=decide (fs=[]):=by
  cases fs with
  |nil=>rfl
  |cons x r=>simp [bq,fi]
 rw [a,e,decide_eq_true b,d];rfl
structure pz (pre p q:List Str):Prop where
 sp:p.Sublist pre
 sq:q.Sublist pre
 d:∀ x∈p,x∉q
theorem pz.skip (h:pz pre p q) (x:Str):pz (pre++[x]) p q:=⟨h.sp.trans (kh _ _),h.sq.trans (kh _ _),h.d⟩
theorem pz.left (h:pz pre p q) (x:Str) (c:x∉pre):pz (pre++[x]) (p++[x]) q:=⟨h.sp.append (fg _),h.sq.trans (kh _ _),fun y b a=>by
 rcases List.mem_append.mp b with h1|h1
 ·exact h.d y h1 a
 ·rw [List.mem_singleton.mp h1] at a;exact c (h.sq.subset a)⟩
theorem pz.right (h:pz pre p q) (x:Str) (c:x∉pre):pz (pre++[x]) p (q++[x]):=⟨h.sp.trans (kh _ _),h.sq.append (fg _),fun y a b=>by
 rcases List.mem_append.mp b with h1|h1
 ·exact h.d y a h1
 ·rw [List.mem_singleton.mp h1] at a;exact c (h.sp.subset a)⟩
abbrev o4 (p q r t:List Str):Sl:=.ow2 [p.map .str,q.map .str,r.map .str,t.map .str]
theorem YR (j:Int) (c:0<=j) (a:j<3):∃ b:Bool,bj (.list [.int 0,.int 0,.int 1]) (.int j)=.ok (.int (if b then 0 else 1)):=by
 have:j=0\/j=1\/j=2:=by omega
 rcases this with h|h|h<;>subst h
 ·exact ⟨true,rfl⟩
 ·exact ⟨true,rfl⟩
 ·exact ⟨false,rfl⟩
theorem YS (j:Int) (c:0<=j) (a:j<4):∃ b:Bool,bj (.list [.int 2,.int 2,.int 3,.int 3]) (.int j)=.ok (.int (if b then 2 else 3)):=by
 have:j=0\/j=1\/j=2\/j=3:=by omega
 rcases this with h|h|h|h<;>subst h
 ·exact ⟨true,rfl⟩
 ·exact ⟨true,rfl⟩
 ·exact ⟨false,rfl⟩
 ·exact ⟨false,rfl⟩
theorem wt (p:List Str) (x:Str):(p++[x]).map aU=p.map .str++[.str x]:=by simp
theorem QD (g:pz pre p q) (i:x∉pre) (u:pre.length<900) (s:0<=j) :
  ∃ k q',pz (pre++[x]) k q'/\g9 (i3 (g2 (rB 7) (kI 3) Bv)) (pU 4 (g2 (fh (J.af (kI 0) (J.af (kI 0) (J.af (kI 1) J.aQ))) .list) (rB 7) bj) (rS 6)) (fun ρ=>.ok (.nx ρ)) [a,b,c,d,o4 p q r t,e,.shr (.str x),.shr (.int j),f]=.ok (.nx [a,b,c,d,o4 k q' r t,e,.shr (.str x),.shr (.int j),f]):=by
 by_cases h:j<3
 ·obtain ⟨m,l⟩:=YR j s h;have n:p.length<1000:=by have:=g.sp.length_le;omega
  have o:q.length<1000:=by have:=g.sq.length_le;omega
  cases m
  ·refine ⟨p,q++[x],g.right x i,?_⟩;left;rw [decide_eq_true h];left;simp only [o4,wt];refine (Ej (j:=1) (ds:=q.map .str) (d:=.str x) rfl ?_ (by decide) rfl rfl (by rw [ah];exact o)).trans rfl;left;rw [l];rfl
  ·refine ⟨p++[x],q,g.left x i,?_⟩;left;rw [decide_eq_true h];left;simp only [o4,wt];refine (Ej (j:=0) (ds:=p.map .str) (d:=.str x) rfl ?_ (by decide) rfl rfl (by rw [ah];exact n)).trans rfl;left;rw [l];rfl
 ·refine ⟨p,q,g.skip x,?_⟩;left;rw [decide_eq_false h];left
theorem QE (g:pz pre r t) (k:x∉pre) (u:pre.length<900) (s:0<=j) :
  ∃ i t',pz (pre++[x]) i t'/\g9 (i3 (g2 (rB 7) (kI 4) Bv)) (pU 4 (g2 (fh (J.af (kI 2) (J.af (kI 2) (J.af (kI 3) (J.af (kI 3) J.aQ)))) .list) (rB 7) bj) (rS 6)) (fun ρ=>.ok (.nx ρ)) [a,b,c,d,o4 p q r t,e,.shr (.str x),.shr (.int j),f]=.ok (.nx [a,b,c,d,o4 p q i t',e,.shr (.str x),.shr (.int j),f]):=by
 by_cases h:j<4
 ·obtain ⟨m,l⟩:=YS j s h;have n:r.length<1000:=by have:=g.sp.length_le;omega
  have o:t.length<1000:=by have:=g.sq.length_le;omega
  cases m
  ·refine ⟨r,t++[x],g.right x k,?_⟩;left;rw [decide_eq_true h];left;simp only [o4,wt];refine (Ej (j:=3) (ds:=t.map .str) (d:=.str x) rfl ?_ (by decide) rfl rfl (by rw [ah];exact o)).trans rfl;left;rw [l];rfl
  ·refine ⟨r++[x],t,g.left x k,?_⟩;left;rw [decide_eq_true h];left;simp only [o4,wt];refine (Ej (j:=2) (ds:=r.map .str) (d:=.str x) rfl ?_ (by decide) rfl rfl (by rw [ah];exact n)).trans rfl;left;rw [l];rfl
 ·refine ⟨r,t,g.skip x,?_⟩;left;rw [decide_eq_false h];left
theorem YT (i:Nat) (ρ:aI):T3 i ρ=.ok (.nx ((clear2 ρ).set i (.ow2 [[],[],[],[]]))):=id rfl
theorem pz.sub (d:fs.Pairwise fun a b=>rz a b=true) (h:pz fs p q):rF fs p/\rF fs q:=⟨⟨d.sublist h.sp,fun x c=>h.sp.subset c⟩,⟨d.sublist h.sq,fun x c=>h.sq.subset c⟩⟩
theorem QF (p:List Str) (ρ:aI):(cr (J.af (rB 0) J.aQ) (jn iR)) (.shr (.list (p.map .str))::ρ)=.ok (aD p):=by
 left;rw [hU]
theorem YU (p q r t:List Str):ip (jI 1 [Sl.no] kT (cr (J.af (rB 0) J.aQ) (jn iR))) [.list (p.map .str),.list (q.map .str),.list (r.map .str),.list (t.map .str)]=.ok [aD p,aD q,aD r,aD t] :=
 eU _ (fun a:List Str=>fW (a.map .str)) (fun a=>aD a) [p,q,r,t] fun a hs=>i7 rfl (QF a _)
theorem MO (g:List Int) (k:Int) (O:0<=k) (fs:List Str) (G:∀ x∈fs,BB x=true) (K:fs.Pairwise fun a b=>rz a b=true) (L:fs.Nodup) (hl:fs.length<=6) (nm:Str) (M:BB nm=true) :
  ∃ e,jw [.list (g.map .int),.int k,aD fs,.str nm]=.ok (dh e)/\sL fs e/\e.name=nm:=by
 have Q:=fP g k 5 (by decide);have p1:=gW g k 5 (by decide);have go:∀ ρ:aI,ρ=[.shr (.list (g.map .int)),.shr (.int k),.shr (aD fs),.shr (.str nm),.no,.no,.no,.no,.no]->(!decide (fs=[])&&decide (fO g 97 2=0))=false->∃ e,jv ρ=.ok (.rt (dh e))/\sL fs e/\e.name=nm:=by
  rintro ρ rfl o;obtain ⟨n,s,p,q,r,t,m,u,y⟩:∃ n,(pp (IU (J.af (rS 2) J.aQ)) (mP 2 (cR (c6 5) (cR (c6 6) n_))) (bc (gS 7 (fH 3 bv (J.af (rS 0) (J.af (g2 (g2 (rB 1) (kI 10) eB) (rB 5) eB) (J.af (kI 8) J.aQ))))) (bc (g9 (i3 (g2 (rB 7) (kI 3) Bv)) (pU 4 (g2 (fh (J.af (kI 0) (J.af (kI 0) (J.af (kI 1) J.aQ))) .list) (rB 7) bj) (rS 6)) (fun ρ=>.ok (.nx ρ))) (bc (gS 7 (fH 3 bv (J.af (rS 0) (J.af (g2 (g2 (rB 1) (kI 20) eB) (rB 5) eB) (J.af (kI 8) J.aQ))))) (g9 (i3 (g2 (rB 7) (kI 4) Bv)) (pU 4 (g2 (fh (J.af (kI 2) (J.af (kI 2) (J.af (kI 3) (J.af (kI 3) J.aQ)))) .list) (rB 7) bj) (rS 6)) (fun ρ=>.ok (.nx ρ))))))) [.shr (.list (g.map .int)),.shr (.int k),.shr (aD fs),.shr (.str nm),o4 [] [] [] [],.no,.no,.no,.no]=.ok (.nx n)/\∃ p q r t,pz fs p q/\pz fs r t/\∃ z B v,n=[.shr (.list (g.map .int)),.shr (.int k),.shr (aD fs),.shr (.str nm),o4 p q r t,z,B,v,.no]:=by
   rw [sF (ds:=(oN 0 fs).map cI)]
   ·have H:=sK cI (fun (a:Unit) (_:Nat×Str)=>a) (fun c7 _ ρ=>∃ l,l++c7.map (·.2)=fs/\∃ p q r t,pz l p q/\pz l r t/\∃ z B v,ρ=[.shr (.list (g.map .int)),.shr (.int k),.shr (aD fs),.shr (.str nm),o4 p q r t,z,B,v,.no]) (kt:=mP 2 (cR (c6 5) (cR (c6 6) n_))) (gb:=(bc (gS 7 (fH 3 bv (J.af (rS 0) (J.af (g2 (g2 (rB 1) (kI 10) eB) (rB 5) eB) (J.af (kI 8) J.aQ))))) (bc (g9 (i3 (g2 (rB 7) (kI 3) Bv)) (pU 4 (g2 (fh (J.af (kI 0) (J.af (kI 0) (J.af (kI 1) J.aQ))) .list) (rB 7) bj) (rS 6)) (fun ρ=>.ok (.nx ρ))) (bc (gS 7 (fH 3 bv (J.af (rS 0) (J.af (g2 (g2 (rB 1) (kI 20) eB) (rB 5) eB) (J.af (kI 8) J.aQ))))) (g9 (i3 (g2 (rB 7) (kI 4) Bv)) (pU 4 (g2 (fh (J.af (kI 2) (J.af (kI 2) (J.af (kI 3) (J.af (kI 3) J.aQ)))) .list) (rB 7) bj) (rS 6)) (fun ρ=>.ok (.nx ρ)))))));obtain ⟨n,s,l,m,p,q,r,t,u,y,U⟩:=H (by
     rintro ⟨i,x⟩ c7 _ ρ ⟨l,m,p,q,r,t,u,y,z,B,v,rfl⟩;have E:x∉l:=by
      rw [<- m,ax] at L;have:=(List.nodup_append.mp L).2.2;intro E;exact this x E x al rfl
     have A:l.length<900:=by
      have:=congrArg jC m;rw [aO] at this;omega
     obtain ⟨I,q',k1,k2⟩:=QD (a:=.shr (.list (g.map .int))) (b:=.shr (.int k)) (c:=.shr (aD fs)) (d:=.shr (.str nm)) (e:=.shr (.int (i:Nat))) (f:=.no) (r:=r) (t:=t) (j:=fO g (k+10+i) 8) u E A (fP _ _ _ (by decide));obtain ⟨N,t',k3,T⟩:=QE (a:=.shr (.list (g.map .int))) (b:=.shr (.int k)) (c:=.shr (aD fs)) (d:=.shr (.str nm)) (e:=.shr (.int (i:Nat))) (f:=.no) (p:=I) (q:=q') (j:=fO g (k+20+i) 8) y E A (fP _ _ _ (by decide));refine ⟨[.shr (.list (g.map .int)),.shr (.int k),.shr (aD fs),.shr (.str nm),o4 p q r t,.shr (.int (i:Nat)),.shr (.str x),v,.no],[.shr (.list (g.map .int)),.shr (.int k),.shr (aD fs),.shr (.str nm),o4 I q' N t',.shr (.int (i:Nat)),.shr (.str x),.shr (.int (fO g (k+20+i) 8)),.no],rfl,?_,l++[x],?_,I,q',N,t',k1,k3,_,_,_,rfl⟩
     ·rw [Ab,Pk];walk_at "yy";rw [fQ g _ 8 (by omega) (by decide)];walk_at "yy";rw [k2];walk_at "yy";rw [fQ g _ 8 (by omega) (by decide)];walk_at "yy";rw [T]
     ·rw [<- m];simp) (oN 0 fs) () [.shr (.list (g.map .int)),.shr (.int k),.shr (aD fs),.shr (.str nm),o4 [] [] [] [],.no,.no,.no,.no] ⟨[],by rw [tZ];rfl,[],[],[],[],⟨fg _,fg _,fun _ h=>nomatch h⟩,⟨fg _,fg _,fun _ h=>nomatch h⟩,_,_,_,rfl⟩
    refine ⟨n,s,p,q,r,t,?_,?_,U⟩
    ·simp only [ft,bT] at m;rw [<- m];exact u
    ·simp only [ft,bT] at m;rw [<- m];exact y
   ·left;rw [zf]
  obtain ⟨P,Y⟩:=m.sub K;obtain ⟨X,S⟩:=u.sub K;obtain ⟨z,B,v,rfl⟩:=y;refine ⟨⟨nm,p,q,r,t,fO g k 5⟩,?_,⟨M,P,Y,X,S,m.d,u.d,Q,by show fO g k 5<=9;omega⟩,rfl⟩;unfold jv;have w:DI (i3 (g2 (rB 2) (fh J.aQ .tuple) (rA true))) (i3 (g2 (fH 3 bv (J.af (rS 0) (J.af (kI 97) (J.af (kI 2) J.aQ)))) (kI 0) (rA false))) [.shr (.list (g.map .int)),.shr (.int k),.shr (aD fs),.shr (.str nm),.no,.no,.no,.no,.no]=.ok false:=by
   left;rw [Lg fs G];left;by_cases h:fs=[]
   ·simp only [h,decide_true,kg,cond_false]
   ·simp only [h,decide_false,jE,cond_true,vG] at o ⊢;rw [fQ g 97 2 (by decide) (by decide)];left;rw [qO];left;rw [o]
  rw [Ab,Yg,w];simp only [Aa,Pi,YT,clear2,ax,ft,wQ,wP,Aa,wf,Ab];rw [show Sl.ow2 [[],[],[],[]]=o4 [] [] [] [] from rfl,s];left;rw [YU];left;rw [Vj];left;rw [Vk];left;rw [Vl];left;rw [Vm];left;rw [fQ g k 5 O (by decide)];left;rfl
 by_cases o:(!decide (fs=[])&&decide (fO g 97 2=0))=true
 ·have h0:0<fs.length:=by
   rcases fs with _|⟨x,r⟩
   ·simp at o
   ·simp
  obtain ⟨e,s,m⟩:=TD g k O fs G h0 nm M;refine ⟨e,?_,m⟩;unfold jw;refine dA ?_;unfold jv bX;left;rw [Lg fs G];left;simp only [aY] at o;rw [o.1];left;rw [fQ g 97 2 (by decide) (by decide)];left;rw [qO];left;rw [o.2];left;rw [s];left
 ·obtain ⟨e,s,m⟩:=go _ rfl (Bool.eq_false_iff.mpr o);exact ⟨e,by unfold jw;exact dA s,m⟩
theorem QG (ds:List D) (t:Nat) (h:t<=ds.length):Bw ds (some (t:Int)) none=ds.drop t:=by
 unfold Bw;rw [HT.K2,HT.Fa,nj h,lr (by rw [yM];exact ap _)]
theorem WM (ds:List D) (t:Nat) (h:t<=ds.length):Bw ds none (some (t:Int))=ds.take t:=by
 unfold Bw;rw [HT.K2,HT.Fa,nj h,List.drop_zero,Nat.sub_zero]
theorem YV (ds:List D) (t:Nat) (h:t<=ds.length):Kf (.list ds) (some (t:Int)) none=.ok (.list (ds.drop t)):=by
 rw [<- QG ds t h];rfl
theorem YW (ds:List D) (t:Nat) (h:t<=ds.length):Kf (.list ds) none (some (t:Int))=.ok (.list (ds.take t)):=by
 rw [<- WM ds t h];rfl
theorem QH (b:(l.map (·.1)).Nodup) (a:p∈l):bj (.dict (iZ l)) (.str p.1)=.ok p.2:=by
 have e:∀ kvs x,bj (.dict kvs) (.str x)=if iH kvs=true then (match md kvs (.str x) with
   |some d=>.ok d
   |none=>.no) else .no:=fun _ _=>rfl
 rw [e,if_pos (Ao l)];have:md (iZ l) (.str p.1)=some p.2:=by
  unfold md iZ;clear e;induction l with
  |nil=>cases a
  |cons q r c =>
   rw [ax] at b;obtain ⟨f,g⟩:=List.nodup_cons.mp b;rw [ax,cj,wq];rcases List.mem_cons.mp a with h|h
   ·subst h;simp
   ·have:q.1≠p.1:=fun z=>f (z ▸ bt h)
    rw [decide_eq_false this];exact c g h
 rw [this]
structure fK (fs:List Str) (es:List iI):Prop where
 rise:QA fs 6
 len:es.length<=6
 nd:(es.map (·.name)).Nodup
 ok:∀ e∈es,sL fs e
def eg (fs:List Str) (es:List iI):D:=.tuple [aD fs,.tuple (es.map dh)]
theorem YX (fs:List Str):∀ (l:List (Str×D)),(∀ p∈l,∃ e,p.2=dh e/\sL fs e/\e.name=p.1)->∃ es:List iI,l.map (·.2)=es.map dh/\es.map (·.name)=l.map (·.1)/\∀ e∈es,sL fs e
 |[],_=>⟨[],rfl,rfl,fun _ h=>nomatch h⟩
 |p::r,h=>by
  obtain ⟨e,a,d,b⟩:=h p al;obtain ⟨es,k1,k2,k3⟩:=YX fs r fun q c=>h q (ag _ c);refine ⟨e::es,by rw [ax,ax,a,k1],by rw [ax,ax,b,k2],fun x f=>?_⟩;rcases List.mem_cons.mp f with z|z
  ·rw [z];exact d
  ·exact k3 x z
theorem MP {a:Type} (l:List a) (t:Nat):(l.drop t++l.take t).Perm l:=by
 refine List.perm_append_comm.trans ?_;rw [gK]
theorem mj {l:List Str} (h:l.Pairwise fun a b=>rz a b=true):l.Nodup:=h.imp fun c z=>by
 rw [z,uN] at c;cases c
theorem TF (b:List Int) (k:Int) (S:0<=k) (m n:Int) (g:0<=m) (X:m<=6) (T:0<=n) (Y:n<=6):∃ fs es,nC [.list (b.map .int),.int k,.int m,.int n]=.ok (eg fs es)/\fK fs es/\fs.length<=m.toNat/\es.length<=n.toNat:=by
 have c:=J8 b k m g;generalize v:Eh b k m=fs at c;have z:=c.len;have c:QA fs 6:=⟨c.ok,c.up,by have:=c.len;omega⟩;have K:=mj c.up;have I:=fP b (k+60) (n+1) (by omega);have m1:=gW b (k+60) (n+1) (by omega);suffices H:∃ es,nC [.list (b.map .int),.int k,.int m,.int n]=.ok (eg fs es)/\fK fs es/\es.length<=n.toNat from H.elim fun es h=>⟨fs,es,h.1,h.2.1,z,h.2.2⟩
 unfold nC;suffices H:∃ es,nA (bX 10 [.list (b.map .int),.int k,.int m,.int n])=.ok (.rt (eg fs es))/\fK fs es/\es.length<=n.toNat from H.elim fun es h=>⟨es,dA h.1,h.2⟩
 have H:=sK (fun (i:Nat)=>d_ i) (fun (a:Unit) (_:Nat)=>a) (fun c7 _ ρ=>∃ l,l.length+c7.length<=n.toNat/\(l.map (·.1)).Nodup/\(∀ p∈l,∃ e,p.2=dh e/\sL fs e/\e.name=p.1)/\∃ w s,ρ=[.shr (.list (b.map .int)),.shr (.int k),.shr (.int m),.shr (.int n),.shr (aD fs),.own (.dict (iZ l)),w,s,.no,.no]) (kt:=c6 6) (gb:=bc (gS 7 (fH 2 lG (J.af (rS 0) (J.af (g2 (g2 (rB 1) (kI 70) eB) (g2 (kI 40) (rB 6) yF) eB) J.aQ)))) (DW 5 (rS 7) (fH 4 jw (J.af (rS 0) (J.af (g2 (g2 (rB 1) (kI 80) eB) (g2 (kI 40) (rB 6) yF) eB) (J.af (rS 4) (J.af (rS 7) J.aQ)))))));obtain ⟨P,A,l,y,q,u,w,s,O⟩:=H (by
  rintro i c7 _ ρ ⟨l,y,q,u,w,s,rfl⟩;simp only [aW] at y;have M:=Gr b (k+70+40*(i:Int));obtain ⟨e,j,U,G⟩:=MO b (k+80+40*(i:Int)) (by omega) fs c.ok c.up K c.len (mi b (k+70+40*(i:Int))) M;have B:=Gs l (mi b (k+70+40*(i:Int))) (dh e);refine ⟨[.shr (.list (b.map .int)),.shr (.int k),.shr (.int m),.shr (.int n),.shr (aD fs),.own (.dict (iZ l)),.shr (.int i),s,.no,.no],[.shr (.list (b.map .int)),.shr (.int k),.shr (.int m),.shr (.int n),.shr (aD fs),.own (.dict (iZ (ul l (mi b (k+70+40*(i:Int))) (dh e)))),.shr (.int i),.shr (.str (mi b (k+70+40*(i:Int)))),.no,.no],rfl,?_,ul l (mi b (k+70+40*(i:Int))) (dh e),by omega,?_,?_,_,_,rfl⟩
  ·left;rw [tY (by decide) (by decide)];left;rw [Ld b _ (by omega)];left;refine (Vh (l:=l) (x:=mi b (k+70+40*(i:Int))) (d:=dh e) rfl ?_ rfl (by omega)).trans rfl;left;rw [tY (by decide) (by decide)];left;exact j
  ·rw [CL];exact ML q
  ·exact Qz (Q:=fun x d=>∃ e,d=dh e/\sL fs e/\e.name=x) u ⟨e,rfl,U,G⟩) (bE (fO b (k+60) (n+1)).toNat) () [.shr (.list (b.map .int)),.shr (.int k),.shr (.int m),.shr (.int n),.shr (aD fs),.own (.dict (iZ [])),.no,.no,.no,.no] ⟨[],by rw [fG];simp only [bU];omega,gC,fun _ h=>(nomatch h),_,_,rfl⟩
 simp only [bU,nW] at y;have N:=fP b (k+61) ((l.length:Int)+1) (by omega);have t1:=gW b (k+61) ((l.length:Int)+1) (by omega);obtain ⟨t,E⟩:∃ t:Nat,fO b (k+61) ((l.length:Int)+1)=t:=⟨_,(eS N).symm⟩;have tl:t<=l.length:=by omega
 have f:=MP l t;obtain ⟨es,k1,k2,k3⟩:=YX fs (l.drop t++l.take t) fun p o=>u p (f.mem_iff.mp o);have kl:es.length=l.length:=by
  have:=congrArg jC k1;rw [ah,ah,f.length_eq] at this;exact this.symm
 refine ⟨es,?_,⟨c,by omega,?_,k3⟩,by omega⟩
 ·unfold nA bX;walk_at "yy";rw [QC b k m S g (by omega),v];walk_at "yy";rw [sF (ds:=(bE (fO b (k+60) (n+1)).toNat).map fun (i:Nat)=>d_ i)]
  ·rw [show HB []=HB (iZ []) from rfl,A,O];walk_at "yy";rw [Gu];walk_at "yy";rw [fQ b _ _ (by omega) (by omega),E];walk_at "yy";clear H A;rw [YV _ t (by simpa using tl)];walk_at "yy";rw [YW _ t (by simpa using tl)];walk_at "yy";have j:(List.drop t (xT aU (xT (fun x=>x.fst) l))++List.take t (xT aU (xT (fun x=>x.fst) l)))=(l.drop t++l.take t).map fun p=>aU p.1:=by
    rw [bd,List.map_drop,List.map_take,bJ];rfl
   rw [j,if_pos (by rw [<- aO,j,ah,f.length_eq];omega)];have B:=f.length_eq;have px:∀ p∈l.drop t++l.take t,p∈l:=fun p o=>f.mem_iff.mp o;clear j f k2;generalize l.drop t++l.take t=L at B px k1 ⊢;walk_at "yy";rw [if_pos (by omega)];rw [eU _ (fun p:Str×D=>aU p.1) (fun p=>p.2) L fun p o=>i7 rfl (by
    walk_at "yy";exact QH q (px p o))]
   walk_at "yy";rw [hU];walk_at "yy";rw [k1];rfl
  ·walk_at "yy";rw [fQ b (k+60) (n+1) (by omega) (by omega)];walk_at "yy";have:=zc (fO b (k+60) (n+1)).toNat (by omega);rw [eS I] at this;exact this
 ·rw [k2];exact ((f.map _).nodup_iff).mpr q
theorem CM {a:Type} (b:a->Bool):∀ xs:List a,oq (xs.map fun x=>cU (b x))=some (xs.map b)
 |[]=>rfl
 |x::r=>by
  show (oq (r.map fun x=>cU (b x))).map (b x::·)=_;rw [CM b r];rfl
theorem l8 {a:Type} (k:List Bool->Bool) (b:a->Bool) (xs:List a):hJ k (.list (xs.map fun x=>cU (b x)))=.ok (.bool (k (xs.map b))):=by
 have e:∀ ds,hJ k (.list ds)=match oq ds with
  |some bs=>.ok (.bool (k bs))
  |none=>.no:=fun _=>rfl
 rw [e,CM]
theorem QI (a:gt (.shr d::.shr d'::ρ)=.ok true) (c:ge (.shr d::.shr d'::ρ)=.ok y):jI 2 (s::s'::ρ) gt ge (.tuple [d,d'])=.ok (some y):=by
 have e:jI 2 (s::s'::ρ) gt ge (.tuple [d,d'])=Mp ((gt (.shr d::.shr d'::ρ)).bind fun b=>if b then (ge (.shr d::.shr d'::ρ)).bind fun y=>.ok (some y) else .ok none):=id rfl;rw [e,a,bind_ok,if_pos rfl,c];rfl
theorem WN (x:Str):vY (.str x)=true:=id rfl
theorem QJ (i:Int):vY (.int i)=true:=id rfl
theorem Ek {a:Type} (c:a->D) (h:∀ x,vY (c x)=true):∀ xs:List a,noDs (xs.map c)=true
 |[]=>rfl
 |x::r=>by
  show (vY (c x)&&noDs (r.map c))=true;rw [h x,Ek c h r];rfl
theorem QK (xs:List D):vY (.tuple xs)=noDs xs:=id rfl
theorem t_ (xs:List Str):vY (aD xs)=true:=by
 rw [QK];exact Ek _ (fun _=>rfl) xs
theorem Lh (e:iI):vY (dh e)=true:=by
 have:vY (dh e)=(true&&(vY (aD e.needs)&&(vY (aD e.bars)&&(vY (aD e.makes)&&(vY (aD e.ends)&&(true&&true)))))):=rfl
 rw [this,t_,t_,t_,t_];rfl
theorem Vn (es:List iI):vY (.tuple (es.map dh))=true:=by
 rw [QK];exact Ek _ Lh es
theorem TH (fs:List Str) (es:List iI):vY (eg fs es)=true:=by
 have:vY (eg fs es)=(vY (aD fs)&&(vY (.tuple (es.map dh))&&true)):=rfl
 rw [this,t_,Vn];rfl
theorem WO (x:Str):FP "str" (.str x)=true:=id rfl
theorem El (x:List D):FP "tuple" (.tuple x)=true:=id rfl
theorem WP (x:Int):FP "int" (.int x)=true:=id rfl
theorem WQ (x:Int):FP "bool" (.int x)=false:=id rfl
theorem TJ:∀ c:_root_.Fin 123,97<=c.val->(!rz ⟨#[c.val]⟩ "a")=true/\(!rz "z" ⟨#[c.val]⟩)=true:=by decide +kernel
theorem CN (h:BB x=true):pY [.str x]=.ok (.bool true):=by
 have f:=h;unfold BB at h;simp only [aY,decide_eq_true_eq,cy] at h;obtain ⟨⟨e,j⟩,a⟩:=h;have i:x.length=x.cps.size:=rfl;unfold pY;refine dA ?_;unfold tQ bX;left;rw [WN,WO];left;rw [if_pos (by omega)];left;rw [decide_eq_true (by omega)];left;rw [decide_eq_true (by omega)];left;unfold pi;left;rw [if_pos (by rw [au];omega)];rw [eU _ (fun c:Nat=>aU ⟨#[c]⟩) (fun _=>cU true) x.cps.toList fun c b=>i7 rfl (by
  obtain ⟨d,g⟩:=a c b;obtain ⟨b1,b2⟩:=TJ ⟨c,by omega⟩ d;left;simp only at b1 b2;rw [b1];left;rw [b2])]
 left;rw [l8 _ (fun _=>true)];left;simp
theorem Gw:∀ (xs ys:List Str),yG (xs.map .str) (ys.map .str)=(xs.zip ys).map fun p=>cn [.str p.1,.str p.2]
 |[],_=>rfl
 |_::_,[]=>rfl
 |x::r,y::a=>by
  show cn [.str x,.str y]::yG (r.map .str) (a.map .str)=_;rw [Gw r a];rfl
theorem QL:∀ {l:List Str},(l.Pairwise fun a b=>rz a b=true)->∀ p∈l.zip (l.drop 1),rz p.1 p.2=true
 |[],_,p,c=>by cases c
 |[_],_,p,c=>by cases c
 |a::b::r,h,p,c=>by
  obtain ⟨d,e⟩:=List.pairwise_cons.mp h;rcases List.mem_cons.mp c with z|z
  ·rw [z];exact d b al
  ·exact QL e p z
theorem TK (xs:List Str):Kf (aD xs) (some 1) none=.ok (aD (xs.drop 1)):=by
 have e:Kf (aD xs) (some 1) none=.ok (.tuple (Bw (xs.map .str) (some 1) none)):=rfl;rw [e];cases xs with
 |nil=>rfl
 |cons x r =>
  rw [show (1:Int)=((1:Nat):Int) from rfl,QG _ 1 (by simp)];rfl
theorem yg (e:∀ x∈xs,BB x=true) (f:xs.Pairwise fun a b=>rz a b=true) (g:xs.length<=6):gm [aD xs]=.ok (.bool true):=by
 unfold gm;refine dA ?_;unfold iB bX;left;rw [t_,El];left;rw [if_pos (by omega)];rw [eU _ (fun x:Str=>aU x) (fun _=>cU true) xs fun x d=>i7 rfl (by
  left;rw [CN (e x d)])]
 left;rw [l8 _ (fun _=>true)];left;rw [show ((xs.map fun _=>true).all id)=true by simp];left;rw [TK];left;rw [Gw];left;rw [if_pos (by simp;omega)];rw [eU _ (fun p:Str×Str=>cn [.str p.1,.str p.2]) (fun _=>cU true) (xs.zip (xs.drop 1)) fun p c=>QI rfl (by
  left;rw [QL f p c])]
 left;rw [l8 _ (fun _=>true)];left;simp
theorem nE (b:∀ x∈fs,BB x=true) (h:rF fs xs) (c:xs.length<=6):kn [aD fs,aD xs]=.ok (.bool true):=by
 unfold kn;refine dA ?_;unfold oB bX;left;rw [yg (fun x a=>b x (h.mem x a)) h.up c];left;rw [if_pos (by omega)];rw [eU _ (fun x:Str=>aU x) (fun _=>cU true) xs fun x a=>i7 rfl (by
  left;rw [sM,decide_eq_true (h.mem x a)];rfl)]
 left;rw [l8 _ (fun _=>true)];left;simp
theorem CO (h:∀ x∈xs,x∉ys) (b:xs.length<=6):gV [aD xs,aD ys]=.ok (.bool true):=by
 unfold gV;refine dA ?_;unfold kX bX;left;rw [if_pos (by omega)];rw [eU _ (fun x:Str=>aU x) (fun _=>cU false) xs fun x a=>i7 rfl (by
  left;rw [sM,decide_eq_false (h x a)];rfl)]
 left;rw [l8 _ (fun _=>false)];left;simp
theorem Au (b:l<=i) (a:i<=m):jk [.int i,.int l,.int m]=.ok (.bool true):=by
 unfold jk;refine dA ?_;unfold qA bX;left;rw [QJ,WP];left;rw [QJ,WQ];left;rw [decide_eq_true b];left;rw [decide_eq_true a]
theorem Em:∀ (xs fs:List Str),xs.Nodup->(∀ x∈xs,x∈fs)->xs.length<=fs.length
 |[],_,_,_=>cG _
 |x::r,fs,c,h=>by
  obtain ⟨d,e⟩:=List.nodup_cons.mp c;have b:=h x al;have:=Em r (fs.erase x) e fun y a=>(JX fun (z:y=x)=>d (z ▸ a)).mpr (h y (ag _ a));rw [EQ b] at this;have:0<fs.length:=HE b
  rw [aW];omega
theorem jx (h:rF fs xs) (a:fs.length<=6):xs.length<=6:=by
 exact bL (Em xs fs (mj h.up) h.mem) a
theorem q0e (a b c d e f g:D):PR (mP 6 (cR (c6 2) (cR (c6 3) (cR (c6 4) (cR (c6 5) (cR (c6 6) (cR (c6 7) n_))))))) [Sl.shr a,Sl.shr (.tuple [b,c,d,e,f,g]),.no,.no,.no,.no,.no,.no] (.tuple [b,c,d,e,f,g])=.ok (.nx [Sl.shr a,Sl.shr (.tuple [b,c,d,e,f,g]),.shr b,.shr c,.shr d,.shr e,.shr f,.shr g]):=id rfl
theorem Gx (a:QA fs 6) (g:sL fs e):oE [aD fs,dh e]=.ok (.bool true):=by
 have f:=jx g.needs a.len;have h:=jx g.bars a.len;have d:=jx g.makes a.len;have i:=jx g.ends a.len;unfold oE;refine dA ?_;unfold oC bX;left;rw [Lh];unfold dh;left;rw [El];left;rw [qO];left;rw [show decide (((6:Nat):Int)=6)=true from rfl];left;rw [q0e]
 ·left;rw [CN g.name];left;rw [Au g.p0 g.p9];left;have b:=eU (jI 1 [Sl.no,Sl.shr (aD fs)] kT (fH 2 kn (J.af (rS 1) (J.af (rS 0) J.aQ)))) (fun x:List Str=>aD x) (fun _=>cU true) [e.needs,e.bars,e.makes,e.ends] fun x c=>i7 rfl (by
   left;simp only [aN,aZ,or_false] at c;rcases c with z|z|z|z<;>rw [z]
   ·rw [nE a.ok g.needs f]
   ·rw [nE a.ok g.bars h]
   ·rw [nE a.ok g.makes d]
   ·rw [nE a.ok g.ends i])
  simp only [ax,ft] at b;rw [b];left;rw [show hJ (fun bs=>bs.all id) (.list [.bool true,.bool true,.bool true,.bool true])=.ok (.bool true) from rfl];left;rw [CO g.nb f];left;rw [CO g.me d];left
theorem QM (l:List Str) (b:l.Nodup):(dJ [] l).length=l.length:=by
 have c:=Em (dJ [] l) l (ji l [] gC) fun x a=>((jt l [] x).mp a).elim (fun h=>nomatch h) id;have d:=Em l (dJ [] l) b fun x a=>(jt l [] x).mpr (.inr a);omega
theorem MQ (es:List iI) (c:es.length<=6) (a:(es.map (·.name)).Nodup) (s:Sl) (ρ:aI) (h:(s::ρ)[2]?=some (.shr (.tuple (es.map dh)))):we (xu 1 [] (m9 (rB 2)) kT (g2 (rB 0) (kI 0) bj)) (s::ρ)=.ok (.int (es.length:Nat)):=by
 have b:HG (s::ρ) 2=.ok (.tuple (es.map dh)):=by unfold HG;rw [h]
 unfold we xu;rw [Wl,WA,b];left;rw [if_pos (by omega)];rw [eU _ dh (fun e=>aU e.name) es fun e he=>i7 rfl (by
  left;rfl)]
 left;have:(es.map fun e=>aU e.name)=(es.map (·.name)).map .str:=by rw [bJ];rfl
 rw [this,strsOf_map];simp only [Aa,QM _ a,ah]
theorem q0f (b c:D):PR (mP 2 (cR (c6 1) (cR (c6 2) n_))) [Sl.shr (.tuple [b,c]),.no,.no] (.tuple [b,c])=.ok (.nx [Sl.shr (.tuple [b,c]),.shr b,.shr c]):=id rfl
theorem MR (g:fK fs es):tS [eg fs es]=.ok (.bool true):=by
 have b:=g.rise.len;have a:=g.len;unfold tS;refine dA ?_;unfold tR bX;left;rw [TH];unfold eg;left;rw [El];left;rw [qO];left;rw [show decide (((2:Nat):Int)=2)=true from rfl];left;rw [q0f];left;rw [yg g.rise.ok g.rise.up b];left;rw [decide_eq_false (by omega)];left;rw [Vn,El];left;rw [decide_eq_false (by omega)];left;rw [if_pos (by omega)];rw [eU _ dh (fun _=>cU true) es fun e he=>i7 rfl (by
  left;rw [Gx g.rise (g.ok e he)])]
 left;rw [l8 _ (fun _=>true)];left;rw [show ((es.map fun _=>true).all id)=true by simp];left;rw [MQ es a g.nd _ _ rfl];left;rw [qO,decide_eq_true rfl];rfl
theorem Ja (g:fK fs es):tW [eg fs es]=.ok (eg fs es):=by
 unfold tW;refine dA ?_;unfold tV bX;left;rw [MR g];left
theorem MS {a:Type} (c:a->D) (h:∀ x,bq (c x) (c x)=true):∀ xs:List a,fi (xs.map c) (xs.map c)=true
 |[]=>by simp [fi]
 |x::r=>by simp [fi,h x,MS c h r]
theorem Av {a:Type} (c:a->D):∀ xs:List a,(∀ x∈xs,(c x).canLay0=true)->cz (xs.map c)=true
 |[],_=>rfl
 |x::r,h=>by
  have b:=h x al;have e:=Av c r fun y d=>h y (ag _ d);simp only [ax,cz,b,e,mG]
theorem xz {a:Type} (c:a->D) (n:Nat) (h:∀ x,(c x).depth<=n):∀ xs:List a,yR (xs.map c)<=n
 |[]=>by simp [yR]
 |x::r=>by
  simp only [ax,yR];exact Nat.max_le.mpr ⟨h x,xz c n h r⟩
theorem sO (a:∀ x∈fs,BB x=true) (h:rF fs xs):cz (xs.map .str)=true:=At xs fun x b=>a x (h.mem x b)
theorem QN (a:∀ x∈fs,BB x=true) (g:sL fs e):(dh e).canLay0=true:=by
 unfold dh;simp only [eG,cz];have:=ze g.name;simp only [eG] at this;rw [sO a g.needs,sO a g.bars,sO a g.makes,sO a g.ends,this];rfl
theorem CQ (a:ρ[i]?=some (Sl.own (.list ds))) (b:g ρ=.ok d) (c:ds.length<1000):qu i g ρ=.ok (.nx (ρ.set i (.own (.list (ds++[d]))))):=by
 unfold qu;simp only [a,b,bind_ok,if_pos c]
theorem QO (a:gt (.shr d::.shr d'::ρ)=.ok b) (c:b=true->ge (.shr d::.shr d'::ρ)=.ok y):jI 2 (s::s'::ρ) gt ge (.tuple [d,d'])=.ok (if b then some y else none):=by
 have e:jI 2 (s::s'::ρ) gt ge (.tuple [d,d'])=Mp ((gt (.shr d::.shr d'::ρ)).bind fun b=>if b then (ge (.shr d::.shr d'::ρ)).bind fun y=>.ok (some y) else .ok none):=id rfl;rw [e,a,bind_ok];cases b with
 |true=>rw [if_pos rfl,c rfl];rfl
 |false=>rfl
theorem CS:∀ (xs:List Str) (n:Nat),(oN n xs).length=xs.length
 |[],_=>rfl
 |x::r,n=>by
  show (oN (n+1) r).length+1=r.length+1;rw [CS r]
theorem TL (a:List Int) (k:Int) (d:0<=k) (fs:List Str) (e:fs.length<=6) (m:Int):∃ b:List Str,qD [.list (a.map .int),.int k,aD fs,.int m]=.ok (aD b)/\b.Sublist fs:=by
 refine ⟨((oN 0 fs).filter fun q=>decide (fO a (k+(q.1:Int)) 12<m)).map (·.2),?_,?_⟩
 ·unfold qD;refine dA ?_;unfold qC bX;left;rw [zf];left;rw [if_pos (by rw [CS];omega)];rw [gU _ cI (fun q=>aU q.2) (fun q=>decide (fO a (k+(q.1:Int)) 12<m)) (oN 0 fs) fun q c=>QO (by
   left;rw [fQ a _ 12 (by omega) (by decide)];left) fun _=>rfl]
  left;rw [hU];left;unfold aD;rw [bJ];rfl
 ·have:=(vw (l:=oN 0 fs) (p:=fun q=>decide (fO a (k+(q.1:Int)) 12<m))).map (·.2);rw [tZ] at this;exact this
theorem Jb (d:fs.Pairwise fun a b=>rz a b=true) (h:xs.Sublist fs):rF fs xs:=⟨d.sublist h,fun x c=>h.subset c⟩
structure Vo (fs m b:List Str):Prop where
 must:rF fs m
 bars:rF fs b
 mb:∀ x∈m,x∉b
abbrev BC (m b:List Str):D:=.tuple [aD m,aD b]
theorem Li (p:List Str) (x:Str):p.map aU++[aU x]=(p++[x]).map .str:=by simp
theorem TM (e:List Int) (k:Int) (I:0<=k) (fs:List Str) (o:fs.Pairwise fun a b=>rz a b=true) (B:fs.length<=6):∃ m b,uV [.list (e.map .int),.int k,aD fs]=.ok (BC m b)/\Vo fs m b:=by
 have w:=mj o;suffices H:∃ p q,nD (bX 8 [.list (e.map .int),.int k,aD fs])=.ok (.rt (BC p q))/\pz fs p q by
  obtain ⟨p,q,n,f⟩:=H;exact ⟨p,q,dA n,Jb o f.sp,Jb o f.sq,f.d⟩
 unfold nD bX;walk_at "yy";rw [sF (ds:=(oN 0 fs).map cI)]
 ·have H:=sK cI (fun (a:Unit) (_:Nat×Str)=>a) (fun c7 _ ρ=>∃ c,c++c7.map (·.2)=fs/\∃ p q,pz c p q/\∃ s t j,ρ=[.shr (.list (e.map .int)),.shr (.int k),.shr (aD fs),.own (.list (p.map .str)),.own (.list (q.map .str)),s,t,j]) (kt:=mP 2 (cR (c6 5) (cR (c6 6) n_))) (gb:=bc (gS 7 (fH 3 bv (J.af (rS 0) (J.af (g2 (rB 1) (rB 5) eB) (J.af (kI 8) J.aQ))))) (g9 (i3 (g2 (rB 7) (kI 2) Bv)) (qu 3 (rS 6)) (g9 (i3 (g2 (rB 7) (kI 2) (rA false))) (qu 4 (rS 6)) (fun ρ=>.ok (.nx ρ)))));obtain ⟨A,n,c,f,p,q,g,s,t,j,y⟩:=H (by
   rintro ⟨i,x⟩ c7 _ ρ ⟨c,f,p,q,g,s,t,j,rfl⟩;have l:x∉c:=by
    rw [<- f,ax] at w;have:=(List.nodup_append.mp w).2.2;intro l;exact this x l x al rfl
   have z:c.length<900:=by
    have:=congrArg jC f;rw [aO] at this;omega
   have E:=g.sp.length_le;have G:=g.sq.length_le;refine ⟨[.shr (.list (e.map .int)),.shr (.int k),.shr (aD fs),.own (.list (p.map .str)),.own (.list (q.map .str)),.shr (.int (i:Nat)),.shr (.str x),j],?_⟩;by_cases u:fO e (k+(i:Nat)) 8<2
   ·refine ⟨[.shr (.list (e.map .int)),.shr (.int k),.shr (aD fs),.own (.list ((p++[x]).map .str)),.own (.list (q.map .str)),.shr (.int (i:Nat)),.shr (.str x),.shr (.int (fO e (k+(i:Nat)) 8))],rfl,?_,c++[x],by rw [<- f];simp,_,_,g.left x l,_,_,_,rfl⟩;left;rw [fQ e _ 8 (by omega) (by decide)];left;rw [decide_eq_true u];left;rw [<- Li];exact CQ (ds:=p.map .str) rfl rfl (by rw [ah];omega)
   ·by_cases v:fO e (k+(i:Nat)) 8=2
    ·refine ⟨[.shr (.list (e.map .int)),.shr (.int k),.shr (aD fs),.own (.list (p.map .str)),.own (.list ((q++[x]).map .str)),.shr (.int (i:Nat)),.shr (.str x),.shr (.int (fO e (k+(i:Nat)) 8))],rfl,?_,c++[x],by rw [<- f];simp,_,_,g.right x l,_,_,_,rfl⟩;left;rw [fQ e _ 8 (by omega) (by decide)];left;rw [decide_eq_false u];left;rw [qO];left;rw [decide_eq_true v];left;rw [<- Li];exact CQ (ds:=q.map .str) rfl rfl (by rw [ah];omega)
    ·refine ⟨[.shr (.list (e.map .int)),.shr (.int k),.shr (aD fs),.own (.list (p.map .str)),.own (.list (q.map .str)),.shr (.int (i:Nat)),.shr (.str x),.shr (.int (fO e (k+(i:Nat)) 8))],rfl,?_,c++[x],by rw [<- f];simp,_,_,g.skip x,_,_,_,rfl⟩;left;rw [fQ e _ 8 (by omega) (by decide)];left;rw [decide_eq_false u];left;rw [qO];left;rw [decide_eq_false v];left) (oN 0 fs) () [.shr (.list (e.map .int)),.shr (.int k),.shr (aD fs),.own (.list []),.own (.list []),.no,.no,.no] ⟨[],by rw [tZ];rfl,[],[],⟨fg _,fg _,fun _ h=>nomatch h⟩,_,_,_,rfl⟩
  refine ⟨p,q,?_,?_⟩
  ·rw [n,y];left;rw [hU];left;rw [hU];left
  ·simp only [ft,bT] at f;rw [<- f];exact g
 ·left;rw [zf]
theorem WR (j:Int) (b:0<=j) (a:j<2):∃ m:Int,bj (.list [.int 2,.int 4]) (.int j)=.ok (.int m):=by
 have:j=0\/j=1:=by omega
 rcases this with h|h<;>subst h
 ·exact ⟨2,rfl⟩
 ·exact ⟨4,rfl⟩
theorem WS (fs:List Str) (es:List iI):bj (eg fs es) (.int 0)=.ok (aD fs):=id rfl
theorem TQ (fs:List Str) (es:List iI):bj (eg fs es) (.int 1)=.ok (.tuple (es.map dh)):=id rfl
theorem TU (a:List Int) (m n:Int) (e:0<=m) (g:m<=6) (f:0<=n) (h:n<=6):∃ fs es c d b,qI [.list (a.map .int),.int m,.int n]=.ok (.tuple [eg fs es,aD c,BC d b])/\fK fs es/\rF fs c/\Vo fs d b/\fs.length<=m.toNat/\es.length<=n.toNat:=by
 obtain ⟨fs,es,o,gb,j⟩:=TF a 100 (by decide) m n e g f h;obtain ⟨pt,i⟩:=WR (fO a 97 2) (fP _ _ _ (by decide)) (gW _ _ _ (by decide));obtain ⟨c,hs,l⟩:=TL a 20 (by decide) fs gb.rise.len pt;obtain ⟨d,b,k,p⟩:=TM a 30 (by decide) fs gb.rise.up gb.rise.len;refine ⟨fs,es,c,d,b,?_,gb,Jb gb.rise.up l,p,j⟩;unfold qI;refine dA ?_;unfold qH bX;left;rw [o];left;rw [WS];left;rw [fQ a 97 2 (by decide) (by decide)];left;rw [i];left;rw [hs];left;rw [WS];left;rw [k];left
theorem QP (b:xs.length<=60):gV [aD xs,aD ys]=.ok (.bool (!xs.any fun x=>decide (x∈ys))):=by
 unfold gV;refine dA ?_;unfold kX bX;left;rw [if_pos (by omega)];rw [eU _ (fun x:Str=>aU x) (fun x=>cU (decide (x∈ys))) xs fun x a=>i7 rfl (by
  left;rw [sM];rfl)]
 left;rw [l8 _ (fun x=>decide (x∈ys))];left;rw [xU];rfl
theorem Vp (a:Bool) (xs:List Str):EV a (aD xs) .none=.ok (.bool a):=by cases a<;>rfl
theorem Vq (a:Bool):EV a .none .none=.ok (.bool (!a)):=by cases a<;>rfl
theorem WT (e:iI):bj (dh e) (.int 0)=.ok (.str e.name):=id rfl
theorem q0g (e:iI):bj (dh e) (.int 3)=.ok (aD e.makes):=id rfl
theorem q0h (e:iI):bj (dh e) (.int 4)=.ok (aD e.ends):=id rfl
theorem YY (e:iI):Kf (dh e) (some 1) (some 3)=.ok (BC e.needs e.bars):=id rfl
theorem TV (x:Str) (a:aI->R (List D)) (s:Sl) (ρ:aI) (h:a (s::ρ)=.ok ds) (b:ds.length<=1000):sD x a (s::ρ)=.ex x none:=by unfold sD;rw [h,bind_ok,if_pos b]
theorem QQ (a:Str->Option Nat) (F:List D->R D) (ds:List D):yc a F ds=Ct a (F ds):=id rfl
theorem TW (a:Str->Option Nat) (d:D):Ct a (.ok d)=.ok d:=id rfl
theorem TX (h:wh y=some j):Ct wh (.ex y none)=.ok (.tuple [.str "refused",.int (j:Nat)]):=by simp only [Ct,h]
theorem vM (h:xs[j]?=some v):bj (.list xs) (.int (j:Nat))=.ok v:=by
 have e:bj (.list xs) (.int (j:Nat))=FO (.list xs) (.int (j:Nat)):=rfl;rw [e];unfold FO;simp only [tw h]
def YZ:R D->Bool
 |.ok (.bool b)=>b
 |_=>false
theorem TY (h:YZ r=true):r=.ok (.bool true):=by
 unfold YZ at h;split at h
 ·rw [h]
 ·cases h
theorem q0i (a x y z:D) (r:aI):PR (mP 3 (cR (c6 1) (cR (c6 2) (cR (c6 3) n_)))) (Sl.shr a::.no::.no::.no::r) (.tuple [x,y,z])=.ok (.nx (.shr a::.shr x::.shr y::.shr z::r)):=id rfl
def cL (st a b:List Str):Bool:=(a.all fun x=>decide (x∈st)) && !b.any fun x=>decide (x∈st)
theorem q0j (m b:List Str):bj (BC m b) (.int 0)=.ok (aD m):=id rfl
theorem q0k (m b:List Str):bj (BC m b) (.int 1)=.ok (aD b):=id rfl
theorem TZ (d:a.length<=60) (f:b.length<=60):qK [aD st,BC a b]=.ok (.bool (cL st a b)):=by
 unfold qK;refine dA ?_;unfold qJ bX;left;rw [q0j];left;rw [if_pos (by omega)];rw [eU _ (fun x:Str=>aU x) (fun x=>cU (decide (x∈st))) a fun x c=>i7 rfl (by
  left;rw [sM];rfl)]
 left;rw [l8 _ (fun x=>decide (x∈st))];left;rw [q0k];left;rw [if_pos (by omega)];rw [eU _ (fun x:Str=>aU x) (fun x=>cU (decide (x∈st))) b fun x c=>i7 rfl (by
  left;rw [sM];rfl)]
 left;rw [l8 _ (fun x=>decide (x∈st))];left;unfold cL;rw [nR,xU];have e:(id∘fun x=>decide (x∈st))=fun x=>decide (x∈st):=rfl;rw [e];cases (a.all fun x=>decide (x∈st))<;>rfl
theorem Jc (h:g (bX n ds)=.ok (.nx ρ)):gz n g ds=.ok .none:=by unfold gz;rw [h]
theorem q0l (a x y:D):PR (mP 2 (cR (c6 2) (cR (c6 3) n_))) [Sl.shr a,.shr (.tuple [x,y]),.no,.no] (.tuple [x,y])=.ok (.nx [.shr a,.shr (.tuple [x,y]),.shr x,.shr y]):=id rfl
theorem Jd (c:a.length<=60) (f:b.length<=60):tU [aD st,BC a b]=.ok (.bool (cL st a b)):=by
 unfold tU;refine dA ?_;unfold tT bX BC;left;rw [q0l];left;rw [if_pos (by omega)];rw [eU _ (fun x:Str=>aU x) (fun x=>cU (decide (x∈st))) a fun x d=>i7 rfl (by
  left;rw [sM];rfl)]
 left;rw [l8 _ (fun x=>decide (x∈st))];left;rw [QP (by omega)];unfold cL;rw [nR];have e:(id∘fun x=>decide (x∈st))=fun x=>decide (x∈st):=rfl;rw [e];cases (a.all fun x=>decide (x∈st))<;>rfl
theorem MT (g:fK fs es) (h:rF fs ss):lS [eg fs es,aD ss]=.ok .none:=by
 unfold lS;refine Jc (ρ:=[.shr (eg fs es),.shr (aD ss)]) ?_;unfold lR bX;left;rw [WS];left;rw [nE g.rise.ok h (jx h g.rise.len)];left
theorem Aw (g:fK fs es) (h:rF fs ss):jU [eg fs es,aD ss]=.ok .none:=by
 unfold jU;refine Jc (ρ:=[.shr (eg fs es),.shr (aD ss)]) ?_;unfold lT bX;left;rw [Ja g];left;rw [MT g h];left
theorem QR (xs:List D):lQ (.tuple xs)=.ok (.list xs):=id rfl
structure Lj (e:iI):Prop where
 needs:e.needs.length<=6
 bars:e.bars.length<=6
 makes:e.makes.length<=6
 ends:e.ends.length<=6
theorem p_ (g:fK fs es) (he:e∈es):Lj e :=
 ⟨jx (g.ok e he).needs g.rise.len,jx (g.ok e he).bars g.rise.len,jx (g.ok e he).makes g.rise.len,jx (g.ok e he).ends g.rise.len⟩
theorem q0m (e:iI):bj (dh e) (.int 1)=.ok (aD e.needs):=id rfl
theorem q0n (e:iI):bj (dh e) (.int 2)=.ok (aD e.bars):=id rfl
def CT (e:iI) (st:List Str):Option (List Str):=if cL st e.needs e.bars then some (srt ((st.filter fun x=>!decide (x∈e.ends))++e.makes)) else none
def QS:Option (List Str)->D
 |none=>.none
 |some s=>aD s
theorem wu (he:Lj e) (hs:st.length<=30):eE [dh e,aD st]=.ok (QS (CT e st)):=by
 have:=he.needs;have:=he.bars;have:=he.makes;unfold eE;refine dA ?_;unfold qL bX;left;rw [YY];left;rw [TZ (by omega) (by omega)];left;unfold CT;cases b:cL st e.needs e.bars with
 |false =>
  left;rfl
 |true =>
  left;rw [if_pos (by omega)];rw [gU _ (fun x:Str=>aU x) (fun x=>aU x) (fun x=>!decide (x∈e.ends)) st fun x a=>qw (by
   left;rw [q0h];left;rw [sM];rfl) fun _=>rfl]
  have c:(st.filter fun x=>!decide (x∈e.ends)).length<=st.length:=l_ _ _;left;rw [xy,Lf];left;rw [q0g];left;rw [QR];left;rw [if_pos (by omega)];left;rw [<- bd,Ar _ (by rw [aO];omega)];left;rw [As _ (by have:=gQ ((st.filter fun x=>!decide (x∈e.ends))++e.makes) [];simp only [bU,aO] at this;omega)];left;rw [hU];rfl
theorem QT:∀ {a b:List Str},(a.Pairwise fun x y=>rz x y=true)->(b.Pairwise fun x y=>rz x y=true)->(∀ x,x∈a↔x∈b)->a=b:=by
 intro a b c d h;have e:=mj c;have g:=mj d;have p:a.Perm b:=(gF e g).mpr h;exact p.eq_of_pairwise (fun x y _ _ f i=>by
  have:=tG f i;rw [uN] at this;cases this) c d
def ba (e:iI) (st:List Str):List Str:=srt ((st.filter fun x=>!decide (x∈e.ends))++e.makes)
theorem Je : x∈ba e st↔(x∈st/\x∉e.ends)\/x∈e.makes:=by
 unfold ba;rw [oM];simp [iY]
theorem u0 (e:iI) (st:List Str):CT e st=if cL st e.needs e.bars then some (ba e st) else none:=rfl
theorem CU (s:List Str):QS (some s)=aD s:=rfl
theorem CV:QS none=.none:=rfl
theorem Y_ (a gb:aI->R (List Str)) (s:Sl) (ρ:aI) (b:a (s::ρ)=.ok xs) (d:gb (s::ρ)=.ok ys) (c:xs.length+ys.length<=15):Q7 a gb (s::ρ)=.ok (dJ xs ys):=by
 unfold Q7 J.Wp;rw [b,bind_ok,d,bind_ok,if_pos c]
theorem CW (a:List Str) (h:a.length<60):uR (aD a)=.ok (dJ [] a):=by
 have e:∀ ds,uR (.tuple ds)=match fD ds with
  |some a=>if a.length<60 then .ok (dJ [] a) else .no
  |none=>.no:=fun _=>rfl
 rw [e,strsOf_map];simp only [if_pos h]
theorem WU (xs ys:List Str):kP (dJ (dJ [] xs) (dJ [] ys))=srt (xs++ys):=by
 refine QT (xp (si _) ((iy _).nodup_iff.mpr (ji _ _ (ji _ [] gC)))) (J9 _) fun x=>?_;rw [(iy _).mem_iff,jt,jt,jt,oM,eT];simp
theorem MU (h:xs.length+ys.length<=12):wp [aD xs,aD ys]=.ok (aD (srt (xs++ys))):=by
 have b:=gQ xs [];have a:=gQ ys [];simp only [bU] at b a;have c:=gQ (dJ [] ys) (dJ [] xs);unfold wp;refine dA ?_;unfold wo bX;left;rw [xy,Y_ _ _ _ _ (CW xs (by omega)) (CW ys (by omega)) (by omega)];left;rw [As _ (by omega),WU];left;rw [hU];left
theorem Jf (h:xs.length<=60):tP [aD xs,aD ys]=.ok (aD (xs.filter fun x=>!decide (x∈ys))):=by
 unfold tP;refine dA ?_;unfold tO bX;left;rw [if_pos (by omega)];rw [gU _ (fun x:Str=>aU x) (fun x=>aU x) (fun x=>!decide (x∈ys)) xs fun x a=>qw (by
  left;rw [sM];rfl) fun _=>rfl]
 left;rw [hU];left
theorem Z0 (h:gs (s::ρ)=.ok [d,e]):Q8 i j gs (s::ρ)=.ok (.nx (((s::ρ).set i (.shr d)).set j (.shr e))):=by
 unfold Q8;rw [h];rfl
theorem MV (he:Lj e) (hs:st.length<=6):kZ [dh e,aD st]=.ok (aD (ba e st)):=by
 have:=he.makes;have a:(st.filter fun x=>!decide (x∈e.ends)).length<=st.length:=l_ _ _;unfold kZ;refine dA ?_;unfold kY bX;left;rw [Z0 (d:=aD e.makes) (e:=aD e.ends) rfl];left;rw [Jf (by omega)];left;rw [MU (by omega)];rfl
theorem MW (he:Lj e):oG [dh e,aD st]=.ok (.bool (cL st e.needs e.bars)):=by
 have:=he.needs;have:=he.bars;unfold oG;refine dA ?_;unfold oF bX;left;rw [q0m];left;rw [q0n];left;rw [Jd (by omega) (by omega)];left
structure Row (es rs:List iI):Prop where
 mem:∀ e∈rs,e∈es
 len:rs.length<=20
abbrev nF (a:List iI):D:=.list (a.map fun e=>aU e.name)
theorem zg:Wd (.int 1)=.ok (.int (-1)):=rfl
theorem Lk (g:aI->R D) (s:Sl) (ρ:aI):DY g (s::ρ)=(g (s::ρ)).bind Wd:=id rfl
theorem lW (a:kt d ρ=.ok ρ1) (b:gb ρ1=.ok (.nx ρ2)):jT kt gb (d::r) ρ=jT kt gb r ρ2:=by
 rw [jT,a];simp only [b]
theorem Ll (a:kt d ρ=.ok ρ1) (b:gb ρ1=.ok (.rt x)):jT kt gb (d::r) ρ=.ok (.rt x):=by
 rw [jT,a];simp only [b]
def WV (fs:List Str):List (List Str):=fs.foldl (fun a f=>a++a.map (·++[f])) [[]]
theorem WW (h:ρ[i]?=some (Sl.shr d)):wa i kt gb ρ=pp (m9 fun ρ=>HF ρ i) kt gb ρ:=by
 unfold wa;rw [h]
theorem Eo:∀ (fs:List Str) (a:List (List Str)) (t u:List Str),t∈a->u.Sublist fs->t++u∈fs.foldl (fun a f=>a++a.map (·++[f])) a
 |[],a,t,u,b,c=>by
  cases c;rw [bT];exact b
 |f::r,a,t,u,b,c=>by
  rw [db];cases c with
  |cons _ h=>exact Eo r _ t u (bg _ b) h
  |cons_cons _ h =>
   rename_i d
   have:=Eo r (a++a.map (·++[f])) (t++[f]) d (aM _ (bt b)) h
   rwa [dR] at this
theorem QU (c:fs.Pairwise fun a b=>rz a b=true) (h:rF fs xs):xs.Sublist fs:=by
 have e:xs=fs.filter fun x=>decide (x∈xs):=QT h.up (c.sublist vw) fun x=>by
  rw [iY,decide_eq_true_eq];exact ⟨fun z=>⟨h.mem x z,z⟩,fun z=>z.2⟩
 rw [e];exact vw
theorem QV (c:fs.Pairwise fun a b=>rz a b=true) (h:rF fs xs):xs∈WV fs:=Eo fs [[]] [] xs (List.mem_singleton.mpr rfl) (QU c h)
def ll:List iI->List Str->Option (List Str)
 |[],st=>some st
 |e::r,st=>if cL st e.needs e.bars then ll r (ba e st) else none
def l9:List iI->List Str->List (List Str)
 |[],st=>[st]
 |e::r,st=>if cL st e.needs e.bars then st::l9 r (ba e st) else [st]
theorem qP (d:fs.Pairwise fun a b=>rz a b=true) (g:sL fs e) (h:rF fs st):rF fs (ba e st):=by
 refine ⟨J9 _,fun x c=>?_⟩;rcases Je.mp c with z|z
 ·exact h.mem x z.1
 ·exact g.makes.mem x z
theorem CY:∀ (a:List iI) (st:List Str),(l9 a st).length<=a.length+1
 |[],_=>ap _
 |e::r,st=>by
  unfold l9;split
  ·have:=CY r (ba e st);simp only [aW];omega
  ·simp
theorem Ax:∀ (c:List iI) (st s:List Str),ll c st=some s->∃ a,l9 c st=a++[s]
 |[],st,s,h=>by cases h;exact ⟨[],rfl⟩
 |e::r,st,s,h=>by
  unfold ll at h;unfold l9;cases b:cL st e.needs e.bars with
  |true =>
   rw [b,if_pos rfl] at h;rw [if_pos rfl];obtain ⟨a,d⟩:=Ax r _ _ h;exact ⟨st::a,by rw [d];rfl⟩
  |false=>rw [b] at h;cases h
theorem Lm (xs:List D) (x:D):bj (.list (xs++[x])) (.int (-1))=.ok x:=by
 have e:bj (.list (xs++[x])) (.int (-1))=FO (.list (xs++[x])) (.int (-1)):=rfl;rw [e];unfold FO;have:ET (xs++[x]) (-1)=some x:=by
  unfold ET Uo;rw [if_neg (by decide),if_pos (by simp only [aO,aW,bU];omega)];have a:(-1+((xs++[x]).length:Int)).toNat=xs.length:=by simp only [aO,aW,bU];omega
  simp only [qg,a];rw [br (ap _)];simp
 simp only [this]
def cS (l:List (List Str×D)):List (D×D):=l.map fun p=>(aD p.1,p.2)
abbrev lu (l:List (List Str×D)):List (List Str):=l.map (·.1)
theorem Jg (x:List Str):aD x=tD (x.map im):=by
 unfold aD tD;rw [bJ];rfl
theorem lH (x:List Str):rE (aD x)=some (x.map im):=by rw [Jg,Qf]
theorem T_ {a b:List Str} (h:a.map (im:Str->eC)=b.map im):a=b:=by
 induction a generalizing b with
 |nil=>cases b with|nil=>rfl|cons _ _=>cases h
 |cons x r c =>
  cases b with
  |nil=>cases h
  |cons y t =>
   simp only [ax,xg] at h;rw [c h.2,Sum.inr.inj h.1]
theorem QW (x y:List Str):bq (aD x) (aD y)=decide (x=y):=by
 rw [Jg,Jg,E6];by_cases h:x=y
 ·rw [h];simp
 ·rw [decide_eq_false h,decide_eq_false fun z=>h (T_ z)]
theorem Gy (l:List (List Str×D)):HH (cS l)=cS l:=by cases l<;>rfl
theorem mW (h:l≠[]):kS (cS l)=true:=by
 have b:((cS l).all fun a=>(rE a.1).isSome)=true:=by
  unfold cS;rw [nR,cy];intro p _;show (rE (aD p.1)).isSome=true;rw [lH];rfl
 unfold kS;rw [b];cases l with
 |nil=>exact (h rfl).elim
 |cons _ _=>rfl
theorem u4 (x:List Str):∀ l:List (List Str×D),md (cS l) (aD x)=(l.find? fun p=>decide (p.1=x)).map (·.2)
 |[]=>rfl
 |p::r=>by
  have a:=u4 x r;unfold md cS at a ⊢;rw [ax,cj,cj,QW];by_cases h:p.1=x
  ·rw [decide_eq_true h];rfl
  ·rw [decide_eq_false h];exact a
theorem QX (c:(lu l).Nodup) (a:p∈l):(l.find? fun q=>decide (q.1=p.1))=some p:=by
 induction l with
 |nil=>cases a
 |cons q r b =>
  obtain ⟨d,e⟩:=List.nodup_cons.mp c;rw [cj];rcases List.mem_cons.mp a with h|h
  ·subst h;simp
  ·have:q.1≠p.1:=fun z=>d (by show q.1∈_;rw [z];exact bt h)
   rw [decide_eq_false this];exact b e h
theorem MX {a:Type}{l:List a}{x:a} (h:x∈l):l≠[]:=fun z=>by rw [z] at h;cases h
theorem QY (c:HH ds=cS l) (b:(lu l).Nodup) (a:p∈l):Ge (.dict ds) (aD p.1)=.ok p.2:=by
 unfold Ge;simp only [lH,c];rw [if_pos (mW (MX a)),u4,QX b a];rfl
theorem Ln (a:(lu l).Nodup) (b:p∈l):Ge (.dict (cS l)) (aD p.1)=.ok p.2:=QY (Gy l) a b
theorem QZ (a:(lu l).Nodup) (b:p∈l):Ge (.dict ((.none,.none)::cS l)) (aD p.1)=.ok p.2:=QY rfl a b
theorem xA (x:List Str):∀ l:List (List Str×D),((l.find? fun p=>decide (p.1=x)).map (·.2)).isSome=decide (x∈lu l)
 |[]=>by simp
 |p::r=>by
  rw [cj];by_cases h:p.1=x
  ·rw [decide_eq_true h];simp [h]
  ·rw [decide_eq_false h];simp only;rw [xA x r];simp [cV h]
theorem Lo (h:l≠[]) (x:List Str):inT true (aD x) (.dict (cS l))=.ok (.bool (!decide (x∈lu l))):=by
 unfold inT;simp only [lH,Gy];rw [if_pos (mW h),u4,xA];rfl
theorem Gz (l:List (List Str×D)):E9 (.dict ((.none,.none)::cS l))=.ok ((lu l).map aD):=by
 show R.ok ((cS l).map (·.1))=_;unfold cS lu;rw [bJ,bJ];rfl
theorem U0 (h:x∉lu l) (d:D):uj (cS l) (aD x) d=cS (l++[(x,d)]):=by
 have e:((cS l).any fun b=>bq b.1 (aD x))=false:=by
  unfold cS;rw [xU,ND];intro p a;show ¬bq (aD p.1) (aD x)=true;rw [QW,decide_eq_true_eq];exact fun z=>h (by rw [<- z];exact bt a)
 unfold uj;rw [e,if_neg a_];unfold cS;rw [bd];rfl
theorem Q_ (f:ρ[i]?=some (Sl.own (.dict (cS l)))) (h:g ρ=.ok d) (c:gk ρ=.ok (aD x)) (b:l≠[]) (m:l.length<1000) (j:x∉lu l):uy i gk g ρ=.ok (.nx (ρ.set i (.own (.dict (cS (l++[(x,d)])))))):=by
 have a:(cS l).length<1000:=by unfold cS;rw [ah];exact m
 have e:uy i gk g ρ=(g ρ).bind fun d=>(gk ρ).bind fun k=>match rE k with
  |some _=>if (cS l).length<1000/\kS (cS l)=true then .ok (.nx (ρ.set i (.own (.dict (uj (cS l) k d))))) else .no
  |none=>.no:=by
  unfold uy;simp only [f];try rfl
 rw [e,h,Aa,c,Aa];simp only [lH,if_pos (vt a (mW b)),U0 j]
theorem Z1 (a:l≠[]) (h:ρ[i]?=some (Sl.own (.dict (cS l)))):Wz i g ρ=g (ρ.set i (.own (.dict ((.none,.none)::cS l)))):=by
 unfold Wz;congr 1;unfold mh;rw [h];cases l with
 |nil=>exact (a rfl).elim
 |cons p r=>rfl
theorem Z2 (a:gk (s::ρ)=.ok (aD x)) (b:gv (s::ρ)=.ok d):Vc gk gv (s::ρ)=.ok (.dict (cS [(x,d)])):=by
 unfold Vc;rw [a,bind_ok,b,bind_ok];simp only [lH];rfl
theorem Z3 (h:g (s::ρ)=.ok (.list ds)):Ea g (s::ρ)=.ok (!ds.isEmpty):=by
 unfold Ea;rw [h,bind_ok]
theorem Vr (g:aI->R D) (s:Sl) (ρ:aI):MB g (s::ρ)=(g (s::ρ)).bind E9:=id rfl
theorem GA {b:Type} [DecidableEq b] : ∀ {l m:List b},l.Nodup->(∀ x∈l,x∈m)->l.length<=m.length
 |[],_,_,_=>cG _
 |x::r,m,d,h=>by
  obtain ⟨e,f⟩:=List.nodup_cons.mp d;have c:=h x al;have:=GA (l:=r) (m:=m.erase x) f fun y a=>(JX fun z=>e (by rw [<- z];exact a)).mpr (h y (ag _ a));rw [EQ c] at this;have:=HE c;simp only [aW];omega
theorem GB:∀ (fs:List Str) (a:List (List Str)),(fs.foldl (fun a f=>a++a.map (·++[f])) a).length=a.length*2 ^ fs.length
 |[],a=>by simp
 |f::r,a=>by
  rw [db,GB r,aO,ah,aW,Nat.pow_succ,<- Nat.two_mul,Ij 2,Nat.mul_assoc,Ij 2]
theorem U1 (h:fs.length<=6):(WV fs).length<=64:=by
 unfold WV;rw [GB];have:2 ^ fs.length<=2 ^ 6:=Nat.pow_le_pow_right (by decide) h
 simp only [aW,bU];omega
theorem GC (a:QA fs 6) (c:(lu l).Nodup) (h:∀ x∈lu l,rF fs x):l.length<=64:=by
 have:=GA c fun x b=>QV a.up (h x b);rw [ah] at this;exact bL this (U1 a.len)
def R1 (es:List iI) (st x:List Str):Prop:=∃ a:List iI,(∀ e∈a,e∈es)/\ll a st=some x
theorem sP (e:iI):∀ (b:List iI) (st x:List Str),ll b st=some x->cL x e.needs e.bars=true->ll (b++[e]) st=some (ba e x)
 |[],st,x,h,g=>by cases h;show (if cL st e.needs e.bars then ll [] (ba e st) else none)=_;rw [g];rfl
 |a::r,st,x,h,g=>by
  show (if cL st a.needs a.bars then ll (r++[e]) (ba a st) else none)=_;have h':(if cL st a.needs a.bars then ll r (ba a st) else none)=some x:=h;split at h'
  ·rename_i c
   rw [if_pos c];exact sP e r _ _ h' g
  ·cases h'
theorem uW {es:List iI}{M:List Str->Prop} (c:∀ x,M x->∀ e∈es,cL x e.needs e.bars=true->M (ba e x)):∀ (d:List iI) (st x:List Str),M st->(∀ e∈d,e∈es)->ll d st=some x->M x
 |[],st,x,b,_,h=>by cases h;exact b
 |a::r,st,x,b,he,h=>by
  have h':(if cL st a.needs a.bars then ll r (ba a st) else none)=some x:=h;split at h'
  ·rename_i f
   exact uW c r _ _ (c st b a (he a al) f) (fun e h=>he e (ag _ h)) h'
  ·cases h'
theorem R4 (g:fK fs es) (hs:rF fs st):k_ [eg fs es,aD st]=.ok (.list ((es.filter fun e=>cL st e.needs e.bars).map fun e=>cn [dh e,aD (ba e st)])):=by
 have a:=jx hs g.rise.len;have b:=g.len;unfold k_;refine dA ?_;unfold mR bX;left;rw [TQ];left;rw [if_pos (by omega)];rw [gU _ dh (fun e=>cn [dh e,aD (ba e st)]) (fun e=>cL st e.needs e.bars) es fun e he=>qw (by
  left;rw [MW (p_ g he)];left) fun _=>(by
  left;rw [MV (p_ g he) a];left)]
 left
abbrev LZ:=List (List Str×List iI)
def iJ (l:LZ):List (List Str×D):=l.map fun p=>(p.1,nF p.2)
structure o0 (fs st:List Str) (es:List iI) (l:LZ):Prop where
 nd:(l.map (·.1)).Nodup
 beg:(st,[])∈l
 sub:∀ p∈l,rF fs p.1
 row:∀ p∈l,(∀ e∈p.2,e∈es)/\ll p.2 st=some p.1/\p.2.length<l.length
theorem ko (l:LZ):lu (iJ l)=l.map (·.1):=by
 unfold lu iJ;rw [bJ];rfl
theorem o0.ne (h:o0 fs st es l):iJ l≠[]:=by
 intro z;have:=List.map_eq_nil_iff.mp z;have a:=h.beg;rw [this] at a;cases a
theorem o0.few (g:fK fs es) (h:o0 fs st es l):l.length<=64:=by
 have:=GC g.rise (l:=iJ l) (by rw [ko];exact h.nd) fun x a=>by
  rw [ko] at a;obtain ⟨p,b,rfl⟩:=List.mem_map.mp a;exact h.sub p b
 unfold iJ at this;rw [ah] at this;exact this
def iT (at0:List Str) (row:List iI) (b:LZ×List (List Str)) (e:iI):LZ×List (List Str) :=
 if ba e at0∈b.1.map (·.1) then b else (b.1++[(ba e at0,row++[e])],b.2++[ba e at0])
theorem WX (g:fK fs es) (h:o0 fs st es b.1) (c:(at0,row)∈b.1) (he:e∈es) (l:cL at0 e.needs e.bars=true):o0 fs st es (iT at0 row b e).1:=by
 unfold iT;split
 ·exact h
 ·rename_i d
  obtain ⟨f,i,j⟩:=h.row _ c;refine ⟨?_,bg _ h.beg,fun p a=>?_,fun p a=>?_⟩
  ·rw [bd];exact yT h.nd d
  ·rcases List.mem_append.mp a with z|z
   ·exact h.sub p z
   ·rw [List.mem_singleton.mp z];exact qP g.rise.up (g.ok e he) (h.sub _ c)
  ·rw [aO,du];rcases List.mem_append.mp a with z|z
   ·obtain ⟨k1,k2,k3⟩:=h.row p z;exact ⟨k1,k2,by omega⟩
   ·rw [List.mem_singleton.mp z];refine ⟨fun x k=>?_,sP e _ _ _ i l,?_⟩
    ·rcases List.mem_append.mp k with y|y
     ·exact f x y
     ·rw [List.mem_singleton.mp y];exact he
    ·show (row++[e]).length<b.1.length+1;rw [aO,du];have:row.length<b.1.length:=j
     omega
theorem GD (at0:List Str) (row:List iI) (b:LZ×List (List Str)) (e:iI):(∀ p∈b.1,p∈(iT at0 row b e).1)/\ba e at0∈(iT at0 row b e).1.map (·.1)/\(∀ x∈(iT at0 row b e).1.map (·.1),x∈b.1.map (·.1)\/x∈(iT at0 row b e).2)/\(∀ x∈b.2,x∈(iT at0 row b e).2)/\(∀ x∈(iT at0 row b e).2,x∈b.2\/x∈(iT at0 row b e).1.map (·.1))/\b.1.length+(iT at0 row b e).2.length=(iT at0 row b e).1.length+b.2.length:=by
 unfold iT;split
 ·rename_i h
  exact ⟨fun _ h=>h,h,fun _ h=>.inl h,fun _ h=>h,fun _ h=>.inl h,rfl⟩
 ·refine ⟨fun p c=>bg _ c,?_,fun x a=>?_,fun x a=>bg _ a,fun x a=>?_,?_⟩
  ·rw [bd];exact aM _ al
  ·rw [bd] at a;rcases List.mem_append.mp a with z|z
   ·exact .inl z
   ·exact .inr (aM _ z)
  ·rcases List.mem_append.mp a with z|z
   ·exact .inl z
   ·rw [bd];exact .inr (aM _ z)
  ·simp only [aO,du];omega
theorem U2 (a:Bool) (ds:List D) (h:cz ds=true):rA a (.list ds) (.list [])=.ok (.bool (a != decide (ds=[]))):=by
 unfold rA;have b:(fW ds).canLay0=true:=by simp only [eG];exact h
 have d:min (fW ds).depth (fW []).depth<=60:=bL (rH _ _) (by decide);have c:bq (.list ds) (.list [])=decide (ds=[]):=by
  cases ds with
  |nil=>rfl
  |cons x r=>simp [bq,fi]
 rw [b,show (fW []).canLay0=true from rfl,decide_eq_true d,c];cases a<;>cases decide (ds=[])<;>rfl
theorem Lp (ds:List D) (h:cz ds=true):rA false (.list ds) (.list [])=.ok (.bool (decide (ds=[]))):=by rw [U2 false ds h,Bool.false_bne]
theorem R5 (a:Bool) (o:Option (List Str)):EV a (QS o) .none=.ok (.bool (a==o.isSome)):=by cases o<;>cases a<;>rfl
theorem U3 {L:List iI}{j:Int} (b:0<=j) (c:j<(L.length:Nat)):∃ e∈L,bj (.list (L.map dh)) (.int j)=.ok (dh e):=by
 obtain ⟨n,rfl⟩:=rJ b;have a:n<L.length:=by omega
 refine ⟨L[n],io a,vM ?_⟩;rw [aF,aE a];rfl
theorem Jh (e:iI) (st:List Str):(CT e st).isSome=cL st e.needs e.bars:=by
 unfold CT;cases cL st e.needs e.bars<;>rfl
theorem CZ {fs w:List Str}{es:List iI} (g:fK fs es) (c:List Int) (at0:Int) (H:0<=at0) (M:D):∀ (q:List Nat) (a:List iI) (st:List Str) (v j l:Sl),(∀ e∈a,e∈es)->rF fs st->ll a w=some st->a.length+q.length<=20 ->
  ∃ b,(Row es b/\∃ x,ll b w=some x)/\(jT (c6 6) (bc (gd 7 (fJ 1 [3] (m9 (g2 (rB 2) (kI 1) bj)) (i3 (g2 (fH 2 eE (J.af (rS 0) (J.af (rS 1) J.aQ))) kN (EV true))) (rS 0))) (bc (g9 (i3 (g2 (rB 7) (fh J.aQ .list) (rA false))) (dE (rS 5)) (fun ρ=>.ok (.nx ρ))) (bc (gS 8 (g2 (rB 7) (fH 3 bv (J.af (rS 0) (J.af (g2 (rB 1) (rB 6) eB) (J.af (cr (J.af (rB 7) J.aQ) (jn mI)) J.aQ)))) bj)) (bc (qu 5 (g2 (rB 8) (kI 0) bj)) (gS 3 (fH 2 eE (J.af (rS 8) (J.af (rS 3) J.aQ)))))))) (q.map fun (i:Nat)=>d_ (i:Int)) [.shr (.list (c.map .int)),.shr (.int at0),.shr (eg fs es),.shr (aD st),.shr M,.own (nF a),v,j,l]).bind (Mu (dE (rS 5)))=.ok (.rt (nF b))
 |[],a,st,v,j,l,p,hs,o,s=>by
  refine ⟨a,⟨⟨p,by simpa using s⟩,st,o⟩,?_⟩;rw [ft,jT];left
 |k::q,a,st,v,j,l,p,hs,o,s=>by
  have I:=jx hs g.rise.len;have K:=g.len;simp only [aW] at s;let L:=es.filter fun e=>cL st e.needs e.bars
  have A:∀ e∈L,e∈es/\cL st e.needs e.bars=true:=fun e he=>List.mem_filter.mp he;have y:∀ (z:Sl),fJ 1 [3] (m9 (g2 (rB 2) (kI 1) bj)) (i3 (g2 (fH 2 eE (J.af (rS 0) (J.af (rS 1) J.aQ))) kN (EV true))) (rS 0) [.shr (.list (c.map .int)),.shr (.int at0),.shr (eg fs es),.shr (aD st),.shr M,.own (nF a),.shr (.int (k:Int)),j,z]=.ok (.list (L.map dh)):=by
   intro z;left;rw [TQ];left;rw [if_pos (by omega)];rw [gU _ dh dh (fun e=>cL st e.needs e.bars) es fun e he=>qw (by
    left;rw [wu (p_ g he) (by omega)];left;rw [R5,Jh];left;rw [Bool.true_beq]) fun _=>rfl]
   left;rfl
  have m:cz (L.map dh)=true:=Av dh L fun e he=>QN g.rise.ok (g.ok e (A e he).1);rw [ax];by_cases t:L=[]
  ·refine ⟨a,⟨⟨p,by omega⟩,st,o⟩,?_⟩;rw [Ll (x:=nF a) (ρ1:=[.shr (.list (c.map .int)),.shr (.int at0),.shr (eg fs es),.shr (aD st),.shr M,.own (nF a),.shr (.int (k:Int)),j,l]) rfl ?_]
   ·left
   ·rw [Ab];unfold gd;rw [y];left;rw [Lp _ m,t];left
  ·have N:0<L.length:=List.length_pos_iff.mpr t;have O:((L.length:Nat):Int) > 0:=by omega
   obtain ⟨e,he,u⟩:=U3 (L:=L) (fP c (at0+k) (L.length:Nat) (by omega)) (gW c (at0+k) (L.length:Nat) (by omega));obtain ⟨f,n⟩:=A e he;obtain ⟨b,B,E⟩:=CZ g c at0 H M q (a++[e]) (ba e st) (.shr (.int (k:Int))) (.own (.list (L.map dh))) (.shr (dh e)) (fun x G=>by
    rcases List.mem_append.mp G with h|h
    ·exact p x h
    ·rw [List.mem_singleton.mp h];exact f) (qP g.rise.up (g.ok e f) hs) (sP e a w st o n) (by rw [aO,du];omega)
   refine ⟨b,B,?_⟩;rw [lW (ρ1:=[.shr (.list (c.map .int)),.shr (.int at0),.shr (eg fs es),.shr (aD st),.shr M,.own (nF a),.shr (.int (k:Int)),j,l]) (ρ2:=[.shr (.list (c.map .int)),.shr (.int at0),.shr (eg fs es),.shr (aD (ba e st)),.shr M,.own (nF (a++[e])),.shr (.int (k:Int)),.own (.list (L.map dh)),.shr (dh e)]) rfl ?_]
   ·exact E
   ·rw [Ab];unfold gd;rw [y];left;rw [Lp _ m,decide_eq_false (by simpa using t)];left;rw [fQ c (at0+k) (L.length:Nat) (by omega) (by omega)];left;rw [u];left;rw [CQ (ds:=a.map fun e=>aU e.name) (d:=.str e.name) rfl (by
     left;rw [WT]) (by rw [ah];omega)]
    left;rw [wu (p_ g f) (by omega),u0,n];left;simp only [nF,bd];rfl
theorem U4 (g:fK fs es) (c:List Int) (k n:Int) (l:0<=k) (f:0<=n) (e:n<=20) (hs:rF fs st):∃ a,Row es a/\(∃ x,ll a st=some x)/\qN [.list (c.map .int),.int k,eg fs es,aD st,.int n]=.ok (nF a):=by
 obtain ⟨j,rfl⟩:=rJ f;obtain ⟨a,b,d⟩:=CZ g c k l (.int (j:Int)) (bE j) [] st .no .no .no (fun _ h=>nomatch h) hs rfl (by simp;omega);refine ⟨a,b.1,b.2,?_⟩;unfold qN;refine dA ?_;unfold qM bX;left;rw [sF (ds:=(bE j).map fun (i:Nat)=>d_ (i:Int))]
 ·exact d
 ·left;exact zc j (by omega)
def Ji (es:List iI):List (Str×D):=es.map fun e=>(e.name,dh e)
theorem GE:∀ es:List iI,J.oz (es.map fun e=>cn [.str e.name,dh e])=some (es.map fun e=>(im e.name,dh e))
 |[]=>rfl
 |e::r=>by
  show (pT (.str e.name)).bind (fun y=>(J.oz (r.map fun e=>cn [.str e.name,dh e])).map ((y,dh e)::·))=_;rw [GE r];rfl
theorem GF:∀ (l b:List (Str×D)),((b++l).map (·.1)).Nodup->l.foldl (fun a p=>uj a (.str p.1) p.2) (iZ b)=iZ (b++l)
 |[],b,_=>by rw [bT];rfl
 |p::r,b,c=>by
  have g:p.1∉b.map (·.1):=by
   rw [bd,ax] at c;intro h;exact (List.nodup_append.mp c).2.2 _ h _ al rfl
  have d:ul b p.1 p.2=b++[p]:=by
   unfold ul;rw [if_neg];rw [mn];rintro ⟨q,f,e⟩;exact g (List.mem_map.mpr ⟨q,f,of_decide_eq_true e⟩)
  rw [db,Le,d];have:=GF r (b++[p]) (by rwa [dR])
  rwa [dR] at this
theorem U5 (b:(es.map (·.name)).Nodup) (d:es.length<=6):J.wg (.list (es.map fun e=>cn [.str e.name,dh e]))=.ok (.dict (iZ (Ji es))):=by
 have e:J.wg (.list (es.map fun e=>cn [.str e.name,dh e]))=if (es.map fun e=>cn [.str e.name,dh e]).length<=1000 then (match J.oz (es.map fun e=>cn [.str e.name,dh e]) with
  |some c=>.ok (.dict (c.foldl (fun a p=>uj a (kD p.1) p.2) []))
  |none=>.no) else .no:=rfl
 rw [e,if_pos (by rw [ah];omega),GE];have:=GF (Ji es) [] (by rw [kC];unfold Ji;rw [bJ];exact b);rw [kC] at this;rw [<- this];unfold Ji;simp only [ur];rfl
theorem WY (a:(es.map (·.name)).Nodup) (he:e∈es):bj (.dict (iZ (Ji es))) (.str e.name)=.ok (dh e) :=
 QH (l:=Ji es) (by unfold Ji;rw [bJ];exact a) (p:=(e.name,dh e)) (bt (f:=fun e=>(e.name,dh e)) he)
theorem wv (g:fK fs es) (A B C:D):∀ (b:List iI) (n:Nat) (a:List (List Str)) (st:List Str) (x y z:Sl),(∀ e∈b,e∈es)->rF fs st->a.length+b.length<=100 ->
  match ll b st with
  |some _=>∃ m p q,jT (mP 2 (cR (c6 5) (cR (c6 6) n_))) (bc (gS 7 (fH 2 eE (J.af (g2 (rB 3) (rB 6) bj) (J.af (g2 (rB 4) (DY (kI 1)) bj) J.aQ)))) (bc (g9 (i3 (g2 (rB 7) kN (EV false))) (dE (rS 5)) (fun ρ=>.ok (.nx ρ))) (qu 4 (rS 7)))) (jS n (b.map fun e=>aU e.name)) [.shr A,.shr B,.shr C,.own (.dict (iZ (Ji es))),.own (.list ((a++[st]).map aD)),x,y,z]=.ok (.nx [.shr A,.shr B,.shr C,.own (.dict (iZ (Ji es))),.own (.list ((a++l9 b st).map aD)),m,p,q])
  |none=>∃ k,jT (mP 2 (cR (c6 5) (cR (c6 6) n_))) (bc (gS 7 (fH 2 eE (J.af (g2 (rB 3) (rB 6) bj) (J.af (g2 (rB 4) (DY (kI 1)) bj) J.aQ)))) (bc (g9 (i3 (g2 (rB 7) kN (EV false))) (dE (rS 5)) (fun ρ=>.ok (.nx ρ))) (qu 4 (rS 7)))) (jS n (b.map fun e=>aU e.name)) [.shr A,.shr B,.shr C,.own (.dict (iZ (Ji es))),.own (.list ((a++[st]).map aD)),x,y,z]=.ok (.rt (.int k))
 |[],n,a,st,x,y,z,_,_,_=>⟨x,y,z,rfl⟩
 |e::r,n,a,st,x,y,z,f,hs,s=>by
  have he:=f e al;have h:=p_ g he;have v:=jx hs g.rise.len;simp only [aW] at s;have c:bj (.list ((a++[st]).map aD)) (.int (-1))=.ok (aD st):=by
   rw [bd];exact Lm _ _
  have i:bj (.dict (iZ (Ji es))) (.str e.name)=.ok (dh e):=WY g.nd he;have o:jS n ((e::r).map fun e=>aU e.name)=.tuple [.int (n:Nat),.str e.name]::jS (n+1) (r.map fun e=>aU e.name):=rfl;rw [o];unfold l9 ll;cases j:cL st e.needs e.bars with
  |true =>
   rw [if_pos rfl,if_pos rfl];have u:a++st::l9 r (ba e st)=(a++[st])++l9 r (ba e st):=by simp
   rw [u];have l:=wv g A B C r (n+1) (a++[st]) (ba e st) (.shr (.int (n:Nat))) (.shr (.str e.name)) (.shr (aD (ba e st))) (fun x t=>f x (ag _ t)) (qP g.rise.up (g.ok e he) hs) (by rw [aO];simp only [aW,bU];omega);rw [lW (ρ1:=[.shr A,.shr B,.shr C,.own (.dict (iZ (Ji es))),.own (.list ((a++[st]).map aD)),.shr (.int (n:Nat)),.shr (.str e.name),z]) (ρ2:=[.shr A,.shr B,.shr C,.own (.dict (iZ (Ji es))),.own (.list ((a++[st]++[ba e st]).map aD)),.shr (.int (n:Nat)),.shr (.str e.name),.shr (aD (ba e st))]) rfl ?_]
   ·exact l
   ·left;rw [i];left;rw [Lk];left;rw [zg];left;rw [c];left;rw [wu h (by omega),u0,j];left;rw [CU,Vp];left;rw [bd (l₁:=a++[st])];exact CQ (ds:=(a++[st]).map aD) (d:=aD (ba e st)) rfl (by rfl) (by rw [ah,aO];simp only [aW,bU];omega)
  |false =>
   rw [if_neg a_];refine ⟨(n:Int),?_⟩;rw [Ll (x:=.int (n:Nat)) (ρ1:=[.shr A,.shr B,.shr C,.own (.dict (iZ (Ji es))),.own (.list ((a++[st]).map aD)),.shr (.int (n:Nat)),.shr (.str e.name),z]) rfl ?_];left;rw [i];left;rw [Lk];left;rw [zg];left;rw [c];left;rw [wu h (by omega),u0,j];left;rw [CV,Vq];left
theorem WZ (a:aI->R (List D)) (s:Sl) (ρ:aI):J.KJ a (s::ρ)=(a (s::ρ)).bind J.Tg:=id rfl
theorem R6 (g:aI->R D) (s:Sl) (ρ:aI):J.yZ g (s::ρ)=(g (s::ρ)).bind J.wg:=id rfl
theorem U6 (ds:List D):J.Tg [.list ds]=.ok (jS 0 ds):=rfl
theorem Jj (g:fK fs es) (h:Row es rs) (hs:rF fs st):match ll rs st with
  |some _=>iD [eg fs es,aD st,nF rs]=.ok (.list ((l9 rs st).map aD))
  |none=>∃ k,iD [eg fs es,aD st,nF rs]=.ok (.int k):=by
 have d:=h.len;have b:=g.len;have L:=wv g (eg fs es) (aD st) (nF rs) rs 0 [] st .no .no .no h.mem hs (by simp only [bU];omega);have K:∀ {x:D},(jT (mP 2 (cR (c6 5) (cR (c6 6) n_))) (bc (gS 7 (fH 2 eE (J.af (g2 (rB 3) (rB 6) bj) (J.af (g2 (rB 4) (DY (kI 1)) bj) J.aQ)))) (bc (g9 (i3 (g2 (rB 7) kN (EV false))) (dE (rS 5)) (fun ρ=>.ok (.nx ρ))) (qu 4 (rS 7)))) (jS 0 (rs.map fun e=>aU e.name)) [.shr (eg fs es),.shr (aD st),.shr (nF rs),.own (.dict (iZ (Ji es))),.own (.list (([]++[st]).map aD)),.no,.no,.no]).bind (Mu (dE (rS 4)))=.ok (.rt x)->iD [eg fs es,aD st,nF rs]=.ok x:=by
  intro x c;unfold iD;refine dA ?_;unfold mV bX;left;rw [R6];left;rw [TQ];left;rw [if_pos (by omega)];rw [eU _ dh (fun e=>cn [.str e.name,dh e]) es fun e he=>i7 rfl (by
   left;rw [WT];left)]
  left;rw [U5 g.nd b];left;rw [sF (ds:=jS 0 (rs.map fun e=>aU e.name))]
  ·exact c
  ·rw [WZ];left;rw [U6]
 cases a:ll rs st with
 |none =>
  rw [a] at L;obtain ⟨k,L⟩:=L;refine ⟨k,K ?_⟩;rw [L];left
 |some s =>
  rw [a] at L;obtain ⟨x,y,z,L⟩:=L;refine K ?_;rw [L];left
def Zn:aI->R Fl:=(g9 (i3 (g2 (rB 7) (rB 2) (inT true))) (bc (uy 2 (rS 7) (g2 (g2 (rB 2) (rB 5) Ge) (fh (J.af (g2 (rB 6) (kI 0) bj) J.aQ) .list) eB)) (qu 4 (rS 7))) (fun ρ=>.ok (.nx ρ)))
def MY:aI->R Fl:=pp (m9 (fH 2 k_ (J.af (rS 0) (J.af (rS 5) J.aQ)))) (mP 2 (cR (c6 6) (cR (c6 7) n_))) Zn
def Z4:aI->R Fl:=bc (gd 4 (fh J.aQ .list)) (bc (wa 3 (c6 5) MY) (UN 4 (gS 3 (rS 4))))
theorem R7:mS=bc (gd 2 (Vc (rS 1) (fh J.aQ .list))) (bc (gd 3 (fh (J.af (rS 1) J.aQ) .list)) (bc (jK (Ea (rB 3)) Z4 100000) (Wz 2 (dE (rS 2))))):=rfl
theorem GG (h:p∈l):(p.1,nF p.2)∈iJ l:=bt (f:=fun p:List Str×List iI=>(p.1,nF p.2)) h
theorem W_ (h:o0 fs st es l) (a:(at0,row)∈l):Ge (.dict (cS (iJ l))) (aD at0)=.ok (nF row):=by
 have:=Ln (l:=iJ l) (by rw [ko];exact h.nd) (GG a);exact this
theorem R8 (l:LZ) (x:List Str) (r:List iI):iJ (l++[(x,r)])=iJ l++[(x,nF r)]:=by
 unfold iJ;rw [bd];rfl
theorem U7 (g:fK fs es) (B S:D) (f m n:Sl) (h:o0 fs st es b.1) (c:(at0,row)∈b.1) (k:b.2.length<=b.1.length) :
  Zn [.shr B,.shr S,.own (.dict (cS (iJ b.1))),f,.own (.list (b.2.map aD)),.shr (aD at0),.shr (dh e),.shr (aD (ba e at0))]=.ok (.nx [.shr B,.shr S,.own (.dict (cS (iJ (iT at0 row b e).1))),f,.own (.list ((iT at0 row b e).2.map aD)),.shr (aD at0),.shr (dh e),.shr (aD (ba e at0))]):=by
 have few:=h.few g;have i:=(h.row _ c).2.2;have j:row.length<b.1.length:=i;unfold Zn;left;rw [Lo h.ne,ko];unfold iT;by_cases a:ba e at0∈b.1.map (·.1)
 ·rw [if_pos a,decide_eq_true a];left
 ·rw [if_neg a,decide_eq_false a];left;rw [Q_ (l:=iJ b.1) (x:=ba e at0) (d:=nF (row++[e])) rfl ?_ rfl h.ne (by unfold iJ;rw [ah];omega) (by rw [ko];exact a)]
  ·left;rw [CQ (ds:=b.2.map aD) (d:=aD (ba e at0)) rfl rfl (by rw [ah];omega),R8,bd];rfl
  ·left;rw [W_ h c];left;rw [WT];left;rw [if_pos (by omega)];simp only [nF,bd];rfl
theorem GH {fs st at0:List Str}{es:List iI}{row:List iI}:∀ (xs:List iI) (b:LZ×List (List Str)),(∀ p∈b.1,p∈(xs.foldl (iT at0 row) b).1)/\(∀ e∈xs,ba e at0∈(xs.foldl (iT at0 row) b).1.map (·.1))/\(∀ x∈(xs.foldl (iT at0 row) b).1.map (·.1),x∈b.1.map (·.1)\/x∈(xs.foldl (iT at0 row) b).2)/\(∀ x∈b.2,x∈(xs.foldl (iT at0 row) b).2)/\(∀ x∈(xs.foldl (iT at0 row) b).2,x∈b.2\/x∈(xs.foldl (iT at0 row) b).1.map (·.1))/\b.1.length+(xs.foldl (iT at0 row) b).2.length=(xs.foldl (iT at0 row) b).1.length+b.2.length
 |[],b=>⟨fun _ h=>h,fun _ h=>(nomatch h),fun _ h=>.inl h,fun _ h=>h,fun _ h=>.inl h,rfl⟩
 |e::r,b=>by
  obtain ⟨g,j,f,k,i,l⟩:=GD at0 row b e;obtain ⟨b1,b2,b3,b4,b5,m⟩:=GH (fs:=fs) (st:=st) (es:=es) r (iT at0 row b e);rw [db];have d:∀ x∈(iT at0 row b e).1.map (·.1),x∈(r.foldl (iT at0 row) (iT at0 row b e)).1.map (·.1):=fun x a=>by
   obtain ⟨p,c,rfl⟩:=List.mem_map.mp a;exact bt (b1 p c)
  refine ⟨fun p c=>b1 p (g p c),fun x a=>?_,fun x a=>?_,fun x a=>b4 x (k x a),fun x a=>?_,by omega⟩
  ·rcases List.mem_cons.mp a with z|z
   ·rw [z];exact d _ j
   ·exact b2 x z
  ·rcases b3 x a with z|z
   ·rcases f x z with y|y
    ·exact .inl y
    ·exact .inr (b4 x y)
   ·exact .inr z
  ·rcases b5 x a with z|z
   ·rcases i x z with y|y
    ·exact .inl y
    ·exact .inr (d x y)
   ·exact .inr z
theorem X1 (g:fK fs es) (B S:D) (a c d:Sl) (h:o0 fs st es b.1) (i:(at0,row)∈b.1) (n:b.2.length<=b.1.length) (xs:List iI) (k:∀ e∈xs,e∈es/\cL at0 e.needs e.bars=true) :
  o0 fs st es (xs.foldl (iT at0 row) b).1/\∃ f j,jT (mP 2 (cR (c6 6) (cR (c6 7) n_))) Zn (xs.map fun e=>cn [dh e,aD (ba e at0)]) [.shr B,.shr S,.own (.dict (cS (iJ b.1))),a,.own (.list (b.2.map aD)),.shr (aD at0),c,d]=.ok (.nx [.shr B,.shr S,.own (.dict (cS (iJ (xs.foldl (iT at0 row) b).1))),a,.own (.list ((xs.foldl (iT at0 row) b).2.map aD)),.shr (aD at0),f,j]):=by
 induction xs generalizing b c d with
 |nil=>exact ⟨h,c,d,rfl⟩
 |cons e r l =>
  obtain ⟨he,q⟩:=k e al;obtain ⟨m,v,s,w,u,t⟩:=GD at0 row b e;have h':=WX g h i he q;obtain ⟨o,f,j,p⟩:=l (.shr (dh e)) (.shr (aD (ba e at0))) h' (m _ i) (by omega) fun x z=>k x (ag _ z);refine ⟨o,f,j,?_⟩;rw [ax,lW (ρ1:=[.shr B,.shr S,.own (.dict (cS (iJ b.1))),a,.own (.list (b.2.map aD)),.shr (aD at0),.shr (dh e),.shr (aD (ba e at0))]) rfl (U7 g B S a c d h i n)];exact p
def Ep (l:LZ) (x:List Str):List iI:=((l.find? fun p=>decide (p.1=x)).map (·.2)).getD []
theorem GI (h:x∈l.map (·.1)):(x,Ep l x)∈l:=by
 unfold Ep;induction l with
 |nil=>cases h
 |cons p r b =>
  rw [cj];by_cases a:p.1=x
  ·rw [decide_eq_true a];subst a;exact al
  ·rw [decide_eq_false a];rcases List.mem_cons.mp h with z|z
   ·exact (a z.symm).elim
   ·exact ag _ (b z)
def nG (es:List iI) (b:LZ×List (List Str)) (x:List Str):LZ×List (List Str):=(es.filter fun e=>cL x e.needs e.bars).foldl (iT x (Ep b.1 x)) b
theorem R9 (g:fK fs es) (S:D) (c j i:Sl) (h:o0 fs st es b.1) (l:at0∈b.1.map (·.1)) (n:b.2.length<=b.1.length) :
  o0 fs st es (nG es b at0).1/\∃ a d,MY [.shr (eg fs es),.shr S,.own (.dict (cS (iJ b.1))),c,.own (.list (b.2.map aD)),.shr (aD at0),j,i]=.ok (.nx [.shr (eg fs es),.shr S,.own (.dict (cS (iJ (nG es b at0).1))),c,.own (.list ((nG es b at0).2.map aD)),.shr (aD at0),a,d]):=by
 have f:=GI l;obtain ⟨k,a,d,m⟩:=X1 g (eg fs es) S c j i h f n (es.filter fun e=>cL at0 e.needs e.bars) fun e he=>List.mem_filter.mp he;refine ⟨k,a,d,?_⟩;unfold MY;rw [sF (ds:=(es.filter fun e=>cL at0 e.needs e.bars).map fun e=>cn [dh e,aD (ba e at0)])]
 ·exact m
 ·left;rw [R4 g (h.sub _ f)];left
theorem Lq (es:List iI) (b:LZ×List (List Str)) (x:List Str):(∀ p∈b.1,p∈(nG es b x).1)/\(∀ e∈es,cL x e.needs e.bars=true->ba e x∈(nG es b x).1.map (·.1))/\(∀ y∈(nG es b x).1.map (·.1),y∈b.1.map (·.1)\/y∈(nG es b x).2)/\(∀ y∈b.2,y∈(nG es b x).2)/\(∀ y∈(nG es b x).2,y∈b.2\/y∈(nG es b x).1.map (·.1))/\b.1.length+(nG es b x).2.length=(nG es b x).1.length+b.2.length:=by
 obtain ⟨b1,b2,b3,b4,b5,c⟩:=GH (fs:=[]) (st:=[]) (es:=es) (at0:=x) (row:=Ep b.1 x) (es.filter fun e=>cL x e.needs e.bars) b;exact ⟨b1,fun e he a=>b2 e (List.mem_filter.mpr ⟨he,a⟩),b3,b4,b5,c⟩
theorem xB (es:List iI):∀ (ring:List (List Str)) (b:LZ×List (List Str)),(∀ p∈b.1,p∈(ring.foldl (nG es) b).1)/\(∀ x∈ring,∀ e∈es,cL x e.needs e.bars=true->ba e x∈(ring.foldl (nG es) b).1.map (·.1))/\(∀ y∈(ring.foldl (nG es) b).1.map (·.1),y∈b.1.map (·.1)\/y∈(ring.foldl (nG es) b).2)/\(∀ y∈b.2,y∈(ring.foldl (nG es) b).2)/\(∀ y∈(ring.foldl (nG es) b).2,y∈b.2\/y∈(ring.foldl (nG es) b).1.map (·.1))/\b.1.length+(ring.foldl (nG es) b).2.length=(ring.foldl (nG es) b).1.length+b.2.length
 |[],b=>⟨fun _ h=>h,fun _ h=>(nomatch h),fun _ h=>.inl h,fun _ h=>h,fun _ h=>.inl h,rfl⟩
 |x::r,b=>by
  obtain ⟨i,k,g,l,j,m⟩:=Lq es b x;obtain ⟨b1,b2,b3,b4,b5,n⟩:=xB es r (nG es b x);rw [db];have d:∀ y∈(nG es b x).1.map (·.1),y∈(r.foldl (nG es) (nG es b x)).1.map (·.1):=fun y a=>by
   obtain ⟨p,c,rfl⟩:=List.mem_map.mp a;exact bt (b1 p c)
  refine ⟨fun p c=>b1 p (i p c),fun y a e he f=>?_,fun y a=>?_,fun y a=>b4 y (l y a),fun y a=>?_,by omega⟩
  ·rcases List.mem_cons.mp a with z|z
   ·subst z;exact d _ (k e he f)
   ·exact b2 y z e he f
  ·rcases b3 y a with z|z
   ·rcases g y z with w|w
    ·exact .inl w
    ·exact .inr (b4 y w)
   ·exact .inr z
  ·rcases b5 y a with z|z
   ·rcases j y z with w|w
    ·exact .inl w
    ·exact .inr (d y w)
   ·exact .inr z
theorem Ra (g:fK fs es) (S:D) (d i a c:Sl) (h:o0 fs st es b.1) (s:b.2.length<=b.1.length) (ring:List (List Str)) (k:∀ x∈ring,x∈b.1.map (·.1)) :
  o0 fs st es (ring.foldl (nG es) b).1/\∃ v f j,jT (c6 5) MY (ring.map aD) [.shr (eg fs es),.shr S,.own (.dict (cS (iJ b.1))),d,.own (.list (b.2.map aD)),i,a,c]=.ok (.nx [.shr (eg fs es),.shr S,.own (.dict (cS (iJ (ring.foldl (nG es) b).1))),d,.own (.list ((ring.foldl (nG es) b).2.map aD)),v,f,j]):=by
 induction ring generalizing b i a c with
 |nil=>exact ⟨h,i,a,c,rfl⟩
 |cons x r l =>
  obtain ⟨n,H,B,I,G,E⟩:=Lq es b x;obtain ⟨h',f,j,q⟩:=R9 g S d a c h (k x al) s;obtain ⟨t,o,A,u,w⟩:=l (.shr (aD x)) f j h' (by omega) fun y m=>by
   obtain ⟨p,z,e⟩:=List.mem_map.mp (k y (ag _ m));rw [<- e];exact bt (n p z)
  refine ⟨t,o,A,u,?_⟩;rw [ax,lW (ρ1:=[.shr (eg fs es),.shr S,.own (.dict (cS (iJ b.1))),d,.own (.list (b.2.map aD)),.shr (aD x),a,c]) rfl q];exact w
theorem U8 (g:fK fs es) (S:D) (n u j k m:Sl) (h:o0 fs st es l) (ring:List (List Str)) (t:∀ x∈ring,x∈l.map (·.1)) (ho:n=.own (.list (ring.map aD))\/n=.shr (.list (ring.map aD))) :
  o0 fs st es (ring.foldl (nG es) (l,[])).1/\∃ s c f i,Z4 [.shr (eg fs es),.shr S,.own (.dict (cS (iJ l))),n,u,j,k,m]=.ok (.nx [.shr (eg fs es),.shr S,.own (.dict (cS (iJ (ring.foldl (nG es) (l,[])).1))),.shr (.list ((ring.foldl (nG es) (l,[])).2.map aD)),s,c,f,i]):=by
 have L:=fun o=>Ra g S o j k m (b:=(l,[])) h (cG _) ring t;unfold Z4;left;rcases ho with ho|ho
 ·subst ho;obtain ⟨q,c,f,i,p⟩:=L (.lck (.list (ring.map aD)));refine ⟨q,.shr (.list ((ring.foldl (nG es) (l,[])).2.map aD)),c,f,i,?_⟩;have e:wa 3 (c6 5) MY [.shr (eg fs es),.shr S,.own (.dict (cS (iJ l))),.own (.list (ring.map aD)),.own (.list []),j,k,m]=.ok (.nx [.shr (eg fs es),.shr S,.own (.dict (cS (iJ (ring.foldl (nG es) (l,[])).1))),.own (.list (ring.map aD)),.own (.list ((ring.foldl (nG es) (l,[])).2.map aD)),c,f,i]):=by
   show unl 3 _ (jT (c6 5) MY (ring.map aD) [.shr (eg fs es),.shr S,.own (.dict (cS (iJ l))),.lck (.list (ring.map aD)),.own (.list []),j,k,m])=_;have a:=p;rw [ft] at a;rw [a];rfl
  rw [e];left;simp only [UN];rw [D_ rfl];left
 ·subst ho;obtain ⟨q,c,f,i,p⟩:=L (.shr (.list (ring.map aD)));refine ⟨q,.shr (.list ((ring.foldl (nG es) (l,[])).2.map aD)),c,f,i,?_⟩;rw [WW (d:=.list (ring.map aD)) rfl,sF (ds:=ring.map aD)]
  ·have a:=p;rw [ft] at a;rw [a];left;simp only [UN];rw [D_ rfl];left
  ·left
structure GJ (fs st:List Str) (es:List iI) (l:LZ):Prop where
 ok:o0 fs st es l
 all:∀ x∈l.map (·.1),∀ e∈es,cL x e.needs e.bars=true->ba e x∈l.map (·.1)
theorem GK (g:fK fs es) (S:D) (P:LZ->List (List Str)->Prop) (I:∀ l ring,o0 fs st es l->(∀ x∈ring,x∈l.map (·.1))->o0 fs st es (ring.foldl (nG es) (l,[])).1->P l ring->P (ring.foldl (nG es) (l,[])).1 (ring.foldl (nG es) (l,[])).2):∀ (k a:Nat) (b i d f j:Sl) (l:LZ) (ring:List (List Str)),o0 fs st es l->(∀ x∈ring,x∈l.map (·.1))->(∀ x∈l.map (·.1),x∉ring->∀ e∈es,cL x e.needs e.bars=true->ba e x∈l.map (·.1)) ->
  (b=.own (.list (ring.map aD))\/b=.shr (.list (ring.map aD)))->P l ring->65-l.length+(if ring=[] then 0 else 1)<=k->k<a ->
  ∃ c Y A u t B,(GJ fs st es c/\P c [])/\jK (Ea (rB 3)) Z4 a [.shr (eg fs es),.shr S,.own (.dict (cS (iJ l))),b,i,d,f,j]=.ok (.nx [.shr (eg fs es),.shr S,.own (.dict (cS (iJ c))),Y,A,u,t,B])
 |_,0,_,_,_,_,_,_,_,_,_,_,_,_,_,H=>absurd H (ni _)
 |k,a+1,b,i,d,f,j,l,ring,h,o,hc,ho,m,hk,H=>by
  have X:Ea (rB 3) [.shr (eg fs es),.shr S,.own (.dict (cS (iJ l))),b,i,d,f,j]=.ok (!(ring.map aD).isEmpty):=Z3 (by rcases ho with z|z<;>subst z<;>rfl);rw [jK,X];cases ring with
  |nil=>exact ⟨l,b,i,d,f,j,⟨⟨h,fun x o=>hc x o (fun z=>nomatch z)⟩,m⟩,rfl⟩
  |cons x r =>
   obtain ⟨h',A,u,t,B,q⟩:=U8 g S b i d f j h (x::r) o ho;obtain ⟨T,N,Q,a4,a5,w⟩:=xB es (x::r) (l,[]);have few:=h'.few g;have E:=h.few g;simp only [bU,nW] at w;rw [if_neg (by simp)] at hk;have v:65-((x::r).foldl (nG es) (l,[])).1.length+(if ((x::r).foldl (nG es) (l,[])).2=[] then 0 else 1)<=k-1:=by
    by_cases n:((x::r).foldl (nG es) (l,[])).2=[]
    ·rw [if_pos n];rw [n] at w;simp only [bU,nW] at w;omega
    ·rw [if_neg n];have:=List.length_pos_iff.mpr n;omega
   obtain ⟨c,w3,w4,U,w6,w7,M,O⟩:=GK g S P I (k-1) a (.shr (.list (((x::r).foldl (nG es) (l,[])).2.map aD))) A u t B _ _ h' (fun y s=>by
    rcases a5 y s with z|z
    ·cases z
    ·exact z) (fun y s hn e he G=>by
    rcases Q y s with z|z
    ·by_cases K:y∈x::r
     ·exact N y K e he G
     ·obtain ⟨p,m,L⟩:=List.mem_map.mp (hc y z K e he G);rw [<- L];exact bt (T p m)
    ·exact (hn z).elim) (.inr rfl) (I l (x::r) h o h' m) v (by omega)
   refine ⟨c,w3,w4,U,w6,w7,M,?_⟩;simp only [ax,List.isEmpty_cons,jE];rw [q];exact O
structure U9 (es:List iI) (l:LZ):Prop where
 cls:∀ p∈l,∀ e∈es,cL p.1 e.needs e.bars=true->∃ q∈l,q.1=ba e p.1/\q.2.length<=p.2.length+1
 up:l.Pairwise fun p q=>p.2.length<=q.2.length
structure X2 (es:List iI) (l:LZ) (ring:List (List Str)) (d:Nat):Prop where
 top:∀ p∈l,p.2.length<=d
 rin:∀ p∈l,p.1∈ring->p.2.length=d
 cls:∀ p∈l,p.1∉ring->∀ e∈es,cL p.1 e.needs e.bars=true->∃ q∈l,q.1=ba e p.1/\q.2.length<=p.2.length+1
 up:l.Pairwise fun p q=>p.2.length<=q.2.length
theorem Ay (at0:List Str) (row:List iI):∀ (xs:List iI) (b:LZ×List (List Str)),∃ t:LZ,xs.foldl (iT at0 row) b=(b.1++t,b.2++t.map (·.1))/\∀ p∈t,p.2.length=row.length+1
 |[],b=>⟨[],by simp,fun _ h=>(nomatch h)⟩
 |e::r,b=>by
  rw [db];by_cases a:ba e at0∈b.1.map (·.1)
  ·have:iT at0 row b e=b:=by unfold iT;rw [if_pos a]
   rw [this];exact Ay at0 row r b
  ·have:iT at0 row b e=(b.1++[(ba e at0,row++[e])],b.2++[ba e at0]):=by unfold iT;rw [if_neg a]
   rw [this];obtain ⟨t,c,d⟩:=Ay at0 row r (b.1++[(ba e at0,row++[e])],b.2++[ba e at0]);refine ⟨(ba e at0,row++[e])::t,by rw [c];simp,fun p f=>?_⟩;rcases List.mem_cons.mp f with z|z
   ·subst z;simp
   ·exact d p z
theorem Rb (h:x∈l.map (·.1)):Ep (l++t) x=Ep l x:=by
 unfold Ep;rw [List.find?_append];cases b:l.find? fun p=>decide (p.1=x) with
 |some p=>rfl
 |none =>
  obtain ⟨p,a,e⟩:=List.mem_map.mp h;have:=List.find?_eq_none.mp b p a;simp [e] at this
theorem GL (es:List iI) (d:Nat):∀ (ring:List (List Str)) (b:LZ×List (List Str)),(∀ x∈ring,x∈b.1.map (·.1))->(∀ x∈ring,(Ep b.1 x).length=d)->∃ t:LZ,ring.foldl (nG es) b=(b.1++t,b.2++t.map (·.1))/\∀ p∈t,p.2.length=d+1
 |[],b,_,_=>⟨[],by simp,fun _ h=>(nomatch h)⟩
 |x::r,b,f,c=>by
  rw [db];obtain ⟨t,g,m⟩:=Ay x (Ep b.1 x) (es.filter fun e=>cL x e.needs e.bars) b;have l:nG es b x=(b.1++t,b.2++t.map (·.1)):=g;rw [l];obtain ⟨i,j,k⟩:=GL es d r (b.1++t,b.2++t.map (·.1)) (fun y a=>by rw [bd];exact bg _ (f y (ag _ a))) (fun y a=>by rw [Rb (f y (ag _ a))];exact c y (ag _ a));refine ⟨t++i,by rw [j];simp,fun p n=>?_⟩;rcases List.mem_append.mp n with z|z
  ·rw [m p z,c x al]
  ·exact k p z
theorem MZ (k:∀ x∈ring,x∈l.map (·.1)) (h':o0 fs st es (ring.foldl (nG es) (l,[])).1) (a:∃ d,X2 es l ring d):∃ d,X2 es (ring.foldl (nG es) (l,[])).1 (ring.foldl (nG es) (l,[])).2 d:=by
 obtain ⟨d,D⟩:=a;obtain ⟨s,j,o,w,v,u⟩:=xB es ring (l,[]);obtain ⟨t,e,f⟩:=GL es d ring (l,[]) k fun x c=>D.rin _ (GI (k x c)) c;have g:=h'.nd;rw [e] at g j ⊢;rw [bd] at g;simp only [kC] at *;have top:∀ p∈l++t,p.2.length<=d+1:=fun p a=>by
  rcases List.mem_append.mp a with z|z
  ·exact yA (D.top p z)
  ·exact Nat.le_of_eq (f p z)
 refine ⟨d+1,top,fun p a c=>?_,fun p a c e he m=>?_,?_⟩
 ·rcases List.mem_append.mp a with z|z
  ·exact ((List.nodup_append.mp g).2.2 p.1 (bt z) p.1 c rfl).elim
  ·exact f p z
 ·rcases List.mem_append.mp a with z|z
  ·by_cases h:p.1∈ring
   ·obtain ⟨q,b,i⟩:=List.mem_map.mp (j p.1 h e he m);exact ⟨q,b,i,by rw [D.rin p z h];exact top q b⟩
   ·obtain ⟨q,b,i,n⟩:=D.cls p z h e he m;exact ⟨q,bg _ b,i,n⟩
  ·exact (c (bt z)).elim
 ·refine List.pairwise_append.mpr ⟨D.up,?_,fun p a q b=>by rw [f q b];exact yA (D.top p a)⟩;exact xV fun p a q b=>by rw [f p a,f q b];exact ap _
theorem GM (g:fK fs es) (hs:rF fs st):∃ l,(GJ fs st es l/\U9 es l)/\iC [eg fs es,aD st]=.ok (.dict ((.none,.none)::cS (iJ l))):=by
 have m:o0 fs st es [(st,[])]:=⟨by simp,List.mem_singleton.mpr rfl,fun p a=>by rw [List.mem_singleton.mp a];exact hs,fun p a=>by rw [List.mem_singleton.mp a];exact ⟨fun _ h=>(nomatch h),rfl,by simp⟩⟩;obtain ⟨l,q,s,t,o,u,⟨j,d,i⟩,n⟩:=GK g (aD st) (fun l ring=>∃ d,X2 es l ring d) (fun l ring _ b h' a=>MZ b h' a) 65 100000 (.own (.list ([st].map aD))) .no .no .no .no [(st,[])] [st] m (fun x b=>b) (fun x b c=>(c b).elim) (.inl rfl) ⟨0,fun p a=>by rw [List.mem_singleton.mp a];exact ap _,fun p a _=>by rw [List.mem_singleton.mp a];rfl,fun p a c=>by rw [List.mem_singleton.mp a] at c;exact (c al).elim,by simp⟩ (by simp) (by decide);refine ⟨l,⟨j,fun p a e he k=>i.cls p a (fun z=>nomatch z) e he k,i.up⟩,?_⟩;unfold iC;refine dA ?_;rw [R7];unfold bX;left;rw [Z2 (x:=st) (d:=.list []) rfl rfl];left;have f:jK (Ea (rB 3)) Z4 100000 [.shr (eg fs es),.shr (aD st),.own (.dict (cS [(st,.list [])])),.own (.list [aD st]),.no,.no,.no,.no]=_:=n;rw [f];left;rw [Z1 j.ok.ne rfl];left
def Zo:aI->R Fl:=(bc (gS 6 (fH 2 eE (J.af (rS 5) (J.af (g2 (rB 3) (rB 4) bj) J.aQ)))) (g9 (DI (i3 (g2 (rB 6) kN (EV true))) (i3 (g2 (rB 6) (rB 2) (inT true)))) (bc (uy 2 (rS 6) (g2 (g2 (rB 2) (g2 (rB 3) (rB 4) bj) Ge) (kI 1) eB)) (qu 3 (rS 6))) (fun ρ=>.ok (.nx ρ))))
def Z5:aI->R Fl:=bc (pp (m9 (g2 (rB 0) (kI 1) bj)) (c6 5) Zo) (gS 4 (g2 (rB 4) (kI 1) eB))
theorem Rc:mT=bc (gd 2 (Vc (rS 1) (kI 0))) (bc (gd 3 (fh (J.af (rS 1) J.aQ) .list)) (bc (gS 4 (kI 0)) (bc (jK (i3 (g2 (rB 4) (cr (J.af (rB 3) J.aQ) (jn mI)) Bv)) Z5 100000) (Wz 2 (dE (rS 2)))))):=rfl
abbrev NZ:=List (List Str×Int)
def i_ (l:NZ):List (List Str×D):=l.map fun p=>(p.1,.int p.2)
theorem jy (l:NZ):lu (i_ l)=l.map (·.1):=by
 unfold lu i_;rw [bJ];rfl
structure NC (fs st:List Str) (es:List iI) (l:NZ):Prop where
 nd:(l.map (·.1)).Nodup
 beg:st∈l.map (·.1)
 sub:∀ x∈l.map (·.1),rF fs x
 rch:∀ x∈l.map (·.1),R1 es st x
theorem NC.ne (h:NC fs st es l):i_ l≠[]:=by
 intro z;have:=List.map_eq_nil_iff.mp z;have a:=h.beg;rw [this] at a;cases a
theorem NC.few (g:fK fs es) (h:NC fs st es l):l.length<=64:=by
 have:=GC g.rise (l:=i_ l) (by rw [jy];exact h.nd) fun x a=>by
  rw [jy] at a;exact h.sub x a
 unfold i_ at this;rw [ah] at this;exact this
def nI (x:List Str) (n:Int) (l:NZ) (e:iI):NZ :=
 if cL x e.needs e.bars=true/\ba e x∉l.map (·.1) then l++[(ba e x,n+1)] else l
theorem Ua (g:fK fs es) (h:NC fs st es l) (d:x∈l.map (·.1)) (he:e∈es):NC fs st es (nI x n l e)/\(∀ p∈l,p∈nI x n l e)/\(∃ t,nI x n l e=l++t)/\(cL x e.needs e.bars=true->ba e x∈(nI x n l e).map (·.1)):=by
 unfold nI;by_cases c:cL x e.needs e.bars=true/\ba e x∉l.map (·.1)
 ·rw [if_pos c];obtain ⟨i,f,m⟩:=h.rch x d;refine ⟨⟨?_,?_,fun y b=>?_,fun y b=>?_⟩,fun p j=>bg _ j,⟨_,rfl⟩,fun _=>?_⟩
  ·rw [bd];exact yT h.nd c.2
  ·rw [bd];exact bg _ h.beg
  ·rw [bd] at b;rcases List.mem_append.mp b with z|z
   ·exact h.sub y z
   ·rw [List.mem_singleton.mp z];exact qP g.rise.up (g.ok e he) (h.sub x d)
  ·rw [bd] at b;rcases List.mem_append.mp b with z|z
   ·exact h.rch y z
   ·rw [List.mem_singleton.mp z];refine ⟨i++[e],fun a k=>?_,sP e _ _ _ m c.1⟩;rcases List.mem_append.mp k with w|w
    ·exact f a w
    ·rw [List.mem_singleton.mp w];exact he
  ·rw [bd];exact aM _ al
 ·rw [if_neg c];exact ⟨h,fun _ h=>h,⟨[],(bT _).symm⟩,fun o=>Classical.byContradiction fun z=>c ⟨o,z⟩⟩
theorem X3 {l:NZ}{j:Nat}{x:List Str} (h:(l.map (·.1))[j]?=some x):bj (.list ((l.map (·.1)).map aD)) (.int (j:Nat))=.ok (aD x):=vM (by rw [aF,h];rfl)
theorem Z6 {fs st x:List Str}{es:List iI}{n:Int} (g:fK fs es) (B S:D) (j:Nat) (q:Sl) {l:NZ}{e:iI} (h:NC fs st es l) (k:(l.map (·.1))[j]?=some x) (m:(x,n)∈l) (he:e∈es) :
  ∃ o,Zo [.shr B,.shr S,.own (.dict (cS (i_ l))),.own (.list ((l.map (·.1)).map aD)),.shr (.int (j:Nat)),.shr (dh e),q]=.ok (.nx [.shr B,.shr S,.own (.dict (cS (i_ (nI x n l e)))),.own (.list (((nI x n l e).map (·.1)).map aD)),.shr (.int (j:Nat)),.shr (dh e),o]):=by
 have few:=h.few g;have s:x∈l.map (·.1):=cC k;have t:=jx (h.sub x s) g.rise.len;have b:=X3 k;have i:Ge (.dict (cS (i_ l))) (aD x)=.ok (.int n):=Ln (l:=i_ l) (by rw [jy];exact h.nd) (bt (f:=fun p:List Str×Int=>(p.1,d_ p.2)) m);refine ⟨.shr (QS (CT e x)),?_⟩;unfold Zo;left;rw [b];left;rw [wu (p_ g he) (by omega)];left;rw [u0];unfold nI;by_cases c:cL x e.needs e.bars=true
 ·rw [if_pos c,CU];rw [Vp];left;rw [Lo h.ne,jy];by_cases a:ba e x∈l.map (·.1)
  ·rw [decide_eq_true a,if_neg (fun z=>z.2 a)];left
  ·rw [decide_eq_false a,if_pos ⟨c,a⟩];left;rw [Q_ (l:=i_ l) (x:=ba e x) (d:=.int (n+1)) rfl ?_ rfl h.ne (by unfold i_;rw [ah];omega) (by rw [jy];exact a)]
   ·left;rw [CQ (ds:=(l.map (·.1)).map aD) (d:=aD (ba e x)) rfl rfl (by rw [ah,ah];omega)];unfold i_;simp only [bd];rfl
   ·left;rw [b];left;rw [i];left
 ·rw [if_neg c,CV,if_neg (fun z=>c z.1)];rw [Vq];left
theorem X4 (g:fK fs es) (B S:D) (j:Nat) (i b:Sl) (h:NC fs st es l) (c:(l.map (·.1))[j]?=some x) (p:(x,n)∈l) (xs:List iI) (s:∀ e∈xs,e∈es) :
  NC fs st es (xs.foldl (nI x n) l)/\(∃ t,xs.foldl (nI x n) l=l++t)/\(∀ e∈xs,cL x e.needs e.bars=true->ba e x∈(xs.foldl (nI x n) l).map (·.1))/\∃ E d,jT (c6 5) Zo (xs.map dh) [.shr B,.shr S,.own (.dict (cS (i_ l))),.own (.list ((l.map (·.1)).map aD)),.shr (.int (j:Nat)),i,b]=.ok (.nx [.shr B,.shr S,.own (.dict (cS (i_ (xs.foldl (nI x n) l)))),.own (.list (((xs.foldl (nI x n) l).map (·.1)).map aD)),.shr (.int (j:Nat)),E,d]):=by
 induction xs generalizing l i b with
 |nil=>exact ⟨h,⟨[],(bT _).symm⟩,fun _ h=>(nomatch h),i,b,rfl⟩
 |cons e r v =>
  have he:=s e al;have k:x∈l.map (·.1):=cC c;obtain ⟨w,G,⟨t,o⟩,H⟩:=Ua (n:=n) g h k he;obtain ⟨d,q⟩:=Z6 g B S j b h c p he;have m:((nI x n l e).map (·.1))[j]?=some x:=by
   rw [o,bd,bi (List.getElem?_eq_some_iff.mp c).1];exact c
  obtain ⟨b1,⟨A,b2⟩,b3,y,I,b4⟩:=v (.shr (dh e)) d w m (G _ p) fun a f=>s a (ag _ f);rw [db];refine ⟨b1,⟨t++A,by rw [b2,o,dR]⟩,fun a f u=>?_,y,I,?_⟩
  ·rcases List.mem_cons.mp f with z|z
   ·subst z;have:=H u;rw [b2,bd];exact bg _ this
   ·exact b3 a z u
  ·rw [ax,lW (ρ1:=[.shr B,.shr S,.own (.dict (cS (i_ l))),.own (.list ((l.map (·.1)).map aD)),.shr (.int (j:Nat)),.shr (dh e),b]) rfl q];exact b4
structure Vs (st:List Str) (es:List iI) (l:NZ) (j:Nat):Prop where
 beg:(st,0)∈l
 rch:∀ p∈l,∃ rs:List iI,(∀ e∈rs,e∈es)/\ll rs st=some p.1/\(rs.length:Int)=p.2
 up:l.Pairwise fun p q=>p.2<=q.2
 mx:∀ p,l[j]?=some p->∀ q∈l,q.2<=p.2+1
 cls:∀ i p,i<j->l[i]?=some p->∀ e∈es,cL p.1 e.needs e.bars=true->∃ q∈l,q.1=ba e p.1/\q.2<=p.2+1
theorem xC (x:List Str) (n:Int):∀ (xs:List iI) (l:NZ),∃ t:NZ,xs.foldl (nI x n) l=l++t/\∀ p∈t,p.2=n+1/\∃ e∈xs,cL x e.needs e.bars=true/\p.1=ba e x
 |[],l=>⟨[],by simp,fun _ h=>(nomatch h)⟩
 |e::r,l=>by
  rw [db];by_cases f:cL x e.needs e.bars=true/\ba e x∉l.map (·.1)
  ·have:nI x n l e=l++[(ba e x,n+1)]:=by unfold nI;rw [if_pos f]
   rw [this];obtain ⟨t,b,c⟩:=xC x n r (l++[(ba e x,n+1)]);refine ⟨(ba e x,n+1)::t,by rw [b];simp,fun p d=>?_⟩;rcases List.mem_cons.mp d with z|z
   ·subst z;exact ⟨rfl,e,al,f.1,rfl⟩
   ·obtain ⟨k1,a,k2,k3⟩:=c p z;exact ⟨k1,a,ag _ k2,k3⟩
  ·have:nI x n l e=l:=by unfold nI;rw [if_neg f]
   rw [this];obtain ⟨t,b,c⟩:=xC x n r l;refine ⟨t,b,fun p d=>?_⟩;obtain ⟨k1,a,k2,k3⟩:=c p d;exact ⟨k1,a,ag _ k2,k3⟩
theorem Re (D:Vs st es l j) (h:l[j]?=some p) (O:x=p.1) (k:∀ e∈es,cL x e.needs e.bars=true->ba e x∈(es.foldl (nI x p.2) l).map (·.1)):Vs st es (es.foldl (nI x p.2) l) (j+1):=by
 subst O;obtain ⟨t,e,d⟩:=xC p.1 p.2 es l;rw [e] at k ⊢;have o:p∈l:=cC h;have top:∀ q∈l++t,q.2<=p.2+1:=fun q c=>by
  rcases List.mem_append.mp c with z|z
  ·exact D.mx p h q z
  ·exact Int.le_of_eq (d q z).1
 have A:(l++t).Pairwise fun p q=>p.2<=q.2:=by
  refine List.pairwise_append.mpr ⟨D.up,?_,fun q c r f=>by rw [(d r f).1];exact D.mx p h q c⟩;exact xV fun q c r f=>by rw [(d q c).1,(d r f).1];exact Int.le_refl _
 have y:j<l.length:=(List.getElem?_eq_some_iff.mp h).1;have g:(l++t)[j]?=some p:=by rw [bi y];exact h
 refine ⟨bg _ D.beg,fun q c=>?_,A,fun q c r f=>?_,fun i q Q c a B E=>?_⟩
 ·rcases List.mem_append.mp c with z|z
  ·exact D.rch q z
  ·obtain ⟨k1,a,k2,k3,I⟩:=d q z;obtain ⟨H,s,u,v⟩:=D.rch p o;refine ⟨H++[a],fun b k=>?_,by rw [I];exact sP a _ _ _ u k3,by rw [k1,aO,du,<- v];rfl⟩;rcases List.mem_append.mp k with w|w
   ·exact s b w
   ·rw [List.mem_singleton.mp w];exact k2
 ·have P:=top r f;obtain ⟨K,N⟩:=List.getElem?_eq_some_iff.mp c;obtain ⟨L,G⟩:=List.getElem?_eq_some_iff.mp g;have:=List.pairwise_iff_getElem.mp A j (j+1) L K (eu j);rw [N,G] at this;omega
 ·by_cases m:i=j
  ·subst m;rw [g] at c;cases c;obtain ⟨q,c,M⟩:=List.mem_map.mp (k a B E);exact ⟨q,c,M,top q c⟩
  ·have n:i<j:=by omega
   rw [bi (by omega)] at c;obtain ⟨r,s,u,v⟩:=D.cls i q n c a B E;exact ⟨r,bg _ s,u,v⟩
theorem GN (g:fK fs es) (S:D):∀ (k a j:Nat) (d m:Sl) (l:NZ),NC fs st es l->Vs st es l j->j<=l.length->(∀ i x,i<j->(l.map (·.1))[i]?=some x->∀ e∈es,cL x e.needs e.bars=true->ba e x∈l.map (·.1))->65-j<=k->k<a ->
  ∃ (c:NZ) (L M s q:Sl),(NC fs st es c/\Vs st es c c.length)/\(∀ x∈c.map (·.1),∀ e∈es,cL x e.needs e.bars=true->ba e x∈c.map (·.1))/\jK (i3 (g2 (rB 4) (cr (J.af (rB 3) J.aQ) (jn mI)) Bv)) Z5 a [.shr (eg fs es),.shr S,.own (.dict (cS (i_ l))),.own (.list ((l.map (·.1)).map aD)),.shr (.int (j:Nat)),d,m]=.ok (.nx [.shr (eg fs es),.shr S,.own (.dict (cS (i_ c))),L,M,s,q])
 |_,0,_,_,_,_,_,_,_,_,_,E=>absurd E (ni _)
 |k,a+1,j,d,m,l,h,z,X,B,Y,E=>by
  have few:=h.few g;have K:i3 (g2 (rB 4) (cr (J.af (rB 3) J.aQ) (jn mI)) Bv) [.shr (eg fs es),.shr S,.own (.dict (cS (i_ l))),.own (.list ((l.map (·.1)).map aD)),.shr (.int (j:Nat)),d,m]=.ok (decide (j<l.length)):=by
   left;simp only [Int.ofNat_lt]
  rw [jK,K];by_cases o:j<l.length
  ·rw [decide_eq_true o];simp only;have n:j<(l.map (·.1)).length:=by rw [ah];exact o
   have u:(l.map (·.1))[j]?=some (l.map (·.1))[j]:=aE n;have O:((l.map (·.1))[j],l[j].2)∈l:=by
    have:((l.map (·.1))[j],l[j].2)=l[j]:=by rw [ms]
    rw [this];exact io o
   obtain ⟨b1,⟨t,b2⟩,b3,s,q,b4⟩:=X4 g (eg fs es) S j d m h u O es fun _ h=>h;have N:Z5 [.shr (eg fs es),.shr S,.own (.dict (cS (i_ l))),.own (.list ((l.map (·.1)).map aD)),.shr (.int (j:Nat)),d,m]=.ok (.nx [.shr (eg fs es),.shr S,.own (.dict (cS (i_ (es.foldl (nI (l.map (·.1))[j] l[j].2) l)))),.own (.list (((es.foldl (nI (l.map (·.1))[j] l[j].2) l).map (·.1)).map aD)),.shr (.int ((j+1:Nat):Int)),s,q]):=by
    unfold Z5;left;rw [sF (ds:=es.map dh)]
    ·rw [b4];left;rfl
    ·left;rw [TQ];left
   rw [N];obtain ⟨c,P,Q,I,T,G,H,U⟩:=GN g S (k-1) a (j+1) s q _ b1 (Re z (aE o) (ms (f:=fun p:List Str×Int=>p.1) (h:=n)) b3) (by rw [b2,aO];omega) (fun i x y b e he A=>by
    rw [b2,bd] at b;have w:i<(l.map (·.1)).length:=by rw [ah];omega
    rw [bi w] at b;by_cases v:i=j
    ·subst v;rw [u] at b;cases b;exact b3 e he A
    ·have:=B i x (by omega) b e he A;rw [b2,bd];exact bg _ this) (by omega) (by omega)
   exact ⟨c,P,Q,I,T,G,H,U⟩
  ·rw [decide_eq_false o];simp only;refine ⟨l,_,_,d,m,⟨h,(show j=l.length by omega) ▸ z⟩,fun x u=>?_,rfl⟩;obtain ⟨i,y,e⟩:=fR u;rw [ah] at y;exact B i x (by omega) (by rw [aE (by rw [ah];exact y),e])
theorem M_ (g:fK fs es) (hs:rF fs st):∃ l:NZ,(l.map (·.1)).Nodup/\l.length<=64/\(∀ x,x∈l.map (·.1)↔R1 es st x)/\Vs st es l l.length/\mU [eg fs es,aD st]=.ok (.dict ((.none,.none)::cS (i_ l))):=by
 have o:NC fs st es [(st,0)]:=⟨by simp,List.mem_singleton.mpr rfl,fun p a=>by rw [List.mem_singleton.mp a];exact hs,fun p a=>by rw [List.mem_singleton.mp a];exact ⟨[],fun _ h=>(nomatch h),rfl⟩⟩;obtain ⟨l,v,w,y,u,⟨c,k⟩,s,t⟩:=GN g (aD st) 65 100000 0 .no .no [(st,0)] o ⟨List.mem_singleton.mpr rfl,fun p a=>by rw [List.mem_singleton.mp a];exact ⟨[],fun _ h=>(nomatch h),rfl,rfl⟩,by simp,fun p a q j=>by cases a;rw [List.mem_singleton.mp j];show (0:Int)<=0+1;decide,fun i p e=>absurd e (ni _)⟩ (cG _) (fun i x e=>absurd e (ni _)) (by simp) (by decide);refine ⟨l,c.nd,c.few g,fun x=>⟨c.rch x,?_⟩,k,?_⟩
 ·rintro ⟨f,m,n⟩;exact uW (M:=fun x=>x∈l.map (·.1)) s f st x c.beg m n
 ·unfold mU;refine dA ?_;rw [Rc];unfold bX;left;rw [Z2 (x:=st) (d:=.int 0) rfl rfl];left;have b:jK (i3 (g2 (rB 4) (cr (J.af (rB 3) J.aQ) (jn mI)) Bv)) Z5 100000 [.shr (eg fs es),.shr (aD st),.own (.dict (cS [(st,.int 0)])),.own (.list [aD st]),.shr (.int 0),.no,.no]=_:=t;unfold Bv at b;rw [b];left;rw [Z1 c.ne rfl];left
theorem GJ.keys (h:GJ fs st es l) (x:List Str):x∈l.map (·.1)↔R1 es st x:=by
 constructor
 ·intro d;obtain ⟨p,c,rfl⟩:=List.mem_map.mp d;obtain ⟨b,a,_⟩:=h.ok.row p c;exact ⟨p.2,b,a⟩
 ·rintro ⟨e,b,a⟩;exact uW (M:=fun x=>x∈l.map (·.1)) h.all e st x (bt (f:=(·.1)) h.ok.beg) b a
theorem X5 (l:LZ):((cS (iJ l)).map (·.1))=(l.map (·.1)).map J.uk:=by
 rw [<- ko l];unfold cS lu;rw [bJ,bJ];rfl
theorem Az (g:fK fs es) (hs:rF fs st):∃ a:List (List Str),a.Nodup/\(∀ x,x∈a↔R1 es st x)/\(∀ x∈a,rF fs x)/\a.length<=64/\pZ [eg fs es,aD st]=.ok (.list ((jj a).map aD)):=by
 obtain ⟨l,⟨b,_⟩,e⟩:=GM g hs;have few:=b.ok.few g;have d:=b.ok.nd;refine ⟨l.map (·.1),d,b.keys,fun x h=>?_,by rw [ah];exact few,?_⟩
 ·obtain ⟨p,f,rfl⟩:=eL.1 h;exact b.ok.sub p f
 have c:J.jY (.dict ((.none,.none)::cS (iJ l)))=.ok (.list ((jj (l.map (·.1))).map aD)):=by
  unfold J.jY;dsimp only;rw [X5,J.qy];dsimp only;unfold J.nz;rw [if_pos ⟨d,by rw [ah];exact few⟩];rfl
 unfold pZ;refine dA ?_;unfold tX bX;left;rw [Aw g hs];left;rw [e];left;rw [c];left
theorem Lr (a:Bool) {fs:List Str} (d:∀ x∈fs,BB x=true) {b:List (List Str)} (h:∀ x∈b,rF fs x):rA a (.list (b.map aD)) (.list (b.map aD))=.ok (.bool (!a)):=by
 have c:(fW (b.map aD)).canLay0=true:=by
  simp only [eG];exact Av aD b fun x e=>by simp only [eG];exact sO d (h x e)
 have f:(fW (b.map aD)).depth<=60:=by
  have:=xz aD 1 (fun x=>by
   have:=xz aU 0 (fun x=>by simp [ES]) x;simp only [ES];omega) b
  simp only [ES];omega
 unfold rA;rw [c,PySem.SeqAt.eqv_refl _ c,decide_eq_true (bL (Nat.min_le_left _ _) f)];cases a<;>rfl
theorem N0 (few:l.length<=64):J.CK (.dict ((.none,.none)::cS (i_ l)))=.ok (.list ((l.map (·.1)).map aD)):=by
 have a:((cS (i_ l)).map (·.1))=(l.map (·.1)).map J.uk:=by
  rw [<- jy l];unfold cS lu;rw [bJ,bJ];rfl
 unfold J.CK;dsimp only;rw [a,J.qy];dsimp only;rw [if_pos (by rw [ah];exact few)];rfl
theorem xD (a:ks.Nodup) (few:ks.length<=64):J.jY (.list (ks.map aD))=.ok (.list ((jj ks).map aD)):=by
 unfold J.jY;dsimp only;rw [show ks.map aD=ks.map J.uk from rfl,J.qy];dsimp only;unfold J.nz;rw [if_pos ⟨a,few⟩];rfl
theorem N1 (h:R1 es st x) (h':R1 es x y):R1 es st y:=by
 obtain ⟨b,f,k⟩:=h;obtain ⟨a,i,j⟩:=h';refine ⟨b++a,fun e he=>(eT.1 he).elim (f e) (i e),?_⟩;have:∀ (r d:List iI) (st x:List Str),ll r st=some x->ll (r++d) st=ll d x:=by
  intro r;induction r with
  |nil=>intro d st x h;cases h;rfl
  |cons e r g =>
   intro d st x h;have h:(if cL st e.needs e.bars then ll r (ba e st) else none)=some x:=h;show (if cL st e.needs e.bars then ll (r++d) (ba e st) else none)=_;cases c:cL st e.needs e.bars with
   |false=>rw [c] at h;cases h
   |true=>rw [c] at h;exact g d _ x h
 rw [this b a st x k];exact j
theorem AA {c:Type} (len:c->Int) {l:List (List Str×c)}{es:List iI} (f:∀ p∈l,∀ e∈es,cL p.1 e.needs e.bars=true->∃ q∈l,q.1=ba e p.1/\len q.2<=len p.2+1):∀ (b:List iI) (p:List Str×c) (x:List Str),p∈l->(∀ e∈b,e∈es)->ll b p.1=some x->∃ q∈l,q.1=x/\len q.2<=len p.2+b.length
 |[],p,x,d,_,h=>by
  cases h;exact ⟨p,d,rfl,by simp⟩
 |a::r,p,x,d,he,h=>by
  have h':(if cL p.1 a.needs a.bars then ll r (ba a p.1) else none)=some x:=h;split at h'
  ·rename_i m
   obtain ⟨q,i,j,o⟩:=f p d a (he a al) m;rw [<- j] at h';obtain ⟨s,g,k,n⟩:=AA len f r q x i (fun e h=>he e (ag _ h)) h';refine ⟨s,g,k,?_⟩;rw [aW];omega
  ·cases h'
theorem GO (hb:GJ fs st es l) (y:U9 es l) (P:Vs st es n n.length) (f:(n.map (·.1)).Nodup) (g:p∈l) (o:q∈n) (h:p.1=q.1):(p.2.length:Int)=q.2:=by
 have d:∀ {t:Type}{l:List (List Str×t)},(l.map (·.1)).Nodup->∀ a∈l,∀ b∈l,a.1=b.1->a=b:=by
  intro t l;induction l with
  |nil=>intro _ a j;cases j
  |cons c l u =>
   intro f a j b hb e;rw [ax,iX] at f;rcases aN.1 j with rfl|ha'
   ·rcases aN.1 hb with rfl|hb
    ·rfl
    ·exact absurd (eL.2 ⟨b,hb,e.symm⟩) f.1
   ·rcases aN.1 hb with rfl|hb
    ·exact absurd (eL.2 ⟨a,ha',e⟩) f.1
    ·exact u f.2 a ha' b hb e
 obtain ⟨A,G,_⟩:=hb.ok.row p g;obtain ⟨x,v,B,K⟩:=P.rch q o;obtain ⟨a,w,E,m⟩:=AA (fun r:List iI=>(r.length:Int)) (fun p g e he k=>by
  obtain ⟨q,a,b,c⟩:=y.cls p g e he k;exact ⟨q,a,b,by omega⟩) x (st,[]) q.1 hb.ok.beg v B
 obtain ⟨b,b1,b2,b3⟩:=AA (fun n:Int=>n) (fun p g e he k=>by
  obtain ⟨i,s,H⟩:=fR g;exact P.cls i p s (by rw [aE s,H]) e he k) p.2 (st,0) p.1 P.beg A G
 have z:=d hb.ok.nd a w p g (E.trans h.symm);have I:=d f b b1 q o (b2.trans h);rw [z] at m;rw [I] at b3;simp only [bU] at m;omega
theorem GQ (c:GJ fs st es l) (h:U9 es l) (P:Vs st es n n.length) (g:(n.map (·.1)).Nodup) (i:∀ x,x∈n.map (·.1)↔R1 es st x) (k:Int) :
  jj ((l.filter fun p=>decide ((p.2.length:Int)<=k)).map (·.1))=jj ((n.filter fun q=>decide (q.2<=k)).map (·.1)):=by
 have s:((l.filter fun p=>decide ((p.2.length:Int)<=k)).map (·.1)).Nodup:=(List.filter_sublist.map _).nodup c.ok.nd;have j:((n.filter fun q=>decide (q.2<=k)).map (·.1)).Nodup:=(List.filter_sublist.map _).nodup g;refine yf j ((gF s j).2 fun x=>?_);rw [eL,eL];constructor
 ·rintro ⟨p,m,rfl⟩;obtain ⟨a,d⟩:=iY.1 m;obtain ⟨q,b,e⟩:=eL.1 ((i p.1).2 ((c.keys p.1).1 (bt (f:=(·.1)) a)));refine ⟨q,iY.2 ⟨b,?_⟩,e⟩;rw [<- GO c h P g a b e.symm];exact d
 ·rintro ⟨q,o,rfl⟩;obtain ⟨b,e⟩:=iY.1 o;obtain ⟨p,a,d⟩:=eL.1 ((c.keys q.1).2 ((i q.1).1 (bt (f:=(·.1)) b)));refine ⟨p,iY.2 ⟨a,?_⟩,d⟩;rw [GO c h P g a b d];exact e
theorem Ub (b:0<=k) (a:k<=64):ju [.int k]=.ok .none:=by
 unfold ju;refine Jc (ρ:=[.shr (.int k)]) ?_;unfold l5 bX;left;rw [Au b a];left
theorem Uc (h:jk [d,.int 0,.int 64]=.ok (.bool false)):ju [d]=.ex "NoNumber" none:=by
 unfold ju;refine Qv ?_;unfold l5 bX;left;rw [h];left;rw [TV (ds:=[.str "it is no whole number from 0 to 64"]) _ _ _ _ rfl (by decide)]
theorem N5 (g:fK fs es) (hs:rF fs st) (a:GJ fs st es l) (e:iC [eg fs es,aD st]=.ok (.dict ((.none,.none)::cS (iJ l)))) (h:0<=k) (b:k<=64) :
  l7 [eg fs es,aD st,.int k]=.ok (.list ((jj ((l.filter fun p=>decide ((p.2.length:Int)<=k)).map (·.1))).map aD)):=by
 have few:=a.ok.few g;have f:((l.filter fun p=>decide ((p.2.length:Int)<=k)).map (·.1)).Nodup:=(List.filter_sublist.map _).nodup a.ok.nd;have d:((l.filter fun p=>decide ((p.2.length:Int)<=k)).map (·.1)).length<=64:=by
  rw [ah];exact bL (l_ _ _) few
 unfold l7;refine dA ?_;unfold sJ bX;left;rw [Aw g hs];left;rw [Ub h b];left;rw [e];left;rw [Vr];left;rw [Gz,ko,bJ];left;rw [if_pos (by omega)];rw [gU _ (aD∘fun p:List Str×List iI=>p.1) (fun p=>aD p.1) (fun p=>decide ((p.2.length:Int)<=k)) l fun p c=>qw (by
  left;rw [show (aD∘fun p:List Str×List iI=>p.1) p=aD p.1 from rfl,show Ge (.dict ((.none,.none)::cS (iJ l))) (aD p.1)=.ok (nF p.2) from QZ (l:=iJ l) (by rw [ko];exact a.ok.nd) (GG c)];left) fun _=>rfl]
 left;rw [show (l.filter fun p=>decide ((p.2.length:Int)<=k)).map (fun p=>aD p.1)=((l.filter fun p=>decide ((p.2.length:Int)<=k)).map (·.1)).map aD by rw [bJ];rfl,xD f d];left
def Z7:R D->Bool
 |.ok (.bool b)=>!b
 |_=>false
theorem ww (h:Z7 r=true):r=.ok (.bool false):=by
 unfold Z7 at h;split at h
 ·rename_i b;cases b
  ·rfl
  ·cases h
 ·cases h
theorem C_:∀ (f:List iI) (st x:List Str),(∀ e∈f,e∈es)->x∈l9 f st->R1 es st x
 |[],st,x,_,h=>by
  rw [c9.1 h];exact ⟨[],by simp,rfl⟩
 |e::r,st,x,c,h=>by
  have h:x∈(if cL st e.needs e.bars then st::l9 r (ba e st) else [st]):=h;cases b:cL st e.needs e.bars with
  |false =>
   rw [b] at h;rw [c9.1 h];exact ⟨[],by simp,rfl⟩
  |true =>
   rw [b] at h;rcases aN.1 h with rfl|h
   ·exact ⟨[],by simp,rfl⟩
   ·obtain ⟨d,g,i⟩:=C_ r _ x (fun a ha=>c a (ag _ ha)) h;refine ⟨e::d,fun a ha=>?_,?_⟩
    ·rcases aN.1 ha with rfl|ha
     ·exact c _ al
     ·exact g a ha
    ·show (if cL st e.needs e.bars then ll d (ba e st) else none)=some x;rw [b];exact i
theorem Ud (a:i_ l≠[]) (h:x∈l.map (·.1)):inT false (aD x) (.dict ((.none,.none)::cS (i_ l)))=.ok (.bool true):=by
 unfold inT;simp only [lH,show HH ((HA,HA)::cS (i_ l))=cS (i_ l) from rfl];rw [if_pos (mW a),u4,xA,jy,decide_eq_true h];rfl
theorem wh8:RA "NoNumber"=some 8:=by decide +kernel
theorem Rf (j:Int) (b:0<=j) (a:j<5):∃ d,bj (.list [.int (-1),.int 65,.none,.bool true,.str "1"]) (.int j)=.ok d/\jk [d,.int 0,.int 64]=.ok (.bool false):=by
 have:j=0\/j=1\/j=2\/j=3\/j=4:=by omega
 rcases this with rfl|rfl|rfl|rfl|rfl
 ·exact ⟨_,rfl,ww (by decide +kernel)⟩
 ·exact ⟨_,rfl,ww (by decide +kernel)⟩
 ·exact ⟨_,rfl,ww (by decide +kernel)⟩
 ·exact ⟨_,rfl,ww (by decide +kernel)⟩
 ·exact ⟨_,rfl,ww (by decide +kernel)⟩
def Zp:aI->R Fl:=g9 (i3 (g2 (fH 3 (yc RA l7) (J.af (rS 1) (J.af (rS 2) (J.af (rS 6) J.aQ)))) (cr (J.af (fJ 1 [4,6] (MB (rB 4)) (i3 (g2 (g2 (rB 1) (rB 0) Ge) (rB 2) P3)) (rS 0)) J.aQ) (jn J.jY)) (rA true))) (dE (kB false)) (fun ρ=>.ok (.nx ρ))
theorem Z8 (g:fK fs es) (hs:rF fs st) (a:GJ fs st es l) (o:U9 es l) (e:iC [eg fs es,aD st]=.ok (.dict ((.none,.none)::cS (iJ l)))) (P:Vs st es n n.length) (c:(n.map (·.1)).Nodup) (few:n.length<=64) (d:∀ x,x∈n.map (·.1)↔R1 es st x) (A W Y:D) (v:0<=k) (h:k<=64) :
  Zp [.shr A,.shr (eg fs es),.shr (aD st),.shr W,.shr (.dict ((.none,.none)::cS (i_ n))),.shr Y,.shr (.int k)]=.ok (.nx [.shr A,.shr (eg fs es),.shr (aD st),.shr W,.shr (.dict ((.none,.none)::cS (i_ n))),.shr Y,.shr (.int k)]):=by
 have j:((n.filter fun q=>decide (q.2<=k)).map (·.1)).Nodup:=(List.filter_sublist.map _).nodup c;have m:((n.filter fun q=>decide (q.2<=k)).map (·.1)).length<=64:=by
  rw [ah];exact bL (l_ _ _) few
 have sub:∀ x∈jj ((n.filter fun q=>decide (q.2<=k)).map (·.1)),rF fs x:=fun x u=>by
  obtain ⟨q,i,rfl⟩:=eL.1 ((iA _).mem_iff.1 u);obtain ⟨p,s,b⟩:=eL.1 ((a.keys q.1).2 ((d q.1).1 (bt (f:=(·.1)) (iY.1 i).1)));have b:p.1=q.1:=b;rw [<- b];exact a.ok.sub p s
 unfold Zp;left;rw [QQ,N5 g hs a e v h,TW,GQ a o P c d k];left;rw [Vr];left;rw [Gz,jy,bJ];left;rw [if_pos (by omega)];rw [gU _ (aD∘fun p:List Str×Int=>p.1) (fun p=>aD p.1) (fun q=>decide (q.2<=k)) n fun p t=>qw (by
  left;rw [show (aD∘fun p:List Str×Int=>p.1) p=aD p.1 from rfl,show Ge (.dict ((.none,.none)::cS (i_ n))) (aD p.1)=.ok (.int p.2) from QZ (l:=i_ n) (by rw [jy];exact c) (bt (f:=fun p:List Str×Int=>(p.1,d_ p.2)) t)];left) fun _=>rfl]
 left;rw [show (n.filter fun q=>decide (q.2<=k)).map (fun p=>aD p.1)=((n.filter fun q=>decide (q.2<=k)).map (·.1)).map aD by rw [bJ];rfl,xD j m];left;rw [Lr true g.rise.ok sub];left
theorem N6 (g:fK fs es) (hs:rF fs st) (h:jk [d,.int 0,.int 64]=.ok (.bool false)):l7 [eg fs es,aD st,d]=.ex "NoNumber" none:=by
 unfold l7;refine Qv ?_;unfold sJ bX;left;rw [Aw g hs];left;rw [Uc h];left
theorem Rg {n:NZ} (b:i_ n≠[]) {xs:List (List Str)} (h:∀ x∈xs,x∈n.map (·.1)):ip (jI 1 [.no,.shr (.dict ((.none,.none)::cS (i_ n)))] kT (g2 (rB 0) (rB 1) (inT false))) (xs.map aD)=.ok (xs.map fun _=>cU true) :=
 eU _ (fun x:List Str=>aD x) (fun _=>cU true) xs fun x a=>i7 rfl (by
  left;rw [Ud b (h x a)])
theorem Ls (xs:List (List Str)):hJ (fun bs=>bs.all id) (.list (xs.map fun _=>cU true))=.ok (.bool true):=by
 rw [l8 _ (fun _=>true)];simp
theorem law_true (a:List Int):F_law [.list (a.map .int)]=.ok (.bool true):=by
 obtain ⟨fs,es,b,U,A,I,gb,d,gw,_⟩:=TU a 6 6 (by decide) (by decide) (by decide) (by decide);obtain ⟨n,t,few,m,P,e⟩:=M_ gb d;obtain ⟨l,⟨L,M⟩,O⟩:=GM gb d;obtain ⟨v,k1,k2,k3,_,H⟩:=Az gb d;obtain ⟨c,j,⟨x,q⟩,Q⟩:=U4 gb a 300 12 (by decide) (by decide) (by decide) d;have st:=Jj gb j d;rw [q] at st;have st:iD [eg fs es,aD b,nF c]=.ok (.list ((l9 c b).map aD)):=st;have u:R1 es b x:=⟨c,j.mem,q⟩;have T:rF fs x:=k3 x ((k2 x).2 u);obtain ⟨s,j1,N,j3,K,B⟩:=Az gb T;obtain ⟨g,S⟩:=Ax c b x q;have o:i_ n≠[]:=fun h=>by
  have:=P.beg;rw [show n=[] by simpa [i_] using h] at this;cases this
 have so:jj (n.map (·.1))=jj v:=yf k1 ((gF t k1).2 fun x=>(m x).trans (k2 x).symm);have E:(n.map (·.1)).length<=64:=by rw [ah];exact few
 have G:=fP a 0 5 (by decide);have Y:=gW a 0 5 (by decide);obtain ⟨bm,b1,b2⟩:=Rf (fO a 0 5) G Y;unfold F_law;refine dA ?_;unfold L8 bX;left;rw [I];left;rw [q0i];left;rw [e];left;rw [H];left;rw [N0 few];left;rw [xD t E,so];left;rw [Lr true gb.rise.ok fun x X=>k3 x ((iA v).mem_iff.1 X)];left;rw [Q];left;rw [st];left;have tl:=CY c b;have rl:=j.len;rw [if_pos (by omega),Rg o fun y p=>(m y).2 (C_ c b y j.mem p)];left;rw [Ls];left;rw [Lk];left;rw [zg];left;rw [show (l9 c b).map aD=g.map aD++[aD x] by rw [S,bd];rfl,Lm];left;rw [B];left;have jl:(jj s).length<=64:=by rw [(iA s).length_eq];exact K
 rw [if_pos (by omega),Rg o fun y p=>(m y).2 (N1 u ((N y).1 ((iA s).mem_iff.1 p)))];left;rw [Ls];left;have f:∀ {k:Int} (z:Sl),0<=k->k<=64->Zp [.shr (.list (a.map .int)),.shr (eg fs es),.shr (aD b),.shr (BC U A),.shr (.dict ((.none,.none)::cS (i_ n))),.shr (.list (g.map aD++[aD x])),.shr (.int k)]=_:=fun _ o w=>Z8 gb d L M O P t few m _ _ _ o w;show (pp (m9 (fh (J.af (kI 0) (J.af (kI 1) (J.af (kI 2) (J.af (kI 3) (J.af (kI 64) J.aQ))))) .tuple)) (c6 6) Zp _).bind _=_;rw [sF (ds:=[.int 0,.int 1,.int 2,.int 3,.int 64])]
 ·rw [lW rfl (f .no (by decide) (by decide)),lW rfl (f .no (by decide) (by decide)),lW rfl (f .no (by decide) (by decide)),lW rfl (f .no (by decide) (by decide)),lW rfl (f .no (by decide) (by decide)),jT];left;rw [Lk];left;rw [zg];left;rw [fQ a 0 5 (by decide) (by decide)];left;rw [b1];left;rw [QQ,N6 gb d b2,TX wh8];left;rw [show ∀ i:Int,i=8->rA false (cn [aU "refused",d_ i]) (cn [aU "refused",d_ 8])=.ok (.bool true) from fun i h=>by subst h;exact TY (by decide +kernel)]
  ·left
  ·rfl
 ·left
end Z
end
namespace Z
open PySem L2 J
def top (i:Nat):dY:=PySem.Challenge.pw_errands_k07_whole_reached.main.body.getD i (.Pass ⟨0,0,0,0⟩)
section
variable {e:En}
abbrev sQ:dY:=top 56
def GR:List Str:=["NoBook","NoState","NoWant","NoErrand","NoRow","NoWay","NoPaper","NoFacts","NoNumber","Nothing","NoText"]
theorem wx:bM ["_law_e","_law_own"] ["_law_e"] (ay sQ):=eO (by decide +kernel)
theorem BD {f:aj}{fd:eI} (F:Fe e.K "_law_which" "_law_which" sQ f fd) (B:Bi e.mg) (mv:e.mg "ValueError"=none) (g:∀ n∈GR,e.mg n=some (.ref (e.cls n))):FE e.P e.w e.K e.mg e.base 1 f fd ["_law_e"] (Wf e.K e.base e.cls GR):=by
 refine F.okH wx (fun vs H Q E h=>?_) (fun a0 A outer s H vs Q E hr h=>?_)
 ·obtain ⟨_,_,_,rfl,_⟩:=h;rfl
 obtain ⟨a,C,j,rfl,G,x,q⟩:=h
 refine ⟨_,kL (Do (i:=1) wx.nd rfl (hZ rfl) (oZ (ck (ny (names:=GR) (cls:=e.cls) (base:=e.base) (pv 0) rfl B.isinstance rfl (g "NoBook" (by decide +kernel))) (ck (ny (names:=GR) (cls:=e.cls) (base:=e.base) (pv 0) rfl B.isinstance rfl (g "NoState" (by decide +kernel))) (ck (ny (names:=GR) (cls:=e.cls) (base:=e.base) (pv 0) rfl B.isinstance rfl (g "NoWant" (by decide +kernel))) (ck (ny (names:=GR) (cls:=e.cls) (base:=e.base) (pv 0) rfl B.isinstance rfl (g "NoErrand" (by decide +kernel))) fB))))))
  (kL (vI (C6 fv Bf Bg C8 (pv 1) (ck (oZ (ck (ny (names:=GR) (cls:=e.cls) (base:=e.base) (pv 0) rfl B.isinstance rfl (g "NoRow" (by decide +kernel))) (ck (ny (names:=GR) (cls:=e.cls) (base:=e.base) (pv 0) rfl B.isinstance rfl (g "NoWay" (by decide +kernel))) (ck (ny (names:=GR) (cls:=e.cls) (base:=e.base) (pv 0) rfl B.isinstance rfl (g "NoPaper" (by decide +kernel))) (ck (ny (names:=GR) (cls:=e.cls) (base:=e.base) (pv 0) rfl B.isinstance rfl (g "NoFacts" (by decide +kernel))) fB))))) fB)))
  (kL (vI (C6 fv Bf Bg C8 (pv 1) (ck (oZ (ck (ny (names:=GR) (cls:=e.cls) (base:=e.base) (pv 0) rfl B.isinstance rfl (g "NoNumber" (by decide +kernel))) (ck (ny (names:=GR) (cls:=e.cls) (base:=e.base) (pv 0) rfl B.isinstance rfl (g "Nothing" (by decide +kernel))) (ck (ny (names:=GR) (cls:=e.cls) (base:=e.base) (pv 0) rfl B.isinstance rfl (g "NoText" (by decide +kernel))) fB)))) fB)))
  (kL (Uh (PW.pt (Ug (K0 Xs (C6 fv BY PySem.F.type_list_count Mf (pv 1) (ck NX fB)) NW (Iw _)) (O1 (O3 (O0 (T5 (names:=GR) (cls:=e.cls) (base:=e.base) (pv 0) rfl B.isinstance rfl mv)))))) pO JZ)
  (vH (Dl (Of (ck NY (ck (C6 fv BZ PySem.F.type_list_index Mh (pv 1) (ck NX fB)) fB)))))))),?_⟩
 refine ⟨a,C,j,0,rfl,G,x,rfl,a,C,j,1,rfl,G,x,rfl,a,C,j,2,rfl,G,x,rfl,a,C,j,3,rfl,G,x,rfl,bw (cK (show 4<=1000 by decide)),fun p X=>?_⟩
 have O:a≠p:=bh G X
 have c:∀ o,upd H p o a=some (zM a C):=fun o=>by rw [aV O];exact G
 refine ⟨_,rfl,.inl ⟨rfl,_,.of aS⟩,?_⟩
 refine ⟨a,C,j,4,rfl,c _,x,rfl,a,C,j,5,rfl,c _,x,rfl,a,C,j,6,rfl,c _,x,rfl,a,C,j,7,rfl,c _,x,rfl,bw (cK (show 4<=1000 by decide)),fun I v=>?_⟩
 have T:p≠I:=bh aS v
 have U:a≠I:=bh (c _) v
 refine ⟨p,I,([decide (0=j),decide (1=j),decide (2=j),decide (3=j)].map V.bl),_,rfl,rfl,by rw [aV T];exact aS,aS,bw (cK (show 8<=1000 by decide)),?_⟩
 have k:∀ o u,upd (upd (upd H p o) I u) p (.lst (([decide (0=j),decide (1=j),decide (2=j),decide (3=j)]++[decide (4=j),decide (5=j),decide (6=j),decide (7=j)]).map V.bl)) a=some (zM a C):=fun o u=>by rw [aV O,aV U];exact c _
 refine ⟨_,rfl,.inl ⟨rfl,_,.of aS⟩,?_⟩
 refine ⟨a,C,j,8,rfl,k _ _,x,rfl,a,C,j,9,rfl,k _ _,x,rfl,a,C,j,10,rfl,k _ _,x,rfl,bw (cK (show 3<=1000 by decide)),fun N y=>?_⟩
 have Y:p≠N:=bh aS y
 have S:a≠N:=bh (k _ _) y
 refine ⟨p,N,(([decide (0=j),decide (1=j),decide (2=j),decide (3=j)]++[decide (4=j),decide (5=j),decide (6=j),decide (7=j)]).map V.bl),_,rfl,rfl,by rw [aV Y];exact aS,aS,bw (cK (show 11<=1000 by decide)),?_⟩
 refine ⟨_,rfl,.inl ⟨rfl,_,.of aS⟩,p,bits j,rfl,rfl,.of aS,?_⟩
 rw [IX j x.lt]
 refine ⟨rfl,_,rfl,Bk ⟨a,C,j,rfl,?_,x,_,rfl,Bk ?_⟩⟩
 ·rw [aV O,aV S];exact k _ _
 obtain ⟨b1,b2⟩:=T4 j x.lt
 refine ⟨_,rfl,.inl ⟨rfl,_,.of aS⟩,p,bits j,j,rfl,rfl,.of aS,b1,b2,bw (aC x.lt (by decide)),bw (cK (show 2<=1000 by decide)),fun t ht=>?_⟩
 have M:dD H _:=jQ (o:=.lst ([decide (0=j),decide (1=j),decide (2=j),decide (3=j)].map V.bl)) X
 have d:∀ b o,H b=some o->b≠p:=fun b o e=>bh e X
 have l:∀ b o,H b=some o->b≠I:=fun b o e=>bh (M b o e) v
 have m:∀ b o,H b=some o->b≠N:=fun b o e=>bh (by rw [aV (d b o e),aV (l b o e)];exact M b o e) y
 have L:∀ b o,H b=some o->b≠t:=fun b o e=>bh (by rw [aV (d b o e),aV (m b o e),aV (d b o e),aV (l b o e)];exact M b o e) ht
 refine q t _ (fun b o e=>?_) ?_ aS
 ·rw [aV (L b o e),aV (d b o e),aV (m b o e),aV (d b o e),aV (l b o e)];exact M b o e
 ·cases z:H t with
  |none=>rfl
  |some o=>exact (L t o z rfl).elim
abbrev ig:dY:=top 57
abbrev lI:List Str:=["_law_ask","_law_one","_law_other","_law_third","_law_e"]
theorem oO:bM lI ["_law_ask","_law_one","_law_other","_law_third"] (ay ig):=eO (by decide +kernel)
theorem wy {y:Str}{p k:Nat}{n:List D->R D} (D:iS e.K e.mg "_law_told_three" ig) (W:Wh e.P e.w e.K e.mg e.base e.cls "_law_which" GR RA) (G:FN e y p 3 n) (B:p<=k) (q:1<=k):FT e "_law_told_three" y (k+1) 3 (yc RA n):=by
 obtain ⟨f,M,F,x⟩:=D.ex
 obtain ⟨a,t,I,v,m,d,l⟩:=G.ex
 refine Tc (k:=k) (g:=Mt RA (dE (fH 3 n (af (rS 1) (af (rS 2) (af (rS 3) aQ)))))) F oO x (b4 F) m rfl (fun b A outer s H E o ρ=>?_) fun ds u=>?_
 ·exact vH (Wn (c:=⟨j_ (mM e.P e.w) e.P e.w e.K e.mg e.base lI "_law_told_three" (ay ig) f b A outer s H E,e.cls,E⟩) 4 0 W (fun L j i z=>vH (Wm (c:=⟨UC (j_ (mM e.P e.w) e.P e.w e.K e.mg e.base lI "_law_told_three" (ay ig) f b A outer s H E) j i,e.cls,L⟩) v d l (o.mono B) z (ae (am 1) (ae (am 2) (ae (am 3) aP))) (ρ:=ρ))) (o.h.mono1 q) rfl rfl oO.nd)
 ·match ds,u with
  |[_,_,_],_=>exact Q3 rfl rfl
abbrev mX:dY:=top 18
abbrev wz:List Str:=["one","other"]
theorem BE:bM wz ["one","other"] (ay mX):=eO (by decide +kernel)
abbrev qQ (e:En):=FN e "share_none" 1 2 gV
theorem BF (D:iS e.K e.mg "share_none" mX) (B:Bi e.mg):qQ e:=sG (k:=0) (g:=kX) D BE b2 fun _ _ _ _ _ _ _ f=>by unfold kX;exact (aX (b_ (OY (cg (P5 rfl) rfl B.any zw (bF (JE.bor (JN.je (fN (N':=["fact","other"]) (ix:=[1]) 1 (by decide) rfl (cp (so:=ay mX) (N:=wz) (by decide +kernel)) (gL (ai 0)) (fun a j b c h d=>⟨dm (i:=0) (by show (["fact","other"] : List Str).Nodup;decide +kernel) rfl (.inl rfl),gT,(pf (FM) (ai 0) (ai 1))⟩)))) cb)))))
abbrev u5:dY:=top 19
abbrev D0:List Str:=["facts","others"]
theorem Jk:bM D0 ["facts","others"] (ay u5):=eO (by decide +kernel)
abbrev D1 (e:En):=FN e "without" 1 2 tP
theorem Jl (D:iS e.K e.mg "without" u5) (B:Bi e.mg):D1 e:=sG (k:=0) (g:=tO) D Jk b2 fun _ _ _ _ _ _ _ f=>by unfold tO;exact (aX (b_ (fz (jR rfl) rfl B.tuple bx (bF (JE.bor (JN.je (fN (N':=["fact","others"]) (ix:=[1]) 1 (by decide) rfl (cp (so:=ay u5) (N:=D0) (by decide +kernel)) (gL (ai 0)) (fun a j b c h d=>⟨dm (i:=0) (by show (["fact","others"] : List Str).Nodup;decide +kernel) rfl (.inl rfl),(mQ (ed (zW) (ai 0) (ai 1))),(am 0)⟩)))) cb))))
abbrev AB:dY:=top 20
abbrev Rh:List Str:=["one","other"]
theorem N7:bM Rh ["one","other"] (ay AB):=eO (by decide +kernel)
abbrev GS (e:En):=FN e "joined" 1 2 wp
theorem N8 (D:iS e.K e.mg "joined" AB) (B:Bi e.mg):GS e:=sG (k:=0) (g:=wo) D N7 b2 fun _ _ _ _ _ _ _ a=>by unfold wo;exact (aX (b_ (fz (jR rfl) rfl B.tuple bx (bF (JE.bor (uS rfl (Wq (DZ rfl (ai 0) rfl B.set) (DZ rfl (ai 1) rfl B.set)) rfl B.sorted)) cb))))
abbrev u6:dY:=top 21
abbrev D2:List Str:=["thing"]
theorem Jm:bM D2 ["thing"] (ay u6):=eO (by decide +kernel)
abbrev xE (e:En):=FN e "is_word" 1 1 pY
theorem Jn (D:iS e.K e.mg "is_word" u6) (B:Bi e.mg) (a:Cn e.mg "MOST_LETTERS" 6):xE e:=sG (k:=0) (g:=tQ) D Jm b1 fun _ _ _ _ _ _ _ h=>by unfold tQ;exact (aG (gR (JW.t (y0 (iz (ic (uP (ai 0) rfl B.isinstance rfl B.str PyProof.Rows.boot_str (by decide)))) (su (iz (Pf (y9) (y9) (JE.bor aH) (JE.bor (cg k8 rfl B.len cA (bF (ai 0) cb))) (JE.bor (sr rfl a))))))) (aX (b_ mJ)) dw) (aX (b_ (cg (ph rfl) rfl B.all cH (bF (JE.bor (JN.je (fN (N':=["sign"]) (ix:=[]) 1 (by decide) rfl (cp (so:=ay u6) (N:=D2) (by decide +kernel)) (gL (ai 0)) (fun b l c d j f=>⟨dm (i:=0) (by show (["sign"] : List Str).Nodup;decide +kernel) rfl (.inl rfl),gT,(FZ (y9) (y9) (JE.bor qr) (ai 0) (JE.bor qr))⟩)))) cb)))))
abbrev gq:dY:=top 22
abbrev ka:List Str:=["thing"]
theorem um:bM ka ["thing"] (ay gq):=eO (by decide +kernel)
abbrev kc (e:En):=FN e "are_rising_words" 2 1 gm
theorem uo (D:iS e.K e.mg "are_rising_words" gq) (B:Bi e.mg) (j:xE e):kc e:=sG (k:=1) (g:=iB) D um b1 fun _ _ _ _ _ _ _ f=>by unfold iB;exact (aG (gR (JW.t (y0 (iz (ic (uP (ai 0) rfl B.isinstance rfl B.tuple bx (by decide)))) (su (iz (ic (cg (ph rfl) rfl B.all cH (bF (JE.bor (JN.je (fN (N':=["word"]) (ix:=[]) 1 (by decide) rfl (cp (so:=ay gq) (N:=ka) (by decide +kernel)) (gL (ai 0)) (fun a l b c h d=>⟨dm (i:=0) (by show (["word"] : List Str).Nodup;decide +kernel) rfl (.inl rfl),gT,(jc j f fE (ae (am 0) aP))⟩)))) cb))))))) (aX (b_ mJ)) dw) (aX (b_ (cg (ph rfl) rfl B.all cH (bF (JE.bor (JN.je (fN (N':=["low","high"]) (ix:=[]) 2 (by decide) rfl (cp (so:=ay gq) (N:=ka) (by decide +kernel)) (Nz.i (SX rfl B.zip (ae (am 0) (ae (sx (ai 0) (tJ aH) yW) aP)))) (fun a l b c h d=>⟨Ir rfl (sd (dm (i:=0) (by show (["low","high"] : List Str).Nodup;decide +kernel) rfl (.inl rfl)) (sd (dm (i:=1) (by show (["low","high"] : List Str).Nodup;decide +kernel) rfl (.inl rfl)) Dm)),gT,(pf (zV) (ai 0) (ai 1))⟩)))) cb)))))
abbrev oP:dY:=top 23
abbrev yh:List Str:=["book_facts","thing"]
theorem Es:bM yh ["book_facts","thing"] (ay oP):=eO (by decide +kernel)
abbrev sR (e:En):=FN e "are_facts" 3 2 kn
theorem Et (D:iS e.K e.mg "are_facts" oP) (B:Bi e.mg) (b:kc e):sR e:=sG (k:=2) (g:=oB) D Es b2 fun _ _ _ _ _ _ _ a=>by unfold oB;exact (aX (b_ (DL (jc b a px (ae (am 1) aP)) (DK (cg (ph rfl) rfl B.all cH (bF (JE.bor (JN.je (fN (N':=["fact","book_facts"]) (ix:=[0]) 1 (by decide) rfl (cp (so:=ay oP) (N:=yh) (by decide +kernel)) (gL (ai 1)) (fun c l d f j h=>⟨dm (i:=0) (by show (["fact","book_facts"] : List Str).Nodup;decide +kernel) rfl (.inl rfl),gT,(pf (FM) (ai 0) (ai 1))⟩)))) cb))))))
abbrev uX:dY:=top 24
abbrev Jo:List Str:=["thing","least","most"]
theorem GT:bM Jo ["thing","least","most"] (ay uX):=eO (by decide +kernel)
abbrev uY (e:En):=FN e "is_whole" 1 3 jk
theorem GU (D:iS e.K e.mg "is_whole" uX) (B:Bi e.mg):uY e:=sG (k:=0) (g:=qA) D GT b3 fun _ _ _ _ _ _ _ a=>by unfold qA;exact (aG (gR (JW.t (y0 (iz (ic (uP (ai 0) rfl B.isinstance rfl B.int PyProof.Rows.boot_int (by decide)))) (su (ic (uP (ai 0) rfl B.isinstance rfl B.bool PyProof.Rows.boot_bool (by decide)))))) (aX (b_ mJ)) dw) (aX (b_ (FZ (y9) (y9) (ai 1) (ai 0) (ai 2)))))
abbrev oQ:dY:=top 25
abbrev yi:List Str:=["book_facts","thing","name","needs","bars","makes","ends","price"]
theorem iE:bM yi ["book_facts","thing"] (ay oQ):=eO (by decide +kernel)
abbrev yj (e:En):=FN e "is_errand" 4 2 oE
theorem Eu (D:iS e.K e.mg "is_errand" oQ) (B:Bi e.mg) (h:xE e) (f:uY e) (d:sR e) (c:qQ e) (j:Cn e.mg "MOST_PRICE" 9):yj e:=sG (k:=3) (g:=oC) D iE b2 fun _ _ _ _ _ _ _ a=>by have b:=a.units;unfold oC;exact (aG (gR (JW.t (y0 (iz (ic (uP (ai 1) rfl B.isinstance rfl B.tuple bx (by decide)))) (su (ed (Ci b) (JE.bor (cg k8 rfl B.len cA (bF (ai 1) cb))) (JE.bor aH))))) (aX (b_ mJ)) dw) (aG (DQ (am 1) (sA rfl (dU (dz 2 iE.nd) (dU (dz 3 iE.nd) (dU (dz 4 iE.nd) (dU (dz 5 iE.nd) (dU (dz 6 iE.nd) (dU (dz 7 iE.nd) oy)))))))) (aG (gR (JW.t (y0 (iz (ic (jc h a px (ae (am 2) aP)))) (su (iz (ic (jc f a px (ae (am 7) (ae aH (ae (sr rfl j) aP))))))))) (aX (b_ mJ)) dw) (aG (gR (iz (ic (cg (ph rfl) rfl B.all cH (bF (JE.bor (JN.je (fN (N':=["facts","book_facts"]) (ix:=[0]) 1 (by decide) rfl (cp (so:=ay oQ) (N:=yi) (by decide +kernel)) (gL (JE.bor (lC (ae (am 3) (ae (am 4) (ae (am 5) (ae (am 6) aP))))))) (fun l q m n p o=>⟨dm (i:=0) (by show (["facts","book_facts"] : List Str).Nodup;decide +kernel) rfl (.inl rfl),gT,(jc d a fE (ae (am 1) (ae (am 0) aP)))⟩)))) cb)))) (aX (b_ mJ)) dw) (aX (b_ (DL (jc c a px (ae (am 3) (ae (am 4) aP))) (DK (jc c a px (ae (am 5) (ae (am 6) aP)))))))))))
abbrev q8:dY:=top 26
abbrev xF:List Str:=["thing","facts","errands"]
theorem uZ:bM xF ["thing"] (ay q8):=eO (by decide +kernel)
abbrev D3 (e:En):=FN e "is_book" 5 1 tS
theorem Jp (D:iS e.K e.mg "is_book" q8) (B:Bi e.mg) (o:kc e) (n:yj e) (f:Cn e.mg "MOST_FACTS" 6) (d:Cn e.mg "MOST_ERRANDS" 6):D3 e:=sG (k:=4) (g:=tR) D uZ b1 fun _ _ _ _ _ _ _ b=>by have c:=ki b;have a:=b.units;unfold tR;exact (aG (gR (JW.t (y0 (iz (ic (uP (ai 0) rfl B.isinstance rfl B.tuple bx (by decide)))) (su (ed (Ci a) (JE.bor (cg k8 rfl B.len cA (bF (ai 0) cb))) (JE.bor aH))))) (aX (b_ mJ)) dw) (aG (DQ (am 0) (sA rfl (dU (dz 1 uZ.nd) (dU (dz 2 uZ.nd) oy)))) (aG (gR (JW.t (y0 (iz (ic (jc o b px (ae (am 1) aP)))) (su (ed (UG) (JE.bor (cg k8 rfl B.len cA (bF (ai 1) cb))) (JE.bor (sr rfl f)))))) (aX (b_ mJ)) dw) (aG (gR (JW.t (y0 (iz (ic (uP (ai 2) rfl B.isinstance rfl B.tuple bx (by decide)))) (su (ed (UG) (JE.bor (cg k8 rfl B.len cA (bF (ai 2) cb))) (JE.bor (sr rfl d)))))) (aX (b_ mJ)) dw) (aG (gR (iz (ic (cg (ph rfl) rfl B.all cH (bF (JE.bor (JN.je (fN (N':=["errand","facts"]) (ix:=[1]) 1 (by decide) rfl (cp (so:=ay q8) (N:=xF) (by decide +kernel)) (gL (ai 2)) (fun h q j l p m=>⟨dm (i:=0) (by show (["errand","facts"] : List Str).Nodup;decide +kernel) rfl (.inl rfl),gT,(jc n b fE (ae (am 1) (ae (am 0) aP)))⟩)))) cb)))) (aX (b_ mJ)) dw) (aX (b_ (pf (y8 a) (JE.bor (Mr (Pg (N':=["errand"]) (ix:=[]) 1 (by decide) rfl (cp (so:=ay q8) (N:=xF) (by decide +kernel)) (gL (ai 2)) (fun h q j l p m=>⟨dm (i:=0) (by show (["errand"] : List Str).Nodup;decide +kernel) rfl (.inl rfl),gT,(cw c (ai 0) (JE.bor aH))⟩)) rfl B.len)) (JE.bor (cg k8 rfl B.len cA (bF (ai 2) cb)))))))))))
abbrev pA:dY:=top 27
abbrev BG:List Str:=["book","state"]
theorem AC:bM BG ["book","state"] (ay pA):=eO (by decide +kernel)
abbrev uC (e:En):=FN e "check_state" 4 2 lS
theorem AD (D:iS e.K e.mg "check_state" pA) (c:sR e) (d:ER e "NoState"):uC e:=sG (k:=3) (g:=lR) D AC b2 fun _ _ _ _ _ _ _ b=>by have a:=ki b;unfold lR;exact (aX (gR (iz (ic (jc c b px (ae (cw a (ai 0) (JE.bor aH)) (ae (am 1) aP))))) (aX (A9 d rfl (ae qr aP))) dw))
abbrev u7:dY:=top 28
abbrev D4:List Str:=["state","want","must","bars"]
theorem u_:bM D4 ["state","want"] (ay u7):=eO (by decide +kernel)
abbrev D5 (e:En):=FN e "fulfils" 2 2 tU
theorem Jq (D:iS e.K e.mg "fulfils" u7) (B:Bi e.mg) (b:qQ e):D5 e:=sG (k:=1) (g:=tT) D u_ b2 fun _ _ _ _ _ _ _ a=>by unfold tT;exact (aG (DQ (am 1) (sA rfl (dU (dz 2 u_.nd) (dU (dz 3 u_.nd) oy)))) (aX (b_ (DL (cg (ph rfl) rfl B.all cH (bF (JE.bor (JN.je (fN (N':=["fact","state"]) (ix:=[0]) 1 (by decide) rfl (cp (so:=ay u7) (N:=D4) (by decide +kernel)) (gL (ai 2)) (fun c l d f j h=>⟨dm (i:=0) (by show (["fact","state"] : List Str).Nodup;decide +kernel) rfl (.inl rfl),gT,(pf (FM) (ai 0) (ai 1))⟩)))) cb)) (DK (jc b a px (ae (am 3) (ae (am 0) aP))))))))
abbrev sU:dY:=top 29
abbrev GV:List Str:=["errand","state"]
theorem Ev:bM GV ["errand","state"] (ay sU):=eO (by decide +kernel)
abbrev yk (e:En):=FN e "is_doable" 3 2 oG
theorem Ew (D:iS e.K e.mg "is_doable" sU) (c:D5 e):yk e:=sG (k:=2) (g:=oF) D Ev b2 fun _ _ _ _ _ _ _ b=>by have a:=ki b;unfold oF;exact (aX (b_ (jc c b px (ae (am 1) (ae (lC (ae (cw a (ai 0) (JE.bor aH)) (ae (cw a (ai 0) (JE.bor aH)) aP))) aP)))))
abbrev nL:dY:=top 30
abbrev AE:List Str:=["errand","state","makes","ends"]
theorem rG:bM AE ["errand","state"] (ay nL):=eO (by decide +kernel)
abbrev sV (e:En):=FN e "state_behind" 2 2 kZ
theorem yI (D:iS e.K e.mg "state_behind" nL) (c:D1 e) (d:GS e):sV e:=sG (k:=1) (g:=kY) D rG b2 fun _ _ _ _ _ _ _ b=>by have a:=ki b;unfold kY;exact (aG (Wr 2 3 rfl rG.nd (ae (cw a (ai 0) (JE.bor aH)) (ae (cw a (ai 0) (JE.bor aH)) aP))) (aX (b_ (jc d b px (ae (jc c b px (ae (am 1) (ae (am 3) aP))) (ae (am 2) aP))))))
abbrev xJ:dY:=top 31
abbrev N9:List Str:=["book"]
theorem Jr:bM N9 ["book"] (ay xJ):=eO (by decide +kernel)
abbrev D6 (e:En):=FN e "checked" 6 1 tW
theorem Js (D:iS e.K e.mg "checked" xJ) (a:D3 e) (c:ER e "NoBook"):D6 e:=sG (k:=5) (g:=tV) D Jr b1 fun _ _ _ _ _ _ _ b=>by unfold tV;exact (aG (gR (iz (ic (jc a b px (ae (am 0) aP)))) (aX (A9 c rfl (ae qr aP))) dw) (aX (b_ (am 0))))
abbrev pB:dY:=top 32
abbrev BH:List Str:=["book","state"]
theorem AH:bM BH ["book","state"] (ay pB):=eO (by decide +kernel)
abbrev pC (e:En):=FN e "check_place" 7 2 jU
theorem AI (D:iS e.K e.mg "check_place" pB) (c:D6 e) (b:uC e):pC e:=sG (k:=6) (g:=lT) D AH b2 fun _ _ _ _ _ _ _ a=>by unfold lT;exact (aG (v_ (jc c a px (ae (am 0) aP))) (aX (v_ (jc b a px (ae (am 0) (ae (am 1) aP))))))
abbrev mY:dY:=top 35
abbrev wA:List Str:=["book","state"]
theorem BI:bM wA ["book","state"] (ay mY):=eO (by decide +kernel)
abbrev wB (e:En):=FN e "steps_from" 4 2 k_
theorem BJ (D:iS e.K e.mg "steps_from" mY) (c:yk e) (d:sV e):wB e:=sG (k:=3) (g:=mR) D BI b2 fun _ _ _ _ _ _ _ b=>by have a:=ki b;unfold mR;exact (aX (b_ (JN.je (fN (N':=["errand","state"]) (ix:=[1]) 1 (by decide) rfl (cp (so:=ay mY) (N:=wA) (by decide +kernel)) (gL (JE.bor (cw a (ai 0) (JE.bor aH)))) (fun f n h j m l=>⟨dm (i:=0) (by show (["errand","state"] : List Str).Nodup;decide +kernel) rfl (.inl rfl),(mQ (ic (jc c b fE (ae (am 0) (ae (am 1) aP))))),(lC (ae (am 0) (ae (jc d b fE (ae (am 0) (ae (am 1) aP))) aP)))⟩)))))
abbrev qT:dY:=top 36
abbrev Ex:List Str:=["book","state","rows","ring","next_ring","at","errand","behind"]
theorem fV:bM Ex ["book","state"] (ay qT):=eO (by decide +kernel)
abbrev qU (e:En):=FN e "first_rows" 5 2 iC
theorem BK (D:iS e.K e.mg "first_rows" qT) (c:wB e):qU e:=sG (k:=4) (g:=mS) D fV b2 fun _ _ _ _ _ _ _ b=>by have a:=ki b;unfold mS;exact (aG (jX 2 (Gg a (am 1) (lE aP)) fV.nd) (aG (jX 3 (uQ (ae (am 1) aP)) fV.nd) (aG (FX 100000 (Wx (ai 3)) (aG (jX 4 (uQ aP) fV.nd) (aG (SZ 3 rfl (dz 5 fV.nd) (aX (nr rfl (yX (jc c b fE (ae (am 0) (ae (am 5) aP)))) (sA rfl (dU (dz 6 fV.nd) (dU (dz 7 fV.nd) oy))) (aX (gR (ed (CD a) (ai 7) (ai 2)) (aG (Gf 2 (c8 c_ (JE.bor (E8 a (ai 2) (ai 5))) (JE.bor (lE (ae (cw a (ai 6) (JE.bor aH)) aP)))) (am 7) a) (aX (n8 4 (am 7)))) dw))))) (aX (IZ 4 (fj 3 (am 4) fV.nd)))))) (aX (Qi 2 (b_ (am 2)))))))
abbrev qW:dY:=top 37
abbrev Ey:List Str:=["most"]
theorem BL:bM Ey ["most"] (ay qW):=eO (by decide +kernel)
abbrev wC (e:En):=FN e "check_most" 2 1 ju
theorem BM (D:iS e.K e.mg "check_most" qW) (c:uY e) (a:ER e "NoNumber") (d:Cn e.mg "MOST_STEPS" 64):wC e:=sG (k:=1) (g:=l5) D BL b1 fun _ _ _ _ _ _ _ b=>by unfold l5;exact (aX (gR (iz (ic (jc c b px (ae (am 0) (ae aH (ae (sr rfl d) aP)))))) (aX (A9 a rfl (ae qr aP))) dw))
abbrev xM:dY:=top 38
abbrev Na:List Str:=["book","state"]
theorem Jt:bM Na ["book","state"] (ay xM):=eO (by decide +kernel)
abbrev D7 (e:En):=FN e "reached" 8 2 pZ
theorem Ju (D:iS e.K e.mg "reached" xM) (B:Bi e.mg) (c:pC e) (d:qU e):D7 e:=sG (k:=7) (g:=tX) D Jt b2 fun _ _ _ _ _ _ _ b=>by have a:=b.units;unfold tX;exact (aG (v_ (jc c b px (ae (am 0) (ae (am 1) aP)))) (aX (b_ (cg (qz rfl a) rfl B.sorted eR (bF (JE.bor (jc d b px (ae (am 0) (ae (am 1) aP)))) cb)))))
abbrev wD:dY:=top 39
abbrev GW:List Str:=["book","state","most","rows"]
theorem D8:bM GW ["book","state","most"] (ay wD):=eO (by decide +kernel)
abbrev Ri (e:En):=FN e "within" 8 3 l7
theorem Nb (D:iS e.K e.mg "within" wD) (B:Bi e.mg) (d:pC e) (f:wC e) (h:qU e):Ri e:=sG (k:=7) (g:=sJ) D D8 b3 fun _ _ _ _ _ _ _ a=>by have c:=ki a;have b:=a.units;unfold sJ;exact (aG (v_ (jc d a px (ae (am 0) (ae (am 1) aP)))) (aG (v_ (jc f a px (ae (am 2) aP))) (aG (fj 3 (jc h a px (ae (am 0) (ae (am 1) aP))) D8.nd) (aX (b_ (cg (qz rfl b) rfl B.sorted eR (bF (JE.bor (JN.je (fN (N':=["at","rows","most"]) (ix:=[3,2]) 1 (by decide) rfl (cp (so:=ay wD) (N:=GW) (by decide +kernel)) (KN (ai 3)) (fun l j m n p o=>⟨dm (i:=0) (by show (["at","rows","most"] : List Str).Nodup;decide +kernel) rfl (.inl rfl),(mQ (ed (y9) (JE.bor (cg k8 rfl B.len cA (bF (JE.bor (E8 c (ai 1) (ai 0))) cb))) (ai 2))),(am 0)⟩)))) cb)))))))
abbrev pF:dY:=top 41
abbrev BN:List Str:=["_law_script","_law_k"]
theorem AJ:bM BN ["_law_script","_law_k"] (ay pF):=eO (by decide +kernel)
abbrev uD (e:En):=FN e "_law_cell_at" 1 2 lV
theorem AK (D:iS e.K e.mg "_law_cell_at" pF) (B:Bi e.mg):uD e:=sG (k:=0) (g:=lU) D AJ b2 fun _ _ _ _ _ _ _ c=>by have b:=ki c;have a:=c.units;unfold lU;exact (aG (gR (ed (zV) (ai 1) (JE.bor (cg k8 rfl B.len cA (bF (ai 0) cb)))) (aX (b_ (cw b (ai 0) (ai 1)))) dw) (aG (gR (ed (y8 a) (ai 0) (JE.bor (lE aP))) (aX (b_ aH)) dw) (aX (b_ (c8 c_ (JE.bor (c8 sw (JE.bor (cw b (ai 0) (JE.bor (c8 DM (ai 1) (JE.bor (cg k8 rfl B.len cA (bF (ai 0) cb))))))) (JE.bor aH))) (ai 1))))))
abbrev sX:dY:=top 42
abbrev GX:List Str:=["_law_script","_law_k","_law_many","_law_drawn"]
theorem wE:bM GX ["_law_script","_law_k","_law_many"] (ay sX):=eO (by decide +kernel)
abbrev fo (e:En):=FN e "_law_mixed" 2 3 bv
theorem Ez (D:iS e.K e.mg "_law_mixed" sX) (a:uD e):fo e:=sG (k:=1) (g:=oH) D wE b3 fun _ _ _ _ _ _ _ b=>by unfold oH;exact (aG (fj 3 (c8 DM (JE.bor (c8 sw (JE.bor (c8 c_ (JE.bor (c8 c_ (JE.bor (jc a b px (ae (am 0) (ae (am 1) aP)))) (JE.bor (c8 sw (JE.bor aH) (ai 1))))) (JE.bor aH))) (JE.bor aH))) (JE.bor aH)) wE.nd) (aX (b_ (c8 DM (JE.bor (c8 DM (JE.bor (c8 c_ (JE.bor (c8 c_ (JE.bor (c8 sw (ai 3) (ai 3))) (JE.bor (c8 sw (JE.bor aH) (ai 3))))) (ai 1))) (JE.bor aH))) (ai 2)))))
abbrev v6:dY:=top 43
abbrev Jv:List Str:=["_law_script","_law_at","_law_made","_law_k"]
theorem oR:bM Jv ["_law_script","_law_at"] (ay v6):=eO (by decide +kernel)
abbrev v7 (e:En):=FN e "_law_word" 3 2 lG
theorem GY (D:iS e.K e.mg "_law_word" v6) (B:Bi e.mg) (c:fo e):v7 e:=sG (k:=2) (g:=qB) D oR b2 fun _ _ _ _ _ _ _ b=>by have a:=ki b;unfold qB;exact (aG (fj 2 qr oR.nd) (aG (nr rfl (qt rfl B.range (bF (JE.bor (cw a (JE.bor (lE (ae aH (ae aH (ae aH (ae aH (ae aH (ae aH aP)))))))) (JE.bor (jc c b fE (ae (am 0) (ae (am 1) (ae aH aP))))))) cb)) (dz 3 oR.nd) (aX (fj 2 (c8 c_ (ai 2) (JE.bor (cw a (JE.bor qr) (JE.bor (jc c b fE (ae (am 0) (ae (c8 c_ (JE.bor (c8 c_ (ai 1) (JE.bor aH))) (ai 3)) (ae aH aP)))))))) oR.nd))) (aX (b_ (am 2)))))
abbrev sY:dY:=top 44
abbrev GZ:List Str:=["_law_script","_law_at","_law_most","_law_found","_law_k"]
theorem qZ:bM GZ ["_law_script","_law_at","_law_most"] (ay sY):=eO (by decide +kernel)
abbrev ym (e:En):=FN e "_law_facts" 4 3 oK
theorem EA (D:iS e.K e.mg "_law_facts" sY) (B:Bi e.mg) (d:v7 e) (c:fo e):ym e:=sG (k:=3) (g:=oJ) D qZ b3 fun _ _ _ _ _ _ _ b=>by have a:=ki b;unfold oJ;exact (aG (jX 3 Ki qZ.nd) (aG (nr rfl (qt rfl B.range (bF (JE.bor (jc c b fE (ae (am 0) (ae (am 1) (ae (c8 c_ (ai 2) (JE.bor aH)) aP))))) cb)) (dz 4 qZ.nd) (aX (Kl 3 mJ (jc d b fE (ae (am 0) (ae (c8 c_ (JE.bor (c8 c_ (ai 1) (JE.bor aH))) (JE.bor (c8 sw (JE.bor aH) (ai 4)))) aP))) a))) (aX (b_ (fz (jR rfl) rfl B.tuple bx (bF (JE.bor (cg Mo rfl B.sorted eR (bF (JE.bor (fz (A4 rfl) rfl B.list jW (bF (ai 3) cb))) cb))) cb))))))
abbrev q_:dY:=top 45
abbrev AL:List Str:=["_law_script","_law_at","_law_facts_here","_law_part"]
theorem G_:bM AL ["_law_script","_law_at","_law_facts_here","_law_part"] (ay q_):=eO (by decide +kernel)
abbrev AM (e:En):=FN e "_law_some" 3 4 qD
theorem H9 (D:iS e.K e.mg "_law_some" q_) (B:Bi e.mg) (a:fo e):AM e:=sG (k:=2) (g:=qC) D G_ b4 fun _ _ _ _ _ _ _ b=>by unfold qC;exact (aX (b_ (fz (jR rfl) rfl B.tuple bx (bF (JE.bor (JN.je (fN (N':=["_law_k","_law_fact","_law_script","_law_at","_law_part"]) (ix:=[0,1,3]) 2 (by decide) rfl (cp (so:=ay q_) (N:=AL) (by decide +kernel)) (Nz.i (zZ rfl B.enumerate (ae (am 2) aP))) (fun c l d f j h=>⟨Ir rfl (sd (dm (i:=0) (by show (["_law_k","_law_fact","_law_script","_law_at","_law_part"] : List Str).Nodup;decide +kernel) rfl (.inl rfl)) (sd (dm (i:=1) (by show (["_law_k","_law_fact","_law_script","_law_at","_law_part"] : List Str).Nodup;decide +kernel) rfl (.inl rfl)) Dm)),(mQ (ed (zV) (JE.bor (jc a b fE (ae (am 2) (ae (c8 c_ (ai 3) (ai 0)) (ae aH aP))))) (ai 4))),(am 1)⟩)))) cb))))
abbrev lL:dY:=top 46
abbrev r6:List Str:=["_law_script","_law_at","_law_facts_here","_law_name","_law_one","_law_two","_law_goal","_law_needs","_law_bars","_law_ends","_law_parts"]
theorem iq:bM r6 ["_law_script","_law_at","_law_facts_here","_law_name"] (ay lL):=eO (by decide +kernel)
abbrev AN (e:En):=FN e "_law_thin" 3 4 qG
theorem Ha (D:iS e.K e.mg "_law_thin" lL) (B:Bi e.mg) (d:fo e):AN e:=sG (k:=2) (g:=qF) D iq b4 fun _ _ _ _ _ _ _ c=>by have a:=ki c;have b:=c.units;unfold qF;exact (aG (fj 4 (cw a (ai 2) (JE.bor (jc d c px (ae (am 0) (ae (c8 c_ (ai 1) (JE.bor aH)) (ae (cg k8 rfl B.len cA (bF (ai 2) cb)) aP)))))) iq.nd) (aG (fj 5 (cw a (ai 2) (JE.bor (jc d c px (ae (am 0) (ae (c8 c_ (ai 1) (JE.bor aH)) (ae (cg k8 rfl B.len cA (bF (ai 2) cb)) aP)))))) iq.nd) (aG (fj 6 (cw a (ai 2) (JE.bor (jc d c px (ae (am 0) (ae (c8 c_ (ai 1) (JE.bor aH)) (ae (cg k8 rfl B.len cA (bF (ai 2) cb)) aP)))))) iq.nd) (aG (fj 7 (sx (JE.bor (lE (ae (am 4) (ae (am 5) aP)))) yW (tJ (c8 c_ (JE.bor aH) (JE.bor (c8 SL (JE.bor (jc d c px (ae (am 0) (ae (c8 c_ (ai 1) (JE.bor aH)) (ae aH aP))))) (JE.bor aH)))))) iq.nd) (aG (lF 8 (N':=["_law_fact","_law_needs","_law_script","_law_at"]) (ix:=[7,0,1]) 1 (by decide) iq.nd rfl (cp (so:=ay lL) (N:=r6) (by decide +kernel)) (gL (JE.bor (lE (ae (am 6) aP)))) (fun f n h j m l=>⟨dm (i:=0) (by show (["_law_fact","_law_needs","_law_script","_law_at"] : List Str).Nodup;decide +kernel) rfl (.inl rfl),(mQ (JW.t (DJ (ed (zW) (ai 0) (ai 1)) (yV (ed (y8 b) (JE.bor (jc d c fE (ae (am 2) (ae (c8 c_ (ai 3) (JE.bor aH)) (ae aH aP))))) (JE.bor aH)))))),(am 0)⟩)) (aG (lF 9 (N':=["_law_fact","_law_goal","_law_script","_law_at"]) (ix:=[6,0,1]) 1 (by decide) iq.nd rfl (cp (so:=ay lL) (N:=r6) (by decide +kernel)) (gL (JE.bor (lE (ae (am 4) aP)))) (fun f n h j m l=>⟨dm (i:=0) (by show (["_law_fact","_law_goal","_law_script","_law_at"] : List Str).Nodup;decide +kernel) rfl (.inl rfl),(mQ (JW.t (DJ (ed (Ci b) (ai 0) (ai 1)) (yV (ed (y8 b) (JE.bor (jc d c fE (ae (am 2) (ae (c8 c_ (ai 3) (JE.bor aH)) (ae aH aP))))) (JE.bor aH)))))),(am 0)⟩)) (aG (IZ 8 (IZ 9 (lF 10 (N':=["_law_part"]) (ix:=[]) 1 (by decide) iq.nd rfl (cp (so:=ay lL) (N:=r6) (by decide +kernel)) (gL (JE.bor (lC (ae (am 7) (ae (am 8) (ae (lE (ae (am 6) aP)) (ae (am 9) aP))))))) (fun f n h j m l=>⟨dm (i:=0) (by show (["_law_part"] : List Str).Nodup;decide +kernel) rfl (.inl rfl),gT,(fz (jR rfl) rfl B.tuple bx (bF (JE.bor (uS rfl (DZ rfl (ai 0) rfl B.set) rfl B.sorted)) cb))⟩)))) (aX (b_ (lC (ae (am 3) (ae (cw a (ai 10) (JE.bor aH)) (ae (cw a (ai 10) (JE.bor aH)) (ae (cw a (ai 10) (JE.bor aH)) (ae (cw a (ai 10) (JE.bor aH)) (ae (jc d c px (ae (am 0) (ae (am 1) (ae aH aP)))) aP))))))))))))))))
abbrev mZ:dY:=top 47
abbrev wF:List Str:=["_law_script","_law_at","_law_facts_here","_law_name","_law_parts","_law_k","_law_fact","_law_way","_law_some_here"]
theorem hV:bM wF ["_law_script","_law_at","_law_facts_here","_law_name"] (ay mZ):=eO (by decide +kernel)
abbrev wG (e:En):=FN e "_law_errand" 4 4 jw
theorem BO (D:iS e.K e.mg "_law_errand" mZ) (B:Bi e.mg) (d:fo e) (f:AN e):wG e:=sG (k:=3) (g:=jv) D hV b4 fun _ _ _ _ _ _ _ c=>by have a:=ki c;have b:=c.units;unfold jv;exact (aG (gR (JW.t (DJ (ed (Ci b) (ai 2) (JE.bor (lC aP))) (yV (ed (y8 b) (JE.bor (jc d c px (ae (am 0) (ae aH (ae aH aP))))) (JE.bor aH))))) (aX (b_ (jc f c px (ae (am 0) (ae (am 1) (ae (am 2) (ae (am 3) aP))))))) dw) (aG (We 4 hV.nd) (aG (nr rfl (zZ rfl B.enumerate (ae (am 2) aP)) (sA rfl (dU (dz 5 hV.nd) (dU (dz 6 hV.nd) oy))) (aG (fj 7 (jc d c fE (ae (am 0) (ae (c8 c_ (JE.bor (c8 c_ (ai 1) (JE.bor aH))) (ai 5)) (ae aH aP)))) hV.nd) (aG (gR (ed (zV) (ai 7) (JE.bor aH)) (aX (A8 4 (cw a (JE.bor (lE (ae aH (ae aH (ae aH aP))))) (ai 7)) (am 6))) dw) (aG (fj 7 (jc d c fE (ae (am 0) (ae (c8 c_ (JE.bor (c8 c_ (ai 1) (JE.bor aH))) (ai 5)) (ae aH aP)))) hV.nd) (aX (gR (ed (zV) (ai 7) (JE.bor aH)) (aX (A8 4 (cw a (JE.bor (lE (ae aH (ae aH (ae aH (ae aH aP)))))) (ai 7)) (am 6))) dw)))))) (aG (Ph (lF 8 (N':=["_law_part"]) (ix:=[]) 1 (by decide) hV.nd rfl (cp (so:=ay mZ) (N:=wF) (by decide +kernel)) (gL (ai 4)) (fun h o j l n m=>⟨dm (i:=0) (by show (["_law_part"] : List Str).Nodup;decide +kernel) rfl (.inl rfl),gT,(fz (jR rfl) rfl B.tuple bx (bF (ai 0) cb))⟩))) (aX (b_ (lC (ae (am 3) (ae (cw a (ai 8) (JE.bor aH)) (ae (cw a (ai 8) (JE.bor aH)) (ae (cw a (ai 8) (JE.bor aH)) (ae (cw a (ai 8) (JE.bor aH)) (ae (jc d c px (ae (am 0) (ae (am 1) (ae aH aP)))) aP)))))))))))))
abbrev r9:dY:=top 48
abbrev AO:List Str:=["_law_script","_law_at","_law_most","_law_many","_law_facts_here","_law_made","_law_k","_law_name","_law_names","_law_turn"]
theorem jm:bM AO ["_law_script","_law_at","_law_most","_law_many"] (ay r9):=eO (by decide +kernel)
abbrev AQ (e:En):=FN e "_law_book" 5 4 nC
theorem Hb (D:iS e.K e.mg "_law_book" r9) (B:Bi e.mg) (h:ym e) (f:v7 e) (d:wG e) (c:fo e):AQ e:=sG (k:=4) (g:=nA) D jm b4 fun _ _ _ _ _ _ _ a=>by have b:=ki a;unfold nA;exact (aG (fj 4 (jc h a px (ae (am 0) (ae (am 1) (ae (am 2) aP)))) jm.nd) (aG (jX 5 Ki jm.nd) (aG (nr rfl (qt rfl B.range (bF (JE.bor (jc c a fE (ae (am 0) (ae (c8 c_ (ai 1) (JE.bor aH)) (ae (c8 c_ (ai 3) (JE.bor aH)) aP))))) cb)) (dz 6 jm.nd) (aG (fj 7 (jc f a fE (ae (am 0) (ae (c8 c_ (JE.bor (c8 c_ (ai 1) (JE.bor aH))) (JE.bor (c8 sw (JE.bor aH) (ai 6)))) aP))) jm.nd) (aX (Kl 5 (jc d a fE (ae (am 0) (ae (c8 c_ (JE.bor (c8 c_ (ai 1) (JE.bor aH))) (JE.bor (c8 sw (JE.bor aH) (ai 6)))) (ae (am 4) (ae (am 7) aP))))) (am 7) b)))) (aG (fj 8 (fz (A4 rfl) rfl B.list jW (bF (ai 5) cb)) jm.nd) (aG (fj 9 (jc c a px (ae (am 0) (ae (c8 c_ (ai 1) (JE.bor aH)) (ae (c8 c_ (JE.bor (cg k8 rfl B.len cA (bF (ai 8) cb))) (JE.bor aH)) aP)))) jm.nd) (aX (b_ (lC (ae (am 4) (ae (fz (jR rfl) rfl B.tuple bx (bF (JE.bor (JN.je (fN (N':=["_law_name","_law_made"]) (ix:=[5]) 1 (by decide) rfl (cp (so:=ay r9) (N:=AO) (by decide +kernel)) (gL (JE.bor (c8 c_ (JE.bor (sx (ai 8) (tJ (am 9)) yW)) (JE.bor (sx (ai 8) yW (tJ (am 9))))))) (fun j p l m o n=>⟨dm (i:=0) (by show (["_law_name","_law_made"] : List Str).Nodup;decide +kernel) rfl (.inl rfl),gT,(cw b (ai 1) (ai 0))⟩)))) cb)) aP))))))))))
abbrev v9:dY:=top 49
abbrev Jw:List Str:=["_law_script","_law_at","_law_facts_here","_law_must","_law_bars","_law_k","_law_fact","_law_way"]
theorem kr:bM Jw ["_law_script","_law_at","_law_facts_here"] (ay v9):=eO (by decide +kernel)
abbrev AR (e:En):=FN e "_law_want" 3 3 uV
theorem Hc (D:iS e.K e.mg "_law_want" v9) (B:Bi e.mg) (c:fo e):AR e:=sG (k:=2) (g:=nD) D kr b3 fun _ _ _ _ _ _ _ b=>by have a:=b.units;unfold nD;exact (aG (jX 3 (uQ aP) kr.nd) (aG (jX 4 (uQ aP) kr.nd) (aG (nr rfl (zZ rfl B.enumerate (ae (am 2) aP)) (sA rfl (dU (dz 5 kr.nd) (dU (dz 6 kr.nd) oy))) (aG (fj 7 (jc c b fE (ae (am 0) (ae (c8 c_ (ai 1) (ai 5)) (ae aH aP)))) kr.nd) (aX (gR (ed (zV) (ai 7) (JE.bor aH)) (aX (n8 3 (am 6))) (aX (gR (ed (y8 a) (ai 7) (JE.bor aH)) (aX (n8 4 (am 6))) dw)))))) (aX (b_ (lC (ae (fz (jR rfl) rfl B.tuple bx (bF (ai 3) cb)) (ae (fz (jR rfl) rfl B.tuple bx (bF (ai 4) cb)) aP))))))))
abbrev vb:dY:=top 50
abbrev Jx:List Str:=["_law_script","_law_most","_law_many","_law_book_here","_law_state"]
theorem s_:bM Jx ["_law_script","_law_most","_law_many"] (ay vb):=eO (by decide +kernel)
abbrev AS (e:En):=FN e "_law_case" 6 3 qI
theorem Hd (D:iS e.K e.mg "_law_case" vb) (f:AQ e) (d:fo e) (c:AM e) (h:AR e):AS e:=sG (k:=5) (g:=qH) D s_ b3 fun _ _ _ _ _ _ _ b=>by have a:=ki b;unfold qH;exact (aG (fj 3 (jc f b px (ae (am 0) (ae aH (ae (am 1) (ae (am 2) aP))))) s_.nd) (aG (fj 4 (jc c b px (ae (am 0) (ae aH (ae (cw a (ai 3) (JE.bor aH)) (ae (cw a (JE.bor (lE (ae aH (ae aH aP)))) (JE.bor (jc d b px (ae (am 0) (ae aH (ae aH aP)))))) aP))))) s_.nd) (aX (b_ (lC (ae (am 3) (ae (am 4) (ae (jc h b px (ae (am 0) (ae aH (ae (cw a (ai 3) (JE.bor aH)) aP)))) aP))))))))
abbrev nN:dY:=top 51
abbrev vg:List Str:=["_law_state","_law_want_here"]
theorem He:bM vg ["_law_state","_law_want_here"] (ay nN):=eO (by decide +kernel)
abbrev AT (e:En):=FN e "_law_good" 1 2 qK
theorem Hf (D:iS e.K e.mg "_law_good" nN) (B:Bi e.mg):AT e:=sG (k:=0) (g:=qJ) D He b2 fun _ _ _ _ _ _ _ f=>by have a:=ki f;unfold qJ;exact (aX (b_ (DL (cg (ph rfl) rfl B.all cH (bF (JE.bor (JN.je (fN (N':=["_law_fact","_law_state"]) (ix:=[0]) 1 (by decide) rfl (cp (so:=ay nN) (N:=vg) (by decide +kernel)) (gL (JE.bor (cw a (ai 1) (JE.bor aH)))) (fun b l c d j h=>⟨dm (i:=0) (by show (["_law_fact","_law_state"] : List Str).Nodup;decide +kernel) rfl (.inl rfl),gT,(pf (FM) (ai 0) (ai 1))⟩)))) cb)) (DK (OY (cg (P5 rfl) rfl B.any zw (bF (JE.bor (JN.je (fN (N':=["_law_fact","_law_state"]) (ix:=[0]) 1 (by decide) rfl (cp (so:=ay nN) (N:=vg) (by decide +kernel)) (gL (JE.bor (cw a (ai 1) (JE.bor aH)))) (fun b l c d j h=>⟨dm (i:=0) (by show (["_law_fact","_law_state"] : List Str).Nodup;decide +kernel) rfl (.inl rfl),gT,(pf (FM) (ai 0) (ai 1))⟩)))) cb)))))))
abbrev rf:dY:=top 52
abbrev AU:List Str:=["_law_errand_here","_law_state","_law_left"]
theorem yn:bM AU ["_law_errand_here","_law_state"] (ay rf):=eO (by decide +kernel)
abbrev rg (e:En):=FN e "_law_step" 2 2 eE
theorem Hg (D:iS e.K e.mg "_law_step" rf) (B:Bi e.mg) (c:AT e):rg e:=sG (k:=1) (g:=qL) D yn b2 fun _ _ _ _ _ _ _ b=>by have a:=ki b;unfold qL;exact (aG (gR (iz (ic (jc c b px (ae (am 1) (ae (sx (ai 0) (tJ aH) (tJ aH)) aP))))) (aX (b_ zT)) dw) (aG (lF 2 (N':=["_law_fact","_law_errand_here"]) (ix:=[0]) 1 (by decide) yn.nd rfl (cp (so:=ay rf) (N:=AU) (by decide +kernel)) (gL (ai 1)) (fun d m f h l j=>⟨dm (i:=0) (by show (["_law_fact","_law_errand_here"] : List Str).Nodup;decide +kernel) rfl (.inl rfl),(mQ (ed (zW) (ai 0) (JE.bor (cw a (ai 1) (JE.bor aH))))),(am 0)⟩)) (aX (b_ (fz (jR rfl) rfl B.tuple bx (bF (JE.bor (uS rfl (DZ rfl (JE.bor (c8 c_ (ai 2) (JE.bor (fz (A4 rfl) rfl B.list jW (bF (JE.bor (cw a (ai 0) (JE.bor aH))) cb))))) rfl B.set) rfl B.sorted)) cb))))))
abbrev rh:dY:=top 53
abbrev EB:List Str:=["_law_book_here","_law_state","_law_met","_law_row","_law_at","_law_errand_here","_law_other"]
theorem hW:bM EB ["_law_book_here","_law_state"] (ay rh):=eO (by decide +kernel)
abbrev wH (e:En):=FN e "_law_levels" 3 2 mU
theorem BP (D:iS e.K e.mg "_law_levels" rh) (B:Bi e.mg) (c:rg e):wH e:=sG (k:=2) (g:=mT) D hW b2 fun _ _ _ _ _ _ _ b=>by have a:=ki b;unfold mT;exact (aG (jX 2 (Gg a (am 1) aH) hW.nd) (aG (jX 3 (uQ (ae (am 1) aP)) hW.nd) (aG (fj 4 aH hW.nd) (aG (FX 100000 (ed (zV) (ai 4) (JE.bor (cg k8 rfl B.len cA (bF (ai 3) cb)))) (aG (nr rfl (yX (cw a (ai 0) (JE.bor aH))) (dz 5 hW.nd) (aG (fj 6 (jc c b fE (ae (am 5) (ae (cw a (ai 3) (ai 4)) aP))) hW.nd) (aX (gR (JW.t (DJ (ed (FI) (ai 6) (JE.bor zT)) (yV (ed (CD a) (ai 6) (ai 2))))) (aG (Gf 2 (c8 c_ (JE.bor (E8 a (ai 2) (JE.bor (cw a (ai 3) (ai 4))))) (JE.bor aH)) (am 6) a) (aX (n8 3 (am 6)))) dw)))) (aX (fj 4 (c8 c_ (ai 4) (JE.bor aH)) hW.nd)))) (aX (Qi 2 (b_ (am 2))))))))
abbrev rj:dY:=top 54
abbrev AV:List Str:=["_law_script","_law_at","_law_book_here","_law_state","_law_many","_law_row","_law_k","_law_some_here","_law_errand_here"]
theorem ku:bM AV ["_law_script","_law_at","_law_book_here","_law_state","_law_many"] (ay rj):=eO (by decide +kernel)
abbrev AW (e:En):=FN e "_law_walk" 3 5 qN
theorem Hh (D:iS e.K e.mg "_law_walk" rj) (B:Bi e.mg) (d:rg e) (f:fo e):AW e:=sG (k:=2) (g:=qM) D ku b5 fun _ _ _ _ _ _ _ b=>by have a:=ki b;have c:=b.units;unfold qM;exact (aG (jX 5 (uQ aP) ku.nd) (aG (nr rfl (qt rfl B.range (bF (ai 4) cb)) (dz 6 ku.nd) (aG (lF 7 (N':=["_law_errand_here","_law_state"]) (ix:=[3]) 1 (by decide) ku.nd rfl (cp (so:=ay rj) (N:=AV) (by decide +kernel)) (gL (JE.bor (cw a (ai 2) (JE.bor aH)))) (fun h o j l n m=>⟨dm (i:=0) (by show (["_law_errand_here","_law_state"] : List Str).Nodup;decide +kernel) rfl (.inl rfl),(mQ (ed (FI) (JE.bor (jc d b fE (ae (am 0) (ae (am 1) aP)))) (JE.bor zT))),(am 0)⟩)) (aG (gR (ed (y8 c) (ai 7) (JE.bor (lE aP))) (aX (b_ (am 5))) dw) (aG (fj 8 (cw a (ai 7) (JE.bor (jc f b fE (ae (am 0) (ae (c8 c_ (ai 1) (ai 6)) (ae (cg k8 rfl B.len cA (bF (ai 7) cb)) aP)))))) ku.nd) (aG (n8 5 (cw a (ai 8) (JE.bor aH))) (aX (fj 3 (jc d b fE (ae (am 8) (ae (am 3) aP))) ku.nd))))))) (aX (b_ (am 5)))))
abbrev m_:dY:=top 55
abbrev wI:List Str:=["_law_book_here","_law_state","_law_row","_law_named","_law_found","_law_number","_law_name","_law_other"]
theorem iN:bM wI ["_law_book_here","_law_state","_law_row"] (ay m_):=eO (by decide +kernel)
abbrev wJ (e:En):=FN e "_law_states" 3 3 iD
theorem BQ (D:iS e.K e.mg "_law_states" m_) (B:Bi e.mg) (c:rg e):wJ e:=sG (k:=2) (g:=mV) D iN b3 fun _ _ _ _ _ _ _ b=>by have a:=ki b;unfold mV;exact (aG (jX 3 (Mx rfl (JN.je (fN (N':=["_law_errand_here"]) (ix:=[]) 1 (by decide) rfl (cp (so:=ay m_) (N:=wI) (by decide +kernel)) (gL (JE.bor (cw a (ai 0) (JE.bor aH)))) (fun d m f h l j=>⟨dm (i:=0) (by show (["_law_errand_here"] : List Str).Nodup;decide +kernel) rfl (.inl rfl),gT,(lC (ae (cw a (ai 0) (JE.bor aH)) (ae (am 0) aP)))⟩))) rfl B.dict) iN.nd) (aG (jX 4 (uQ (ae (am 1) aP)) iN.nd) (aG (nr rfl (My rfl B.enumerate (ae (am 2) aP)) (sA rfl (dU (dz 5 iN.nd) (dU (dz 6 iN.nd) oy))) (aG (fj 7 (jc c b fE (ae (cw a (ai 3) (ai 6)) (ae (cw a (ai 4) (JE.bor (IV aH))) aP))) iN.nd) (aG (gR (ed (X_) (ai 7) (JE.bor zT)) (aX (b_ (am 5))) dw) (aX (n8 4 (am 7)))))) (aX (b_ (am 4))))))
abbrev t4:dY:=top 58
abbrev Lu:List Str:=["_law_script","_law_book_here","_law_state","_law_want_here","_law_met","_law_states_here","_law_most"]
theorem vi:bM Lu ["_law_script"] (ay t4):=eO (by decide +kernel)
theorem X6 {f:aj}{m:eI} (F:Fe e.K "law" "law" t4 f m) (B:Bi e.mg) (v:AS e) (z:wH e) (l:D7 e) (x:AW e) (y:wJ e) (u:fo e) (a:FT e "_law_told_three" "within" 9 3 (yc RA l7)):qo e.P e.w e.K e.mg e.base (mM e.P e.w) 10 f m ["_law_script"] (P6 e.K e.cls 1 F_law):=by
 refine UL (k:=9) (g:=L8) F vi fun t A outer s H E d=>?_
 have c:=ki d
 have b:=d.units
 unfold L8
 exact (aG (DQ (jc v d px (ae (am 0) (ae aH (ae aH aP)))) (sA rfl (dU (dz 1 vi.nd) (dU (dz 2 vi.nd) (dU (dz 3 vi.nd) oy))))) (aG (fj 4 (jc z d px (ae (am 1) (ae (am 2) aP))) vi.nd) (aG (gR (ed (Ci b) (JE.bor (jc l d px (ae (am 1) (ae (am 2) aP)))) (JE.bor (cg (qz rfl b) rfl B.sorted eR (bF (JE.bor (fz (Qu rfl) rfl B.list jW (bF (ai 4) cb))) cb)))) (aX (b_ mJ)) dw) (aG (fj 5 (jc y d px (ae (am 1) (ae (am 2) (ae (jc x d px (ae (am 0) (ae aH (ae (am 1) (ae (am 2) (ae aH aP)))))) aP)))) vi.nd) (aG (gR (iz (ic (cg (ph rfl) rfl B.all cH (bF (JE.bor (JN.je (fN (N':=["_law_one","_law_met"]) (ix:=[4]) 1 (by decide) rfl (cp (so:=ay t4) (N:=Lu) (by decide +kernel)) (gL (ai 5)) (fun h o p n q j=>⟨dm (i:=0) (by show (["_law_one","_law_met"] : List Str).Nodup;decide +kernel) rfl (.inl rfl),gT,(pf (Qg c) (ai 0) (ai 1))⟩)))) cb)))) (aX (b_ mJ)) dw) (aG (gR (iz (ic (cg (ph rfl) rfl B.all cH (bF (JE.bor (JN.je (fN (N':=["_law_one","_law_met"]) (ix:=[4]) 1 (by decide) rfl (cp (so:=ay t4) (N:=Lu) (by decide +kernel)) (gL (JE.bor (jc l d px (ae (am 1) (ae (cw c (ai 5) (JE.bor (IV aH))) aP))))) (fun h o p n q j=>⟨dm (i:=0) (by show (["_law_one","_law_met"] : List Str).Nodup;decide +kernel) rfl (.inl rfl),gT,(pf (Qg c) (ai 0) (ai 1))⟩)))) cb)))) (aX (b_ mJ)) dw) (aG (nr rfl (yX (lC (ae aH (ae aH (ae aH (ae aH (ae aH aP))))))) (dz 6 vi.nd) (aX (gR (ed (Ci b) (JE.bor (jd a d fE (ae (am 1) (ae (am 2) (ae (am 6) aP))))) (JE.bor (cg (qz rfl b) rfl B.sorted eR (bF (JE.bor (JN.je (fN (N':=["_law_one","_law_met","_law_most"]) (ix:=[4,6]) 1 (by decide) rfl (cp (so:=ay t4) (N:=Lu) (by decide +kernel)) (KN (ai 4)) (fun h o p n q j=>⟨dm (i:=0) (by show (["_law_one","_law_met","_law_most"] : List Str).Nodup;decide +kernel) rfl (.inl rfl),(mQ (ed (y9) (JE.bor (E8 c (ai 1) (ai 0))) (ai 2))),(am 0)⟩)))) cb)))) (aX (b_ mJ)) dw))) (aX (b_ (pf (y8 b) (JE.bor (jd a d px (ae (am 1) (ae (am 2) (ae (cw c (JE.bor (lE (ae (IV aH) (ae aH (ae zT (ae mJ (ae qr aP))))))) (JE.bor (jc u d px (ae (am 0) (ae aH (ae aH aP)))))) aP))))) (JE.bor (lC (ae qr (ae aH aP))))))))))))))
end
theorem all_mk {l:yt}{w:bQ}{K:a8}{h:bK}{a:Str->Option ac}{fa A:aj}{p:aj}{n:aj}{z:aj}{x:aj}{E:aj}{M:aj}{u:aj}{H:aj}{m:aj}{L:aj}{I:aj}{t:aj}{od an:Option aj}{sl:Array (Option ac)}{oc kV dc pm Q ct:ac} (X:K.In h) (G:h.Ns bC a) (U:a "law"=some (.ref fa))
  (Zz:Zs K zn)
  (nJ:Cn a "MOST_LETTERS" 6)
  (qR:Cn a "MOST_PRICE" 9)
  (qS:Cn a "MOST_FACTS" 6)
  (nK:Cn a "MOST_ERRANDS" 6)
  (qX:Cn a "MOST_STEPS" 64)
  (N:Th K GR [p,n,z,x,E,M,u,H,m,L,I])
  (D9:TopC K "NoState" n)
  (Hi:TopC K "NoBook" p)
  (Y:TopC K "NoNumber" m)
  (O:TopC K "PlanError" t)
  (d:Wy K n t [(p,false),(n,true),(z,false),(x,false),(E,false),(M,false),(u,false),(H,false),(m,false),(L,false),(I,false)])
  (f:Wy K p t [(p,true),(n,false),(z,false),(x,false),(E,false),(M,false),(u,false),(H,false),(m,false),(L,false),(I,false)])
  (c:Wy K m t [(p,false),(n,false),(z,false),(x,false),(E,false),(M,false),(u,false),(H,false),(m,true),(L,false),(I,false)])
  (Hj:iS K a "_law_which" sQ)
  (xN:iS K a "_law_told_three" ig)
  (EC:iS K a "share_none" mX)
  (Nc:iS K a "without" u5)
  (Rj:iS K a "joined" AB)
  (Nd:iS K a "is_word" u6)
  (vm:iS K a "are_rising_words" gq)
  (Hk:iS K a "are_facts" oP)
  (Jy:iS K a "is_whole" uX)
  (Hl:iS K a "is_errand" oQ)
  (Nf:iS K a "is_book" q8)
  (BR:iS K a "check_state" pA)
  (Ng:iS K a "fulfils" u7)
  (Hm:iS K a "is_doable" sU)
  (AY:iS K a "state_behind" nL)
  (Nh:iS K a "checked" xJ)
  (BS:iS K a "check_place" pB)
  (ED:iS K a "steps_from" mY)
  (EE:iS K a "first_rows" qT)
  (EF:iS K a "check_most" qW)
  (Ni:iS K a "reached" xM)
  (Rk:iS K a "within" wD)
  (BU:iS K a "_law_cell_at" pF)
  (Ho:iS K a "_law_mixed" sX)
  (Jz:iS K a "_law_word" v6)
  (Hq:iS K a "_law_facts" sY)
  (JA:iS K a "_law_some" q_)
  (JC:iS K a "_law_thin" lL)
  (EG:iS K a "_law_errand" mZ)
  (JD:iS K a "_law_book" r9)
  (JF:iS K a "_law_want" v9)
  (JH:iS K a "_law_case" vb)
  (JJ:iS K a "_law_good" nN)
  (JK:iS K a "_law_step" rf)
  (EH:iS K a "_law_levels" rh)
  (JM:iS K a "_law_walk" rj)
  (EI:iS K a "_law_states" m_)
  (l0:gP K bC "law"=some (some (.ref A)))
  (l1:K.lookup A=some ⟨oc,od,.func (f9 "law" "law" (lP t4) (i6 t4) (ay t4) .none kV dc pm an Q ct),sl⟩)
  (l2:kJ K Q "law"=true)
  (l3:cY K (.ref A)=true)
  : ∃ fd:eI,(∀ (s:ao) (v:ac),xP s fd ⟨[v],[]⟩ [("_law_script",v)])/\∀ base:bK,K.In base->base.Ns bC a->qo l.prog w K a base (mM l.prog w) 10 fa fd ["_law_script"] (Yd K F_law):=by
 have q:=U.symm.trans (jN X G l0)
 cases q
 refine ⟨f9 "law" "law" (lP t4) (i6 t4) (ay t4) .none kV dc pm an Q ct,fun s v=>.of_eq rfl,fun base X G=>?_⟩
 let e:En:=⟨l.prog,w,K,a,base,Ye [("NoBook",p),("NoState",n),("NoWant",z),("NoErrand",x),("NoRow",E),("NoWay",M),("NoPaper",u),("NoFacts",H),("NoNumber",m),("Nothing",L),("NoText",I),("PlanError",t)]⟩
 have B:Bi e.mg:=Yy X G Zz
 have xG:ER e "NoState":=D9.er X G rfl
 have AG:ER e "NoBook":=Hi.er X G rfl
 have v5:ER e "NoNumber":=Y.er X G rfl
 obtain ⟨fw,a0,T,mw⟩:=Hj.ex
 have W:Wh e.P e.w e.K e.mg e.base e.cls "_law_which" GR RA:=by
  refine ⟨⟨_,_,_,BD (e:=e) T B (Yz X G Zz) (YA X G N rfl),mw,T.kp,b1 T⟩,jN X G O.ns,?_,fun y j h=>?_⟩
  ·obtain ⟨bm,o,_⟩:=(IY X G O.ns O.ex O.mb).2
   exact ⟨bm,o⟩
  unfold RA at h
  by_cases i:y="NoState"
  ·subst i
   simp at h
   subst h
   exact Qb X G D9 d N rfl rfl rfl rfl rfl (by decide) (by decide)
  rw [if_neg i] at h
  by_cases i:y="NoBook"
  ·subst i
   simp at h
   subst h
   exact Qb X G Hi f N rfl rfl rfl rfl rfl (by decide) (by decide)
  rw [if_neg i] at h
  by_cases i:y="NoNumber"
  ·subst i
   simp at h
   subst h
   exact Qb X G Y c N rfl rfl rfl rfl rfl (by decide) (by decide)
  rw [if_neg i] at h
  cases h
 have iF:=BF (e:=e) EC B
 have xI:=Jl (e:=e) Nc B
 have AF:=N8 (e:=e) Rj B
 have nc:=Jn (e:=e) Nd B nJ
 have eY:=uo (e:=e) vm B nc
 have kq:=Et (e:=e) Hk B eY
 have lJ:=GU (e:=e) Jy B
 have sS:=Eu (e:=e) Hl B nc lJ kq iF qR
 have xK:=Jp (e:=e) Nf B eY sS qS nK
 have pE:=AD (e:=e) BR kq xG
 have xH:=Jq (e:=e) Ng B iF
 have sW:=Ew (e:=e) Hm xH
 have nM:=yI (e:=e) AY xI AF
 have xL:=Js (e:=e) Nh xK AG
 have iM:=AI (e:=e) BS xL pE
 have qV:=BJ (e:=e) ED sW nM
 have jz:=BK (e:=e) EE qV
 have qY:=BM (e:=e) EF lJ v5 qX
 have u9:=Ju (e:=e) Ni B iM jz
 have Rl:=Nb (e:=e) Rk B iM qY jz
 have pG:=AK (e:=e) BU B
 have g:=Ez (e:=e) Ho pG
 have lK:=GY (e:=e) Jz B g
 have sZ:=EA (e:=e) Hq B lK g
 have vd:=H9 (e:=e) JA B g
 have v8:=Ha (e:=e) JC B g
 have re:=BO (e:=e) EG B g v8
 have vc:=Hb (e:=e) JD B sZ lK re g
 have vf:=Hc (e:=e) JF B g
 have vj:=Hd (e:=e) JH vc g vd vf
 have vh:=Hf (e:=e) JJ B
 have S:=Hg (e:=e) JK B vh
 have rm:=BP (e:=e) EH B S
 have vk:=Hh (e:=e) JM B S g
 have rn:=BQ (e:=e) EI B S
 have b:=wy (e:=e) (k:=8) xN W Rl (by decide) (by decide)
 exact (X6 (e:=e) (Oo l1 l2 l3) B vj rm u9 vk rn g b).imp Wi
end Z
section
open PySem PySem.W PyProof.Rows
namespace PySem.W.Fast
def tw1735122490943056458:Nat:=0
def tw11352725186635130990:Nat:=0
def tw3913772201378005240:Nat:=0
def tw4457752365633475347:Nat:=0
def tw12896467205365517930:Nat:=0
def tw2609228550484375418:Nat:=0
def tw7645537547982566628:Nat:=0
def tw340270059460540900:Nat:=0
def tw6361526397248836134:Nat:=0
def tw7218101823765149557:Nat:=0
def tw11625970972255106633:Nat:=0
def tw617449919750115270:Nat:=0
def tw10175236656834021331:Nat:=0
def tw9517992551140293884:Nat:=0
def tw6356463788998731025:Nat:=0
def tw17407462109115957750:Nat:=0
def tw9263961793121938503:Nat:=0
def tw5715435299351506031:Nat:=0
def tw1736100149585002970:Nat:=0
def tw4262338610512462644:Nat:=0
def tw12650142870408070738:Nat:=0
def tw10669822470566194384:Nat:=0
def tw11819282877357857054:Nat:=0
def tw11169053421804368215:Nat:=0
def tw16873146219926174873:Nat:=0
def tw2202923484573257229:Nat:=0
def tw3687231947760413766:Nat:=0
def tw8842831952746215579:Nat:=0
def tw7614159313356435567:Nat:=0
def tw10115154465128340047:Nat:=0
def tw15841354896909026882:Nat:=0
def tw15270906828225010891:Nat:=0
def tw15849570036053648273:Nat:=0
def tw1244127976882961267:Nat:=0
def tw1008617138036429774:Nat:=0
def tw867982440703116124:Nat:=0
def tw521733114164157418:Nat:=0
def tw8379172942021413653:Nat:=0
def tw2343192820672028968:Nat:=0
def tw10938340956739805871:Nat:=0
def tw4752919806502598613:Nat:=0
def tw13423237547656452236:Nat:=0
def tw992794927915516485:Nat:=0
def tw10394413374983051389:Nat:=0
def tw16635949542044348880:Nat:=0
def tw11211171685679670924:Nat:=0
def tw15617769284279114150:Nat:=0
def tw8819738972970291476:Nat:=0
def tw12511064259908371914:Nat:=0
def tw8112875015576112273:Nat:=0
def tw11612643033278593200:Nat:=0
def tw4052451041222835500:Nat:=0
def tw15020770321909540518:Nat:=0
def tw10699620157771357061:Nat:=0
def tw5478214227756064494:Nat:=0
def tw17360483707448771555:Nat:=0
def tw3551298066342827139:Nat:=0
def tw8315704322375172132:Nat:=0
def tw12200800340035283695:Nat:=0
def tw15856181193813288190:Nat:=0
def tw17650808339938978687:Nat:=0
def tw7408503299784405475:Nat:=0
def tw11187402302001563495:Nat:=0
def tw16626144891846834917:Nat:=0
def tw16666098654177835532:Nat:=0
def tw12201309509869834243:Nat:=0
def tw4507992123836687957:Nat:=0
def tw9010862267669832539:Nat:=0
def tw18242218698431035050:Nat:=0
def tw13833638399812127323:Nat:=0
def tw17607461720074558166:Nat:=0
def tw5365912120025686972:Nat:=0
def tw1560065493782167345:Nat:=0
def tw5734867726008186905:Nat:=0
def tw7965583979361746115:Nat:=0
def tw13612889001201182763:Nat:=0
def tw12442480471090495986:Nat:=0
def tw9233927753568054937:Nat:=0
def tw4548202597249109413:Nat:=0
def tw708187569399553916:Nat:=0
def tw18313881311711993473:Nat:=0
def tw15750582847434089077:Nat:=0
def tw1236921771162630138:Nat:=0
def tw1648734774667465843:Nat:=0
def tw14237806573802520414:Nat:=0
def tw5425350487516173650:Nat:=0
def tw14960465957763805685:Nat:=0
def tw11090472099041483892:Nat:=0
def tw2094143576836519005:Nat:=0
def tw2349865720242669667:Nat:=0
def tw16036247477979007130:Nat:=0
def tw4017790034344147530:Nat:=0
def tw16647525587898268386:Nat:=0
def tw10476883912088195666:Nat:=0
def tw14393386879172976034:Nat:=0
def tw4650360573039316937:Nat:=0
def tw8753168088782934443:Nat:=0
def tw14751007383496113315:Nat:=0
def tw4484810836283484277:Nat:=0
def tw18001765256885547184:Nat:=0
def tw16958381021207437818:Nat:=0
def tw13243043052509228707:Nat:=0
def tw15778042616630832755:Nat:=0
def tw13781290333548745042:Nat:=0
def tw15698777746434769418:Nat:=0
def tw654715524379641193:Nat:=0
def tw4639556010625836637:Nat:=0
def tw9461582314140570165:Nat:=0
def tw16626318124788026472:Nat:=0
def tw13967732689947420410:Nat:=0
def tw10070274898480164604:Nat:=0
def tw13294251091816811503:Nat:=0
def tw4729730841013767097:Nat:=0
def tw1722085758836591952:Nat:=0
def tw4769111127278843462:Nat:=0
def tw9290606394121437833:Nat:=0
def tw18070191771341303152:Nat:=0
end PySem.W.Fast
theorem PySem.Challenge.cw_errands_k07_whole_reached_holds : PySem.Challenge.rw_errands_k07_whole_reached.Holds := by
 w_on;o_law;k_head;(case hw=>w_witness2)
 k_fill
 refine J.walkF (l:=PySem.Challenge.rw_errands_k07_whole_reached) (k:=10) (x:="_law_script") (F0:=Z.F_law) rfl rfl ⟨rfl,by decide,by decide⟩ (fun w h Y=>by first|exact PySem.W.kIn_of Y|exact PySem.W.km_in_of Y) ?F (fun c _=>Z.law_true c)
 case F =>
  intro w d e h b G a
  refine' Z.all_mk b G a ?_ ?_ ?_ ?_ ?_ ?_ ?_ ?_ ?_ ?_ ?_ ?_ ?_ ?_ ?_ ?_ ?_ ?_ ?_ ?_ ?_ ?_ ?_ ?_ ?_ ?_ ?_ ?_ ?_ ?_ ?_ ?_ ?_ ?_ ?_ ?_ ?_ ?_ ?_ ?_ ?_ ?_ ?_ ?_ ?_ ?_ ?_ ?_ ?_ ?_ ?_ ?_ ?_ ?_ ?_
  all_goals first
   |(refine' J.d_in b G ?_ ?_ ?_ ?_<;>try k_is)
   |(refine' J.cn_in b G ?_<;>try k_is)
   |k_is
   |(refine' J.TopC.mk ?_ ?_ ?_<;>try (first|k_is|k_exc))
   |(refine' J.topN ?_ ?_ ?_ ?_ ?_ ?_ ?_ ?_ ?_ ?_ ?_ ?_ ?_ ?_ ?_ ?_ ?_ ?_ ?_ ?_ ?_ ?_ ?_<;>try (first|k_is|rfl|exact fun _ _=>⟨_,rfl,rfl⟩|decide +kernel))
   |((refine' J.Wy.mk ?_ ?_ ?_ ?_ ?_ ?_ ?_ ?_ ?_ ?_)<;>try (first|k_is|decide|((repeat' (first|exact .nil|refine' .cons ?_ ?_ ?_))<;>try (first|k_is|decide))))
   |((repeat' (first|exact .nil|refine' .cons ?_ ?_))<;>try (first|(refine' J.cw_in ?_ ?_ ?_<;>try k_is)|k_is))
   |skip
end
