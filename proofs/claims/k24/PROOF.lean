import PyProof.Rows.All
import Wide.All
import OpenK.AllK
import Wide.FinOn
import Lean
import PyProof.EqAt
import PyProof.EqKinds
import PyProof.TupleCall
import KE.KDictOf
import PyProof.AttrMissHeap
import KE.KRevIter
import PyProof.DictWalks
import PyProof.MinMaxWalk
import PyProof.SeqI3
import PyProof.WalkInts
import PyProof.ExcInit
import PyProof.InstStoreFacts
import PyProof.DictCompW
import PySem.Challenge.RW_errands_k24_whole_trimmed
set_option Elab.async false
set_option linter.all false
set_option maxRecDepth 100000
set_option maxHeartbeats 0
open PySem renaming wpAny_bind->a6,wpAny_pure->ac,Value->ae,Addr->ah,Shared->ai,wpAny->ak,starEach->aw,model->ay,wpAny_mono->aV,cellsFrom->ba,Program->bd,boot_len->bi,mainGlobals->bq,wpAny_setState_of->br,Heap->bt,World->bv,compareOp->bG,Expr->bL,Around->bO,wpAny_holding->bS,rawInt->c9,wpAny_newObj_type->cj,eval->cz,wpAny_call_entry->cA,Stmt->cF,wpAny_callSpecial?_slot->cW,wpAny_standAt->c_,mem_of_lookup->da,wpAny_field->du,wpAny_loadPart_at->dw,wpAny_truthy_bool->dX,foldedSetIterable->dY,wpAny_seqItems->dZ,FuncData->eI,binaryOp->eV,excClassObj->eX,fits_of_scanBound->fm,typeLookup->fu,codeAny_builtin->fz,setField->fP,Builtin->fW,Scope->gq,wpAny_rule->gy,wpAny_pyIter_tuple->gz,recursionLimit->gD,backTo->gL,letOwnedTupleGo->gP,behindInMarks->gS,codeAny->h_,wpAny_askSetting->i7,strIterType->io,bootBuiltins->iq,assignEach->ir,wpAny_setField_rec->iw,wpAny_execs_nil->iG,wpAny_passesOwn->iH,swapsWith->iR,scanBound->iU,wpAny_storeSet_of->j5,wpAny_loadName_local->jm,codeAny_call_builtin->jn,wpAny_setField->jo,wpAny_typeOf->jD,wpAny_isInstance->jF,wpAny_isSubtype_exc->jL,wpAny_attempt->jW,sysModules->ka,wpAny_call->kc,IsPair->kg,wpAny_pyIter_list->l9,NameKind->lc,SetTable->ll,builtinLookup_eq_fast->lW,checkBuiltinCall->m7,attributeBase->mQ,plainId_quiet->mS,sliceBounds->mU,wpAny_of_eq->mV,pyNext->nX,codeAny_mono->oG,pickOrder->pp,wpAny_Name->pz,wpAny_Call_Name_kw->pA,isInstance->pC,getItem->qF,wpAny_pyIter_enum->qH,assign->qL,wpAny_comprehension_free->qN,wpAny_execs_cons->sU,cLine->sV,noteFrame->sW,ExcBaseFacts->tU,pushCells_keeps->uz,codeAny_of_tree->uB,typeLookup_type->uC,getAttrByItsOwn->uD,sizeLine_eq->vW,IsPart->vX,newFunctionEnv->vY,relayAll->vZ,raiseNew->v_,firstArgMember->w4,IsZip->w5,wpAny_updateSeq_pair->w6,boundAndCalled->w9,BindsTo->wW,callerA->wX,swapsWithSole->xY,swappedStores->xZ,wpAny_onRaise->y0,pyIter->yp,call_meets->yt,tupleKind_room_in1->yu,newExc->yw,StoreFacts->yA,leaving->Ag,concat_meets->Ah,valueAt->Ai,field->Am,wpAny_Call_ofName->Ar,plainObj_wpAny_Assign_Attribute->B9,tupleKind->C9,isTrue->Ca,noFill_tuple_add->Cc,PyData->Cg,frameOf->Ch,IsRangeIter->DF,subscripted->DG,standAt->FU,Keyword->FV,GenState->Gb,Model->Gc,bindName->Gd,bindL->Gg,bindC->Gh,wpAny_newFunctionEnv_cells->Gi,stored->Gj,atKey->Gk,entryFor->Gm,entryFor_alias->Gn,isSubtype_type->Go,argsOk->Gp,isSubtype_stop->Gq,wpAny_letOwnedTupleGo_enum->Gr,assignInOrder->JR,seq_tuple_add->JY,call->K0,Drawn->LC,lastMarks->LD,Walks->LH,seqItems?->LJ,Paired->LQ,wpAny_pyNext_range_end->LR,wpAny_pyIter_rangeiter->LS,sub_set_self->LX,setNext->LY,entryPlaceOf->L_,wpAny_isTrue_Compare1->OY,codeAny_call_function->OZ,bindArgs->P6,keywordEach->P7,wpAny_alloc->P9,ZipApart->Pc,wpAny_letGo->Pe,getAttr?->Pg,lookupAlong->Pn
open PySem.W renaming Frag->a7,mroIn->cb,kia_one->cn,kitOne->db,keepIn->dL,fnOf->ef,nsMap_none_of_in->eh,hideAll_get->eS,cellsFrom_some->eW,findIn->ft,nsIn->g9,clsIn->gE,mg_of->i3,looks_findIn->iy,of_hideAll->jl,codeIn->jI,hideAll->l8,isNs_of_in->m9,subIn->nZ,funFrames_hide->pE,notCls->qQ,codeRec_of->tR,methodObj->uF,specialIn->uG,kitx_list->uH,instObj->xz,takesIn->xB,OpenLaw->xC,lookIn->yq,InstAt->yr,typeIn->yy,Looks->An,excIn->Aq,hideAll_none->DO,looks_mroIn->G0,kitx_tuple->Ge,callWith_K->Gf,mg_none_of->Gx,hasDictIn->Io,kitx_dict->Ip,handedIn->JV,plainGet->JX,kitCls->M1,nsOkIn->M5,WalkO->O_
open PySem.Heap renaming get?_push_of_some->aa,lt_size->al,get?_push_size->aB,SameBut->bE,size_push->c7,get?_update_self->fV,FlyingW->j_,get?_update_other->qG,get?_none_of_le->tj,MadeExcOf->tx,IsTuple->FZ,get?_update_ne->K5,get?_push_at->M4
open List renaming getElem?_set_ne->aj,mem_cons_of_mem->ao,mem_cons_self->aq,length_map->ar,getElem?_set_self->aG,getElem?_map->aJ,size_toArray->aK,length_append->aL,map_cons->aM,not_mem_nil->aQ,length_cons->aU,mem_append_right->aW,getElem?_eq_getElem->aX,mem_cons->a_,getElem?_append_right->bc,range->bg,length_nil->bz,getElem?_replicate->bH,getElem?_append_left->bJ,mem_singleton->cg,getElem?_eq_none->cp,append_nil->cr,map_append->cu,lookup_cons->cw,all_eq_true->cJ,length_replicate->cQ,find?_cons->dv,length_range->dO,map_nil->eE,mem_of_getElem?->eM,nil_append->eU,map_map->fo,any_cons->fv,getD_eq_getElem?_getD->fR,mem_append_left->gI,contains_cons->i4,length_singleton->ik,nodup_nil->iV,length_take->j0,length_drop->j3,getElem_mem->j4,getElem_of_mem->jh,sublist_append_left->jw,getElem?_cons_succ->jK,any_eq_true->l5,forIn_cons->lV,mem_map_of_mem->mh,map_congr_left->mi,replicate->m_,filterMap_map->n5,perm_ext_iff_of_nodup->ni,append_assoc->oJ,of_mem_zip->qM,mem_append->qP,foldl_cons->qS,length_filter_le->sf,length->tm,forIn_nil->tu,foldl_map->tE,filterMap_cons->uy,getElem?_range->uE,all_cons->uK,set_cons_zero->vU,set_cons_succ->vV,all_map->xa,length_filterMap_eq_countP->xG,ext_getElem->x_,getElem_map->y7,lookup->yv,eq_nil_of_length_eq_zero->yB,mem_filter->Ae,length_eraseIdx_of_lt->B5,map->Ba,drop_eq_getElem_cons->Cd,getElem?_cons_zero->DP,drop_of_length_le->FY,any_map->G3,replicate_succ->K6,replicate_zero->K7,filter_sublist->K8,lookup_append->LF,map_inj_right->LL,getElem_range->LM,nodup_append->LW,zipIdx_cons->P0,cons_append->P2,zipIdx_nil->Pd
open Nat renaming le_refl->am,ne_of_lt->aA,lt_of_lt_of_le->aC,le_of_lt->bh,le_trans->bK,lt_irrefl->bN,ne_of_gt->dQ,zero_le->dW,lt_succ_self->ev,lt_succ_of_lt->gJ,le_succ->i0,lt_of_le_of_lt->jJ,lt_succ_of_le->kf,not_lt_zero->mf,min_le_right->qy,add_le_add_left->uL,lt_trans->xD,lt_asymm->xE,le_of_lt_succ->xF,mod_lt->Ce,zero_add->Gu,succ_pos->Gv,lt_of_succ_lt_succ->Gw,add_lt_add_right->K3,le_of_not_lt->P8,le_add_right->Pf,reduceLeDiff->Po,reduceEqDiff->Pp
open Array renaming length_toList->ap,getElem?_toList->d_,getElem?_eq_getElem->g6,getD_eq_getD_getElem?->ip,eq_empty_of_size_eq_zero->kQ,size_map->sX,all_toList->xI,replicate->yz,toArray_toList->Gs,append_assoc->JQ,find?_toList->JU,forIn_toList->K4,toList_push->LG
open PySem.PyData renaming str->aD,eqv->bw,canLayAll0->bZ,tuple->b_,bool->cG,int->cK,canLay0->eG,list->gm,eqvAll->kR,depthAll->y8
open Bool renaming false_ne_true->aH,and_eq_true->aN,false_eq_true->bV,eq_iff_iff->gC,or_eq_true->ic,noConfusion->l7,and_self->lu,and_false->n6,not_false->nj,not_true->pq,beq_eq_decide_eq->sd,false_or->uM,true_and->uO,false_and->B2,or_true->G1,or_eq_false_iff->Ir,not_eq_true'->M0
open PyProof.Rows renaming boot_tuple->b9,boot_all->cB,callWith_type1->dh,boot_list->dB,slot_tuple_getitem->fU,envOfC->jH,Keyed->jX,boot_isinstance->k7,boot_any->oF,AllBare->qD,StrsAre->tT,isBoolOf->wa,SortKind->we,boot_sorted->wZ,assignInOrder_cons->yo,boot_str->yC,boot_int->yD,IsTup->Ga,subscriptTail->JZ,subscriptTail_builtinR->LU,IntsAre->LV,SortSt->M6
open PySem.Value renaming ref->bj,none->e8,bool->g_,type->hG,str->iY,int->mP,isStrOf->uw,float->G9
open Option.some renaming inj->bD,injEq->DI
open PySem.Heap.SameBut renaming update->bQ
open PySem.Heap.FunFrames renaming mem->bW
open PySem.NameKind renaming free->c6,cell->dH,«local»->qJ
open PySem.SetTable renaming sizeAbove->c8,grown->il,below->im,fits->nc,bits->nh,turns->qI,layClean->uA,laid->Ac,orStandIn->FX,relaid->K2,fill->M2,road->M3
open PySem.Builtin.SmallTypes renaming nextOf->ck,ownedTupleIsFree->eg,ownedTupleHandOut->ng
open Ne renaming symm->cZ
open PySem.SetTable.layClean renaming free->dm
open Option renaming map_some->dq,getD_none->gQ,getD_some->kG,isSome_some->mR,bind_some->w_,isSome_map->K1
open Int renaming toNat_of_nonneg->dU,toNat_natCast->ke,emod_lt_of_pos->n_,eq_ofNat_of_zero_le->qz,emod_nonneg->se,reduceLT->Gy
open False renaming elim->ed
open List.Sublist renaming refl->ej
open PySem.Around renaming under_plainId->eF
open PySem.Obj renaming mapFields->eJ,mapSeq->lj,putSet->qO,data_mapFields->LZ
open PySem.F renaming plainAttrs_list->eN,slot_tuple_iterator_next->j7,excBase_ValueError->md,args_tuple_add_2->nY,entry_tuple_add->oH,slot_tuple_add->pB,slot_zip_next->tw,slot_list_append->Ao,type_list_append->Ap,store_ValueError->As,slot_list_extend->At,type_list_extend->Au,slot_list_count->B7,slot_list_index->B8,args_tuple_iterator_next_1->Cf,entry_tuple_iterator_next->DH,slot_enumerate_next->LK
open Or renaming inr->fK,inl->iF
open ForInStep renaming yield->fQ
open PySem.AutoSeq1 renaming wpAny_loadPart'->fZ
open PySem.Builtin.Slice renaming slicePlaces->i8,sliceAdjust->le,sliceApplied->uI
open PyProof.Rows.F renaming plain_set_update_loop->i9,entry_set_update_loop->pj
open PySem.Builtin.Tuple renaming tupleExact->iu,tupleItemsOf->uJ
open PySem.Builtin.Range renaming rangeSize->iS,small->Ad
open True renaming intro->iT
open PySem.Str renaming ofString->j6
open PySem.Builtin.Frozenset renaming updateFrom->jE,isAnySet->sY,sizeOf->tS,copyOf->tV,newClass->Pa,oneOther->Ph,addrOf->Pi,slot1->Pj,baseOf->Pk,merge->Pl,unchanged->Pm
open PySem.Calls renaming evalArgs_plain->li,Name_function_global->mT,call_function_entry->B6,loadGlobal_global->DE
open PySem.Sem renaming wp->lm
open PySem.Builtin.List renaming listTooLong->lU,listExtendWith->uN,listSameRef->wY
open PySem.Code renaming quiet_builtin->n8,weight->oK
open PySem.Builtin.ObjectAttr renaming attrName->qR,find->P1
open PySem.Paired renaming length->tQ
open Sum renaming inr->ux,inl->xy
open PySem.PassesOwn renaming never->wc
open PyProof.Rows.IsTup renaming new->xA
open PySem.Builtin.Dict renaming updateFrom->xH
open And renaming intro->yx
open PySem.Walks renaming list->Aj
open PySem.pickOrder renaming go->Ak
open PySem.SetTable.below renaming go->Al
open PySem.SeqAt.EqAt renaming bool_bool->B3,int_str->DC,str_int->DD
open List.Pairwise renaming nil->B4
open PyProof renaming noPylong_small->Cb
open PySem.EntryCells renaming newEntry->Ci
open PySem.Heap.DictOf renaming new->FW
open PySem.Shared renaming heap->F_,TypeIs->Pb
open PySem.Value.type renaming inj->Iq
open PySem.SeqAt renaming EqAt->J_
section
namespace L2
open PySem PySem.Spec PyProof.Rows
abbrev fS:=Sum Int Str
def yE:fS->ae->Bool
 |.inl k,v=>Value.isInt k v
 |.inr x,v=>uw x v
def Wf (w:bv):fS->Int
 |.inl k=>hashInt k
 |.inr x=>hashStr w x
theorem fc:∀ {k:fS}{v:ae},yE k v=true->(∃ i t,k=xy i/\v=mP i t)\/(∃ x t,k=ux x/\v=iY x t)
 |.inl i,v,h=>by
  obtain ⟨t,e⟩:=Value.isInt_shape (k:=i) (v:=v) h;exact .inl ⟨i,t,rfl,e⟩
 |.inr x,v,h=>by
  obtain ⟨t,e⟩:=Value.isStrOf_shape (x:=x) (v:=v) h;exact .inr ⟨x,t,rfl,e⟩
theorem K9 (i:Int) (t:Tok):yE (.inl i) (.int i t)=true:=by simp [yE,Value.isInt]
theorem Ka (x:Str) (t:Tok):yE (.inr x) (.str x t)=true:=by simp [yE,uw]
theorem Si (a b:Int):decide ((xy a:fS)=xy b)=(a==b):=by
 by_cases e:a=b
 ·subst e;simp
 ·have h:¬ (xy a:fS)=xy b:=fun q=>e (Sum.inl.inj q);rw [decide_eq_false h];exact (beq_eq_false_iff_ne.mpr e).symm
theorem Sj (a b:Str):decide ((ux a:fS)=ux b)=decide (a=b):=by
 by_cases e:a=b
 ·subst e;simp
 ·have h:¬ (ux a:fS)=ux b:=fun q=>e (Sum.inr.inj q);rw [decide_eq_false h,decide_eq_false e]
theorem Sk (a:Int) (b:Str):decide ((xy a:fS)=ux b)=false:=decide_eq_false (fun q=>nomatch q)
theorem Sm (a:Str) (b:Int):decide ((ux a:fS)=xy b)=false:=decide_eq_false (fun q=>nomatch q)
def dC (prog:bd) (w:bv):PySem.KeyKind prog w fS where
 is:=yE
 hash:=Wf w
 inj:=fun v a b ha hb=>by
  rcases fc ha with ⟨i,t,rfl,rfl⟩|⟨x,t,rfl,rfl⟩
  ·rcases fc hb with ⟨j,u,rfl,e⟩|⟨y,u,rfl,e⟩
   ·injection e with e1 _;rw [e1]
   ·exact nomatch e
  ·rcases fc hb with ⟨j,u,rfl,e⟩|⟨y,u,rfl,e⟩
   ·exact nomatch e
   ·injection e with e1 _;rw [e1]
 byValue:=fun k v h=>by
  rcases fc h with ⟨i,t,rfl,rfl⟩|⟨x,t,rfl,rfl⟩<;>rfl
 pyHash:=fun hv h=>by
  rcases fc hv with ⟨i,t,rfl,rfl⟩|⟨x,t,rfl,rfl⟩
  ·exact wpAny_pyHash_int h
  ·exact wpAny_pyHash_str h
 eqBool:=fun hu hv h=>by
  rcases fc hu with ⟨i,t,rfl,rfl⟩|⟨x,t,rfl,rfl⟩
  ·rcases fc hv with ⟨j,u,rfl,rfl⟩|⟨y,u,rfl,rfl⟩
   ·rw [Si] at h;exact wpAny_eqBool_int h
   ·rw [Sk] at h;exact DC i t y u _ _ _ _ h
  ·rcases fc hv with ⟨j,u,rfl,rfl⟩|⟨y,u,rfl,rfl⟩
   ·rw [Sm] at h;exact DD x t j u _ _ _ _ h
   ·rw [Sj] at h;exact wpAny_eqBool_str h
 «strs»:=fun k x t v h=>by
  rcases fc h with ⟨i,u,rfl,e⟩|⟨y,u,rfl,e⟩
  ·exact nomatch e
  ·injection e with e1 _
   subst e1
   cases v<;>rfl
theorem DQ (prog:bd) (w:bv) (i:Int) (t:Tok):(dC prog w).is (.inl i) (.int i t)=true:=K9 i t
theorem DR (prog:bd) (w:bv) (x:Str) (t:Tok):(dC prog w).is (.inr x) (.str x t)=true:=Ka x t
end L2
namespace L2
open PySem PySem.Spec PyProof.Rows
inductive V where
 |non|bl (b:Bool)|int (i:Int)|str (x:Str)|byt (b:Array UInt8)|flt (b:UInt64)|ref (a:ah)|ty (n:String)
 deriving DecidableEq
def cY:V->ae->Prop
 |.non,u=>u=e8
 |.bl b,u=>u=g_ b
 |.int i,u=>∃ t,u=mP i t
 |.str x,u=>∃ t,u=iY x t
 |.byt b,u=>∃ t,u=Value.bytes b t
 |.flt b,u=>∃ t,u=G9 b t
 |.ref a,u=>u=bj a
 |.ty n,u=>u=hG n
abbrev de:List V->List ae->Prop:=LQ cY
theorem de.length  (r:de xs us):xs.length=us.length:=tQ r
theorem de.get  (h:de xs us):∀ {i:Nat}{x:V},xs[i]?=some x->∃ u,us[i]?=some u/\cY x u:=by
 induction h with
 |nil=>intro i x e;cases e
 |cons r t ih =>
  intro i x e;cases i with
  |zero=>cases e;exact ⟨_,rfl,r⟩
  |succ i=>have q:=ih (i:=i) e;exact q
theorem de.append  (h:de xs us) (s:de ys ws):de (xs++ys) (us++ws):=by
 induction h with
 |nil=>exact s
 |cons r t ih=>exact .cons r ih
theorem de.take:∀ {xs:List V}{us:List ae} (n:Nat),de xs us->de (xs.take n) (us.take n)
 |_,_,0,_=>.nil
 |_,_,_+1,.nil=>.nil
 |_,_,n+1,.cons r t=>.cons r (de.take n t)
theorem de.drop:∀ {xs:List V}{us:List ae} (n:Nat),de xs us->de (xs.drop n) (us.drop n)
 |_,_,0,r=>r
 |_,_,_+1,.nil=>.nil
 |_,_,n+1,.cons _ t=>de.drop n t
def wf:Option V->Option ae->Prop
 |some v,some u=>cY v u
 |none,none=>True
 |_,_=>False
def KV {κ:Type}:List (κ×V)->List (κ×ae)->Prop:=LQ fun (p:κ×V) (q:κ×ae)=>p.1=q.1/\cY p.2 q.2
def kV:fS->V
 |.inl i=>.int i
 |.inr x=>.str x
inductive HO where
 |lst (xs:List V)
 |tup (xs:List V)
 |dK (kvs:List (fS×V))|dT (kvs:List (List fS×V))
 |set (S:Int->Bool) (n:Nat)
 |ins (C dx:ah) (fs:List (Str×V))
 |own (x:ah)
 |xd (fs:List (Str×V))
 |met (f x:ah)
 |rng (lo hi:Int)
 |frz (o:Obj) (u:HO)
 |tbl (ps:Array ae)
 |ext (φ:bt->Prop)
abbrev Hp:=ah->Option HO
def upd (H:Hp) (a:ah) (o:HO):Hp:=fun b=>if b=a then some o else H b
theorem aT   : upd H a o a=some o:=by unfold upd;rw [if_pos rfl]
theorem aO   (h:b≠a):upd H a o b=H b:=by unfold upd;rw [if_neg h]
theorem U2 {H:Hp}{a b:ah}{o u:HO} (h:H a=some o) (h':H b=some u) (d:o≠u):a≠b:=by
 intro e;subst e;rw [h] at h';exact d (bD h')
theorem aY {H:Hp}{a b:ah}{o:HO} (h:H a=some o) (h':H b=none):a≠b:=by
 intro e;subst e;rw [h] at h';cases h'
section
variable (P:bd) (w:bv)
def cU (H:Hp) (h:bt) (a:ah):HO->Prop
 |.lst xs=>xs.length<=sizeLine/\∃ (its:List ae) (n:Nat),de xs its/\h.get? a=some { cls:=.type "list",data:=.seq its.toArray n }
 |.tup xs=>xs.length<=sizeLine/\∃ its:List ae,de xs its/\Ga h a its.toArray
 |.dK kvs=>kvs.length<=sizeLine/\(a==ka)=false/\∃ vs,KV kvs vs/\h.DictOf (dC P w) a vs
 |.dT kvs=>kvs.length<=sizeLine/\(a==ka)=false/\∃ xs:List (List fS×ah×ae),
   LQ (fun (p:List fS×V) (q:List fS×ah×ae)=>p.1=q.1/\H q.2.1=some (.tup (p.1.map kV))/\cY p.2 q.2.2) kvs xs /\
   ∃ o es ep,h.get? a=some o/\o.ExactDict/\o.data=.dict es ep/\es.toList=xs.map (entryOfKey (C9 (dC P w)))/\(xs.map (·.1)).Nodup
 |.set S n=>h.SetOf (intKind P w) a S n
 |.ins C dx fs=>H dx=some (.own a)/\fs.length<=1000/\dx≠a/\h.get? a=some (xz C dx) /\
   ∃ mA,h.Ns1 dx mA/\(∀ f,wf (fs.lookup f) (mA f))/\PySem.Within mA (fs.map (·.1))
 |.own _=>∃ o,h.get? a=some o
 |.xd fs=>∃ mA,h.Ns1 a mA/\∀ f,wf (fs.lookup f) (mA f)
 |.rng lo hi=>∃ t u v,h.get? a=some { cls:=.type "range",data:=.fields #[.int lo t,.int hi u,.int 1 v] }
 |.frz o u=>h.get? a=some o/\cU H h a u
 |.tbl ps=>h.get? a=some { cls:=.none,data:=.fields ps }
 |.met f x=>h.get? a=some (uF (.ref f) (.ref x))
 |.ext φ=>φ h/\(∃ o,h.get? a=some o)/\∀ h1 h2:bt,φ h1->(∀ o,h1.get? a=some o->h2.get? a=some o)->φ h2
def qA (H:Hp) (h:bt):Prop:=∀ a o,H a=some o->cU P w H h a o
end
section
theorem cU.lt (x:cU P w H h a o):a<h.objs.size:=by
 cases o with
 |lst xs=>obtain ⟨_,_,_,_,e⟩:=x;exact al e
 |tup xs=>obtain ⟨_,_,_,p⟩:=x;exact p.lt
 |dK kvs=>obtain ⟨_,_,_,_,o,_,_,e,_⟩:=x;exact al e
 |dT kvs=>obtain ⟨_,_,_,_,o,_,_,e,_⟩:=x;exact al e
 |set S n=>obtain ⟨o,_,_,_,e,_⟩:=x;exact al e
 |ins C dx fs=>obtain ⟨_,_,_,e,_⟩:=x;exact al e
 |own y=>obtain ⟨_,e⟩:=x;exact al e
 |xd fs=>obtain ⟨_,⟨_,_,_,e,_⟩,_⟩:=x;exact al e
 |rng lo hi=>obtain ⟨_,_,_,e⟩:=x;exact al e
 |frz ob u=>obtain ⟨e,_⟩:=x;exact al e
 |tbl ps=>exact al (show h.get? a=some _ from x)
 |met f y=>exact al (show h.get? a=some _ from x)
 |ext φ=>obtain ⟨_,⟨_,e⟩,_⟩:=x;exact al e
theorem Paired.mapP {α β:Type}{F G:α->β->Prop}{l₁:List α}{l₂:List β} (h:LQ F l₁ l₂) (f:∀ a b,F a b->G a b):LQ G l₁ l₂:=by
 induction h with
 |nil=>exact .nil
 |cons r t ih=>exact .cons (f _ _ r) ih
theorem cU.stay (x:cU P w H h a o) (k:∀ b u,(b=a\/H b=some (.own a))->h.get? b=some u->h'.get? b=some u)
  (ho:∀ b,H b=some (.own a)->H' b=some (.own a)) (ht:∀ b xs,H b=some (.tup xs)->H' b=some (.tup xs)):cU P w H' h' a o:=by
 induction o with
 |lst xs=>obtain ⟨z,its,n,r,e⟩:=x;exact ⟨z,its,n,r,k _ _ (.inl rfl) e⟩
 |tup xs=>obtain ⟨z,its,r,ob,e,c⟩:=x;exact ⟨z,its,r,ob,k _ _ (.inl rfl) e,c⟩
 |dK kvs=>obtain ⟨z,y,vs,r,ob,es,ep,e,c⟩:=x;exact ⟨z,y,vs,r,ob,es,ep,k _ _ (.inl rfl) e,c⟩
 |dT kvs =>
  obtain ⟨z,y,xs,r,ob,es,ep,e,c⟩:=x;exact ⟨z,y,xs,Paired.mapP r fun p q z=>⟨z.1,ht _ _ z.2.1,z.2.2⟩,ob,es,ep,k _ _ (.inl rfl) e,c⟩
 |set S n=>obtain ⟨ob,es,ep,t,e,c⟩:=x;exact ⟨ob,es,ep,t,k _ _ (.inl rfl) e,c⟩
 |ins C dx fs =>
  obtain ⟨d,z,ne,e,mA,⟨od,es,ep,e2,c⟩,r⟩:=x;exact ⟨ho _ d,z,ne,k _ _ (.inl rfl) e,mA,⟨od,es,ep,k _ _ (.inr d) e2,c⟩,r⟩
 |own y=>obtain ⟨ob,e⟩:=x;exact ⟨ob,k _ _ (.inl rfl) e⟩
 |xd fs=>obtain ⟨mA,⟨od,es,ep,e,c⟩,r⟩:=x;exact ⟨mA,⟨od,es,ep,k _ _ (.inl rfl) e,c⟩,r⟩
 |rng lo hi=>obtain ⟨t,u,v,e⟩:=x;exact ⟨t,u,v,k _ _ (.inl rfl) e⟩
 |frz ob u ih=>obtain ⟨e,q⟩:=x;exact ⟨k _ _ (.inl rfl) e,ih q⟩
 |tbl ps =>
  have e:h.get? a=some { cls:=.none,data:=.fields ps }:=x;show h'.get? a=some { cls:=.none,data:=.fields ps };exact k a _ (.inl rfl) e
 |met f y =>
  have e:h.get? a=some (uF (.ref f) (.ref y)):=x;show h'.get? a=some (uF (.ref f) (.ref y));exact k a _ (.inl rfl) e
 |ext φ=>obtain ⟨p,⟨o,e⟩,st⟩:=x;exact ⟨st _ _ p fun o q=>k _ _ (.inl rfl) q,⟨o,k _ _ (.inl rfl) e⟩,st⟩
theorem qA.lt (x:qA P w H h) (e:H a=some o):a<h.objs.size:=(x a o e).lt
theorem qA.fresh (x:qA P w H h) (e:h.objs.size<=a):H a=none:=by
 cases q:H a with
 |none=>rfl
 |some u=>exact absurd (aC (x.lt q) e) (bN _)
theorem qA.kept (x:qA P w H h) (k:∀ b u,h.get? b=some u->h'.get? b=some u):qA P w H h':=fun a o e =>
 (x a o e).stay (fun b u _ q=>k b u q) (fun _ q=>q) fun _ _ q=>q
theorem qA.laid (x:qA P w H h) (k:∀ b u,h.get? b=some u->h'.get? b=some u) (hp:h.objs.size<=a) (new:cU P w (upd H a o) h' a o):qA P w (upd H a o) h':=fun b u e=>by
 have hn:=x.fresh hp;by_cases hb:b=a
 ·subst hb;rw [aT] at e;cases e;exact new
 ·rw [aO hb] at e;exact (x b u e).stay (fun c v _ q=>k c v q) (fun c q=>by rw [aO (aY q hn)];exact q) fun c xs q=>by rw [aO (aY q hn)];exact q
end
def Rd (H:Hp) (a:ah) (u:HO):Prop:=H a=some u\/∃ o,H a=some (.frz o u)
theorem Rd.ok      (r:Rd H a u) (x:qA P w H h):cU P w H h a u:=by
 rcases r with r|⟨o,r⟩
 ·exact x a u r
 ·obtain ⟨_,q⟩:=x a _ r;exact q
def U3:Option HO->Prop
 |some (.lst _)=>True
 |some (.dK _)=>True
 |some (.dT _)=>True
 |some (.set _ _)=>True
 |some (.ins _ _ _)=>True
 |some (.ext _)=>True
 |_=>False
section
theorem qA.write (ok:qA P w H h) (mu:U3 (H x)) (he:e=x\/H e=some (.own x)) (k:∀ b u,b≠e->h.get? b=some u->h'.get? b=some u) (heo:∃ u,h'.get? e=some u)
  (new:cU P w (upd H x o') h' x o'):qA P w (upd H x o') h':=fun b u q=>by
 have nown:∀ c y,H c=some (.own y)->c≠x:=fun c y r z=>by subst z;rw [r] at mu;exact mu
 have ntup:∀ c xs,H c=some (.tup xs)->c≠x:=fun c xs r z=>by subst z;rw [r] at mu;exact mu
 by_cases hb:b=x
 ·subst hb;rw [aT] at q;cases q;exact new
 ·rw [aO hb] at q;by_cases hbe:b=e
  ·have q':H b=some (.own x):=by
    rcases he with z|z
    ·exact absurd (hbe.trans z) hb
    ·rw [hbe];exact z
   rw [q] at q';cases q';obtain ⟨v,hv⟩:=heo;exact ⟨v,by rw [hbe];exact hv⟩
  ·refine (ok b u q).stay (fun c v hc r=>k c v ?_ r) (fun c r=>by rw [aO (nown c b r)];exact r) fun c xs r=>by rw [aO (ntup c xs r)];exact r
   rcases hc with rfl|hc
   ·exact hbe
   ·rintro rfl;rcases he with z|z
    ·exact nown c b hc z
    ·rw [hc] at z;cases z;exact hb rfl
end
structure Un (fs ex:List ah) (H H':Hp) (h h':bt):Prop where
 keep:∀ b o,h.get? b=some o->H b=none->b∉fs->b∉ex->h'.get? b=some o
 slot:∀ b o,h.get? b=some o->H b=none->b∈fs->b∉ex->∃ sl,h'.get? b=some { o with slots:=sl }
 free:∀ b o,h.get? b=some o->H b=none->b∉ex->H' b=none
 there:∀ b o,h.get? b=some o->b∉ex->∃ o',h'.get? b=some o'
 tups:∀ b xs,H b=some (.tup xs)->H' b=some (.tup xs)
 frzs:∀ b o u,H b=some (.frz o u)->H' b=some (.frz o u)
 tbls:∀ b ps,H b=some (.tbl ps)->∃ more,H' b=some (.tbl (ps++more))
section
theorem Un.any (u:Un fs ex H H1 h h1)  (q:h.get? b=some ob) (n:H b=none) (hx:b∉ex):∃ sl,h1.get? b=some { ob with slots:=sl }:=by
 by_cases hb:b∈fs
 ·exact u.slot b ob q n hb hx
 ·exact ⟨ob.slots,u.keep b ob q n hb hx⟩
theorem Un.kept (k:∀ b u,h.get? b=some u->h'.get? b=some u):Un fs ex H H h h' :=
 ⟨fun b ob q _ _ _=>k b ob q,fun b ob q _ _ _=>⟨ob.slots,k b ob q⟩,fun _ _ _ n _=>n,fun b ob q _=>⟨ob,k b ob q⟩,fun _ _ q=>q,fun _ _ _ q=>q,fun _ ps q=>⟨#[],by rw [q];simp⟩⟩
theorem Un.refl:Un fs ex H H h h:=Un.kept fun _ _ q=>q
theorem Un.laid (k:∀ b u,h.get? b=some u->h'.get? b=some u) (hp:h.objs.size<=a) (hn:H a=none):Un fs ex H (upd H a o) h h' where
 keep:=fun b u q _ _ _=>k b u q
 slot:=fun b u q _ _ _=>⟨u.slots,k b u q⟩
 free:=fun b u q n _=>by rw [aO (aA (aC (al q) hp))];exact n
 there:=fun b u q _=>⟨u,k b u q⟩
 tups:=fun b xs q=>by rw [aO (aY q hn)];exact q
 frzs:=fun b u xs q=>by rw [aO (aY q hn)];exact q
 tbls:=fun b ps q=>⟨#[],by rw [aO (aY q hn),q];simp⟩
theorem Un.write (mu:U3 (H x)) (he:e=x\/H e=some (.own x)) (k:∀ b u,b≠e->h.get? b=some u->h'.get? b=some u) (heo:∃ u,h'.get? e=some u):Un fs ex H (upd H x o) h h':=by
 have hx:∀ b,H b=none->b≠x:=fun b n z=>by subst z;rw [n] at mu;exact mu
 have hb:∀ b,H b=none->b≠e:=fun b n z=>by
  subst z;rcases he with r|r
  ·exact hx b n r
  ·rw [n] at r;cases r
 have hm:∀ b u,H b=some u->¬ U3 (some u)->b≠x:=fun b u q nm z=>by subst z;rw [q] at mu;exact nm mu
 refine ⟨fun b u q n _ _=>k b u (hb b n) q,fun b u q n _ _=>⟨u.slots,k b u (hb b n) q⟩,fun b u q n _=>by rw [aO (hx b n)];exact n,fun b u q _=>?_,
  fun b xs q=>by rw [aO (hm b _ q fun z=>z)];exact q,fun b u xs q=>by rw [aO (hm b _ q fun z=>z)];exact q,fun b ps q=>⟨#[],by rw [aO (hm b _ q fun z=>z),q];simp⟩⟩
 by_cases hbe:b=e
 ·subst hbe;exact heo
 ·exact ⟨u,k b u hbe q⟩
end
def VS (h:bt) (H:Hp):List ah:=(bg h.objs.size).filter fun a=>(H a).isSome
def Cj (h:bt) (H:Hp):bt:=l8 h (VS h H)
theorem Kb (h:bt) (H:Hp):(Cj h H).objs.size=h.objs.size:=PySem.W.hideAll_size _ _
theorem M7    (e:h.get? b=some o) (n:H b=none):(Cj h H).get? b=some o :=
 eS _ e fun hm=>by
  have q:(H b).isSome=true:=(List.mem_filter.mp hm).2;rw [n] at q;simp at q
theorem Pq    (e:(Cj h H).get? b=some o):h.get? b=some o/\H b=none:=by
 have e':h.get? b=some o:=jl (VS h H) e;refine ⟨e',?_⟩;cases q:H b with
 |none=>rfl
 |some x =>
  have hm:b∈VS h H:=List.mem_filter.mpr ⟨List.mem_range.mpr (al e'),by simp [q]⟩;have z:(Cj h H).get? b=none:=DO (VS h H) hm;rw [z] at e;cases e
def Pr (g h:bt) (L:ah):List (ah×Obj):=(bg h.objs.size).filterMap fun a=>if a=L\/(g.get? a).isSome=true then none else (h.get? a).map fun o=>(a,o)
def bB (g h:bt) (L d:ah):List (ah×Obj):=(Pr g h L).filter fun p=>decide (p.1≠d)
end L2
namespace L2
open PySem PySem.Spec PyProof.Rows
structure Mod (K:a7) (mg:Str->Option ae) (base:bt):Prop where
 kin:K.In base
 glob:base.Ns bq mg
 blt:∃ mb,base.Ns builtinsNs mb/\∀ x:Str,x≠"__name__"->mb x=iq x
 nolimit:base.NoLimit
structure Cx where
 prog:bd
 w:bv
 K:a7
 mg:Str->Option ae
 base:bt
 A:bO
 N:List Str
 s₀:ai
 H₀:Hp
 env:Env
 outer:List Env
 stack:List Env
 ex:List ah
 fn:Str->Bool
 calm:Bool
 pn:List (ah×Obj)
 xe:ae->ai->Prop
def lv (l:List Env):List ah:=l.filterMap (·.frame)
abbrev Cx.fs (X:Cx):List ah:=lv X.outer
def Ps (sc:gq) (x:Str):Prop:=sc.names.lookup x=some .local\/sc.names.lookup x=some .cell\/sc.names.lookup x=some .free
def Rb (sc:gq) (x:Str):Prop:=sc.names.lookup x=some .local\/sc.names.lookup x=some .cell
def Wg (env:Env) (h:bt) (m:Str->Option ae) (x:Str) (u:ae):Prop :=
 (env.kindOf x=some .local/\m x=some u)\/((env.kindOf x=some .cell\/env.kindOf x=some .free)/\∃ c,env.cells.lookup x=some c/\h.IsCell c (some u))
structure Cx.Ok (X:Cx):Prop where
 mod:Mod X.K X.mg X.base
 kind:X.env.scope.kind=.function
 glob:X.env.globals=bq
 blt:X.env.builtins=builtinsNs
 above:X.s₀.heap.objs.size<=X.env.locals
 inj:∀ x y c,X.env.cells.lookup x=some c->X.env.cells.lookup y=some c->x=y
 has:∀ x,(X.env.kindOf x=some .cell\/X.env.kindOf x=some .free)->∃ c,X.env.cells.lookup x=some c
 cab:∀ x c,X.fn x=true->X.env.cells.lookup x=some c->X.s₀.heap.objs.size<=c
 hd:X.calm=true->X.A.handled=none
 frames:X.A.frames=some X.stack
 stk:X.stack=X.outer\/(X.stack=X.env::X.outer/\X.env.frame=some X.env.locals)
 exf:∀ b∈X.ex,b≠X.env.locals/\∀ x c,X.env.cells.lookup x=some c->c≠b
 bs:∀ b o,X.base.get? b=some o->X.s₀.heap.get? b=some o/\X.H₀ b=none
 bsz:X.base.objs.size<=X.s₀.heap.objs.size
 noex:∀ b o,X.base.get? b=some o->b∉X.ex
 exfs:∀ b∈X.ex,b∉X.fs
 funs:X.s₀.heap.FunFrames X.base X.outer
 frf:∀ b∈X.fs,X.H₀ b=none
structure bx (X:Cx) (pins:List (ah×Obj)) (σ:List (Option V)) (H:Hp) (s:ai):Prop where
 ok:X.Ok
 os:s.os=X.s₀.os
 bare:qD s.gens
 base:Un X.fs X.ex X.H₀ H X.s₀.heap s.heap
 loc:∃ m,s.heap.Ns X.env.locals m/\∀ (i:Nat) (x:Str) (v:V),X.N[i]?=some x->σ[i]?=some (some v)->Ps X.env.scope x->∃ u,cY v u/\Wg X.env s.heap m x u
 cell:∀ x c,X.env.cells.lookup x=some c->∃ v,s.heap.IsCell c v
 free:H X.env.locals=none
 freeC:∀ x c,X.env.cells.lookup x=some c->H c=none
 pin:∀ p∈X.pn++pins,s.heap.get? p.1=some p.2/\H p.1=none/\p.1≠X.env.locals/\p.1∉X.fs/\∀ v,p.2.data≠.cell v
 hok:qA X.prog X.w H s.heap
 len:σ.length=X.N.length
section
variable {X:Cx}{pins:List (ah×Obj)}{σ:List (Option V)}{H H':Hp}{s:ai}{h':bt}
theorem Cx.Ok.nofr (ok:X.Ok)  (e:X.base.get? b=some o):b∉X.fs:=fun hb=>by
 have:=(ok.funs.mem hb).1;rw [e] at this;cases this
theorem bx.bs (I:bx X pins σ H s):∀ b o,X.base.get? b=some o->s.heap.get? b=some o/\H b=none:=fun b o e =>
 ⟨I.base.keep b o (I.ok.bs b o e).1 (I.ok.bs b o e).2 (I.ok.nofr e) (I.ok.noex b o e),I.base.free b o (I.ok.bs b o e).1 (I.ok.bs b o e).2 (I.ok.noex b o e)⟩
theorem bx.bk (I:bx X pins σ H s):∀ b o,X.base.get? b=some o->s.heap.get? b=some o:=fun b o e=>(I.bs b o e).1
theorem bx.mod (I:bx X pins σ H s):Mod X.K X.mg X.base:=I.ok.mod
theorem bx.kIn (I:bx X pins σ H s):X.K.In s.heap:=I.ok.mod.kin.keeps I.bk
theorem bx.nolimit (I:bx X pins σ H s):s.heap.NoLimit:=I.ok.mod.nolimit.keeps I.bk
theorem bx.fr (I:bx X pins σ H s):∃ m,Fr X.base X.env.locals s.heap m :=
 let ⟨m,hn,_⟩:=I.loc
 ⟨m,hn,I.bk,bK I.ok.bsz I.ok.above⟩
theorem bx.lt (I:bx X pins σ H s):X.env.locals<s.heap.objs.size:=let ⟨_,hn,_⟩:=I.loc;hn.lt
theorem bx.sz (I:bx X pins σ H s):X.s₀.heap.objs.size<=s.heap.objs.size:=bK I.ok.above (bh I.lt)
theorem bx.nofs (I:bx X pins σ H s) (h:s.heap.objs.size<=a):a∉X.fs:=fun hb=>by
 obtain ⟨_,o,ho,_⟩:=I.ok.funs.mem hb;exact absurd (aC (al ho) (bK I.sz h)) (bN _)
theorem bx.cne (I:bx X pins σ H s):∀ x c,X.env.cells.lookup x=some c->c≠X.env.locals:=fun x c e z=>by
 obtain ⟨v,o,ho,hd⟩:=I.cell x c e;obtain ⟨m,⟨o',es,ep,ho',hd',_⟩,_⟩:=I.loc;rw [z,ho'] at ho;cases ho;rw [hd'] at hd;cases hd
theorem bx.funs (I:bx X pins σ H s):s.heap.FunFrames X.base X.outer:=by
 have all:∀ (l:List Env),(∀ b∈lv l,b∈X.fs)->X.s₀.heap.FunFrames X.base l->s.heap.FunFrames X.base l:=by
  intro l;induction l with
  |nil=>intro _ _;trivial
  |cons env r ih =>
   intro hs hl;obtain ⟨hk,⟨L,o,hf,hn,ho,hd⟩,hr⟩:=hl;have hL:L∈X.fs:=hs L (by unfold lv;rw [uy,hf];exact aq);obtain ⟨sl,e⟩:=I.base.slot L o ho (I.ok.frf L hL) hL fun z=>I.ok.exfs L z hL;exact ⟨hk,⟨L,_,hf,hn,e,hd⟩,ih (fun b hb=>hs b (by unfold lv;rw [uy,hf];exact ao _ hb)) hr⟩
 exact all X.outer (fun _ hb=>hb) I.ok.funs
theorem bx.stack (I:bx X pins σ H s):s.heap.FunFrames X.base X.stack:=by
 rcases I.ok.stk with e|⟨e,hf⟩
 ·rw [e];exact I.funs
 ·rw [e];obtain ⟨m,hn,_⟩:=I.loc;refine .cons (by rw [I.ok.kind];decide) hf hn ?_ I.funs;exact tj (bK I.ok.bsz I.ok.above)
theorem bx.stkSub (I:bx X pins σ H s):∀ b∈lv X.stack,b∈X.env.locals::X.fs:=fun b hb=>by
 rcases I.ok.stk with e|⟨e,hf⟩
 ·rw [e] at hb;exact ao _ hb
 ·rw [e] at hb;unfold lv at hb;rw [uy,hf] at hb;exact hb
theorem bx.stkFree (I:bx X pins σ H s):∀ b∈lv X.stack,H b=none:=fun b hb=>by
 rcases List.mem_cons.mp (I.stkSub b hb) with e|hb
 ·rw [e];exact I.free
 ·obtain ⟨_,o,ho,_⟩:=I.ok.funs.mem hb;exact I.base.free b o ho (I.ok.frf b hb) fun z=>I.ok.exfs b z hb
theorem bx.step {g':Array Gb}{t':Nat}{d':LC}{ch:List ah} (I:bx X pins σ H s)
  (hch:∀ b∈ch,(b∈X.ex\/X.s₀.heap.objs.size<=b)/\b≠X.env.locals/\(∀ x c,X.env.cells.lookup x=some c->c≠b)/\∀ p∈X.pn++pins,p.1≠b)
  (keep:∀ b o,b≠X.env.locals->b∉X.fs->b∉ch->s.heap.get? b=some o->H b=none->h'.get? b=some o)
  (slot:∀ b o,b≠X.env.locals->b∈X.fs->b∉ch->s.heap.get? b=some o->H b=none->∃ sl,h'.get? b=some { o with slots:=sl }) (free:∀ b o,b∉ch->s.heap.get? b=some o->H b=none->H' b=none)
  (there:∀ b o,b∉ch->s.heap.get? b=some o->∃ o',h'.get? b=some o')
  (tups:∀ b xs,H b=some (.tup xs)->H' b=some (.tup xs)) (frzs:∀ b o u,H b=some (.frz o u)->H' b=some (.frz o u)) (tbls:∀ b ps,H b=some (.tbl ps)->∃ more,H' b=some (.tbl (ps++more)))
  (ns:∀ m,s.heap.Ns X.env.locals m->h'.Ns X.env.locals m) (hok:qA X.prog X.w H' h') (hg:qD g') :
  bx X pins σ H' { s with heap:=h',gens:=g',drawn:=d',toks:=t' }:=by
 have neL:∀ b o,X.s₀.heap.get? b=some o->b≠X.env.locals:=fun b o e=>aA (aC (al e) I.ok.above);have neC:∀ b o,X.s₀.heap.get? b=some o->b∉X.ex->b∉ch:=fun b o e hx hb=>by
  rcases (hch b hb).1 with z|z
  ·exact hx z
  ·exact absurd (aC (al e) z) (bN _)
 have cellK:∀ x c,X.env.cells.lookup x=some c->∀ v,s.heap.IsCell c v->h'.IsCell c v:=fun x c e v h_0=>by
  obtain ⟨o,ho,hd⟩:=h_0;have nch:c∉ch:=fun z=>(hch c z).2.2.1 x c e rfl;by_cases hc:c∈X.fs
  ·obtain ⟨sl,q⟩:=slot c o (I.cne x c e) hc nch ho (I.freeC x c e);exact ⟨_,q,hd⟩
  ·exact ⟨o,keep c o (I.cne x c e) hc nch ho (I.freeC x c e),hd⟩
 refine ⟨I.ok,I.os,hg,⟨fun b o e n hb hx=>?_,fun b o e n hb hx=>?_,fun b o e n hx=>?_,fun b o e hx=>?_,fun b xs e=>tups b xs (I.base.tups b xs e),fun b o xs e=>frzs b o xs (I.base.frzs b o xs e),fun b ps e=>?_⟩,?_,fun x c e=>?_,?_,fun x c e=>?_,fun p hp=>?_,hok,I.len⟩
 ·exact keep b o (neL b o e) hb (neC b o e hx) (I.base.keep b o e n hb hx) (I.base.free b o e n hx)
 ·obtain ⟨sl,e1⟩:=I.base.slot b o e n hb hx;obtain ⟨sl',e2⟩:=slot b _ (neL b o e) hb (neC b o e hx) e1 (I.base.free b o e n hx);exact ⟨sl',e2⟩
 ·obtain ⟨o',e1⟩:=I.base.there b o e hx;exact free b o' (neC b o e hx) e1 (I.base.free b o e n hx)
 ·obtain ⟨o',e1⟩:=I.base.there b o e hx;exact there b o' (neC b o e hx) e1
 ·obtain ⟨m1,e1⟩:=I.base.tbls b ps e;obtain ⟨m2,e2⟩:=tbls b _ e1;exact ⟨m1++m2,by rw [e2,JQ]⟩
 ·obtain ⟨m,hn,hl⟩:=I.loc;refine ⟨m,ns m hn,fun i x v e1 e2 e3=>?_⟩;obtain ⟨u,r,l⟩:=hl i x v e1 e2 e3;refine ⟨u,r,?_⟩;rcases l with l|⟨k,c,e,z⟩
  ·exact .inl l
  ·exact .inr ⟨k,c,e,cellK x c e _ z⟩
 ·obtain ⟨v,z⟩:=I.cell x c e;exact ⟨v,cellK x c e v z⟩
 ·obtain ⟨m,⟨o,_,_,ho,_⟩,_⟩:=I.loc;exact free _ o (fun z=>(hch _ z).2.1 rfl) ho I.free
 ·obtain ⟨v,o,ho,hd⟩:=I.cell x c e;exact free c o (fun z=>(hch c z).2.2.1 x c e rfl) ho (I.freeC x c e)
 ·obtain ⟨e,n,ne,nf,d⟩:=I.pin p hp;have nch:p.1∉ch:=fun z=>(hch p.1 z).2.2.2 p hp rfl;exact ⟨keep p.1 p.2 ne nf nch e n,free p.1 p.2 nch e n,ne,nf,d⟩
theorem bx.un {t':Nat} (I:bx X pins σ H s) (u:Un X.fs [] H H' s.heap h') (hok:qA X.prog X.w H' h'):bx X pins σ H' { s with heap:=h',toks:=t' }:=by
 obtain ⟨m,⟨o,es,ep,ho,r⟩,_⟩:=id I.loc;obtain ⟨sl,hL⟩:=u.any ho I.free (by simp);exact I.step (g':=s.gens) (d':=s.drawn) (ch:=[]) (fun _ z=>nomatch z) (fun b o _ hb _ e n=>u.keep b o e n hb (by simp)) (fun b o _ hb _ e n=>u.slot b o e n hb (by simp)) (fun b o _ e n=>u.free b o e n (by simp)) (fun b o _ e=>u.there b o e (by simp)) u.tups u.frzs u.tbls (fun m' hm=>by
  obtain ⟨o',es',ep',ho',r'⟩:=hm;rw [ho] at ho';cases ho';exact ⟨_,es',ep',hL,r'⟩) hok I.bare
theorem bx.call {g':Array Gb}{t':Nat}{d':LC}{ch:List ah} (I:bx X pins σ H s) (u:Un (lv X.stack) ch H H' s.heap h') (hok:qA X.prog X.w H' h') (hg:qD g')
  (hch:∀ b∈ch,(b∈X.ex\/X.s₀.heap.objs.size<=b)/\b≠X.env.locals/\(∀ x c,X.env.cells.lookup x=some c->c≠b)/\∀ p∈X.pn++pins,p.1≠b) :
  bx X pins σ H' { s with heap:=h',gens:=g',drawn:=d',toks:=t' }:=by
 obtain ⟨m,⟨o,es,ep,ho,r⟩,_⟩:=id I.loc;obtain ⟨sl,hL⟩:=u.any ho I.free fun z=>(hch _ z).2.1 rfl;exact I.step (ch:=ch) hch (fun b o hL hb hc e n=>u.keep b o e n (fun z=>(List.mem_cons.mp (I.stkSub b z)).elim hL hb) hc) (fun b o _ _ hc e n=>u.any e n hc) (fun b o hc e n=>u.free b o e n hc) (fun b o hc e=>u.there b o e hc) u.tups u.frzs u.tbls (fun m' hm=>by
  obtain ⟨o',es',ep',ho',r'⟩:=hm;rw [ho] at ho';cases ho';exact ⟨_,es',ep',hL,r'⟩) hok hg
theorem bx.turned {t':Nat}{it:ah} (I:bx X pins σ H s) (k:∀ b o,b≠it->s.heap.get? b=some o->h'.get? b=some o) (hn:H it=none) (hL:it≠X.env.locals)
  (h1:it∈X.ex\/X.s₀.heap.objs.size<=it) (h2:∀ x c,X.env.cells.lookup x=some c->c≠it) (h3:∀ p∈X.pn++pins,p.1≠it):bx X pins σ H { s with heap:=h',toks:=t' }:=by
 have nit:∀ b u,H b=some u->b≠it:=fun b u e z=>by rw [z,hn] at e;cases e
 refine I.step (g':=s.gens) (d':=s.drawn) (ch:=[it]) (fun b hb=>?_) (fun b o _ _ hc e _=>k b o (fun z=>hc (by simp [z])) e) (fun b o _ _ hc e _=>⟨o.slots,k b o (fun z=>hc (by simp [z])) e⟩) (fun _ _ _ _ n=>n)
  (fun b o hc e=>⟨o,k b o (fun z=>hc (by simp [z])) e⟩) (fun _ _ e=>e) (fun _ _ _ e=>e) (fun b ps e=>⟨#[],by rw [e];simp⟩) (fun m hm=>?_) (fun b u e=>?_) I.bare
 ·have e:b=it:=by simpa using hb
  subst e;exact ⟨h1,hL,h2,h3⟩
 ·obtain ⟨o,es,ep,ho,r⟩:=hm;exact ⟨o,es,ep,k _ o (cZ hL) ho,r⟩
 ·refine (I.hok b u e).stay (fun c v hc q=>k c v ?_ q) (fun _ q=>q) fun _ _ q=>q;rcases hc with z|z
  ·rw [z];exact nit b u e
  ·exact nit c _ z
theorem bx.tok (I:bx X pins σ H s) (t:Nat):bx X pins σ H { s with toks:=t }:=I.un (h':=s.heap) (t':=t) Un.refl I.hok
theorem bx.kept (I:bx X pins σ H s) (k:∀ b u,s.heap.get? b=some u->h'.get? b=some u):bx X pins σ H { s with heap:=h',toks:=t' }:=I.un (Un.kept k) (I.hok.kept k)
theorem bx.laid   (I:bx X pins σ H s) (k:∀ b u,s.heap.get? b=some u->h'.get? b=some u) (hp:s.heap.objs.size<=a) (new:cU X.prog X.w (upd H a o) h' a o) :
  bx X pins σ (upd H a o) { s with heap:=h',toks:=t' }:=I.un (Un.laid k hp (I.hok.fresh hp)) (I.hok.laid k hp new)
theorem bx.write   (I:bx X pins σ H s) (mu:U3 (H x)) (he:e=x\/H e=some (.own x)) (k:∀ b u,b≠e->s.heap.get? b=some u->h'.get? b=some u) (heo:∃ u,h'.get? e=some u)
  (new:cU X.prog X.w (upd H x o) h' x o):bx X pins σ (upd H x o) { s with heap:=h',toks:=t' }:=I.un (Un.write mu he k heo) (I.hok.write mu he k heo new)
theorem bx.weak (I:bx X pins σ H s) (hl:σ'.length=σ.length) (w:∀ (i:Nat) v,σ'[i]?=some (some v)->σ[i]?=some (some v)):bx X pins σ' H s :=
 ⟨I.ok,I.os,I.bare,I.base,let ⟨m,hn,hl'⟩:=I.loc;⟨m,hn,fun i x v e1 e2 e3=>hl' i x v e1 (w i v e2) e3⟩,I.cell,I.free,I.freeC,I.pin,I.hok,hl.trans I.len⟩
theorem bx.pins_of (I:bx X pins σ H s) (h:∀ p∈pins',s.heap.get? p.1=some p.2/\H p.1=none/\p.1≠X.env.locals/\p.1∉X.fs/\∀ v,p.2.data≠.cell v):bx X pins' σ H s :=
 ⟨I.ok,I.os,I.bare,I.base,I.loc,I.cell,I.free,I.freeC,fun p hp=>(List.mem_append.mp hp).elim (fun z=>I.pin p (gI _ z)) (h p),I.hok,I.len⟩
theorem DT {N:List Str} (hN:N.Nodup) {i j:Nat}{x:Str} (a:N[i]?=some x) (b:N[j]?=some x):i=j:=by
 obtain ⟨h1,e1⟩:=List.getElem?_eq_some_iff.mp a;obtain ⟨h2,e2⟩:=List.getElem?_eq_some_iff.mp b;exact (List.getElem_inj hN).mp (e1.trans e2.symm)
theorem Bb {M:Gc}{A:bO}{E:ae->ai->Prop}{i:Nat}{x:Str}{v:V}{u:ae}{Q:Unit->ai->Prop} (I:bx X pins σ H s) (hN:X.N.Nodup) (hi:X.N[i]?=some x) (hx:Rb X.env.scope x) (r:cY v u)
  (h:∀ s',bx X pins (σ.set i (some v)) H s'->(∃ a,bE a s.heap s'.heap/\(a=X.env.locals\/X.env.cells.lookup x=some a))->Q () s') (hf:X.fn x=true\/X.env.scope.names.lookup x=some .local:=by first|exact .inl rfl|exact .inr rfl|assumption):ak M A (storeName X.env x u) Q E s:=by
 obtain ⟨m,hn,hl⟩:=id I.loc;have hcls:(X.env.scope.kind == .class||(X.env.scope.kind == .module&&X.env.locals != X.env.globals))=false:=by rw [I.ok.kind];rfl
 have hiσ:i<σ.length:=by rw [I.len];exact (List.getElem?_eq_some_iff.mp hi).1
 have cne:=I.cne;have tracked:∀ {a:ah}{h':bt},(∃ o,s.heap.get? a=some o/\H a=none)->bE a s.heap h'->qA X.prog X.w H h':=fun {a h'} ha hs b ob e=>by
  obtain ⟨_,_,hfree⟩:=ha;refine (I.hok b ob e).stay (fun c w' hc q=>(hs.2 c ?_).trans q) (fun _ q=>q) fun _ _ q=>q;rintro rfl;rcases hc with rfl|hc
  ·rw [hfree] at e;cases e
  ·rw [hfree] at hc;cases hc
 rcases hx with hk|hk
 ·refine wpAny_storeName_local hk hn (fun h' hn' hs=>?_) hcls;obtain ⟨oL,_,_,hoL,_⟩:=id hn;refine h _ ⟨I.ok,I.os,I.bare,⟨fun b o e n hb hx=>?_,fun b o e n hb hx=>?_,I.base.free,fun b o e hx=>?_,I.base.tups,I.base.frzs,I.base.tbls⟩,⟨_,hn',fun j y v' e1 e2 e3=>?_⟩,fun y c e=>?_,I.free,I.freeC,fun p hp=>?_,tracked ⟨oL,hoL,I.free⟩ hs,by simpa using I.len⟩ ⟨_,hs,.inl rfl⟩
  ·exact (hs.2 b (aA (aC (al e) I.ok.above))).trans (I.base.keep b o e n hb hx)
  ·obtain ⟨sl,e1⟩:=I.base.slot b o e n hb hx;exact ⟨sl,(hs.2 b (aA (aC (al e) I.ok.above))).trans e1⟩
  ·obtain ⟨o',e1⟩:=I.base.there b o e hx;exact ⟨o',(hs.2 b (aA (aC (al e) I.ok.above))).trans e1⟩
  ·by_cases hj:j=i
   ·subst hj;rw [hi] at e1;cases e1;rw [aG hiσ] at e2;cases e2;exact ⟨u,r,.inl ⟨hk,by simp⟩⟩
   ·rw [aj (cZ hj)] at e2;obtain ⟨u',r',q⟩:=hl j y v' e1 e2 e3;refine ⟨u',r',?_⟩;rcases q with ⟨k,e⟩|⟨k,c,e,z⟩
    ·refine .inl ⟨k,?_⟩;have:y≠x:=fun e=>hj (DT hN e1 (e ▸ hi))
     simp [this,e]
    ·exact .inr ⟨k,c,e,z.sameBut hs (cne y c e)⟩
  ·obtain ⟨w',z⟩:=I.cell y c e;exact ⟨w',z.sameBut hs (cne y c e)⟩
  ·obtain ⟨e,n,ne,nf,d⟩:=I.pin p hp;exact ⟨(hs.2 p.1 ne).trans e,n,ne,nf,d⟩
 ·have hfn:X.fn x=true:=by
   rcases hf with z|z
   ·exact z
   ·rw [z] at hk;cases hk
  obtain ⟨c,hc⟩:=I.ok.has x (.inl hk);obtain ⟨w',z⟩:=I.cell x c hc;refine wpAny_storeName_cell I.ok.kind hk hc z (fun h' hc' hs=>?_);obtain ⟨oc,hoc,hocd⟩:=id z;refine h { s with heap:=h' } ⟨I.ok,I.os,I.bare,⟨fun b o e n hb hx=>?_,fun b o e n hb hx=>?_,I.base.free,fun b o e hx=>?_,I.base.tups,I.base.frzs,I.base.tbls⟩,⟨m,hn.sameBut hs (cZ (cne x c hc)),fun j y v' e1 e2 e3=>?_⟩,fun y c' e=>?_,I.free,I.freeC,fun p hp=>?_,tracked ⟨oc,hoc,I.freeC x c hc⟩ hs,by simpa using I.len⟩ ⟨c,hs,.inr hc⟩
  ·exact (hs.2 b (aA (aC (al e) (I.ok.cab x c hfn hc)))).trans (I.base.keep b o e n hb hx)
  ·obtain ⟨sl,e1⟩:=I.base.slot b o e n hb hx;exact ⟨sl,(hs.2 b (aA (aC (al e) (I.ok.cab x c hfn hc)))).trans e1⟩
  ·obtain ⟨o',e1⟩:=I.base.there b o e hx;exact ⟨o',(hs.2 b (aA (aC (al e) (I.ok.cab x c hfn hc)))).trans e1⟩
  ·by_cases hj:j=i
   ·subst hj;rw [hi] at e1;cases e1;rw [aG hiσ] at e2;cases e2;exact ⟨u,r,.inr ⟨.inl hk,c,hc,hc'⟩⟩
   ·rw [aj (cZ hj)] at e2;obtain ⟨u',r',q⟩:=hl j y v' e1 e2 e3;refine ⟨u',r',?_⟩;rcases q with q|⟨k,c',e,z'⟩
    ·exact .inl q
    ·refine .inr ⟨k,c',e,z'.sameBut hs ?_⟩;rintro rfl;exact hj (DT hN e1 (I.ok.inj _ _ _ e hc ▸ hi))
  ·by_cases hcc:c'=c
   ·subst hcc;exact ⟨_,hc'⟩
   ·obtain ⟨w2,z2⟩:=I.cell y c' e;exact ⟨w2,z2.sameBut hs hcc⟩
  ·obtain ⟨e,n,ne,nf,d⟩:=I.pin p hp;refine ⟨(hs.2 p.1 ?_).trans e,n,ne,nf,d⟩;intro q;rw [q,hoc] at e;have q':oc=p.2:=bD e;exact d w' (by rw [<- q'];exact hocd)
theorem qT        (I:bx X pins σ H s) (hN:X.N.Nodup) (hi:X.N[i]?=some x) (hx:Rb X.env.scope x) (r:cY v u)
  (h:∀ s',bx X pins (σ.set i (some v)) H s'->Q () s') (hf:X.fn x=true\/X.env.scope.names.lookup x=some .local:=by first|exact .inl rfl|exact .inr rfl|assumption):ak M A (storeName X.env x u) Q E s :=
 Bb I hN hi hx r (fun s' I' _=>h s' I') hf
theorem bx.call'  (I:bx X pins σ H s) (ho:s'.os=s.os) (u:Un (lv X.stack) ch H H' s.heap s'.heap) (hok:qA X.prog X.w H' s'.heap) (hg:qD s'.gens)
  (hch:∀ b∈ch,(b∈X.ex\/X.s₀.heap.objs.size<=b)/\b≠X.env.locals/\(∀ x c,X.env.cells.lookup x=some c->c≠b)/\∀ p∈X.pn++pins,p.1≠b):bx X pins σ H' s':=by
 obtain ⟨h',g',d',t',o'⟩:=s';have e:o'=s.os:=ho;subst e;exact I.call (g':=g') (t':=t') (d':=d') u hok hg hch
end
abbrev XK:=ae->Option ah->Hp->Prop
abbrev St:=List (Option V)
abbrev VK:=V->Hp->Prop
abbrev TE:=St->Hp->VK->Prop
abbrev TT:=St->Hp->(Bool->Hp->Prop)->Prop
abbrev TA:=St->Hp->(List V->Hp->Prop)->Prop
structure Ck where
 nx:St->Hp->Prop
 rt:VK
 bk:St->Hp->Prop:=fun _ _=>False
 ct:St->Hp->Prop:=fun _ _=>False
abbrev TS:=Ck->St->Hp->Prop
inductive EP (X:Cx) (pins:List (ah×Obj)) (σ:St) (Q:VK) (u:ae) (s':ai):Prop
 |mk (v H':_) (h0:bx X pins σ H' s') (h1:cY v u) (h2:Q v H'):EP X pins σ Q u s'
inductive TP (X:Cx) (pins:List (ah×Obj)) (σ:St) (Q:Bool->Hp->Prop) (b:Bool) (s':ai):Prop
 |mk (H':_) (h0:bx X pins σ H' s') (h1:Q b H'):TP X pins σ Q b s'
inductive AP (X:Cx) (pins:List (ah×Obj)) (σ:St) (Q:List V->Hp->Prop) (us:List ae) (s':ai):Prop
 |mk (vs H':_) (h0:bx X pins σ H' s') (h1:de vs us) (h2:Q vs H'):AP X pins σ Q us s'
inductive SN (X:Cx) (pins:List (ah×Obj)) (k:St->Hp->Prop) (s':ai):Prop
 |mk (σ':St) (H':Hp) (I:bx X pins σ' H' s') (q:k σ' H'):SN X pins k s'
inductive SV (X:Cx) (pins:List (ah×Obj)) (k:V->Hp->Prop) (u:ae) (s':ai):Prop
 |mk (v:V) (σ':St) (H':Hp) (I:bx X pins σ' H' s') (r:cY v u) (q:k v H'):SV X pins k u s'
def SP (X:Cx) (pins:List (ah×Obj)) (D:Ck) (f:Flow) (s':ai):Prop :=
 match f with
 |.next=>SN X pins D.nx s'
 |.brk=>SN X pins D.bk s'
 |.cont=>SN X pins D.ct s'
 |.ret u=>SV X pins D.rt u s'
def PE (X:Cx) (e:bL) (t:TE):Prop :=
 ∀ (pins:List (ah×Obj)) (s:ai) (σ:St) (H:Hp) (Q:VK),bx X pins σ H s->t σ H Q->ak (ay X.prog X.w) X.A (cz e X.env) (EP X pins σ Q) X.xe s
def PT (X:Cx) (e:bL) (t:TT):Prop :=
 ∀ (pins:List (ah×Obj)) (s:ai) (σ:St) (H:Hp) (Q:Bool->Hp->Prop),bx X pins σ H s->t σ H Q->ak (ay X.prog X.w) X.A (Ca e X.env (cz e X.env)) (TP X pins σ Q) X.xe s
def PW (X:Cx) (e:bL) (t:TT):Prop :=
 ∀ (whole:Sem ae) (pins:List (ah×Obj)) (s:ai) (σ:St) (H:Hp) (Q:Bool->Hp->Prop),bx X pins σ H s->t σ H Q->ak (ay X.prog X.w) X.A (Ca e X.env whole) (TP X pins σ Q) X.xe s
theorem PW.pt   (h:PW X e t):PT X e t:=h _
def PA (X:Cx) (es:List bL) (t:TA):Prop :=
 ∀ (pos:Pos) (pins:List (ah×Obj)) (s:ai) (σ:St) (H:Hp) (Q:List V->Hp->Prop),bx X pins σ H s->t σ H Q->ak (ay X.prog X.w) X.A (spliced (gL pos (aw es X.env))) (AP X pins σ Q) X.xe s
def PS (X:Cx) (st:cF) (t:TS):Prop :=
 ∀ (pins:List (ah×Obj)) (s:ai) (σ:St) (H:Hp) (D:Ck),bx X pins σ H s->t D σ H->ak (ay X.prog X.w) X.A (exec st X.env) (SP X pins D) X.xe s
def Cm (X:Cx) (st:List cF) (t:TS):Prop :=
 ∀ (pins:List (ah×Obj)) (s:ai) (σ:St) (H:Hp) (D:Ck),bx X pins σ H s->t D σ H->ak (ay X.prog X.w) X.A (execs st X.env) (SP X pins D) X.xe s
theorem fL {α:Type}{t:Sem α}{Q Q':α->ai->Prop}{M:Gc}{A:bO}{E:ae->ai->Prop}{s:ai} (h:ak M A t Q E s) (hQ:∀ a s,Q a s->Q' a s):ak M A t Q' E s:=aV h hQ fun _ _ x=>x
end L2
namespace L2
open PySem PySem.Spec PyProof.Rows
section
variable {X:Cx}
inductive Rc (i:Nat) (σ:St) (H:Hp) (Q:VK):Prop
 |mk (v:_) (h0:σ[i]?=some (some v)) (h1:Q v H):Rc i σ H Q
def Gz (i:Nat):TE:=Rc i
def tC (v:V):TE:=fun _ H Q=>Q v H
theorem pF   (hN:X.N[i]?=some x) (hv:Ps X.env.scope x) (hd:(x==("__debug__" : Str))=false:=by decide) (hcd:(x==("__classdict__" : Str))=false:=by decide):PE X (.Name x pos) (Gz i):=by
 intro pins s σ H Q I h;obtain ⟨v,e,h⟩:=h;obtain ⟨m,hn,hl⟩:=I.loc;obtain ⟨u,r,l⟩:=hl i x v hN e hv;have fin:EP X pins σ Q u s:=⟨v,H,I,r,h⟩;rcases l with ⟨hk,hm⟩|⟨hk,c,hc,hcell⟩
 ·exact pz (jm I.ok.kind hk hn hm fin) hd
 ·rcases hk with hk|hk
  ·exact pz (wpAny_loadName_cell I.ok.kind hk hc hcell fin) hd
  ·exact pz (wpAny_loadName_free I.ok.kind hk hc hcell fin hcd) hd
theorem M8 {i j pos}:PE X (.Constant (.int i) j pos) (tC (.int i)):=fun _ _ _ H _ I h=>wpAny_Constant_int ⟨.int i,H,I.tok _,⟨_,rfl⟩,h⟩
theorem M9 {b j pos}:PE X (.Constant (.bool b) j pos) (tC (.bl b)):=fun _ _ _ H _ I h=>Constant_bool ⟨.bl b,H,I,rfl,h⟩
theorem Sn {j pos}:PE X (.Constant .none j pos) (tC .non):=fun _ _ _ H _ I h=>Constant_none ⟨.non,H,I,rfl,h⟩
theorem GA {x j pos}:PE X (.Constant (.str x) j pos) (tC (.str x)):=fun _ _ _ H _ I h=>Calls.Constant_str ⟨.str x,H,I.tok _,⟨_,rfl⟩,h⟩
def Gl (X:Cx) (x:Str):Prop:=X.env.kindOf x=some .globalImplicit
theorem sg         (I:bx X pins σ H s) (hg:Gl X x) (hm:X.mg x=some u) (h:Q u s)
  (hd:(x==("__debug__" : Str))=false:=by decide):ak (ay X.prog X.w) X.A (cz (.Name x pos) X.env) Q E s :=
 mT I.ok.kind hg (DE (by rw [I.ok.glob];exact I.mod.glob.keeps I.bk) hm h) hd
theorem qU         (I:bx X pins σ H s) (hg:Gl X x) (hm:X.mg x=none) (hv:iq x=some u) (h:Q u s)
  (hn:x≠"__name__":=by decide) (hd:(x==("__debug__" : Str))=false:=by decide):ak (ay X.prog X.w) X.A (cz (.Name x pos) X.env) Q E s:=by
 obtain ⟨mb,h1,h2⟩:=I.mod.blt;exact mT I.ok.kind hg (Calls.loadGlobal_builtin (by rw [I.ok.glob];exact I.mod.glob.keeps I.bk) hm (by rw [I.ok.blt];exact h1.keeps I.bk) ((h2 x hn).trans hv) h) hd
theorem Iu    (hg:Gl X x) (hm:X.mg x=some u) (r:cY v u) (hd:(x==("__debug__" : Str))=false:=by decide):PE X (.Name x pos) (tC v) :=
 fun _ _ _ H _ I h=>sg I hg hm ⟨v,H,I,r,h⟩ hd
theorem Iv    (hg:Gl X x) (hm:X.mg x=none) (hv:iq x=some u) (r:cY v u) (hn:x≠"__name__":=by decide) (hd:(x==("__debug__" : Str))=false:=by decide):PE X (.Name x pos) (tC v) :=
 fun _ _ _ H _ I h=>qU I hg hm hv ⟨v,H,I,r,h⟩ hn hd
variable {a b:bL}{ta tb:TE}{pos:Pos}
def PC (X:Cx) (op:CmpOp) (a b:bL) (t:TE):Prop :=
 ∀ (pins:List (ah×Obj)) (s:ai) (σ:St) (H:Hp) (Q:VK),bx X pins σ H s->t σ H Q ->
  ak (ay X.prog X.w) X.A (cz a X.env) (fun v s₁=>ak (ay X.prog X.w) X.A (cz b X.env) (fun u s₂=>ak (ay X.prog X.w) X.A (bG op v u) (EP X pins σ Q) X.xe s₂) X.xe s₁) X.xe s
theorem Ma (b:bL) (h:op≠.In) (h2:op≠.NotIn):gS op b=false:=by
 have e1:(op==CmpOp.In)=false:=by cases op<;>first|rfl|exact absurd rfl h
 have e2:(op==CmpOp.NotIn)=false:=by cases op<;>first|rfl|exact absurd rfl h2
 cases b<;>simp [gS,e1,e2]
def tB (t:TE):TT:=fun σ H Q=>t σ H fun x H1=>∃ c,x=.bl c/\Q c H1
theorem Wi  (h:PC X op a b t) (h1:gS op b=false:=by first|exact Ma _ (by decide) (by decide)|rfl):PT X (.Compare a [op] [b] pos) (tB t):=by
 intro pins s σ H Q I hw;refine OY (fL (h pins s σ H _ I hw) fun v s1 h1=>fL h1 fun u s2 h2=>fL h2 fun c s3 ⟨x,H1,I1,r1,q1⟩=>?_) h1;obtain ⟨d,rfl,q⟩:=q1;cases r1;exact dX ⟨H1,I1,q⟩
theorem Mb  (h:PE X e t) (he:∀ whole,Ca e X.env whole=(do let v <- whole;FU e.pos;holding [v] (truthy v)):=by intro _;rfl):PT X e (tB t):=by
 intro pins s σ H Q I hw;refine isTrue_plain (fL (h pins s σ H _ I hw) fun v s1 ⟨x,H1,I1,r1,q1⟩=>?_) (he _);obtain ⟨d,rfl,q⟩:=q1;cases r1;exact dX ⟨H1,I1,q⟩
variable {tA tB':TT}{bB:List bL}
def Wj (t u:TT):TT:=fun σ H Q=>t σ H fun c H1=>if c=true then u σ H1 Q else Q false H1
def XQ (t u:TT):TT:=fun σ H Q=>t σ H fun c H1=>if c=true then Q true H1 else u σ H1 Q
def Wk (t:TT):TT:=fun σ H Q=>t σ H fun c H1=>Q (!c) H1
theorem Pt (ha:PT X a tA):PW X (.BoolOp .And [a] pos) tA:=by
 intro wh pins s σ H Q I h;refine isTrue_and (fL (ha pins s σ H Q I h) fun c s1 e=>?_);cases c with
 |true=>exact isTrue_and_nil e
 |false=>exact e
theorem Mc (ha:PT X a tA):PW X (.BoolOp .Or [a] pos) tA:=by
 intro wh pins s σ H Q I h;refine isTrue_or (fL (ha pins s σ H Q I h) fun c s1 e=>?_);cases c with
 |false=>exact isTrue_or_nil e
 |true=>exact e
theorem So (ha:PT X a tA) (hb:PW X (.BoolOp .And (b::bB) pos) tB'):PW X (.BoolOp .And (a::b::bB) pos) (Wj tA tB'):=by
 intro wh pins s σ H Q I h;refine isTrue_and (fL (ha pins s σ H _ I h) fun c s1 ⟨H1,I1,q1⟩=>?_);cases c with
 |true=>exact hb wh pins s1 σ H1 Q I1 q1
 |false=>exact ⟨H1,I1,q1⟩
theorem Re (ha:PT X a tA) (hb:PW X (.BoolOp .Or (b::bB) pos) tB'):PW X (.BoolOp .Or (a::b::bB) pos) (XQ tA tB'):=by
 intro wh pins s σ H Q I h;refine isTrue_or (fL (ha pins s σ H _ I h) fun c s1 ⟨H1,I1,q1⟩=>?_);cases c with
 |true=>exact ⟨H1,I1,q1⟩
 |false=>exact hb wh pins s1 σ H1 Q I1 q1
theorem Md (ha:PT X a tA):PT X (.UnaryOp .Not a pos) (Wk tA):=by
 intro pins s σ H Q I h;exact isTrue_not (fL (ha pins s σ H (fun c H1=>Q (!c) H1) I h) fun _ _ x=>by obtain ⟨a,b,c⟩:=x;exact ⟨a,b,c⟩)
def U4 (ta tb:TE):TE:=fun σ H Q=>ta σ H fun x H1=>∃ c,x=.bl c/\if c=true then tb σ H1 Q else Q (.bl false) H1
def U5 (ta:TE):TE:=fun σ H Q=>ta σ H fun x H1=>∃ c,x=.bl c/\Q (.bl (!c)) H1
theorem Sq {op} (h:PE X a t):PE X (.BoolOp op [a] pos) t:=fun pins s σ H Q I hw=>BoolOp_one (h pins s σ H Q I hw)
theorem Sr (ha:PE X a ta) (hb:PE X (.BoolOp .And (b::bB) pos) tb):PE X (.BoolOp .And (a::b::bB) pos) (U4 ta tb):=by
 intro pins s σ H Q I h;refine BoolOp_and (fL (ha pins s σ H _ I h) fun v s1 ⟨x,H1,I1,r1,q1⟩=>?_);obtain ⟨c,rfl,q1⟩:=q1;cases r1;refine dX ?_;cases c with
 |true=>exact hb pins s1 σ H1 Q I1 q1
 |false=>exact ⟨.bl false,H1,I1,rfl,q1⟩
theorem Ss (ha:PE X a ta):PE X (.UnaryOp .Not a pos) (U5 ta):=by
 intro pins s σ H Q I h;refine UnaryOp_ (fL (ha pins s σ H _ I h) fun v s1 ⟨x,H1,I1,r1,q1⟩=>?_);obtain ⟨c,rfl,q1⟩:=q1;cases r1;exact not_of (dX ⟨.bl (!c),H1,I1,rfl,q1⟩)
end
end L2
namespace L2
open PySem PySem.Spec PyProof.Rows
inductive Xe (K:a7) (a:ah) (xs:List V):Prop
 |mk (o:Obj) (its:Array ae) (n:Nat) (h0:K.lookup a=some o) (h1:o.cls=.type "list") (h2:o.dict=none) (h3:o.data=.seq its n) (h4:its.size<=sizeLine) (h5:de xs its.toList):Xe K a xs
def nl (K:a7) (H:Hp) (a:ah) (xs:List V):Prop :=
 Rd H a (.lst xs)\/Xe K a xs
inductive Xg (K:a7) (a:ah) (xs:List V):Prop
 |mk (o:Obj) (its:Array ae) (n:Nat) (h0:K.lookup a=some o) (h1:o.cls=.type "tuple") (h3:o.data=.seq its n) (h4:its.size<=sizeLine) (h5:de xs its.toList):Xg K a xs
def lw (K:a7) (H:Hp) (a:ah) (xs:List V):Prop :=
 Rd H a (.tup xs)\/Xg K a xs
def Wl:ae->Option V
 |.none=>some .non
 |.bool b=>some (.bl b)
 |.int i _=>some (.int i)
 |.str x _=>some (.str x)
 |.bytes b _=>some (.byt b)
 |.float b _=>some (.flt b)
 |.ref a=>some (.ref a)
 |.type n=>some (.ty n)
 |_=>none
theorem cY.abs  (r:cY x u):Wl u=some x:=by
 cases x with
 |non=>cases r;rfl
 |bl _=>cases r;rfl
 |int _=>obtain ⟨t,rfl⟩:=r;rfl
 |str _=>obtain ⟨t,rfl⟩:=r;rfl
 |byt _=>obtain ⟨t,rfl⟩:=r;rfl
 |flt _=>obtain ⟨t,rfl⟩:=r;rfl
 |ref _=>cases r;rfl
 |ty _=>cases r;rfl
theorem cY.inj  (r:cY x u) (q:cY y u):x=y:=bD (r.abs.symm.trans q.abs)
theorem de.inj  (h:de xs us):∀ {ys:List V},de ys us->xs=ys:=by
 induction h with
 |nil=>intro ys k;cases k;rfl
 |cons r t ih=>intro ys k;cases k with|cons r' t'=>rw [r.inj r',ih t']
section
theorem nl.of {K:a7} (h:H a=some (.lst xs)):nl K H a xs:=.inl (.inl h)
theorem lw.of {K:a7} (h:H a=some (.tup xs)):lw K H a xs:=.inl (.inl h)
inductive Xh (h:bt) (a:ah) (xs:List V):Prop
 |mk (its:List ae) (r:de xs its) (p:PlainL h a its.toArray) (z:xs.length<=sizeLine):Xh h a xs
inductive Xi (h:bt) (a:ah) (xs:List V):Prop
 |mk (its:List ae) (r:de xs its) (p:Ga h a its.toArray) (z:xs.length<=sizeLine):Xi h a xs
inductive Xj (h:bt) (l:ah) (xs:List V):Prop
 |mk (z:xs.length<=sizeLine) (its:List ae) (n:Nat) (r:de xs its) (hl:xs.length=its.length) (e:h.get? l=some { cls:=.type "list",data:=.seq its.toArray n }):Xj h l xs
theorem bx.list (I:bx X pins σ H s) (h:nl X.K H a xs):Xh s.heap a xs:=by
 rcases h with h|⟨o,its,n,hk,hc,hd,hs,hz,r⟩
 ·obtain ⟨z,its,n,r,e⟩:=h.ok I.hok;exact ⟨its,r,⟨_,n,e,rfl,rfl,rfl⟩,z⟩
 ·refine ⟨its.toList,r,⟨o,n,I.kIn a o hk,hc,hd,by simpa using hs⟩,?_⟩;have e:=r.length;simp only [ap] at e;omega
theorem bx.tuple (I:bx X pins σ H s) (h:lw X.K H a xs):Xi s.heap a xs:=by
 rcases h with h|⟨o,its,n,hk,hc,hs,hz,r⟩
 ·obtain ⟨z,its,r,p⟩:=h.ok I.hok;exact ⟨its,r,p,z⟩
 ·refine ⟨its.toList,r,⟨o,I.kIn a o hk,hc,n,by simpa using hs⟩,?_⟩;have e:=r.length;simp only [ap] at e;omega
theorem bx.list_inj (I:bx X pins σ H s) (h:nl X.K H a xs) (h':nl X.K H a ys):xs=ys:=by
 obtain ⟨its,r,⟨o,n,e,_,_,d⟩,_⟩:=I.list h;obtain ⟨its',r',⟨o',n',e',_,_,d'⟩,_⟩:=I.list h';rw [e] at e';cases e';rw [d] at d';injection d' with d1 _;have:its=its':=by simpa using congrArg Array.toList d1
 subst this;exact r.inj r'
theorem bx.tuple_inj (I:bx X pins σ H s) (h:lw X.K H a xs) (h':lw X.K H a ys):xs=ys:=by
 obtain ⟨its,r,⟨o,e,_,n,d⟩,_⟩:=I.tuple h;obtain ⟨its',r',⟨o',e',_,n',d'⟩,_⟩:=I.tuple h';rw [e] at e';cases e';rw [d] at d';injection d' with d1 _;have:its=its':=by simpa using congrArg Array.toList d1
 subst this;exact r.inj r'
end
abbrev Cx.wish (X:Cx) (E:ae->ai->Prop):Cx:={ X with xe:=E }
abbrev Cx.nox (X:Cx):Cx:=X.wish fun _ _=>False
theorem Cx.Ok.wish {X:Cx} (ok:X.Ok) (E:ae->ai->Prop):(X.wish E).Ok :=
 ⟨ok.mod,ok.kind,ok.glob,ok.blt,ok.above,ok.inj,ok.has,ok.cab,ok.hd,ok.frames,ok.stk,ok.exf,ok.bs,ok.bsz,ok.noex,ok.exfs,ok.funs,ok.frf⟩
theorem Cx.Ok.unwish {X:Cx}{E:ae->ai->Prop} (ok:(X.wish E).Ok):X.Ok :=
 ⟨ok.mod,ok.kind,ok.glob,ok.blt,ok.above,ok.inj,ok.has,ok.cab,ok.hd,ok.frames,ok.stk,ok.exf,ok.bs,ok.bsz,ok.noex,ok.exfs,ok.funs,ok.frf⟩
section
theorem bx.wish (I:bx X pins σ H s) (E:ae->ai->Prop):bx (X.wish E) pins σ H s:=⟨I.ok.wish E,I.os,I.bare,I.base,I.loc,I.cell,I.free,I.freeC,I.pin,I.hok,I.len⟩
theorem bx.unwish (I:bx (X.wish E) pins σ H s):bx X pins σ H s:=⟨I.ok.unwish,I.os,I.bare,I.base,I.loc,I.cell,I.free,I.freeC,I.pin,I.hok,I.len⟩
theorem SP.unwish   (h:SP (X.wish E) pins D f s'):SP X pins D f s':=by
 cases f with
 |next=>obtain ⟨σ',H',I,q⟩:=h;exact ⟨σ',H',I.unwish,q⟩
 |brk=>obtain ⟨σ',H',I,q⟩:=h;exact ⟨σ',H',I.unwish,q⟩
 |cont=>obtain ⟨σ',H',I,q⟩:=h;exact ⟨σ',H',I.unwish,q⟩
 |ret u=>obtain ⟨v,σ',H',I,r,q⟩:=h;exact ⟨v,σ',H',I.unwish,r,q⟩
end
section
variable {X:Cx}{st:cF}{bB:List cF}{t u:TS}{e:bL}{te:TE}{pos:Pos}
def U6:TS:=fun D σ H=>D.nx σ H
def Wm (t u:TS):TS:=fun D σ H=>t { D with nx:=u D } σ H
theorem Iw:Cm X [] U6:=fun _ _ σ H _ I h=>iG ⟨σ,H,I,h⟩
theorem jM (h1:PS X st t) (h2:Cm X bB u):Cm X (st::bB) (Wm t u):=by
 intro pins s σ H D I h;refine sU (fL (h1 pins s σ H { D with nx:=u D } I h) fun f s1 q=>?_);cases f with
 |next =>
  obtain ⟨σ',H',I',q⟩:=q;exact h2 pins s1 σ' H' D I' q
 |ret v=>exact q
 |brk=>exact q
 |cont=>exact q
theorem Co (h1:PS X st t):Cm X [st] t:=by
 intro pins s σ H D I h;refine sU (fL (h1 pins s σ H D I h) fun f s1 q=>?_);cases f with
 |next=>exact iG q
 |ret v=>exact q
 |brk=>exact q
 |cont=>exact q
theorem bx.quiet    (I:bx X pins σ H s):interactive X.env=false:=by simp [interactive,I.ok.kind]
def U7 (te:TE):TS:=fun D σ H=>te σ H fun _ H1=>D.nx σ H1
theorem uP (he:PE X e te) (hs:iR e none pos.line X.env=pure false:=by rfl):PS X (.Expr e pos) (U7 te):=by
 intro pins s σ H D I h;exact wpAny_Expr_any (fL (he pins s σ H _ I h) fun v s1 h_7=>by obtain ⟨x,H1,I1,r1,q1⟩:=h_7;exact ⟨σ,H1,I1,q1⟩) I.quiet hs
def U8 (te:TE):TS:=fun D σ H=>te σ H D.rt
theorem GB (he:PE X e te):PS X (.Return (some e) pos) (U8 te):=by
 intro pins s σ H D I h;exact wpAny_Return_some (fL (he pins s σ H _ I h) fun v s1 h_8=>by obtain ⟨x,H1,I1,r1,q1⟩:=h_8;exact ⟨x,σ,H1,I1,r1,q1⟩)
def Wn (c:TT) (t u:TS):TS:=fun D σ H=>c σ H fun b H1=>if b=true then t D σ H1 else u D σ H1
theorem Rf   (hc:PT X c tc) (ha:Cm X a t) (hb:Cm X b u):PS X (.If c a b pos) (Wn tc t u):=by
 intro pins s σ H D I h;refine wpAny_If (fL (hc pins s σ H _ I h) fun d s1 ⟨H1,I1,q1⟩=>?_);cases d with
 |true=>exact ha pins s1 σ H1 D I1 q1
 |false=>exact hb pins s1 σ H1 D I1 q1
def Su:TS:=fun _ _ _=>False
theorem oM:Cm X sts Su:=fun _ _ _ _ _ _ h=>h.elim
end
abbrev TG:=V->St->Hp->(St->Hp->Prop)->Prop
abbrev Pu:=List V->St->Hp->(St->Hp->Prop)->Prop
def PG (X:Cx) (target:bL) (t:TG):Prop :=
 ∀ (pins:List (ah×Obj)) (s:ai) (σ:St) (H:Hp) (v:V) (u:ae) (Q:St->Hp->Prop),bx X pins σ H s->cY v u->t v σ H Q ->
  ak (ay X.prog X.w) X.A (qL target X.env u) (fun _ s'=>SN X pins Q s') X.xe s
def Rg (X:Cx) (ts:List bL) (t:Pu):Prop :=
 ∀ (pins:List (ah×Obj)) (s:ai) (σ:St) (H:Hp) (vs:List V) (us:List ae) (Q:St->Hp->Prop),bx X pins σ H s->de vs us->t vs σ H Q ->
  ak (ay X.prog X.w) X.A (JR ((ir ts X.env).map (·.2)) us) (fun _ s'=>SN X pins Q s') X.xe s
section
def xb (i:Nat):TG:=fun v σ H Q=>Q (σ.set i (some v)) H
theorem cR  (hN:X.N.Nodup) (hi:X.N[i]?=some x) (hx:Rb X.env.scope x) (hf:X.fn x=true\/X.env.scope.names.lookup x=some .local:=by first|exact .inl rfl|exact .inr rfl|assumption):PG X (.Name x pos) (xb i):=by
 intro pins s σ H v u Q I r h;exact wpAny_assign_Name (qT I hN hi hx r (fun s' I'=>⟨_,H,I',h⟩) hf)
def aE:Pu:=fun vs σ H Q=>vs=[]/\Q σ H
inductive Me (t:TG) (u:Pu) (vs:List V) (σ:St) (H:Hp) (Q:St->Hp->Prop):Prop
 |mk (v r:_) (h0:vs=v::r) (h1:t v σ H fun σ' H'=>u r σ' H' Q):Me t u vs σ H Q
def a8 (t:TG) (u:Pu):Pu:=Me t u
theorem Cq:Rg X [] aE:=by
 intro pins s σ H vs us Q I r h;obtain ⟨e,h⟩:=h;subst e;cases r;exact assignInOrder_nil ⟨σ,H,I,h⟩
theorem qV    (h1:PG X e t) (h2:Rg X es u)
  (hs:(ir (e::es) X.env).map (·.2)=qL e X.env::(ir es X.env).map (·.2):=by rfl):Rg X (e::es) (a8 t u):=by
 intro pins s σ H vs us Q I r h;obtain ⟨v,vr,e1,h⟩:=h;subst e1;cases r with
 |cons r rr =>
  rw [hs];refine yo (fL (h1 pins s σ H _ _ _ I r h) fun _ s1 ⟨σ1,H1,I1,q1⟩=>?_);exact h2 pins s1 σ1 H1 _ _ Q I1 rr q1
inductive Rh (K:a7) (n:Nat) (t:Pu) (v:V) (σ:St) (H:Hp) (Q:St->Hp->Prop):Prop
 |mk (a xs:_) (h0:v=.ref a) (h1:lw K H a xs) (h2:xs.length=n) (h3:t xs σ H Q):Rh K n t v σ H Q
def Sv (K:a7) (n:Nat) (t:Pu):TG:=Rh K n t
theorem GC    (hc:X.calm=true) (h:Rg X es t)
  (hn:(ir es X.env).length=n:=by rfl) (hst:(ir es X.env).findIdx? (·.1)=none:=by rfl):PG X (.Tuple es k pos) (Sv X.K n t):=by
 intro pins s σ H v u Q I r hw;obtain ⟨a,xs,e1,hq,hl,hw⟩:=hw;subst e1;cases r;obtain ⟨its,rv,ht,hz⟩:=I.tuple hq;refine assign_Tuple_tuple (I.ok.hd hc) ht (by simp [hn,<- hl,rv.length]) hst fun h' hx=>?_;have I1:bx X pins σ H { s with heap:=h' }:=I.kept (t':=s.toks) fun b o e=>hx b o (aA (al e)) e;exact h pins _ σ H xs _ Q I1 (by simpa using rv) hw
def U9 (te:TE) (g:TG):TS:=fun D σ H=>te σ H fun x H1=>g x σ H1 D.nx
theorem Mf   (he:PE X e te) (hg:PG X tg g) (hs:xY [tg] e pos.line X.env=pure false:=by rfl) (hw:xZ [tg] e X.env=pure none:=by rfl)
  (h1:(ir [tg] X.env).map (·.2)=[qL tg X.env]:=by rfl):PS X (.Assign [tg] e pos) (U9 te g):=by
 intro pins s σ H D I h;refine wpAny_Assign_stores (fL (he pins s σ H _ I h) fun v s1 ⟨x,H1,I1,r1,q1⟩=>?_) hs hw;rw [h1];exact fL (hg pins s1 σ H1 x v _ I1 r1 q1) fun _ s2 q=>q
theorem Cr     (hN:X.N.Nodup) (hi:X.N[i]?=some x) (hx:Rb X.env.scope x) (he:PE X e te) (hs:iR e (some (.Name x pos')) pos.line X.env=pure false:=by rfl) (hf:X.fn x=true\/X.env.scope.names.lookup x=some .local:=by first|exact .inl rfl|exact .inr rfl|assumption) :
  PS X (.Assign [.Name x pos'] e pos) (U9 te (xb i)):=by
 intro pins s σ H D I h;refine wpAny_Assign_Name (fL (he pins s σ H _ I h) fun v s1 ⟨y,H1,I1,r1,q1⟩=>?_) hs;exact qT I1 hN hi hx r1 (fun s2 I2=>⟨_,H1,I2,q1⟩) hf
def Wo (i j:Nat) (ta:TA):TS:=fun D σ H=>ta σ H fun vs H1=>∃ v w,vs=[v,w]/\D.nx ((σ.set i (some v)).set j (some w)) H1
theorem Sw     {kt k2 pt2} (hc:X.calm=true) (hN:X.N.Nodup) (hi:X.N[i]?=some x) (hj:X.N[j]?=some y) (hij:i≠j)
  (hx:X.env.scope.names.lookup x=some .local) (hy:X.env.scope.names.lookup y=some .local) (ha:PA X [a,b] ta)
  (hw:xZ [.Tuple [.Name x px,.Name y py] kt pt] (.Tuple [a,b] k2 pt2) X.env=pure (some [x,y]))
  (hs:xY [.Tuple [.Name x px,.Name y py] kt pt] (.Tuple [a,b] k2 pt2) pos.line X.env=pure false:=by rfl) :
  PS X (.Assign [.Tuple [.Name x px,.Name y py] kt pt] (.Tuple [a,b] k2 pt2) pos) (Wo i j ta):=by
 intro pins s σ H D I h;rw [exec_Assign_arm];refine a6 (c_ ?_);rw [hs];refine a6 (ac ?_);rw [if_neg (by decide)];refine a6 (Tuple_ (fL (ha _ pins s σ H _ I h) fun us s1 ⟨vs,H1,I1,r1,q1⟩=>?_));obtain ⟨v,w,e1,q1⟩:=q1;subst e1;obtain ⟨u1,u2,rfl,rv,rw'⟩:∃ u1 u2,us=[u1,u2]/\cY v u1/\cY w u2:=by
  cases r1 with
  |cons p q =>
   cases q with
   |cons p' q' =>
    cases q';exact ⟨_,_,rfl,p,p'⟩
 refine cj ?_ (by show 2<=sizeLine;decide);have I2:bx X pins σ H1 { s1 with heap:=s1.heap.push { cls:=.type "tuple",data:=.seq [u1,u2].toArray } }:=I1.kept (t':=s1.toks) fun b o e=>aa _ e;rw [hw];refine a6 (ac ?_);show ak (ay X.prog X.w) X.A (do rule "assign.swapped-stores";let items <- unpackItems (.ref s1.heap.objs.size) 2 none;JR [fun v=>Gd X.env y v,fun v=>Gd X.env x v] items.reverse;pure Flow.next) _ _ _;refine a6 (gy (a6 (unpackItems_tuple (items:=#[u1,u2]) (I.ok.hd hc) (xA s1.heap _) fun h' hx'=>?_)));have I3:=I2.kept (h':=h') (t':=s1.toks) fun b o e=>hx' b o (aA (al e)) e;show ak _ _ (JR [fun v=>Gd X.env y v,fun v=>Gd X.env x v] [u2,u1] >>= fun _=>pure Flow.next) _ _ _;refine a6 (yo (wpAny_bindName (qT I3 hN hj (.inl hy) rw' (fun s2 I4=>?_) (.inr hy))));refine yo (wpAny_bindName (qT I4 hN hi (.inl hx) rv (fun s3 I5=>assignInOrder_nil (ac ?_)) (.inr hx)));rw [List.set_comm _ _ (cZ hij)] at I5;exact ⟨_,H1,I5,q1⟩
end
section
def Sx (c:TT) (tb:TS):TS:=fun D σ H=>∃ W:Nat->St->Hp->Prop,(∃ m,W m σ H)/\∀ m σ H,W m σ H ->
 c σ H fun b H1=>if b=true then ∃ N:St->Hp->Prop,(∀ σ' H',N σ' H'->∃ m',m'<m/\W m' σ' H')/\tb { D with nx:=N,ct:=N,bk:=D.nx } σ H1 else D.nx σ H1
theorem Mh    (hp:PassesOwn (ay X.prog X.w) X.A X.env X.xe) (hc:PT X c tc) (hb:Cm X body tb):PS X (.While c body [] pos) (Sx tc tb):=by
 intro pins s σ H D I h;obtain ⟨W,⟨m0,w0⟩,turn⟩:=h;refine wpAny_While (codeAny_whileLoop (fun n s'=>∃ σ' H',bx X pins σ' H' s'/\W n σ' H') ?_ m0 ⟨σ,H,I,w0⟩);rintro n s1 ⟨σ1,H1,I1,w1⟩;refine iH hp (fL (hc pins s1 σ1 H1 _ I1 (turn n σ1 H1 w1)) fun b s2 ⟨H2,I2,q2⟩=>?_);cases b with
 |true =>
  obtain ⟨N,hN,q2⟩:=q2;rw [if_pos rfl];refine iH hp (fL (hb pins s2 σ1 H2 _ I2 q2) fun f s3 q3=>?_);cases f with
  |next =>
   obtain ⟨σ3,H3,I3,n3⟩:=q3;obtain ⟨m',hm,w3⟩:=hN σ3 H3 n3;exact ⟨m',hm,σ3,H3,I3,w3⟩
  |cont =>
   obtain ⟨σ3,H3,I3,n3⟩:=q3;obtain ⟨m',hm,w3⟩:=hN σ3 H3 n3;exact ⟨m',hm,σ3,H3,I3,w3⟩
  |brk=>exact q3
  |ret v=>exact q3
 |false =>
  rw [if_neg aH];exact iG ⟨σ1,H2,I2,q2⟩
end
structure It where
 go:Nat->Hp->Prop
 yld:Nat->Hp->V->Hp->Prop
 stop:Nat->Hp->Prop
structure qW (X:Cx) (pins:List (ah×Obj)) (H:Hp) (b:ah):Prop where
 f0:H b=none
 f1:b≠X.env.locals
 f2:b∉X.fs
 f3:b∈X.ex\/X.s₀.heap.objs.size<=b
 f4:∀ x c,X.env.cells.lookup x=some c->c≠b
 f5:∀ p∈X.pn++pins,p.1≠b
theorem bx.fpOk      (I:bx X pins σ H s) (hb:s.heap.objs.size<=b) (hn:H' b=none):qW X pins H' b:=by
 refine ⟨hn,dQ (aC I.lt hb),I.nofs hb,.inr (bK I.sz hb),fun x c e z=>?_,fun p hp z=>?_⟩
 ·obtain ⟨v,q⟩:=I.cell x c e;exact absurd (aC q.lt (by rw [z];exact hb)) (bN _)
 ·exact absurd (aC (al (I.pin p hp).1) (by rw [z];exact hb)) (bN _)
structure yF (P:bd) (w:bv) (K:a7) (tg:bL) (J:It) (fp:List ah) (it:ah) (tn:Nat->bt->Prop):Prop where
 mem:it∈fp
 obj:∀ i h,tn i h->∀ b∈fp,∃ o,h.get? b=some o/\∀ v,o.data≠.cell v
 keep:∀ i h h',tn i h->(∀ b∈fp,∀ o,h.get? b=some o->h'.get? b=some o)->tn i h'
 item:∀ (X:Cx),X.prog=P->X.w=w->X.K=K->X.calm=true->∀ (i:Nat) (pins:List (ah×Obj)) (s:ai) (σ:St) (H:Hp) (E:ae->ai->Prop),bx X pins σ H s->(∀ b∈fp,qW X pins H b)->tn i s.heap->J.go i H ->
  ak (ay P w) X.A (nX (.ref it)) (fun r s1=>∃ u,r=some u /\
   ak (ay P w) X.A (gP tg (.ref it) u) (fun _ s2=>∃ x H',bx X pins σ H' s2/\cY x u/\J.yld i H x H'/\tn (i+1) s2.heap/\∀ b∈fp,H' b=none) E s1) E s
 done:∀ (X:Cx),X.prog=P->X.w=w->X.K=K->X.calm=true->∀ (i:Nat) (pins:List (ah×Obj)) (s:ai) (σ:St) (H:Hp) (E:ae->ai->Prop),bx X pins σ H s->(∀ b∈fp,qW X pins H b)->tn i s.heap->J.stop i H ->
  ak (ay P w) X.A (nX (.ref it)) (fun r s1=>r=none/\bx X pins σ H s1) E s
 self:∀ (A:bO) (i:Nat) (s:ai) (Q:ae->ai->Prop) (E:ae->ai->Prop),tn i s.heap->Q (.ref it) s->ak (ay P w) A (yp (.ref it)) Q E s
abbrev TI:=St->Hp->(It->Hp->Prop)->Prop
inductive VT (X:Cx) (pins:List (ah×Obj)) (σ:St) (tg:bL) (R:It->Hp->Prop) (itv:ae) (s2:ai):Prop
 |mk (it:ah) (fp:List ah) (tn:Nat->bt->Prop) (J:It) (H':Hp) (h0:itv=.ref it) (I:bx X pins σ H' s2) (T:yF X.prog X.w X.K tg J fp it tn) (t0:tn 0 s2.heap) (f:∀ b∈fp,qW X pins H' b) (q:R J H'):VT X pins σ tg R itv s2
inductive Wp (X:Cx) (pins:List (ah×Obj)) (tn:Nat->bt->Prop) (fp:List ah) (W:Nat->Nat->St->Hp->Prop) (n:Nat) (s':ai):Prop
 |mk (i:Nat) (σ':St) (H':Hp) (I:bx X pins σ' H' s') (t:tn i s'.heap) (f:∀ b∈fp,H' b=none) (q:W i n σ' H'):Wp X pins tn fp W n s'
def PI (X:Cx) (tg iter:bL) (wi:TI):Prop :=
 ∀ (pins:List (ah×Obj)) (s:ai) (σ:St) (H:Hp) (R:It->Hp->Prop),bx X pins σ H s->wi σ H R ->
  ak (ay X.prog X.w) X.A (cz iter X.env) (fun v s1=>ak (ay X.prog X.w) X.A (yp v) (VT X pins σ tg R) X.xe s1) X.xe s
theorem Ix           (ho : s.heap.get? it = some o) (hc : o.cls = .type n) (hd : o.data = .fields vs)
    (hn : ["enumerate", "zip", "dict_itemiterator", "dict_reverseitemiterator", "odict_iterator", "itertools.zip_longest", "itertools.pairwise"].contains n = false) (hQ : Q () s) : ak M A (gP tg (.ref it) u) Q E s := by
  unfold gP;cases tg <;> first
    | exact ac hQ
    | (cases u <;> first
        | exact ac hQ
        | (refine a6 (wpAny_load ho ?_)
           rw [hc, hd];show ak M A (if (["enumerate", "zip", "dict_itemiterator", "dict_reverseitemiterator", "odict_iterator", "itertools.zip_longest", "itertools.pairwise"].contains n && vs[0]? == some (c9 _)) = true then _ else _) Q E s;rw [if_neg (by intro h; rw [hn, B2] at h; cases h)];exact ac hQ))
def Wq (K:a7) (a:ah):It :=
 ⟨fun i H=>∃ xs x,nl K H a xs/\xs[i]?=some x,fun i H x H'=>H'=H/\∀ xs,nl K H a xs->xs[i]?=some x,fun i H=>∃ xs,nl K H a xs/\xs.length<=i⟩
def Wr (K:a7) (a:ah):It :=
 ⟨fun i H=>∃ xs x,lw K H a xs/\xs[i]?=some x,fun i H x H'=>H'=H/\∀ xs,lw K H a xs->xs[i]?=some x,fun i H=>∃ xs,lw K H a xs/\xs.length<=i⟩
def VU (lo:Int) (n:Nat):It:=⟨fun i _=>i<n,fun i H x H'=>H'=H/\x=.int (lo+i),fun i _=>n<=i⟩
theorem Kc {P:bd}{w:bv}{K:a7}{tg:bL} (a it:ah):yF P w K tg (Wq K a) [it] it (fun i h=>h.IsListIter it a i) where
 mem:=by simp
 obj:=fun i h st b hb=>by
  have e:b=it:=by simpa using hb
  subst e;obtain ⟨o,e,c,d⟩:=st;exact ⟨o,e,fun v z=>by rw [d] at z;cases z⟩
 keep:=fun i h h' st k=>st.at fun o e=>k it (by simp) o e
 item:=by
  intro X hP hw hK hc i pins s σ H E I hf st hg;subst hP hw hK;obtain ⟨xs,x,hq,hx⟩:=hg;obtain ⟨its,rv,p,hz⟩:=I.list hq;obtain ⟨u,hu,ru⟩:=rv.get hx;obtain ⟨f0,f1,f2,f3,f4,f5⟩:=hf it (by simp);refine wpAny_pyNext_list_item st p.isList (x:=u) (by simpa using hu) fun h' st' sb=>?_;have I1:bx X pins σ H { s with heap:=h' }:=I.turned (t':=s.toks) (fun b o hb e=>(sb.2 b hb).trans e) f0 f1 f3 f4 f5;obtain ⟨o,e,c,d⟩:=id st';exact ⟨u,rfl,Ix (s:={ s with heap:=h' }) e c d (by decide) ⟨x,H,I1,ru,⟨rfl,fun ys hy=>by rw [I.list_inj hy hq];exact hx⟩,st',fun b hb=>(hf b hb).1⟩⟩
 done:=by
  intro X hP hw hK hc i pins s σ H E I hf st hg;subst hP hw hK;obtain ⟨xs,hq,hx⟩:=hg;obtain ⟨its,rv,p,hz⟩:=I.list hq;obtain ⟨f0,f1,f2,f3,f4,f5⟩:=hf it (by simp);have hl:=rv.length;exact wpAny_pyNext_list_end (I.ok.hd hc) st p.isList (by simp;omega) fun h' eb=>⟨rfl,I.turned (t':=s.toks) (fun b o hb e=>eb b o hb e) f0 f1 f3 f4 f5⟩
 self:=fun _ _ _ _ _ st h=>wpAny_pyIter_listiter st h
theorem GD {P:bd}{w:bv}{K:a7}{tg:bL} (a it:ah):yF P w K tg (Wr K a) [it] it (fun i h=>h.IsTupleIter it a i) where
 mem:=by simp
 obj:=fun i h st b hb=>by
  have e:b=it:=by simpa using hb
  subst e;obtain ⟨o,e,c,d⟩:=st;exact ⟨o,e,fun v z=>by rw [d] at z;cases z⟩
 keep:=fun i h h' st k=>st.at fun o e=>k it (by simp) o e
 item:=by
  intro X hP hw hK hc i pins s σ H E I hf st hg;subst hP hw hK;obtain ⟨xs,x,hq,hx⟩:=hg;obtain ⟨its,rv,p,hz⟩:=I.tuple hq;obtain ⟨u,hu,ru⟩:=rv.get hx;obtain ⟨f0,f1,f2,f3,f4,f5⟩:=hf it (by simp);refine wpAny_pyNext_tuple_item st (show s.heap.IsTuple a its.toArray from p) (x:=u) (by simpa using hu) fun h' st' sb=>?_;have I1:bx X pins σ H { s with heap:=h' }:=I.turned (t':=s.toks) (fun b o hb e=>(sb.2 b hb).trans e) f0 f1 f3 f4 f5;obtain ⟨o,e,c,d⟩:=id st';exact ⟨u,rfl,Ix (s:={ s with heap:=h' }) e c d (by decide) ⟨x,H,I1,ru,⟨rfl,fun ys hy=>by rw [I.tuple_inj hy hq];exact hx⟩,st',fun b hb=>(hf b hb).1⟩⟩
 done:=by
  intro X hP hw hK hc i pins s σ H E I hf st hg;subst hP hw hK;obtain ⟨xs,hq,hx⟩:=hg;obtain ⟨its,rv,p,hz⟩:=I.tuple hq;obtain ⟨f0,f1,f2,f3,f4,f5⟩:=hf it (by simp);have hl:=rv.length;exact wpAny_pyNext_tuple_end (I.ok.hd hc) st (show s.heap.IsTuple a its.toArray from p) (by simp;omega) fun h' eb=>⟨rfl,I.turned (t':=s.toks) (fun b o hb e=>eb b o hb e) f0 f1 f3 f4 f5⟩
 self:=fun _ _ _ _ _ st h=>wpAny_pyIter_tupleiter st h
theorem GE {P:bd}{w:bv}{K:a7}{tg:bL} (it:ah) (lo:Int) (n:Nat):yF P w K tg (VU lo n) [it] it (fun i h=>DF h it (lo+(i:Nat)*1) ((n:Int)-(i:Nat)) 1) where
 mem:=by simp
 obj:=fun i h st b hb=>by
  have e:b=it:=by simpa using hb
  subst e;exact ⟨_,st,fun v z=>by
   have z':Data.fields _=Data.cell v:=z;cases z'⟩
 keep:=fun i h h' st k=>k it (by simp) _ st
 item:=by
  intro X hP hw hK hc i pins s σ H E I hf st hg;subst hP hw hK;obtain ⟨f0,f1,f2,f3,f4,f5⟩:=hf it (by simp);have W:=Walks.range (prog:=X.prog) (w:=X.w) (I.ok.hd hc) it lo 1 n;refine W.item i s _ _ hg st fun v h' tk hv st' kk=>?_;obtain ⟨t,rfl⟩:=hv;have I1:bx X pins σ H { s with heap:=h',toks:=tk }:=I.turned (fun b o hb e=>kk b o (by simpa using hb) e) f0 f1 f3 f4 f5;refine ⟨_,rfl,Ix (s:={ s with heap:=h',toks:=tk }) (n:="range_iterator") st' rfl rfl (by decide) ⟨.int (lo+i),H,I1,⟨t,?_⟩,⟨rfl,rfl⟩,st',fun b hb=>(hf b hb).1⟩⟩;rw [Int.mul_one]
 done:=by
  intro X hP hw hK hc i pins s σ H E I hf st hg;subst hP hw hK;obtain ⟨f0,f1,f2,f3,f4,f5⟩:=hf it (by simp);exact LR (I.ok.hd hc) st (by have:n<=i:=hg;omega) fun h' eb=>⟨rfl,I.turned (t':=s.toks) (fun b o hb e=>eb b o hb e) f0 f1 f3 f4 f5⟩
 self:=fun _ _ _ _ _ st h=>LS st h
end L2
namespace L2
open PySem PySem.Spec PyProof.Rows
section
def Ua (K:a7) (tl:TE):TI:=fun σ H R=>tl σ H fun x H1=>∃ a,x=.ref a/\(∃ xs,nl K H1 a xs)/\R (Wq K a) H1
def Wt (K:a7) (tl:TE):TI:=fun σ H R=>tl σ H fun x H1=>∃ a,x=.ref a/\(∃ xs,lw K H1 a xs)/\R (Wr K a) H1
theorem uQ {l:bL}{tl:TE} (hl:PE X l tl):PI X tg l (Ua X.K tl):=by
 intro pins s σ H R I h;refine fL (hl pins s σ H _ I h) fun v s1 h_16=>?_;obtain ⟨x,H1,I1,r1,q1⟩:=h_16;obtain ⟨a,e,⟨xs,hq⟩,q⟩:=q1;subst e;cases r1;obtain ⟨its,rv,p,hz⟩:=I1.list hq;refine l9 p.isList ?_;refine ⟨s1.heap.objs.size,[s1.heap.objs.size],_,_,H1,rfl,I1.kept (t':=s1.toks) fun b o e=>aa _ e,Kc a _,⟨_,aB _ rfl,rfl,rfl⟩,fun b hb=>?_,q⟩;have e:b=s1.heap.objs.size:=by simpa using hb
 subst e;exact I1.fpOk (am _) (I1.hok.fresh (am _))
theorem Mi {l:bL}{tl:TE} (hl:PE X l tl):PI X tg l (Wt X.K tl):=by
 intro pins s σ H R I h;refine fL (hl pins s σ H _ I h) fun v s1 h_17=>?_;obtain ⟨x,H1,I1,r1,q1⟩:=h_17;obtain ⟨a,e,⟨xs,hq⟩,q⟩:=q1;subst e;cases r1;obtain ⟨its,rv,p,hz⟩:=I1.tuple hq;refine gz (show s1.heap.IsTuple a its.toArray from p) ?_;refine ⟨s1.heap.objs.size,[s1.heap.objs.size],_,_,H1,rfl,I1.kept (t':=s1.toks) fun b o e=>aa _ e,GD a _,⟨_,aB _ rfl,rfl,rfl⟩,fun b hb=>?_,q⟩;have e:b=s1.heap.objs.size:=by simpa using hb
 subst e;exact I1.fpOk (am _) (I1.hok.fresh (am _))
theorem Mj {pins:List (ah×Obj)}{σ:St}{H:Hp}{s:ai}{R:It->Hp->Prop}{E:ae->ai->Prop}{lo hi:Int}{t u v:Tok}{tk:Nat} (I:bx X pins σ H s) (h1:-(2 ^ 62)<=lo) (h2:lo<2 ^ 62) (h3:-(2 ^ 62)<=hi) (h4:hi<2 ^ 62)
  (q:R (VU lo (hi-lo).toNat) H):ak (ay X.prog X.w) X.A (yp (.ref s.heap.objs.size)) (VT X pins σ tg R) E { s with heap:=s.heap.push { cls:=.type "range",data:=.fields #[.int lo t,.int hi u,.int 1 v] },toks:=tk }:=by
 refine wpAny_pyIter_range (IsRange.new ..) (small_one h1 h2 h3 h4) ?_;have I1:bx X pins σ H { s with heap:=s.heap.push { cls:=.type "range",data:=.fields #[.int lo t,.int hi u,.int 1 v] },toks:=tk }:=I.kept fun b o e=>aa _ e;refine ⟨(s.heap.push { cls:=.type "range",data:=.fields #[.int lo t,.int hi u,.int 1 v] }).objs.size,[(s.heap.push { cls:=.type "range",data:=.fields #[.int lo t,.int hi u,.int 1 v] }).objs.size],_,_,H,rfl,
  I1.kept (t':=tk) fun b o e=>aa _ e,GE _ lo (hi-lo).toNat,?_,fun b hb=>?_,q⟩
 ·have e1:lo+((0:Nat):Int)*1=lo:=by simp
  have e2:(((hi-lo).toNat:Nat):Int)-((0:Nat):Int)=iS lo hi 1:=by rw [rangeSize_one];split<;>omega
  show DF _ _ (lo+((0:Nat):Int)*1) ((((hi-lo).toNat:Nat):Int)-((0:Nat):Int)) 1;rw [e1,e2];exact aB _ rfl
 ·have e:b=(s.heap.push { cls:=.type "range",data:=.fields #[.int lo t,.int hi u,.int 1 v] }).objs.size:=by simpa using hb
  subst e;exact I1.fpOk (am _) (I1.hok.fresh (am _))
def Ub (ta:TA):TI:=fun σ H R=>ta σ H fun vs H1=>∃ j:Int,vs=[.int j]/\-(2 ^ 62)<=j/\j<2 ^ 62/\R (VU 0 j.toNat) H1
theorem Kd {a:bL}{ta:TA}{p pos:Pos} (hg:Gl X "range") (hm:X.mg "range"=none) (ha:PA X [a] ta) (hs:aw [a] X.env=[(false,cz a X.env)]:=by rfl):PI X tg (.Call (.Name "range" p) [a] [] pos) (Ub ta):=by
 intro pins s σ H R I h;refine Call_ (qU I hg hm boot_range (dh (fL (ha pos pins s σ H _ I h) fun us s1 ⟨vs,H1,I1,r1,q1⟩=>?_) hs rfl));obtain ⟨j,e,q1,q2,q⟩:=q1;subst e;cases r1 with
 |cons r rr =>
  cases rr;obtain ⟨t,rfl⟩:=r;exact call_range_1 (Mj I1 (by omega) (by omega) q1 q2 (by simpa using q))
inductive Wu (g:TG) (tb:TS) (D:Ck) (σ:St) (J:It) (H1:Hp):Prop
 |mk (W:Nat->Nat->St->Hp->Prop) (w0:∃ m,W 0 m σ H1) (turn:∀ i m σ H,W i m σ H ->
 (J.stop i H/\D.nx σ H)\/(J.go i H/\∃ N:St->Hp->Prop,(∀ σ' H',N σ' H'->∃ m',m'<m/\W (i+1) m' σ' H')/\∀ x H',J.yld i H x H'->g x σ H' fun σ2 H2=>tb { D with nx:=N,ct:=N,bk:=D.nx } σ2 H2)):Wu g tb D σ J H1
def Wv (wi:TI) (g:TG) (tb:TS):TS:=fun D σ H=>wi σ H (Wu g tb D σ)
def wg (fp:List ah) (h:bt):List (ah×Obj):=fp.filterMap fun b=>(h.get? b).map fun o=>(b,o)
theorem ki    (hb:b∈fp) (e:h.get? b=some o):(b,o)∈wg fp h:=List.mem_filterMap.mpr ⟨b,hb,by rw [e];rfl⟩
theorem Ke   (hp:p∈wg fp h):p.1∈fp/\h.get? p.1=some p.2:=by
 obtain ⟨b,hb,e⟩:=List.mem_filterMap.mp hp;cases q:h.get? b with
 |none=>rw [q] at e;cases e
 |some o =>
  rw [q] at e;have e':(b,o)=p:=bD e;subst e';exact ⟨hb,q⟩
theorem bx.pinned     (I:bx X pins σ H s) (hf:∀ b∈fp,qW X pins H b) (ho:∀ b∈fp,∃ o,s.heap.get? b=some o/\∀ v,o.data≠.cell v):bx X (pins++wg fp s.heap) σ H s :=
 I.pins_of fun p hp=>(List.mem_append.mp hp).elim (fun z=>I.pin p (aW _ z)) fun z=>by
  obtain ⟨hb,e⟩:=Ke z;obtain ⟨f0,f1,f2,_⟩:=hf p.1 hb;obtain ⟨o,e',d⟩:=ho p.1 hb;rw [e] at e';cases e';exact ⟨e,f0,f1,f2,d⟩
theorem bx.unpinned    (I:bx X (pins++pl) σ H s):bx X pins σ H s:=I.pins_of fun p hp=>I.pin p (aW _ (gI _ hp))
theorem Mk      (hp:PassesOwn (ay X.prog X.w) X.A X.env X.xe) (hc:X.calm=true) (hi:PI X tg iter wi) (hg:PG X tg g) (hb:Cm X body tb)
  (hs:∀ x,dY iter X.env x=pure x:=by intro _;rfl):PS X (.For tg iter body [] pos) (Wv wi g tb):=by
 intro pins s σ H D I h
 refine wpAny_For (fL (hi pins s σ H _ I h) fun v s1 h1=>fL h1 fun itv s2 h2=>?_) hs
 obtain ⟨it,fp,tn,J,H2,e,I2,T,st2,f2,W,⟨m0,w0⟩,turn⟩:=h2
 subst e
 have stat:∀ {H':Hp},(∀ b∈fp,H' b=none)->∀ b∈fp,qW X pins H' b:=fun hn b hb=>⟨hn b hb,(f2 b hb).f1,(f2 b hb).f2,(f2 b hb).f3,(f2 b hb).f4,(f2 b hb).f5⟩
 refine codeAny_forLoop_any (Wp X pins tn fp W) ?_ m0 ⟨0,σ,H2,I2,st2,fun b hb=>(f2 b hb).1,w0⟩
 rintro n s3 ⟨i,σ3,H3,I3,st3,fr3,w3⟩
 rcases turn i n σ3 H3 w3 with ⟨stop,qn⟩|⟨go,N,hN,step⟩
 ·refine iH hp (fL (T.done X rfl rfl rfl hc i pins s3 σ3 H3 X.xe I3 (stat fr3) st3 stop) fun r s4 ⟨hr,I4⟩=>?_)
  subst hr
  exact iG ⟨σ3,H3,I4,qn⟩
 ·refine iH hp (fL (T.item X rfl rfl rfl hc i pins s3 σ3 H3 X.xe I3 (stat fr3) st3 go) fun r s4 ⟨u,hr,h4⟩=>?_)
  subst hr
  refine iH hp (fL h4 fun _ s5 ⟨x,H5,I5,r5,y5,st5,fr5⟩=>?_)
  have I5':=I5.pinned (stat fr5) (T.obj _ _ st5)
  refine iH hp (fL (hg _ s5 σ3 H5 x u _ I5' r5 (step x H5 y5)) fun _ s6 ⟨σ6,H6,I6,q6⟩=>?_)
  refine iH hp (fL (hb _ s6 σ6 H6 _ I6 q6) fun f s7 q7=>?_)
  have again:∀ {σ7:St}{H7:Hp},bx X (pins++wg fp s5.heap) σ7 H7 s7->N σ7 H7->∃ m,m<n/\Wp X pins tn fp W m s7:=fun {σ7 H7} I7 n7=>by
   obtain ⟨m',hm,w7⟩:=hN σ7 H7 n7
   refine ⟨m',hm,i+1,σ7,H7,I7.unpinned,T.keep _ _ _ st5 fun b hb o e=>(I7.pin (b,o) (aW _ (aW _ (ki hb e)))).1,fun b hb=>?_,w7⟩
   obtain ⟨o,e,d⟩:=T.obj _ _ st5 b hb
   exact (I7.pin (b,o) (aW _ (aW _ (ki hb e)))).2.1
  cases f with
  |next=>obtain ⟨σ7,H7,I7,n7⟩:=q7;exact again I7 n7
  |cont=>obtain ⟨σ7,H7,I7,n7⟩:=q7;exact again I7 n7
  |brk=>obtain ⟨σ7,H7,I7,q7⟩:=q7;exact ⟨σ7,H7,I7.unpinned,q7⟩
  |ret v=>obtain ⟨x7,σ7,H7,I7,r7,q7⟩:=q7;exact ⟨x7,σ7,H7,I7.unpinned,r7,q7⟩
end
end L2
namespace L2
open PySem PySem.Spec PyProof.Rows
abbrev R2:=V->V->Hp->VK->Prop
def pw (X:Cx) (f:ae->ae->Sem ae) (r:R2):Prop :=
 ∀ (pins:List (ah×Obj)) (s:ai) (σ:St) (H:Hp) (x y:V) (v u:ae) (Q:VK),bx X pins σ H s->cY x v->cY y u->r x y H Q ->
  ak (ay X.prog X.w) X.A (f v u) (EP X pins σ Q) X.xe s
def Ww (X:Cx) (f:ae->Sem ae) (r:V->Hp->VK->Prop):Prop :=
 ∀ (pins:List (ah×Obj)) (s:ai) (σ:St) (H:Hp) (x:V) (v:ae) (Q:VK),bx X pins σ H s->cY x v->r x H Q ->
  ak (ay X.prog X.w) X.A (f v) (EP X pins σ Q) X.xe s
def jN (X:Cx) (f:ae) (r:List V->Hp->VK->Prop):Prop :=
 ∀ (pins:List (ah×Obj)) (s:ai) (σ:St) (H:Hp) (xs:List V) (us:List ae) (Q:VK),bx X pins σ H s->de xs us->r xs H Q ->
  ak (ay X.prog X.w) X.A (call f us) (EP X pins σ Q) X.xe s
def Uc (r:R2) (ta tb:TE):TE:=fun σ H Q=>ta σ H fun x H1=>tb σ H1 fun y H2=>r x y H2 Q
def XR (r:V->Hp->VK->Prop) (ta:TE):TE:=fun σ H Q=>ta σ H fun x H1=>r x H1 Q
inductive Xk (C:Int->Int->Prop) (g:Int->Int->V) (x:V) (y:V) (H:Hp) (Q:VK):Prop
 |mk (i j:_) (h0:x=.int i) (h1:y=.int j) (h2:C i j) (h3:Q (g i j) H):Xk C g x y H Q
def rI (C:Int->Int->Prop) (g:Int->Int->V):R2:=Xk C g
inductive Ud (g:Int->Int->V) (x:V) (y:V) (H:Hp) (Q:VK):Prop
 |mk (i j:_) (h0:x=.int i) (h1:y=.int j) (h2:Q (g i j) H):Ud g x y H Q
def Pw (g:Int->Int->V):R2:=Ud g
inductive Xl (g:Int->V) (x:V) (H:Hp) (Q:VK):Prop
 |mk (i:_) (h0:x=.int i) (h1:Q (g i) H):Xl g x H Q
def rU (g:Int->V):V->Hp->VK->Prop:=Xl g
section
theorem Sy (ha:PE X a ta) (hb:PE X b tb) {pins:List (ah×Obj)}{s:ai}{σ:St}{H:Hp}{R:V->V->Hp->Prop} (I:bx X pins σ H s)
  (h:ta σ H fun x H1=>tb σ H1 fun y H2=>R x y H2) {Q:ae->ai->Prop}{f:ae->ae->Sem ae}
  (hf:∀ v u s2 x y H2,bx X pins σ H2 s2->cY x v->cY y u->R x y H2->ak (ay X.prog X.w) X.A (f v u) Q X.xe s2) :
  ak (ay X.prog X.w) X.A (cz a X.env) (fun v s₁=>ak (ay X.prog X.w) X.A (cz b X.env) (fun u s₂=>ak (ay X.prog X.w) X.A (f v u) Q X.xe s₂) X.xe s₁) X.xe s:=by
 refine fL (ha pins s σ H _ I h) fun v s1 h_19=>?_;obtain ⟨x,H1,I1,r1,q1⟩:=h_19;refine fL (hb pins s1 σ H1 _ I1 q1) fun u s2 h_20=>?_;obtain ⟨y,H2,I2,r2,q2⟩:=h_20;exact hf v u s2 x y H2 I2 r1 r2 q2
theorem Ri {op:Operator}{r:R2} (ho:pw X (eV op) r) (ha:PE X a ta) (hb:PE X b tb):PE X (.BinOp a op b pos) (Uc r ta tb):=by
 intro pins s σ H Q I h;exact wpAny_BinOp (Sy ha hb I h fun v u s2 x y H2 I2 rx ry q=>ho pins s2 σ H2 x y v u Q I2 rx ry q)
theorem Ue  (ho:Ww X (unaryOp op) r) (ha:PE X a ta):PE X (.UnaryOp op a pos) (XR r ta):=by
 intro pins s σ H Q I h;exact UnaryOp_ (fL (ha pins s σ H _ I h) fun v s1 h_21=>by obtain ⟨x,H1,I1,r1,q1⟩:=h_21;exact ho pins s1 σ H1 x v Q I1 r1 q1)
theorem Wx {f:ae->ae->Sem ae}{C:Int->Int->Prop}{g:Int->Int->Int}
  (rule:∀ (i j:Int) (t u:Tok) (s:ai) (Q:ae->ai->Prop) (E:ae->ai->Prop),C i j->Q (.int (g i j) s.toks) { s with toks:=s.toks+1 }->ak (ay X.prog X.w) X.A (f (.int i t) (.int j u)) Q E s) :
  pw X f (rI C fun i j=>.int (g i j)):=by
 intro pins s σ H x y v u Q I rx ry h;obtain ⟨i,j,rfl,rfl,hc,q⟩:=h;obtain ⟨t,rfl⟩:=rx;obtain ⟨t',rfl⟩:=ry;exact rule i j t t' s _ _ hc ⟨.int (g i j),H,I.tok _,⟨_,rfl⟩,q⟩
theorem Uf {f:ae->ae->Sem ae}{g:Int->Int->Int}
  (rule:∀ (i j:Int) (t u:Tok) (s:ai) (Q:ae->ai->Prop) (E:ae->ai->Prop),Q (.int (g i j) s.toks) { s with toks:=s.toks+1 }->ak (ay X.prog X.w) X.A (f (.int i t) (.int j u)) Q E s) :
  pw X f (Pw fun i j=>.int (g i j)):=by
 intro pins s σ H x y v u Q I rx ry h;obtain ⟨i,j,rfl,rfl,q⟩:=h;obtain ⟨t,rfl⟩:=rx;obtain ⟨t',rfl⟩:=ry;exact rule i j t t' s _ _ ⟨.int (g i j),H,I.tok _,⟨_,rfl⟩,q⟩
theorem Sz {f:ae->ae->Sem ae}{g:Int->Int->Bool}
  (rule:∀ (i j:Int) (t u:Tok) (s:ai) (Q:ae->ai->Prop) (E:ae->ai->Prop),Q (.bool (g i j)) s->ak (ay X.prog X.w) X.A (f (.int i t) (.int j u)) Q E s) :
  pw X f (Pw fun i j=>.bl (g i j)):=by
 intro pins s σ H x y v u Q I rx ry h;obtain ⟨i,j,rfl,rfl,q⟩:=h;obtain ⟨t,rfl⟩:=rx;obtain ⟨t',rfl⟩:=ry;exact rule i j t t' s _ _ ⟨.bl (g i j),H,I,rfl,q⟩
def Wz (i j:Int):Prop:=0<j/\j<1073741824
def SA (i j:Int):Prop:=(-(2 ^ 64)<i/\i<2 ^ 64)\/(-(2 ^ 64)<j/\j<2 ^ 64)
theorem SA.ok (h:SA i j):IntMulOk i j:=by
 rcases h with ⟨h1,h2⟩|⟨h1,h2⟩
 ·exact .of_left (intBits_le_64 h1 h2)
 ·exact .of_right (intBits_le_64 h1 h2)
theorem SB:pw X (eV .Add) (Pw fun i j=>.int (i+j)):=Uf fun _ _ _ _ _ _ _ q=>add_int q
theorem SC:pw X (eV .Sub) (Pw fun i j=>.int (i-j)):=Uf fun _ _ _ _ _ _ _ q=>sub_int q
theorem SD:pw X (eV .Mult) (rI SA fun i j=>.int (i*j)):=Wx fun _ _ _ _ _ _ _ hc q=>mul_int q hc.ok
theorem Px:pw X (eV .FloorDiv) (rI Wz fun i j=>.int (i / j)):=Wx fun i j _ _ _ _ _ hc q=>by
 have h1:(0:Int)<j:=hc.1;have h2:j<1073741824:=hc.2;exact floordiv_int (by omega) (by rw [Int.fdiv_eq_ediv_of_nonneg i (by omega)];exact q) (.inl (Cb (by omega)))
theorem SE:pw X (eV .Mod) (rI (fun _ j=>0<j) fun i j=>.int (i % j)):=Wx fun i j _ _ _ _ _ hc q=>by
 have h1:(0:Int)<j:=hc;exact mod_int' (by omega) (by rw [Int.fmod_eq_emod_of_nonneg i (by omega)];exact q)
theorem XS {f:ae->Sem ae}{g:Int->Int}
  (rule:∀ (i:Int) (t:Tok) (s:ai) (Q:ae->ai->Prop) (E:ae->ai->Prop),Q (.int (g i) s.toks) { s with toks:=s.toks+1 }->ak (ay X.prog X.w) X.A (f (.int i t)) Q E s) :
  Ww X f (rU fun i=>.int (g i)):=by
 intro pins s σ H x v Q I rx h;obtain ⟨i,rfl,q⟩:=h;obtain ⟨t,rfl⟩:=rx;exact rule i t s _ _ ⟨.int (g i),H,I.tok _,⟨_,rfl⟩,q⟩
theorem SG:Ww X (unaryOp .USub) (rU fun i=>.int (-i)):=XS fun _ _ _ _ _ q=>neg_int q
end
def WA:V->V->Bool
 |.non,.non=>true | .non,.int _=>true | .int _,.non=>true | .non,.bl _=>true | .bl _,.non=>true | .non,.str _=>true | .str _,.non=>true
 |.int _,.int _=>true | .bl _,.bl _=>true | .str _,.str _=>true | .byt _,.byt _=>true
 |.int _,.str _=>true | .str _,.int _=>true | .bl _,.str _=>true | .str _,.bl _=>true
 |_,_=>false
def XT:R2:=fun x y H Q=>WA x y=true/\Q (.bl (!decide (x=y))) H
theorem Py:decide (V.int i=V.int j)=(i==j):=by
 rw [gC];simp
theorem SH:decide (V.bl i=V.bl j)=(i==j):=by
 rw [gC];simp
theorem Pz:decide (V.str i=V.str j)=(i==j):=by
 rw [gC];simp
theorem PB:decide (V.byt i=V.byt j)=(i.toList==j.toList):=by
 rw [gC];cases i;cases j;simp
section
theorem gT      (I:bx X pins σ H s) (q:Q (.bl k) H) (e:k=k'):EP X pins σ Q (.bool k') s:=by
 subst e;exact ⟨.bl k,H,I,rfl,q⟩
theorem Ug:pw X (bG .NotEq) XT:=by
 intro pins s σ H x y v u Q I rx ry h;obtain ⟨hs,q⟩:=h;cases x with
 |non =>
  cases rx;cases y with
  |non=>cases ry;exact PySem.EqNone.ne_none_none (gT I q (by simp))
  |bl j=>cases ry;exact PySem.EqNone.ne_none_bool (gT I q (by simp))
  |int j=>obtain ⟨t',rfl⟩:=ry;exact PySem.EqNone.ne_none_int (gT I q (by simp))
  |str j=>obtain ⟨t',rfl⟩:=ry;exact PySem.EqNone.ne_none_str (gT I q (by simp))
  |_=>exact absurd (show false=true from hs) aH
 |bl i =>
  cases rx;cases y with
  |non=>cases ry;exact PySem.EqNone.ne_bool_none (gT I q (by simp))
  |bl j=>cases ry;exact ne_bool (gT I q (congrArg not SH))
  |str j=>obtain ⟨t',rfl⟩:=ry;exact PySem.EqMixed.ne_bool_str (gT I q (by simp))
  |_=>exact absurd (show false=true from hs) aH
 |int i =>
  obtain ⟨t,rfl⟩:=rx;cases y with
  |non=>cases ry;exact PySem.EqNone.ne_int_none (gT I q (by simp))
  |int j=>obtain ⟨t',rfl⟩:=ry;exact ne_int (gT I q (congrArg not Py))
  |str j=>obtain ⟨t',rfl⟩:=ry;exact PySem.EqMixed.ne_int_str (gT I q (by simp))
  |_=>exact absurd (show false=true from hs) aH
 |str i =>
  obtain ⟨t,rfl⟩:=rx;cases y with
  |non=>cases ry;exact PySem.EqNone.ne_str_none (gT I q (by simp))
  |bl j=>cases ry;exact PySem.EqMixed.ne_str_bool (gT I q (by simp))
  |int j=>obtain ⟨t',rfl⟩:=ry;exact PySem.EqMixed.ne_str_int (gT I q (by simp))
  |str j=>obtain ⟨t',rfl⟩:=ry;exact ne_str (gT I q (congrArg not Pz))
  |_=>exact absurd (show false=true from hs) aH
 |byt i =>
  obtain ⟨t,rfl⟩:=rx;cases y with
  |byt j=>obtain ⟨t',rfl⟩:=ry;exact PySem.W.ne_bytes (gT I q (congrArg not PB))
  |_=>exact absurd (show false=true from hs) aH
 |_=>cases y<;>exact absurd (show false=true from hs) aH
theorem Uh:pw X (bG .Lt) (Pw fun i j=>.bl (decide (i<j))):=Sz fun _ _ _ _ _ _ _ q=>lt_int q
theorem Ui:pw X (bG .LtE) (Pw fun i j=>.bl (decide (i<=j))):=Sz fun _ _ _ _ _ _ _ q=>le_int q
theorem Uj:pw X (bG .Gt) (Pw fun i j=>.bl (decide (j<i))):=Sz fun _ _ _ _ _ _ _ q=>gt_int q
theorem Kf:pw X (bG .Lt) (fun x y H Q=>∃ i j,x=.str i/\y=.str j/\Q (.bl (decide (i.cps.toList<j.cps.toList))) H):=by
 intro pins s σ H x y v u Q I rx ry h;obtain ⟨i,j,rfl,rfl,q⟩:=h;obtain ⟨t,rfl⟩:=rx;obtain ⟨t',rfl⟩:=ry;exact lt_str (gT I q rfl)
theorem SJ:pw X (bG .Is) (fun x y H Q=>y=.non/\Q (.bl (decide (x=.non))) H):=by
 intro pins s σ H x y v u Q I rx ry h;obtain ⟨rfl,q⟩:=h;cases ry;refine is_none_gen (gT I q ?_);cases x<;>first
  |(cases rx;rfl)
  |(obtain ⟨t,rfl⟩:=rx;rfl)
theorem PD:pw X (bG .IsNot) (fun x y H Q=>y=.non/\Q (.bl (!decide (x=.non))) H):=by
 intro pins s σ H x y v u Q I rx ry h;obtain ⟨rfl,q⟩:=h;cases ry;refine isnot_none_gen (gT I q ?_);cases x<;>first
  |(cases rx;rfl)
  |(obtain ⟨t,rfl⟩:=rx;rfl)
theorem GF (b:bL) (h:op≠.In:=by decide) (h2:op≠.NotIn:=by decide):gS op b=false:=by
 have e1:(op==CmpOp.In)=false:=by cases op<;>first|rfl|exact absurd rfl h
 have e2:(op==CmpOp.NotIn)=false:=by cases op<;>first|rfl|exact absurd rfl h2
 cases b<;>simp [gS,e1,e2]
theorem PF  (ho:pw X (bG op) r) (ha:PE X a ta) (hb:PE X b tb) (hm:gS op b=false):PE X (.Compare a [op] [b] pos) (Uc r ta tb):=by
 intro pins s σ H Q I h;exact wpAny_Compare1 (Sy ha hb I h fun v u s2 x y H2 I2 rx ry q=>ho pins s2 σ H2 x y v u Q I2 rx ry q) hm
def Rj (t:TE):TT:=fun σ H Q=>t σ H fun x H'=>∃ k,x=.bl k/\Q k H'
theorem Iy  (ho:pw X (bG op) r) (ha:PE X a ta) (hb:PE X b tb) (hm:gS op b=false):PT X (.Compare a [op] [b] pos) (Rj (Uc r ta tb)):=by
 intro pins s σ H Q I h;refine OY (fL (ha pins s σ H _ I h) fun v s1 ⟨x,H1,I1,r1,q1⟩=>fL (hb pins s1 σ H1 _ I1 q1) fun u s2 ⟨y,H2,I2,r2,q2⟩ =>
  fL (ho pins s2 σ H2 x y v u _ I2 r1 r2 q2) fun c s3 ⟨z,H3,I3,r3,k,e,q3⟩=>?_) hm
 subst e;cases r3;exact dX ⟨H3,I3,q3⟩
def GG (r r':R2) (ta tb tc:TE):TE:=fun σ H Q=>ta σ H fun x H1=>tb σ H1 fun y H2=>r x y H2 fun z H3=>∃ k,z=.bl k /\
 (if k=true then tc σ H3 fun w' H4=>r' y w' H4 Q else Q (.bl false) H3)
theorem Ml  (ho:pw X (bG op) r) (ho':pw X (bG op') r') (ha:PE X a ta) (hb:PE X b tb) (hc:PE X c tc)
  (hm:LD [op,op'] [b,c]=false:=by with_unfolding_all rfl):PE X (.Compare a [op,op'] [b,c] pos) (GG r r' ta tb tc):=by
 intro pins s σ H Q I h;refine Compare_chain (fL (ha pins s σ H _ I h) fun v s1 ⟨x,H1,I1,r1,q1⟩=>chain_link (fL (hb pins s1 σ H1 _ I1 q1) fun u s2 ⟨y,H2,I2,r2,q2⟩ =>
  fL (ho pins s2 σ H2 x y v u _ I2 r1 r2 q2) fun d s3 ⟨z,H3,I3,r3,k,e,q3⟩=>?_)) hm
 subst e;cases r3;refine dX ?_;cases k with
 |false=>exact ite_ff ⟨.bl false,H3,I3,rfl,q3⟩
 |true=>exact ite_tt (chain_last (fL (hc pins s3 σ H3 _ I3 q3) fun w' s4 h_22=>by obtain ⟨z',H4,I4,r4,q4⟩:=h_22;exact ho' pins s4 σ H4 y z' u w' Q I4 r2 r4 q4))
theorem Mm  (ho:pw X (bG op) r) (ho':pw X (bG op') r') (ha:PE X a ta) (hb:PE X b tb) (hc:PE X c tc)
  (hm:LD [op,op'] [b,c]=false:=by with_unfolding_all rfl):PT X (.Compare a [op,op'] [b,c] pos) (Rj (GG r r' ta tb tc)):=by
 intro pins s σ H Q I h;refine isTrue_chain (fL (ha pins s σ H _ I h) fun v s1 ⟨x,H1,I1,r1,q1⟩=>test_link (fL (hb pins s1 σ H1 _ I1 q1) fun u s2 ⟨y,H2,I2,r2,q2⟩ =>
  fL (ho pins s2 σ H2 x y v u _ I2 r1 r2 q2) fun d s3 ⟨z,H3,I3,r3,k,e,q3⟩=>?_)) hm
 subst e;cases r3;refine dX ?_;cases k with
 |false =>
  obtain ⟨k',e',q'⟩:=q3;cases e';exact ite_ff ⟨H3,I3,q'⟩
 |true =>
  refine ite_tt (test_last (fL (hc pins s3 σ H3 _ I3 q3) fun w' s4 ⟨z',H4,I4,r4,q4⟩=>fL (ho' pins s4 σ H4 y z' u w' _ I4 r2 r4 q4) fun d' s5 ⟨z2,H5,I5,r5,k2,e2,q5⟩=>?_));subst e2;cases r5;exact dX ⟨H5,I5,q5⟩
theorem yG:(sizeLine:Nat)<2 ^ 63:=by rw [vW];decide
theorem GH:pw X (eV .Add) (fun x y H Q=>∃ i j,x=.str i/\y=.str j/\i.length+j.length<=sizeLine/\Q (.str (i++j)) H):=by
 intro pins s σ H x y v u Q I rx ry h;obtain ⟨i,j,rfl,rfl,hz,q⟩:=h;obtain ⟨t,rfl⟩:=rx;obtain ⟨t',rfl⟩:=ry;exact add_str (fun t' tk=>⟨.str (i++j),H,I.tok _,⟨_,rfl⟩,q⟩) hz
theorem lC  (r:de [x] us):∃ u,us=[u]/\cY x u:=by
 cases r with
 |cons r1 r2=>cases r2;exact ⟨_,rfl,r1⟩
theorem Mn  (r:de [x,y] us):∃ u w',us=[u,w']/\cY x u/\cY y w':=by
 cases r with
 |cons r1 r2 =>
  cases r2 with
  |cons r3 r4=>cases r4;exact ⟨_,_,rfl,r1,r3⟩
end
end L2
namespace L2
open PySem PySem.Spec PyProof.Rows
structure SK (h:bt) (x dx C:ah) (mA:Str->Option ae):Prop where
 obj:h.get? x=some (xz C dx)
 ns:h.Ns1 dx mA
 ne:dx≠x
theorem Bc {h:bt}{dx:ah}{mA:Str->Option ae} (n:h.Ns1 dx mA):∃ od,h.get? dx=some od/\∀ name,yq name od=some (mA name):=by
 obtain ⟨o,es,ep,ho,hd,hk,_,hm⟩:=n;refine ⟨o,ho,fun name=>?_⟩;have e:=hm name;unfold nsFind findBy at e;rw [<- JU] at e;unfold yq;rw [hd];dsimp only;split
 ·rename_i y q
  rw [q] at e;exact congrArg some e
 ·rename_i q
  rw [q] at e;have a:es.toList.any (·.refKey)=false:=by
   rw [List.any_eq_false];intro y hy;obtain ⟨z,t,hkey⟩:=hk y (Array.mem_toList_iff.mp hy);simp [DictEntry.refKey,hkey]
  have a':¬ es.toList.any (·.refKey)=true:=by rw [a];exact aH
  rw [if_neg a'];exact congrArg some e
theorem SK.look   (I:SK h x dx C mA):∃ od,yr h x (xz C dx) C (some od)/\∀ name,yq name od=some (mA name) :=
 let ⟨od,ho,hl⟩:=Bc I.ns
 ⟨od,⟨I.obj,rfl,rfl,ho⟩,hl⟩
section
variable {prog:bd}{w:bv}{A:bO}{E:ae->ai->Prop}{s:ai}{K:a7}{x dx C f:ah}{mA:Str->Option ae}{name:Str}{v:ae}
end
theorem wf.some_of  (r:wf (some v) o):∃ u,o=some u/\cY v u:=by
 cases o with
 |none=>exact (show False from r).elim
 |some u=>exact ⟨u,rfl,r⟩
theorem Kg  (r:cY v u):JV u=true:=by
 cases v with
 |non=>cases (show u=e8 from r);rfl
 |bl b=>cases (show u=g_ b from r);rfl
 |int i=>obtain ⟨t,e⟩:=(show ∃ t,u=mP i t from r);cases e;rfl
 |str x=>obtain ⟨t,e⟩:=(show ∃ t,u=iY x t from r);cases e;rfl
 |byt b=>obtain ⟨t,e⟩:=(show ∃ t,u=Value.bytes b t from r);cases e;rfl
 |flt b=>obtain ⟨t,e⟩:=(show ∃ t,u=G9 b t from r);cases e;rfl
 |ref a=>cases (show u=bj a from r);rfl
 |ty n=>cases (show u=hG n from r);rfl
section
theorem PH (hok:qA P w H h) (e:H a=some (.ins C dx fs)):∃ mA,SK h a dx C mA/\(∀ f,wf (fs.lookup f) (mA f))/\PySem.Within mA (fs.map (·.1))/\fs.length<=1000/\H dx=some (.own a):=by
 obtain ⟨d,z,ne,ob,mA,n,r,q⟩:=(show cU P w H h a (.ins C dx fs) from hok a _ e);exact ⟨mA,⟨ob,n,ne⟩,r,q,z,d⟩
end
structure WB (K:a7) (C:ah):Prop where
 pg:JX K C Str.empty=true
 hd:Io K C=true
 po:PySem.W.plainOver K C=true
 sa:ft K (.ref C) "__setattr__"=some (some (.builtin "object.__setattr__"))
theorem WB.get {K:a7}{C:ah} (c:WB K C) (f:Str):JX K C f=true:=c.pg
section
theorem PJ        (hb:mQ e f env (cz e env)=cz e env)
  (h:ak (ay prog w) A (cz e env) (fun o s₁=>ak (ay prog w) A (getAttr o f true) Q E s₁) E s):ak (ay prog w) A (cz (.Attribute e f pos) env) Q E s :=
 Attribute_any_ h (by rw [arm_eval_Attribute,hb])
end
section
end
section
inductive wj (K:a7) (H:Hp):V->ae->Prop where
 |non:wj K H .non (.type "NoneType")
 |bl (x:Bool):wj K H (.bl x) (.type "bool")
 |int (i:Int):wj K H (.int i) (.type "int")
 |str (x:Str):wj K H (.str x) (.type "str")
 |flt (x:UInt64):wj K H (.flt x) (.type "float")
 |lst {a:ah}{xs:List V} (e:H a=some (.lst xs)):wj K H (.ref a) (.type "list")
 |frz {a:ah}{o:Obj}{xs:List V} (e:H a=some (.frz o (.lst xs))):wj K H (.ref a) (.type "list")
 |tup {a:ah}{xs:List V} (e:H a=some (.tup xs)):wj K H (.ref a) (.type "tuple")
 |dK {a:ah}{kvs:List (fS×V)} (e:H a=some (.dK kvs)):wj K H (.ref a) (.type "dict")
 |dT {a:ah}{kvs:List (List fS×V)} (e:H a=some (.dT kvs)):wj K H (.ref a) (.type "dict")
 |ins {a C dx:ah}{fs:List (Str×V)} (e:H a=some (.ins C dx fs)) (cl:WB K C) (ha:ft K (.ref C) "__class__"=some (some (.builtin "object.__class__")))
   (hn:uG K (.builtin "object.__class__") "__get__"=some (some (.builtin "getset_descriptor.__get__"))) (htk:xB K (.builtin "object.__class__")=some true)
   (hm:cb K C (.type "object")=some true):wj K H (.ref a) (.ref C)
theorem oN  (I:bx X pins σ H s) (rx:cY x u) (ty:wj X.K H x t) (e:db X.K t c=some b) (h:∀ tk,Q (.bool b) { s with toks:=tk }) :
  ak (ay X.prog X.w) A (call (.builtin "isinstance") [u,c]) Q E s:=by
 cases ty with
 |non=>cases (show u=e8 from rx);exact cn PySem.W.kitx_none I.kIn iT e (fun z=>nomatch z) h
 |bl y=>cases (show u=g_ y from rx);exact cn PySem.W.kitx_bool I.kIn iT e (fun z=>nomatch z) h
 |int i=>obtain ⟨t,q⟩:=(show ∃ t,u=mP i t from rx);cases q;exact cn PySem.W.kitx_int I.kIn iT e (fun z=>nomatch z) h
 |str y=>obtain ⟨t,q⟩:=(show ∃ t,u=iY y t from rx);cases q;exact cn PySem.W.kitx_str I.kIn iT e (fun z=>nomatch z) h
 |flt y=>obtain ⟨t,q⟩:=(show ∃ t,u=G9 y t from rx);cases q;exact cn PySem.W.kitx_float I.kIn iT e (fun z=>nomatch z) h
 | @lst a xs ea =>
  cases (show u=bj a from rx);obtain ⟨_,_,n,_,h1⟩:=(show cU X.prog X.w H s.heap a (.lst xs) from I.hok a _ ea);exact cn uH I.kIn ⟨_,h1,rfl⟩ e (fun z=>nomatch z) h
 | @frz a ob xs ea =>
  cases (show u=bj a from rx);obtain ⟨_,_,_,n,_,h1⟩:=(show cU X.prog X.w H s.heap a (.frz ob (.lst xs)) from I.hok a _ ea);exact cn uH I.kIn ⟨_,h1,rfl⟩ e (fun z=>nomatch z) h
 | @tup a xs ea =>
  cases (show u=bj a from rx);obtain ⟨_,_,_,p⟩:=(show cU X.prog X.w H s.heap a (.tup xs) from I.hok a _ ea);obtain ⟨o,h1,h2,_⟩:=p;exact cn Ge I.kIn ⟨o,h1,h2⟩ e (fun z=>nomatch z) h
 | @dK a kvs ea =>
  cases (show u=bj a from rx);obtain ⟨_,_,vs,_,p⟩:=(show cU X.prog X.w H s.heap a (.dK kvs) from I.hok a _ ea);obtain ⟨o,es,ep,h1,h2,_⟩:=p;exact cn Ip I.kIn ⟨o,h1,h2.1⟩ e (fun z=>nomatch z) h
 | @dT a kvs ea =>
  cases (show u=bj a from rx);obtain ⟨_,_,xs,_,o,es,ep,h1,h2,_⟩:=(show cU X.prog X.w H s.heap a (.dT kvs) from I.hok a _ ea);exact cn Ip I.kIn ⟨o,h1,h2.1⟩ e (fun z=>nomatch z) h
 | @ins a C dx fs ea cl ha hn htk hm =>
  cases (show u=bj a from rx);obtain ⟨mA,O,_⟩:=PH I.hok ea;obtain ⟨od,J,_⟩:=O.look;exact cn (PySem.W.kitx_own (cl.get _) cl.hd ha hn htk hm) I.kIn J e (fun z=>nomatch z) h
end
end L2
namespace L2
open PySem PySem.Spec PyProof.Rows
structure jY (k:Nat) (A:bO):Prop where
 hd:A.handled=none
 dp:A.depth+3*k+5<gD
 un:A.units+16*k+200<sV
theorem jY.mono  (r:jY k A) (h:j<=k):jY j A:=⟨r.hd,by have:=r.dp;omega,by have:=r.un;omega⟩
theorem jY.deeper  (r:jY (k+1) A) (env:Env):jY k (A.deeper env) :=
 ⟨r.hd,by have:=r.dp;show A.depth+1+3*k+5<_;omega,by have:=r.un;show A.units+3+16*k+200<_;omega⟩
theorem jY.depth  (r:jY k A):A.depth<gD:=by have:=r.dp;omega
theorem jY.units  (r:jY k A):A.units+64<sV:=by have:=r.un;omega
def Kh:TA:=fun _ H Q=>Q [] H
def xc (ta:TE) (tr:TA):TA:=fun σ H Q=>ta σ H fun x H1=>tr σ H1 fun xs H2=>Q (x::xs) H2
section
theorem eA:PA X [] Kh:=fun _ _ _ _ H Q I h=>Calls.spliced_nil ⟨[],H,I,.nil,h⟩
theorem bT (ha:PE X e te) (hr:PA X es t) (hs:aw (e::es) X.env=(false,cz e X.env)::aw es X.env:=by rfl):PA X (e::es) (xc te t):=by
 intro pos pins s σ H Q I h;rw [hs];show ak _ _ (spliced ((false,cz e X.env)::gL pos (aw es X.env))) _ _ s;refine Calls.spliced_cons (fL (ha pins s σ H _ I h) fun u s1 ⟨x,H1,I1,r1,q1⟩=>?_);exact fL (hr pos pins s1 σ H1 _ I1 q1) fun us s2 h_25=>by obtain ⟨xs,H2,I2,r2,q2⟩:=h_25;exact ⟨x::xs,H2,I2,.cons r1 r2,q2⟩
def Uk (t:TA):TE:=fun σ H Q=>t σ H fun xs H1=>xs.length<=sizeLine/\∀ p,H1 p=none->Q (.ref p) (upd H1 p (.tup xs))
def WC (t:TA):TE:=fun σ H Q=>t σ H fun xs H1=>xs.length<=sizeLine/\∀ p,H1 p=none->Q (.ref p) (upd H1 p (.lst xs))
theorem GI {x1} (h:PA X es t):PE X (.Tuple es x1 pos) (Uk t):=by
 intro pins s σ H Q I hq;refine wpAny_Tuple_spliced (fL (h pos pins s σ H _ I hq) fun us s1 ⟨xs,H1,I1,r,z,q⟩=>⟨by rw [<- r.length];exact z,?_⟩);have hf:H1 s1.heap.objs.size=none:=I1.hok.fresh (am _);refine ⟨.ref s1.heap.objs.size,upd H1 s1.heap.objs.size (.tup xs),I1.laid (t':=s1.toks) (fun b u e=>aa _ e) (am _) ?_,rfl,q _ hf⟩;exact ⟨z,us,r,⟨_,aB _ rfl,rfl,_,rfl⟩⟩
theorem o0 (h:PA X es t):PE X (.List es pos) (WC t):=by
 intro pins s σ H Q I hq;refine wpAny_List_spliced (fL (h pos pins s σ H _ I hq) fun us s1 ⟨xs,H1,I1,r,z,q⟩=>⟨by rw [<- r.length];exact z,?_⟩);have hf:H1 s1.heap.objs.size=none:=I1.hok.fresh (am _);refine ⟨.ref s1.heap.objs.size,upd H1 s1.heap.objs.size (.lst xs),I1.laid (t':=s1.toks) (fun b u e=>aa _ e) (am _) ?_,rfl,q _ hf⟩;exact ⟨z,us,0,r,aB _ rfl⟩
end
abbrev Sp:=List V->Hp->VK->XK->Prop
abbrev LN:=List Env->Hp->ai->XK->ae->ai->Prop
structure GJ (P:bd) (w:bv) (K:a7) (mg:Str->Option ae) (base:bt) (A:bO) (outer:List Env) (s:ai) (H:Hp):Prop where
 frames:A.frames=some outer
 mod:Mod K mg base
 bs:∀ b o,base.get? b=some o->s.heap.get? b=some o/\H b=none
 bsz:base.objs.size<=s.heap.objs.size
 funs:s.heap.FunFrames base outer
 frf:∀ b∈lv outer,H b=none
 hok:qA P w H s.heap
 bare:qD s.gens
inductive CE (outer:List Env) (P:bd) (w:bv) (H:Hp) (s:ai) (Q:VK) (u:ae) (s':ai):Prop
 |mk (v H':_) (h0:s'.os=s.os) (h1:qD s'.gens) (h2:Un (lv outer) [] H H' s.heap s'.heap) (h3:qA P w H' s'.heap) (h4:cY v u) (h5:Q v H'):CE outer P w H s Q u s'
def CR (CX:LN) (outer:List Env) (P:bd) (w:bv) (H:Hp) (s:ai) (Q:VK) (E:XK) (r:Result) (s':ai):Prop :=
 match r with
 |.ok (.ret u)=>CE outer P w H s Q u s'
 |.ok _=>False
 |.error e=>CX outer H s E e s'
structure sZ (P:bd) (w:bv) (K:a7) (mg:Str->Option ae) (base:bt) (CX:LN) (k:Nat) (f:ah) (fd:eI) (ps:List Str) (sp:Sp):Prop where
 len:∀ vs H Q E,sp vs H Q E->vs.length=ps.length
 run:∀ (A:bO) (outer:List Env) (s:ai) (H:Hp) (args:Args) (us:List ae) (vs:List V) (Q:VK) (E:XK),jY k A->GJ P w K mg base A outer s H->wW s fd args (ps.zip us)->de vs us->sp vs H Q E ->
  h_ (ay P w) A (.call (.ref f) args) (CR CX outer P w H s Q E) s
theorem sZ.imp {P:bd}{w:bv}{K:a7}{mg:Str->Option ae}{base:bt}{CX:LN}{k:Nat}{f:ah}{fd:eI}{ps:List Str}{sp sp':Sp} (F:sZ P w K mg base CX k f fd ps sp)
  (h:∀ vs H Q E,sp' vs H Q E->sp vs H Q E):sZ P w K mg base CX k f fd ps sp' :=
 ⟨fun vs H Q E q=>F.len vs H Q E (h _ _ _ _ q),fun A outer s H args us vs Q E hr he hb hv hs=>F.run A outer s H args us vs Q E hr he hb hv (h _ _ _ _ hs)⟩
section
theorem bx.env0 (I:bx X pins σ H s):GJ X.prog X.w X.K X.mg X.base X.A X.stack s H :=
 ⟨I.ok.frames,I.ok.mod,I.bs,bK I.ok.bsz I.sz,I.stack,I.stkFree,I.hok,I.bare⟩
theorem bx.after  (I:bx X pins σ H s) (h:CE X.stack X.prog X.w H s Q u s'):EP X pins σ Q u s':=by
 obtain ⟨v,H',os,bare,un,hok,r,q⟩:=h;obtain ⟨hh,g,d,t,os'⟩:=s';obtain rfl:os'=s.os:=os;exact ⟨v,H',I.call (h':=hh) (g':=g) (d':=d) (t':=t) (ch:=[]) un hok bare (fun b z=>absurd z (by simp)),r,q⟩
end
def Iz (sp:Sp) (dvs:List V) (E:XK) (t:TA):TE:=fun σ H Q=>t σ H fun vs H1=>sp (vs++dvs) H1 Q E
def k8 (K:a7) (fd:eI) (ps:List Str) (ds:List ae):Prop :=
 ∀ (s:ai) (us:List ae),K.In s.heap->(us++ds).length=ps.length->wW s fd ⟨us,[]⟩ (ps.zip (us++ds))
theorem k8.all {K:a7}{fd:eI}{ps:List Str} (h:∀ us:List ae,us.length=ps.length->P6 fd ⟨us,[]⟩=pure (ps.zip us)):k8 K fd ps []:=fun s us _ hl=>by
 rw [cr] at hl ⊢;exact .of_eq (h us hl)
def o6 (CX:LN) (X:Cx) (E:XK):Prop:=∀ (pins:List (ah×Obj)) (σ:St) (H:Hp) (s:ai) (e:ae) (s':ai),bx X pins σ H s->CX X.stack H s E e s'->X.xe e s'
section
theorem SL       (F:sZ X.prog X.w X.K X.mg X.base CX k f fd ps sp) (hr:jY k X.A) (hb:k8 X.K fd ps ds) (hd:de dvs ds) (hx:o6 CX X E)
  (I:bx X pins σ H s) (r:de vs us) (h:sp (vs++dvs) H Q E):ak (ay X.prog X.w) X.A (call (.ref f) us) (EP X pins σ Q) X.xe s:=by
 have r2:de (vs++dvs) (us++ds):=r.append hd;have hl:(us++ds).length=ps.length:=by rw [<- r2.length];exact F.len _ _ _ _ h
 refine kc (oG (F.run X.A X.stack s H ⟨us,[]⟩ (us++ds) (vs++dvs) Q E hr I.env0 (hb s us I.kIn hl) r2 h) fun r s' hq=>?_);cases r with
 |error e=>exact hx pins σ H s e s' I hq
 |ok fl =>
  cases fl with
  |ret u=>exact I.after hq
  |next=>exact ed hq
  |brk=>exact ed hq
  |cont=>exact ed hq
theorem PK (F:sZ X.prog X.w X.K X.mg X.base CX k f fd ps sp) (hr:jY k X.A) (hg:Gl X x) (hm:X.mg x=some (.ref f)) (hk:dL X.K (.ref f)=true) (hb:k8 X.K fd ps ds) (hd:de dvs ds) (hx:o6 CX X E)
  (ha:PA X (e::es) t) (hdb:(x==("__debug__" : Str))=false:=by decide) (he:aw (e::es) X.env=(false,cz e X.env)::aw es X.env:=by rfl) (hpl:(gL pos (aw es X.env)).any (·.1)=false:=by rfl) :
  PE X (.Call (.Name x p) (e::es) [] pos) (Iz sp dvs E t):=by
 intro pins s σ H Q I h;refine pA (sg I hg hm ?_ hdb);refine Gf (h₀:=X.base) I.ok.mod.kin hk (fL (ha pos pins s σ H _ I h) fun us s1 ⟨vs,H1,I1,r,q⟩=>⟨I1.kIn,?_⟩) he hpl;exact SL F hr hb hd hx I1 r q
end
section
end
structure bn (N P:List Str) (sc:gq):Prop where
 kind:sc.kind=.function
 co:sc.isCoroutine=false
 gen:sc.isGenerator=false
 nd:N.Nodup
 pre:N.take P.length=P
 par:∀ x∈P,sc.names.lookup x=some .local\/sc.names.lookup x=some .cell
 nofree:∀ y∈sc.names,y.2≠.free
theorem Bd {kindOf:Str->Option lc}{x:Str}:∀ {binds:List (Str×ae)}{m:Str->Option ae},(∀ v,(x,v)∉binds)->Gg kindOf binds m x=m x
 |[],_,_=>rfl
 |(n,v)::r,m,h=>by
  unfold Gg;rw [Bd fun w hw=>h w (ao _ hw)];split
  ·have:x≠n:=by rintro rfl;exact h v aq
   simp [this]
  ·rfl
theorem Be {kindOf:Str->Option lc}{x:Str}:∀ {binds:List (Str×ae)}{m:Str->Option ae},(∀ v,(x,v)∉binds)->Gh kindOf binds m x=m x
 |[],_,_=>rfl
 |(n,v)::r,m,h=>by
  unfold Gh;rw [Be fun w hw=>h w (ao _ hw)];split
  ·rfl
  ·have:x≠n:=by rintro rfl;exact h v aq
   simp [this]
theorem Bf {kindOf:Str->Option lc}{x:Str}{v:ae}:∀ {P:List Str}{vs:List ae}{i:Nat}{m:Str->Option ae},P.Nodup->P[i]?=some x->vs[i]?=some v->kindOf x=some .local ->
  Gg kindOf (P.zip vs) m x=some v
 |[],_,_,_,_,h,_,_=>by simp at h
 |_::_,[],_,_,_,_,h,_=>by simp at h
 |p::P,w::vs,0,m,nd,h1,h2,hk=>by
  simp at h1 h2;subst h1;subst h2;show Gg kindOf ((p,w)::P.zip vs) m p=_;unfold Gg;rw [Bd fun v hv=>(List.nodup_cons.mp nd).1 (qM hv).1,if_pos hk];simp
 |p::P,w::vs,i+1,m,nd,h1,h2,hk=>by
  show Gg kindOf ((p,w)::P.zip vs) m x=_;unfold Gg;exact Bf (i:=i) (List.nodup_cons.mp nd).2 (by simpa using h1) (by simpa using h2) hk
theorem Bg {kindOf:Str->Option lc}{x:Str}{v:ae}:∀ {P:List Str}{vs:List ae}{i:Nat}{m:Str->Option ae},P.Nodup->P[i]?=some x->vs[i]?=some v->kindOf x≠some .local ->
  Gh kindOf (P.zip vs) m x=some v
 |[],_,_,_,_,h,_,_=>by simp at h
 |_::_,[],_,_,_,_,h,_=>by simp at h
 |p::P,w::vs,0,m,nd,h1,h2,hk=>by
  simp at h1 h2;subst h1;subst h2;show Gh kindOf ((p,w)::P.zip vs) m p=_;unfold Gh;rw [Be fun v hv=>(List.nodup_cons.mp nd).1 (qM hv).1,if_neg hk];simp
 |p::P,w::vs,i+1,m,nd,h1,h2,hk=>by
  show Gh kindOf ((p,w)::P.zip vs) m x=_;unfold Gh;exact Bg (i:=i) (List.nodup_cons.mp nd).2 (by simpa using h1) (by simpa using h2) hk
def start (N:List Str) (vs:List V):St:=vs.map some++m_ (N.length-vs.length) none
def eK (CX:LN) (P:bd) (w:bv) (K:a7) (mg:Str->Option ae) (base:bt) (N:List Str) (qual:Str) (scope:gq) (f:ah) (cd:ae) (A:bO) (outer:List Env) (s:ai) (H:Hp) (E:XK):Cx where
 prog:=P
 w:=w
 K:=K
 mg:=mg
 base:=base
 A:=A.deeper (jH qual scope s.heap.objs.size f cd)
 N:=N
 s₀:=s
 H₀:=H
 env:=jH qual scope s.heap.objs.size f cd
 outer:=outer
 stack:=jH qual scope s.heap.objs.size f cd::outer
 ex:=[]
 calm:=true
 fn:=fun _=>true
 pn:=[]
 xe:=fun e s'=>ak (ay P w) (A.deeper (jH qual scope s.heap.objs.size f cd)) (Ag (jH qual scope s.heap.objs.size f cd) e) (fun _ s''=>CX outer H s E e s'') (fun e' s''=>CX outer H s E e' s'') s'
theorem DU {sc:gq}{n:Nat}{x:Str} (h:sc.names.lookup x=some .cell):∃ c,(ba n sc.names []).lookup x=some c:=by
 have q:=eW sc.names n [] (.inl h);exact Option.isSome_iff_exists.mp q
theorem Bh {CX:LN}{P:bd}{w:bv}{K:a7}{mg:Str->Option ae}{base:bt}{N ps:List Str}{qual:Str}{scope:gq}{f:ah}{cd:ae}{A:bO}{outer:List Env}{s s1:ai}{H:Hp}{E:XK}{us:List ae}{vs:List V}
  (S:bn N ps scope) (hd:A.handled=none) (e0:GJ P w K mg base A outer s H) (hl:vs.length=ps.length) (r:de vs us)
  (x:InCallC s s.heap.objs.size (Gg (jH qual scope s.heap.objs.size f cd).kindOf (ps.zip us) fun _=>none) (ba (s.heap.objs.size+1) scope.names []) (Gh (jH qual scope s.heap.objs.size f cd).kindOf (ps.zip us) fun _=>none) s1) :
  bx (eK CX P w K mg base N qual scope f cd A outer s H E) [] (start N vs) H s1:=by
 have hpl:ps.length<=N.length:=by have:=congrArg tm S.pre;rw [j0] at this;omega
 obtain ⟨h1,tk,rfl,hk⟩:=x.done;have noA:∀ b:ah,b∉(eK CX P w K mg base N qual scope f cd A outer s H E).ex:=fun b z=>absurd (show b∈([] : List ah) from z) (by simp);refine ⟨⟨e0.mod,S.kind,rfl,rfl,am _,fun y z c h1 h2=>?_,fun y hy=>?_,fun y c _ h=>?_,fun _=>hd,Around.frames_deeper e0.frames,.inr ⟨rfl,rfl⟩,fun b z=>absurd z (noA b),e0.bs,e0.bsz,fun b _ _=>noA b,fun b z=>absurd z (noA b),e0.funs,e0.frf⟩,
  rfl,e0.bare,Un.kept hk,⟨_,x.toInCall.ns,fun i y v h1 h2 h3=>?_⟩,fun y c h=>⟨_,x.cell y c h⟩,e0.hok.fresh (am _),fun y c h=>?_,fun p hp=>absurd (show p∈([] : List (ah×Obj)) from hp) (by simp),e0.hok.kept hk,?_⟩
 ·exact name_of_addr x.apart (da h1) (da h2)
 ·have hy:scope.names.lookup y=some .cell\/scope.names.lookup y=some .free:=hy;rcases hy with hy|hy
  ·exact DU hy
  ·exact absurd rfl (S.nofree _ (da hy))
 ·exact bh (x.above y c (da h))
 ·have hi:i<vs.length:=by
   unfold start at h2;by_cases hi:i<vs.length
   ·exact hi
   ·rw [bc (by simpa using hi)] at h2;rw [bH] at h2;split at h2<;>cases h2
  have ha:vs[i]?=some v:=by
   unfold start at h2;rw [bJ (by simpa using hi),aJ] at h2;cases e:vs[i]? with
   |none=>rw [e] at h2;cases h2
   |some a=>rw [e] at h2;cases h2;rfl
  obtain ⟨u,hu,rv⟩:=r.get ha;have hp:ps[i]?=some y:=by
   rw [<- S.pre,List.getElem?_take_of_lt (by omega)];exact h1
  have ndP:ps.Nodup:=by rw [<- S.pre];exact S.nd.sublist (List.take_sublist _ _)
  refine ⟨u,rv,?_⟩;rcases S.par y (eM hp) with k|k
  ·exact .inl ⟨k,Bf ndP hp hu k⟩
  ·obtain ⟨c,e⟩:=DU (n:=s.heap.objs.size+1) k;refine .inr ⟨.inl k,c,e,?_⟩;have q:=x.cell y c e;rw [Bg ndP hp hu (by show scope.names.lookup y≠_;rw [k];decide)] at q;exact q
 ·exact e0.hok.fresh (bh (x.above y c (da h)))
 ·unfold start;show _=N.length;rw [aL,ar,cQ];omega
theorem Ul {CX:LN}{P:bd}{w:bv}{K:a7}{mg:Str->Option ae}{base:bt}{k:Nat}{f:ah}{name qual:Str}{params:Arguments}{body:List cF}{scope:gq}{dV kV doc pm cdv ct oc:ae}{an od:Option ah}
  {osl:Array (Option ae)}{N ps:List Str}{sp:Sp} (lk:K.lookup f=some ⟨oc,od,.func (ef name qual params body scope dV kV doc pm an cdv ct),osl⟩) (hcd:jI K cdv qual=true) (S:bn N ps scope)
  (len:∀ vs H Q E,sp vs H Q E->vs.length=ps.length)
  (hbody:∀ (A:bO) (outer:List Env) (s:ai) (H:Hp) (vs:List V) (Q:VK) (E:XK),jY k (A.deeper (jH qual scope s.heap.objs.size f cdv))->sp vs H Q E ->
   ∃ t,Cm (eK CX P w K mg base N qual scope f cdv A outer s H E) body t/\t { nx:=fun _ H'=>Q .non H',rt:=Q } (start N vs) H) :
  sZ P w K mg base CX (k+1) f (ef name qual params body scope dV kV doc pm an cdv ct) ps sp:=by
 refine ⟨len,fun A outer s H args us vs Q E hr e0 hb r hsp=>?_⟩;have hl:=len _ _ _ _ hsp;have KX:K.In s.heap:=e0.mod.kin.keeps fun b o e=>(e0.bs b o e).1;have lim:s.heap.NoLimit:=e0.mod.nolimit.keeps fun b o e=>(e0.bs b o e).1;have hkind:∀ y∈ps.zip us,scope.names.lookup y.1=some .local\/(scope.names.lookup y.1=some .cell/\((ba (s.heap.objs.size+1) scope.names []).lookup y.1).isSome=true):=fun ⟨n,v⟩ hy=>by
  rcases S.par n (qM hy).1 with q|q
  ·exact .inl q
  ·exact .inr ⟨q,eW _ _ _ (.inl q)⟩
 refine OZ hr.depth (KX _ _ lk) rfl S.co S.gen rfl (tR KX hcd) (hb _ _ _ _ ?_);refine Gi S.kind hkind fun env he s1 x=>?_;subst he;refine ⟨lim.keeps x.toInCall.keep,codeAny_func ?_⟩;obtain ⟨t,ht,hq⟩:=hbody A outer s H vs Q E (hr.deeper _) hsp;have I:bx (eK CX P w K mg base N qual scope f cdv A outer s H E) [] (start N vs) H s1:=Bh S hr.hd e0 hl r x;refine aV (ht [] s1 (start N vs) H _ I hq) (fun fl s' hs=>?_) fun e s' hs=>hs;have fin:∀ {σ':St}{H':Hp}{v:V}{u:ae},bx (eK CX P w K mg base N qual scope f cdv A outer s H E) [] σ' H' s'->cY v u->Q v H'->CE outer P w H s Q u s' :=
  fun {σ' H' v u} J rv q=>⟨v,H',J.os,J.bare,J.base,J.hok,rv,q⟩
 cases fl with
 |ret u =>
  obtain ⟨v,σ',H',J,rv,q⟩:=hs;exact fin J rv q
 |next =>
  obtain ⟨σ',H',J,q⟩:=hs;exact fin (v:=V.non) (u:=e8) J rfl q
 |brk =>
  obtain ⟨_,_,_,q⟩:=hs;exact ed q
 |cont =>
  obtain ⟨_,_,_,q⟩:=hs;exact ed q
end L2
namespace L2
open PySem PySem.Spec PyProof.Rows
section
variable {X:Cx}{x:Str}{p pos:Pos}{e:bL}{es:List bL}{t:TA}{id T:String}{r:List V->Hp->VK->Prop}
def TZ (r:List V->Hp->VK->Prop) (t:TA):TE:=fun σ H Q=>t σ H fun vs H1=>r vs H1 Q
theorem oO (hc:jN X (.builtin id) r) (hg:Gl X x) (hm:X.mg x=none) (hv:iq x=some (.builtin id)) (ha:PA X (e::es) t) (hn:x≠"__name__":=by decide) (hdb:(x==("__debug__" : Str))=false:=by decide)
  (he:aw (e::es) X.env=(false,cz e X.env)::aw es X.env:=by rfl) (hpl:(gL pos (aw es X.env)).any (·.1)=false:=by rfl):PE X (.Call (.Name x p) (e::es) [] pos) (TZ r t):=by
 intro pins s σ H Q I h;refine pA (qU I hg hm hv ?_ hn hdb);exact PyProof.Rows.callWith_builtin1 (fL (ha pos pins s σ H _ I h) fun us s1 h_27=>by obtain ⟨vs,H1,I1,r1,q1⟩:=h_27;exact hc pins s1 σ H1 vs us Q I1 r1 q1) he hpl
theorem wk (hc:jN X (.type T) r) (hg:Gl X x) (hm:X.mg x=none) (hv:iq x=some (.type T)) (ha:PA X (e::es) t) (hn:x≠"__name__":=by decide) (hdb:(x==("__debug__" : Str))=false:=by decide)
  (he:aw (e::es) X.env=(false,cz e X.env)::aw es X.env:=by rfl) (hpl:(gL pos (aw es X.env)).any (·.1)=false:=by rfl):PE X (.Call (.Name x p) (e::es) [] pos) (TZ r t):=by
 intro pins s σ H Q I h;refine pA (qU I hg hm hv ?_ hn hdb);exact dh (fL (ha pos pins s σ H _ I h) fun us s1 h_28=>by obtain ⟨vs,H1,I1,r1,q1⟩:=h_28;exact hc pins s1 σ H1 vs us Q I1 r1 q1) he hpl
end
end L2
namespace HT
open PySem PyProof.Rows
section
open PySem.SeqAt
open PySem.AutoSeq1 (wpAny_loadPart')
open PySem.MeetsSeq PySem.MeetsSeq2 PySem.MeetsSeq3
end
section
theorem PL   (ht:Ga s.heap t vs.toArray) (hb:Ga s.heap b ws.toArray) (hv:vs≠[])
  (h1:ws=[]->Q (.ref t) s) (h2:ws≠[]->Q (.ref s.heap.objs.size) { s with heap:=s.heap.push { cls:=.type "tuple",data:=.seq (vs++ws).toArray } })
  (hsz:vs.length+ws.length<=sizeLine):ak (ay prog w) A (eV .Add (.ref t) (.ref b)) Q E s:=by
 obtain ⟨⟨cls,dd,data,sl⟩,ho,hc,n,hd⟩:=id ht;obtain ⟨⟨cls2,dd2,data2,sl2⟩,ho2,hc2,n2,hd2⟩:=id hb;simp only at hc hd hc2 hd2;subst hc hd hc2 hd2;have e:vs.toArray++ws.toArray=(vs++ws).toArray:=by simp
 by_cases hw:ws=[]
 ·exact Ah ⟨_,ho,rfl⟩ ⟨_,ho2,rfl⟩ Cc JY pB oH (nY _ _)
   (tuple_addW1 t b vs.toArray ws.toArray n n2 dd dd2 sl sl2 (by simpa using hv) (by simp [hw])) ⟨ho,ho2,h1 hw⟩
 ·refine Ah ⟨_,ho,rfl⟩ ⟨_,ho2,rfl⟩ Cc JY pB oH (nY _ _)
   (tuple_addW2 t b vs.toArray ws.toArray n n2 dd dd2 sl sl2 (by simpa using hv) (by simpa using hw) (by rw [aK,aK];exact hsz)) ⟨ho,ho2,?_⟩
  rw [e];exact h2 hw
def iW (n d:Nat):Option Int->Nat
 |none=>d
 |some v=>if v<0 then (v+(n:Int)).toNat else min v.toNat n
theorem DV (n d:Nat):iW n d none=d:=rfl
theorem IA (n d k:Nat):iW n d (some (k:Int))=min k n:=by
 show (if (k:Int)<0 then ((k:Int)+(n:Int)).toNat else min (k:Int).toNat n)=min k n;rw [if_neg (by omega),ke]
theorem SM (n d:Nat) (hd:d<=n) (o:Option Int):iW n d o<=n:=by
 cases o with
 |none=>exact hd
 |some v =>
  show (if v<0 then (v+(n:Int)).toNat else min v.toNat n)<=n;by_cases hv:v<0
  ·rw [if_pos hv];omega
  ·rw [if_neg hv];exact qy _ _
theorem IB (v:Int) (n d:Nat):(if v<0 then max (v+(n:Int)) 0 else min v (n:Int))=((iW n d (some v):Nat):Int):=by
 show (if v<0 then max (v+(n:Int)) 0 else min v (n:Int))=(((if v<0 then (v+(n:Int)).toNat else min v.toNat n):Nat):Int);by_cases hv:v<0
 ·simp only [if_pos hv];omega
 ·simp only [if_neg hv];omega
theorem GK (lo hi:Option Int) (n:Nat):le lo hi 1 (n:Int)=(((iW n 0 lo:Nat):Int),((iW n n hi:Nat):Int)):=by
 have h1:¬ ((1:Int)<0):=by omega
 unfold le;simp only [h1,if_false];refine Prod.ext ?_ ?_
 ·cases lo with
  |none=>rfl
  |some v=>exact IB v n 0
 ·cases hi with
  |none=>rfl
  |some v=>exact IB v n n
theorem GL (i j:Nat):i8 (i:Int) (j:Int) 1=j-i:=by
 unfold i8;have h1:(1:Int) > 0:=by omega
 simp only [h1,if_true,Int.ediv_one];split<;>omega
theorem yH   (p:vX v o) (h:Q o s):ak (ay prog w) A (Builtin.Slice.slicePartIndex v) Q E s:=by
 cases p with
 |none=>exact slicePart_none h
 |int i t=>exact slicePart_int h
theorem oP {sl:ah}{vl vu:ae}{lo hi:Option Int}{n:Nat}{Q:Int×Int×Nat->ai->Prop} (hs:s.heap.IsSliceOf sl vl vu .none) (pl:vX vl lo) (pu:vX vu hi)
  (h:Q (((iW n 0 lo:Nat):Int),1,iW n n hi-iW n 0 lo) s):ak (ay prog w) A (uI (.ref sl) (pure (n:Int))) Q E s:=by
 obtain ⟨os,hos,hcs,hds⟩:=id hs;unfold uI Builtin.Slice.sliceFields;refine a6 (a6 (du hos hds (x:=vl) rfl (a6 (du hos hds (x:=vu) rfl (a6 (du hos hds (x:=.none) rfl (ac ?_)))))));refine a6 (slicePart_none ?_);show ak _ _ (if ((1:Int)==0)=true then _ else _) _ _ s;rw [if_neg (by decide)];refine a6 (yH pl (a6 (yH pu (a6 (ac ?_)))));show ak _ _ (match le lo hi 1 (n:Int) with|(lo,hi)=>pure (lo,(1:Int),i8 lo hi 1)) _ _ s;rw [GK lo hi n];show ak _ _ (pure (((iW n 0 lo:Nat):Int),(1:Int),i8 ((iW n 0 lo:Nat):Int) ((iW n n hi:Nat):Int) 1)) _ _ s;rw [GL];exact ac h
theorem Mo (xs:Array ae) (i k:Nat):((bg k).filterMap fun (m:Nat)=>xs[((i:Int)+(m:Int)*1).toNat]?).toArray=((xs.toList.drop i).take k).toArray:=by
 have e:(fun (m:Nat)=>xs[((i:Int)+(m:Int)*1).toNat]?)=fun m=>xs[i+m]?:=by
  funext m;have:((i:Int)+(m:Int)*1).toNat=i+m:=by omega
  rw [this]
 rw [e];have:=pick_run xs i k;rw [n5] at this;have e2:((fun x=>xs[x]?)∘fun x=>i+x)=fun m=>xs[i+m]?:=rfl;rw [e2] at this;rw [this]
theorem uR {t sl:ah}{items:Array ae}{vl vu:ae}{lo hi:Option Int}{Q:ae->ai->Prop} (ht:Ga s.heap t items) (hs:s.heap.IsSliceOf sl vl vu .none) (pl:vX vl lo) (pu:vX vu hi)
  (hw:¬ (iW items.size 0 lo=0/\iW items.size items.size hi=items.size))
  (h:Q (.ref s.heap.objs.size) { s with heap:=s.heap.push { cls:=.type "tuple",data:=.seq ((items.toList.drop (iW items.size 0 lo)).take (iW items.size items.size hi-iW items.size 0 lo)).toArray } })
  (hsz:items.size<=sizeLine):ak (ay prog w) A (qF (.ref t) (.ref sl)) Q E s:=by
 have htake:sizeOk (.seq ((items.toList.drop (iW items.size 0 lo)).take (iW items.size items.size hi-iW items.size 0 lo)).toArray):=by
  show ((items.toList.drop (iW items.size 0 lo)).take (iW items.size items.size hi-iW items.size 0 lo)).toArray.size<=sizeLine;rw [aK,j0,j3,ap];omega
 have hj:iW items.size items.size hi<=items.size:=SM _ _ (am _) hi;obtain ⟨os,hos,hcs,hds⟩:=id hs;have hTs:s.TypeIs (.ref sl) "slice":=⟨os,hos,hcs⟩;unfold qF;try with_reducible refine bS ?_
 first|refine a6 (ac ?_)|skip
 refine a6 (wpAny_sequenceKey ht.typeIs (by decide) ?_);refine a6 (cW (name:=j6 "__getitem__") ht.typeIs fU
  (cA fU ht.typeIs entry_tuple_getitem ?_ (args_tuple_getitem _ _)))
 show ak _ _ (uJ (.ref t) >>= _) _ _ s;refine a6 (tupleItemsOf_ ht ?_);refine a6 (jD hTs ?_);rw [if_pos (by decide)];refine a6 (oP hs pl pu ?_);have hno:¬ ((((iW items.size 0 lo:Nat):Int)==0&&(1:Int)==1&&(iW items.size items.size hi-iW items.size 0 lo)==items.size)=true):=by
  intro q;rw [aN,aN] at q;have q1:((iW items.size 0 lo:Nat):Int)=0:=eq_of_beq q.1.1;have q2:iW items.size items.size hi-iW items.size 0 lo=items.size:=eq_of_beq q.2;exact hw ⟨by omega,by omega⟩
 show ak _ _ (if (((iW items.size 0 lo:Nat):Int)==0&&(1:Int)==1&&(iW items.size items.size hi-iW items.size 0 lo)==items.size)=true then _ else _) _ _ s;rw [if_neg hno,Mo];first
  |exact a6 (m:=iu _) (cj (ac ⟨_,rfl,ac h⟩) htake)
  |exact a6 (m:=iu _) (cj (a6 (ac (ac ⟨_,rfl,ac h⟩))) htake)
  |exact a6 (a6 (m:=iu _) (cj (ac (ac ⟨_,rfl,ac h⟩)) htake))
  |exact a6 (a6 (m:=iu _) (cj (ac ⟨_,rfl,ac h⟩) htake))
end
end HT
namespace L2
open PySem PySem.Spec PyProof.Rows
abbrev TO:=St->Hp->(Option Int->Hp->Prop)->Prop
def PO (X:Cx) (e:Option bL) (t:TO):Prop :=
 ∀ (pins:List (ah×Obj)) (s:ai) (σ:St) (H:Hp) (Q:Option Int->Hp->Prop),bx X pins σ H s->t σ H Q ->
  ak (ay X.prog X.w) X.A (evalPart e X.env) (fun u s'=>∃ o H',bx X pins σ H' s'/\vX u o/\Q o H') X.xe s
def PM:TO:=fun _ H Q=>Q none H
def Um (t:TE):TO:=fun σ H Q=>t σ H fun x H1=>∃ i,x=.int i/\Q (some i) H1
section
variable {X:Cx}{e:bL}{te:TE}{lo hi:Option bL}{tl th:TO}{pos p2:Pos}
theorem PN:PO X none PM:=by
 intro pins s σ H Q I h;rw [evalPart_none];exact ac ⟨none,H,I,.none,h⟩
theorem PP (h:PE X e te):PO X (some e) (Um te):=by
 intro pins s σ H Q I hw;rw [evalPart_some];refine fL (h pins s σ H _ I hw) fun u s1 h_29=>?_;obtain ⟨x,H1,I1,r1,q1⟩:=h_29;obtain ⟨i,rfl,q⟩:=q1;obtain ⟨t,rfl⟩:=r1;exact ⟨some i,H1,I1,.int i t,q⟩
def Uo (X:Cx) (r:V->Option Int->Option Int->Hp->VK->Prop):Prop :=
 ∀ (pins:List (ah×Obj)) (s:ai) (σ:St) (H:Hp) (x:V) (v vl vu:ae) (lo hi:Option Int) (sl:ah) (Q:VK),bx X pins σ H s->cY x v->s.heap.IsSliceOf sl vl vu .none->vX vl lo->vX vu hi->r x lo hi H Q ->
  ∃ T id,fu (.type T) "__getitem__"=pure (some (.builtin id))/\s.TypeIs v T/\ak (ay X.prog X.w) X.A (qF v (.ref sl)) (EP X pins σ Q) X.xe s
def XU (r:V->Option Int->Option Int->Hp->VK->Prop) (te:TE) (tl th:TO):TE:=fun σ H Q=>te σ H fun x H1=>tl σ H1 fun l H2=>th σ H2 fun u H3=>r x l u H3 Q
theorem Mp (hr:Uo X r) (he:PE X e te) (hl:PO X lo tl) (hu:PO X hi th):PE X (.Subscript e (.Slice lo hi none p2) pos) (XU r te tl th):=by
 intro pins s σ H Q I h;refine Subscript_ (fL (he pins s σ H _ I h) fun v s1 ⟨x,H1,I1,r1,q1⟩=>?_);refine wpAny_Slice (fL (hl pins s1 σ H1 _ I1 q1) fun vl s2 ⟨l,H2,I2,pl,q2⟩=>fL (hu pins s2 σ H2 _ I2 q2) fun vu s3 ⟨u,H3,I3,pu,q3⟩=>?_);rw [evalPart_none];refine ac ?_;have I4:bx X pins σ H3 { s3 with heap:=s3.heap.push { cls:=.type "slice",data:=.fields #[vl,vu,.none] } }:=I3.kept (t':=s3.toks) fun b ob q=>aa _ q;obtain ⟨T,id,hT,ht,hg⟩:=hr pins { s3 with heap:=s3.heap.push { cls:=.type "slice",data:=.fields #[vl,vu,.none] } } σ H3 x v vl vu l u s3.heap.objs.size Q I4 r1 (Heap.IsSliceOf.new ..) pl pu q3;show ak (ay X.prog X.w) X.A (JZ e (.Slice lo hi none p2) v (.ref s3.heap.objs.size)) (EP X pins σ Q) X.xe { s3 with heap:=s3.heap.push { cls:=.type "slice",data:=.fields #[vl,vu,.none] } };exact tail_any (ops:=[.ref s3.heap.objs.size,v]) ht hT hg (by with_unfolding_all rfl)
def DW (xs:List V) (lo hi:Option Int):List V:=(xs.drop (HT.iW xs.length 0 lo)).take (HT.iW xs.length xs.length hi-HT.iW xs.length 0 lo)
theorem xg (xs:List V) (lo hi:Option Int):(DW xs lo hi).length<=xs.length:=by
 unfold DW;rw [j0,j3];omega
def WD (K:a7):V->Option Int->Option Int->Hp->VK->Prop:=fun x lo hi H Q=>∃ a xs,x=.ref a/\lw K H a xs /\
 ¬ (HT.iW xs.length 0 lo=0/\HT.iW xs.length xs.length hi=xs.length)/\∀ p,H p=none->Q (.ref p) (upd H p (.tup (DW xs lo hi)))
theorem SO:Uo X (WD X.K):=by
 intro pins s σ H x v vl vu lo hi sl Q I rx hs pl pu h;obtain ⟨a,xs,rfl,hx,hw,q⟩:=h;cases rx;obtain ⟨its,r,ht,hz⟩:=I.tuple hx;have hlen:its.toArray.size=xs.length:=by rw [aK];exact r.length.symm
 refine ⟨"tuple",_,PyProof.Rows.slot_tuple_getitem.lookup,ht.typeIs,?_⟩;refine HT.uR ht hs pl pu (by rw [hlen];exact hw) ?_ (by rw [hlen];exact hz);rw [hlen];refine ⟨.ref s.heap.objs.size,_,I.laid (t':=s.toks) (o:=.tup (DW xs lo hi)) (fun b ob q=>aa _ q) (am _) ?_,rfl,q _ (I.hok.fresh (am _))⟩;exact ⟨bK (xg xs lo hi) hz,_,(r.drop (HT.iW xs.length 0 lo)).take (HT.iW xs.length xs.length hi-HT.iW xs.length 0 lo),xA _ _⟩
inductive Mq (K:a7) (x:V) (y:V) (H:Hp) (Q:VK):Prop
 |mk (a b xs ys:_) (h0:x=.ref a) (h1:y=.ref b) (h2:lw K H a xs) (h3:lw K H b ys) (h4:xs≠[]) (h5:xs.length+ys.length<=sizeLine) (h6:(ys=[]->Q (.ref a) H)) (h7:(ys≠[]->∀ p,H p=none->Q (.ref p) (upd H p (.tup (xs++ys))))):Mq K x y H Q
def Up (K:a7):R2:=Mq K
theorem de.nil_iff  (r:de xs us):us=[]↔xs=[]:=by
 cases r with
 |nil=>simp
 |cons _ _=>simp
theorem PQ:pw X (eV .Add) (Up X.K):=by
 intro pins s σ H x y v u Q I rx ry h;obtain ⟨a,b,xs,ys,rfl,rfl,ha,hb,hx,hz,q1,q2⟩:=h;cases rx;cases ry;obtain ⟨its,r1,p1,_⟩:=I.tuple ha;obtain ⟨its2,r2,p2,_⟩:=I.tuple hb;refine HT.PL p1 p2 (fun z=>hx (r1.nil_iff.mp z)) (fun z=>⟨.ref a,H,I,rfl,q1 (r2.nil_iff.mp z)⟩) (fun z=>?_) (by rw [<- r1.length,<- r2.length];exact hz);refine ⟨.ref s.heap.objs.size,_,I.laid (t':=s.toks) (o:=.tup (xs++ys)) (fun b ob q=>aa _ q) (am _) ?_,rfl,q2 (fun w=>z (r2.nil_iff.mpr w)) _ (I.hok.fresh (am _))⟩;exact ⟨by rw [aL];exact hz,_,r1.append r2,xA _ _⟩
end
end L2
namespace L2
open PySem PySem.Spec PyProof.Rows
def Rk (n:Nat) (i:Int):Option Nat:=if 0<=i then (if i<n then some i.toNat else none) else if -(n:Int)<=i then some (i+n).toNat else none
def DJ {α:Type} (xs:List α) (i:Int):Option α:=(Rk xs.length i).bind fun j=>xs[j]?
theorem PR   (h:Rk n i=some j):seqIndex? i n=some j/\j<n/\-(n:Int)<=i/\i<n:=by
 unfold Rk at h;by_cases h0:0<=i
 ·rw [if_pos h0] at h;by_cases h1:i<n
  ·rw [if_pos h1] at h;have e:i.toNat=j:=bD h;exact ⟨by rw [seqIndex_of h0 h1,e],by omega,by omega,h1⟩
  ·rw [if_neg h1] at h;cases h
 ·rw [if_neg h0] at h;by_cases h1:-(n:Int)<=i
  ·rw [if_pos h1] at h;have e:(i+n).toNat=j:=bD h;exact ⟨by rw [seqIndex_neg (by omega) h1,e],by omega,h1,by omega⟩
  ·rw [if_neg h1] at h;cases h
theorem Ct {α:Type}{xs:List α}{i:Int}{v:α} (h:DJ xs i=some v):∃ j,seqIndex? i xs.length=some j/\xs[j]?=some v/\j<xs.length/\-(xs.length:Int)<=i/\i<xs.length:=by
 unfold DJ at h;cases e:Rk xs.length i with
 |none=>rw [e] at h;cases h
 |some j =>
  rw [e] at h;obtain ⟨h1,h2,h3,h4⟩:=PR e;exact ⟨j,h1,h,h2,h3,h4⟩
theorem si {α:Type}{xs:List α}{j:Nat}{v:α} (h:xs[j]?=some v):DJ xs (j:Int)=some v:=by
 have hj:j<xs.length:=(List.getElem?_eq_some_iff.mp h).1;have e:Rk xs.length (j:Int)=some j:=by
  unfold Rk;rw [if_pos (by omega),if_pos (by omega)];simp
 unfold DJ;rw [e];exact h
def yb (b:bL):Prop:=∀ o i,DG b false o i=operate [o,i] (qF o i)
def Uq (X:Cx) (r:R2):Prop :=
 ∀ (value slice:bL) (pins:List (ah×Obj)) (s:ai) (σ:St) (H:Hp) (x y:V) (v u:ae) (Q:VK),bx X pins σ H s->cY x v->cY y u->r x y H Q ->
  DG slice false v u=operate [v,u] (qF v u)->ak (ay X.prog X.w) X.A (JZ value slice v u) (EP X pins σ Q) X.xe s
def WE (X:Cx) (id:String) (r:V->List V->Hp->VK->Prop):Prop :=
 ∀ (pins:List (ah×Obj)) (s:ai) (σ:St) (H:Hp) (x:V) (xs:List V) (v:ae) (us:List ae) (Q:VK),bx X pins σ H s->cY x v->de xs us->r x xs H Q ->
  ak (ay X.prog X.w) X.A (call (.builtin id) (v::us)) (EP X pins σ Q) X.xe s
section
variable {X:Cx}{a b:bL}{ta tb:TE}{pos:Pos}
theorem Rl (hr:Uq X r) (ha:PE X a ta) (hb:PE X b tb) (hs:yb b):PE X (.Subscript a b pos) (Uc r ta tb):=by
 intro pins s σ H Q I h;exact Subscript_ (Sy ha hb I h fun v u s2 x y H2 I2 rx ry q=>hr a b pins s2 σ H2 x y v u Q I2 rx ry q (hs _ _))
inductive Rm (K:a7) (x:V) (y:V) (H:Hp) (Q:VK):Prop
 |mk (p xs i v:_) (h0:x=.ref p) (h1:y=.int i) (h2:nl K H p xs) (h3:DJ xs i=some v) (h4:Q v H):Rm K x y H Q
def Ur (K:a7):R2:=Rm K
inductive Rn (K:a7) (x:V) (y:V) (H:Hp) (Q:VK):Prop
 |mk (p xs i v:_) (h0:x=.ref p) (h1:y=.int i) (h2:lw K H p xs) (h3:DJ xs i=some v) (h4:Q v H):Rn K x y H Q
def WF (K:a7):R2:=Rn K
inductive Ro (x:V) (y:V) (H:Hp) (Q:VK):Prop
 |mk (z i c:_) (h0:x=.str z) (h1:y=.int i) (h2:z.length<=sizeLine) (h3:DJ z.cps.toList i=some c) (h4:Q (.str ⟨#[c]⟩) H):Ro  x y H Q
def WG:R2:=Ro
theorem yc:Uq X (Ur X.K):=by
 intro value slice pins s σ H x y v u Q I rx ry h hs;obtain ⟨p,xs,i,z,rfl,rfl,hq,he,q⟩:=h;cases rx;obtain ⟨t,rfl⟩:=ry;obtain ⟨its,r,pl,hz⟩:=I.list hq;obtain ⟨j,h1,h2,h3,h4,h5⟩:=Ct he;obtain ⟨w,ew,rw'⟩:=r.get h2;have hl:=r.length;have hn:=yG;have fin:EP X pins σ Q w s:=⟨z,H,I,rw',q⟩;by_cases h0:0<=i
 ·have hj:i.toNat=j:=by
   rw [seqIndex_of h0 h5] at h1;exact bD h1
  exact item_listR pl.isList h0 (by omega) (by rw [hj];simpa using ew) fin hs
 ·have hj:(i+(its.toArray.size:Int)).toNat=j:=by
   rw [seqIndex_neg (by omega) h4] at h1;rw [aK,<- hl];exact bD h1
  exact LU (x:=w) pl.isList.typeIs slot_list_getitem.lookup
   (wpAny_getItem_list_neg (Q:=fun r s'=>r=w/\EP X pins σ Q r s') pl.isList (by omega) (by rw [aK]<;>omega) (by omega) (by rw [hj];simpa using ew) ⟨rfl,fin⟩) hs
theorem SQ:Uq X (WF X.K):=by
 intro value slice pins s σ H x y v u Q I rx ry h hs;obtain ⟨p,xs,i,z,rfl,rfl,hq,he,q⟩:=h;cases rx;obtain ⟨t,rfl⟩:=ry;obtain ⟨its,r,pl,hz⟩:=I.tuple hq;obtain ⟨j,h1,h2,h3,h4,h5⟩:=Ct he;obtain ⟨w,ew,rw'⟩:=r.get h2;have hl:=r.length;have hn:=yG;have fin:EP X pins σ Q w s:=⟨z,H,I,rw',q⟩;exact LU (x:=w) pl.typeIs slot_tuple_getitem.lookup
  (getItem_tuple (j:=j) (Q:=fun r s'=>r=w/\EP X pins σ Q r s') pl (by omega) (by omega) (by rw [aK,<- hl];exact h1) (by simpa using ew) ⟨rfl,fin⟩) hs
theorem SS:Uq X WG:=by
 intro value slice pins s σ H x y v u Q I rx ry h hs;obtain ⟨z,i,c,rfl,rfl,hz,he,q⟩:=h;obtain ⟨t,rfl⟩:=rx;obtain ⟨t',rfl⟩:=ry;obtain ⟨j,h1,h2,h3,h4,h5⟩:=Ct he;have hl:z.cps.toList.length=z.length:=by simp [Str.length]
 rw [hl] at h1 h4 h5;have hn:=yG;exact tail_any (typeIs_str s z t) slot_str_getitem.lookup (getItem_str (c:=c) (by
  have e1:decide (i < -(2 ^ 63:Int))=false:=decide_eq_false (by omega);have e2:decide (i ≥ 2 ^ 63)=false:=decide_eq_false (by omega);rw [e1,e2,Bool.or_false]) (by rw [h1];simpa using h2) ⟨.str ⟨#[c]⟩,H,I.tok _,⟨_,rfl⟩,q⟩) hs
theorem Cu (lo hi:Option Int) (n:Nat):(mU lo hi none n).1=((HT.iW n 0 lo:Nat):Int)/\(mU lo hi none n).2.1=((HT.iW n n hi:Nat):Int)/\(mU lo hi none n).2.2=1:=by
 refine ⟨?_,?_,rfl⟩
 ·cases lo with
  |none=>simp [mU,HT.iW]
  |some i =>
   simp only [mU,HT.iW,gQ,show (1:Int) > 0 by decide,if_true];by_cases h:i<0
   ·simp only [h,if_true]<;>omega
   ·simp only [h,if_false]<;>omega
 ·cases hi with
  |none=>simp [mU,HT.iW]
  |some i =>
   simp only [mU,HT.iW,gQ,show (1:Int) > 0 by decide,if_true];by_cases h:i<0
   ·simp only [h,if_true]<;>omega
   ·simp only [h,if_false]<;>omega
theorem Av (its:List ae) (lo hi:Option Int):slicePick its.toArray lo hi none=((its.drop (HT.iW its.length 0 lo)).take (HT.iW its.length its.length hi-HT.iW its.length 0 lo)).toArray:=by
 obtain ⟨h1,h2,h3⟩:=Cu lo hi its.toArray.size;unfold slicePick;rw [h1,h2,h3];simp only [sliceRange_one,pick_run,aK]<;>rfl
def WH (K:a7):V->Option Int->Option Int->Hp->VK->Prop:=fun x lo hi H Q=>∃ a xs,x=.ref a/\nl K H a xs/\∀ p,H p=none->Q (.ref p) (upd H p (.lst (DW xs lo hi)))
theorem PU:Uo X (WH X.K):=by
 intro pins s σ H x v vl vu lo hi sl Q I rx hs pl pu h;obtain ⟨a,xs,rfl,hx,q⟩:=h;cases rx;obtain ⟨its,r,ht,hz⟩:=I.list hx;have hlen:=r.length;refine ⟨"list",_,slot_list_getitem.lookup,ht.isList.typeIs,?_⟩;refine wpAny_getItem_list_slice ht.isList hs pl pu .none (by simp) ?_ (by rw [aK]<;>omega);rw [Av,<- hlen];refine ⟨.ref s.heap.objs.size,_,I.laid (t':=s.toks) (o:=.lst (DW xs lo hi)) (fun b ob q=>aa _ q) (am _) ?_,rfl,q _ (I.hok.fresh (am _))⟩;exact ⟨bK (xg xs lo hi) hz,_,0,(r.drop (HT.iW xs.length 0 lo)).take (HT.iW xs.length xs.length hi-HT.iW xs.length 0 lo),aB _ rfl⟩
def qX:V->Bool
 |.non=>true
 |.bl _=>true
 |.int _=>true
 |.str _=>true
 |_=>false
def PV:V->V->Bool
 |.non,.non=>true
 |.bl a,.bl b=>a==b
 |.bl a,.int b=>(if a then 1 else 0)==b
 |.int a,.bl b=>a==(if b then 1 else 0)
 |.int a,.int b=>a==b
 |.str a,.str b=>a==b
 |_,_=>false
theorem SU    (ry:cY y u) (rx:cY x v) (fy:qX y=true) (fx:qX x=true):J_ A s u v (PV y x):=by
 cases y with
 |non =>
  cases ry;cases x with
  |non=>cases rx;exact SeqAt.EqAt.same _
  |bl b=>cases rx;exact SeqAt.EqAt.none_bool b
  |int b=>obtain ⟨t,rfl⟩:=rx;exact SeqAt.EqAt.none_int b t
  |str b=>obtain ⟨t,rfl⟩:=rx;exact SeqAt.EqAt.none_str b t
  |_=>exact absurd (show false=true from fx) aH
 |bl a =>
  cases ry;cases x with
  |non=>cases rx;exact SeqAt.EqAt.bool_none a
  |bl b=>cases rx;exact B3 a b
  |int b=>obtain ⟨t,rfl⟩:=rx;exact SeqAt.EqAt.bool_int a b t
  |str b=>obtain ⟨t,rfl⟩:=rx;exact SeqAt.EqAt.bool_str a b t
  |_=>exact absurd (show false=true from fx) aH
 |int a =>
  obtain ⟨t',rfl⟩:=ry;cases x with
  |non=>cases rx;exact SeqAt.EqAt.int_none a t'
  |bl b=>cases rx;exact SeqAt.EqAt.int_bool a t' b
  |int b=>obtain ⟨t,rfl⟩:=rx;exact SeqAt.EqAt.int_int a t' b t
  |str b=>obtain ⟨t,rfl⟩:=rx;exact DC a t' b t
  |_=>exact absurd (show false=true from fx) aH
 |str a =>
  obtain ⟨t',rfl⟩:=ry;cases x with
  |non=>cases rx;exact SeqAt.EqAt.str_none a t'
  |bl b=>cases rx;exact SeqAt.EqAt.str_bool a t' b
  |int b=>obtain ⟨t,rfl⟩:=rx;exact DD a t' b t
  |str b=>obtain ⟨t,rfl⟩:=rx;exact SeqAt.EqAt.str_str a t' b t
  |_=>exact absurd (show false=true from fx) aH
 |_=>exact absurd (show false=true from fy) aH
def GM (x:V) (u:ae):Bool:=match u with
 |.none=>PV .non x
 |.bool b=>PV (.bl b) x
 |.int i _=>PV (.int i) x
 |.str z _=>PV (.str z) x
 |_=>false
theorem Mr  (r:cY y u) (f:qX y=true):GM x u=PV y x:=by
 cases y with
 |non=>cases r;rfl
 |bl b=>cases r;rfl
 |int i=>obtain ⟨t,rfl⟩:=r;rfl
 |str z=>obtain ⟨t,rfl⟩:=r;rfl
 |_=>exact absurd (show false=true from f) aH
theorem uS:∀ {xs:List V}{us:List ae},de xs us->xs.all qX=true->us.any (GM x)=xs.any fun y=>PV y x
 |_,_,.nil,_=>rfl
 |y::xs,u::us,.cons r t,f=>by
  rw [uK,aN] at f;rw [fv,fv,Mr r f.1,uS t f.2]
theorem qY    (rx:cY x v) (fx:qX x=true):∀ {xs:List V}{us:List ae},de xs us->xs.all qX=true->∀ u∈us,J_ A s u v (GM x u)
 |_,_,.nil,_=>fun u hu=>by cases hu
 |y::xs,u::us,.cons r t,f=>fun u' hu=>by
  rw [uK,aN] at f;rcases List.mem_cons.mp hu with rfl|hu
  ·rw [Mr r f.1];exact SU r rx f.1 fx
  ·exact qY rx fx t f.2 u' hu
def VV (x:V) (xs:List V):Bool:=xs.any fun y=>PV y x
inductive Us (K:a7) (neg:Bool) (x:V) (y:V) (H:Hp) (Q:VK):Prop
 |mk (p xs:_) (h0:y=.ref p) (h1:(nl K H p xs\/lw K H p xs)) (h2:qX x=true) (h3:xs.all qX=true) (h4:Q (.bl (if neg then !VV x xs else VV x xs)) H):Us K neg x y H Q
def WI (K:a7) (neg:Bool):R2:=Us K neg
theorem Ki:pw X (bG .In) (WI X.K false):=by
 intro pins s σ H x y v u Q I rx ry h;obtain ⟨p,xs,rfl,hq,fx,fs,q⟩:=h;cases ry;rcases hq with hq|hq
 ·obtain ⟨its,r,pl,hz⟩:=I.list hq;refine SeqAt.in_listAt (GM x) pl.isList (fun w hw=>qY rx fx r fs w (by simpa using hw)) ⟨.bl _,H,I,rfl,?_⟩;rw [show its.toArray.any (GM x)=its.any (GM x) by simp,uS r fs];exact q
 ·obtain ⟨its,r,pl,hz⟩:=I.tuple hq;refine SeqAt.in_tupleAt (GM x) pl (fun w hw=>qY rx fx r fs w (by simpa using hw)) ⟨.bl _,H,I,rfl,?_⟩;rw [show its.toArray.any (GM x)=its.any (GM x) by simp,uS r fs];exact q
theorem Cv:pw X (bG .NotIn) (WI X.K true):=by
 intro pins s σ H x y v u Q I rx ry h;obtain ⟨p,xs,rfl,hq,fx,fs,q⟩:=h;cases ry;rcases hq with hq|hq
 ·obtain ⟨its,r,pl,hz⟩:=I.list hq;refine SeqAt.notIn_listAt (GM x) pl.isList (fun w hw=>qY rx fx r fs w (by simpa using hw)) ⟨.bl _,H,I,rfl,?_⟩;rw [show its.toArray.any (GM x)=its.any (GM x) by simp,uS r fs];exact q
 ·obtain ⟨its,r,pl,hz⟩:=I.tuple hq;refine SeqAt.notIn_tupleAt (GM x) pl (fun w hw=>qY rx fx r fs w (by simpa using hw)) ⟨.bl _,H,I,rfl,?_⟩;rw [show its.toArray.any (GM x)=its.any (GM x) by simp,uS r fs];exact q
theorem uT:jN X (.builtin "len") (fun xs H Q=>∃ p ys,xs=[.ref p]/\(nl X.K H p ys\/lw X.K H p ys)/\Q (.int ys.length) H):=by
 intro pins s σ H xs us Q I r h;obtain ⟨p,ys,rfl,hq,q⟩:=h;obtain ⟨u,rfl,rx⟩:=lC r;cases rx;have hn:=yG;rcases hq with hq|hq
 ·obtain ⟨its,r',pl,hz⟩:=I.list hq;have hlen:=r'.length;exact Calls.call_len_list pl.isList (by simp only [aK]<;>omega) ⟨.int ys.length,H,I.tok _,⟨s.toks+1,by rw [aK,hlen]⟩,q⟩
 ·obtain ⟨its,r',pl,hz⟩:=I.tuple hq;have hlen:=r'.length;exact len_tuple pl (by simp only [aK]<;>omega) ⟨.int ys.length,H,I.tok _,⟨s.toks+1,by rw [aK,hlen]⟩,q⟩
theorem Cy:jN X (.builtin "len") (fun xs H Q=>∃ z,xs=[.str z]/\z.length<=sizeLine/\Q (.int z.length) H):=by
 intro pins s σ H xs us Q I r h;obtain ⟨z,rfl,hz,q⟩:=h;obtain ⟨u,rfl,t,rfl⟩:=lC r;have hn:=yG;exact len_str (by omega) ⟨.int z.length,H,I.tok _,⟨_,rfl⟩,q⟩
theorem uU:jN X (.type "list") (fun xs H Q=>∃ p ys,xs=[.ref p]/\(nl X.K H p ys\/lw X.K H p ys)/\∀ l,H l=none->Q (.ref l) (upd H l (.lst ys))):=by
 intro pins s σ H xs us Q I r h;obtain ⟨p,ys,rfl,hq,q⟩:=h;obtain ⟨u,rfl,rx⟩:=lC r;cases rx;have fin:∀ (its:List ae),de ys its->ys.length<=sizeLine->∀ (h':bt) (c':Nat),(∀ b o',s.heap.get? b=some o'->h'.get? b=some o') ->
   h'.get? s.heap.objs.size=some { cls:=.type "list",dict:=none,data:=.seq its.toArray c',slots:=#[] }->EP X pins σ Q (.ref s.heap.objs.size) { s with heap:=h' }:=fun its r' hz h' c' kp e =>
  ⟨.ref s.heap.objs.size,_,I.laid (t':=s.toks) kp (am _) (show cU X.prog X.w _ h' _ (.lst ys) from ⟨hz,its,c',r',e⟩),rfl,q _ (I.hok.fresh (am _))⟩
 rcases hq with hq|hq
 ·obtain ⟨its,r',pl,hz⟩:=I.list hq;have hlen:=r'.length;obtain ⟨o,ho,hc,n,hd⟩:=pl.isList;exact call_list_seq p (.inl rfl) ho hc hd (fun h' c' kp e=>fin its r' hz h' c' kp e) (by simp only [aK]<;>omega)
 ·obtain ⟨its,r',pl,hz⟩:=I.tuple hq;have hlen:=r'.length;obtain ⟨o,ho,hc,n,hd⟩:=pl;exact call_list_seq p (.inr rfl) ho hc hd (fun h' c' kp e=>fin its r' hz h' c' kp e) (by simp only [aK]<;>omega)
theorem tF:jN X (.type "tuple") (fun xs H Q=>∃ p ys,xs=[.ref p]/\((nl X.K H p ys/\∀ l,H l=none->Q (.ref l) (upd H l (.tup ys)))\/(lw X.K H p ys/\Q (.ref p) H))):=by
 intro pins s σ H xs us Q I r h;obtain ⟨p,ys,rfl,h⟩:=h;obtain ⟨u,rfl,rx⟩:=lC r;cases rx;rcases h with ⟨hq,q⟩|⟨hq,q⟩
 ·obtain ⟨its,r',pl,hz⟩:=I.list hq;have hlen:=r'.length;refine call_tuple_list pl.isList (fun h' kp=>?_) (by simp only [aK]<;>omega);have I1:bx X pins σ H { s with heap:=h' }:=I.kept (t':=s.toks) kp;have I2:bx X pins σ (upd H h'.objs.size (.tup ys)) { s with heap:=h'.push { cls:=.type "tuple",data:=.seq its.toArray } } :=
   I1.laid (t':=s.toks) (fun b o e=>aa _ e) (am _) (show cU X.prog X.w _ _ _ (.tup ys) from ⟨hz,its,r',xA _ _⟩)
  exact ⟨.ref h'.objs.size,_,I2,rfl,q _ (I1.hok.fresh (am _))⟩
 ·obtain ⟨its,r',pl,hz⟩:=I.tuple hq;exact call_tuple_same pl ⟨.ref p,H,I,rfl,q⟩
def Xm (K:a7) (T:String) (x:V) (H:Hp):Prop:=match x with
 |.str _=>T="str"
 |.int _=>T="int"
 |.ref p=>(T="list"/\∃ xs,nl K H p xs)\/(T="tuple"/\∃ o,K.lookup p=some o/\o.cls=.type "tuple"/\o.dict=none) \/
   (T="dict"/\((∃ kvs,H p=some (.dK kvs))\/∃ kvs,H p=some (.dT kvs)))\/(T="set"/\∃ S n,H p=some (.set S n))
 |_=>False
theorem SW       (I:bx X pins σ H s) (r:cY x v) (ty:Xm X.K T x H) :
  s.TypeIs v T/\∀ a,v=.ref a->∃ ob,s.heap.get? a=some ob/\ob.dict=none:=by
 cases x with
 |str z =>
  obtain ⟨t,rfl⟩:=r;cases (show T="str" from ty);exact ⟨typeIs_str s z t,fun _ e=>nomatch e⟩
 |int i =>
  obtain ⟨t,rfl⟩:=r;cases (show T="int" from ty);exact ⟨typeIs_int s i t,fun _ e=>nomatch e⟩
 |ref p =>
  cases r;rcases ty with ⟨rfl,xs,hq⟩|⟨rfl,o,hk,hc,hd⟩|⟨rfl,hk⟩|⟨rfl,S,n,hk⟩
  ·obtain ⟨its,_,pl,_⟩:=I.list hq;refine ⟨pl.isList.typeIs,fun a e=>?_⟩;cases e;obtain ⟨o,n,e,c,hd,_⟩:=pl;exact ⟨o,e,hd⟩
  ·refine ⟨⟨o,I.kIn p o hk,hc⟩,fun a e=>?_⟩;cases e;exact ⟨o,I.kIn _ o hk,hd⟩
  ·have z:∃ o,s.heap.get? p=some o/\o.ExactDict:=by
    rcases hk with ⟨kvs,hk⟩|⟨kvs,hk⟩
    ·obtain ⟨_,_,_,_,o,_,_,e,ex,_⟩:=I.hok p _ hk;exact ⟨o,e,ex⟩
    ·obtain ⟨_,_,_,_,o,_,_,e,ex,_⟩:=I.hok p _ hk;exact ⟨o,e,ex⟩
   obtain ⟨o,e,ex⟩:=z;refine ⟨⟨o,e,ex.1⟩,fun a e2=>?_⟩;cases e2;exact ⟨o,e,ex.2.1⟩
  ·obtain ⟨o,_,_,_,e,ex,_⟩:=I.hok p _ hk;refine ⟨⟨o,e,ex.1⟩,fun a e2=>?_⟩;cases e2;exact ⟨o,e,ex.2.1⟩
 |_=>exact ed ty
def XV (K:a7) (T:String) (r:V->List V->Hp->VK->Prop) (to:TE) (t:TA):TE:=fun σ H Q=>to σ H fun x H1=>Xm K T x H1/\t σ H1 fun xs H2=>r x xs H2 Q
variable {o e:bL}{es:List bL}{to:TE}{t:TA}{name:Str}{apos cpos:Pos}{T id:String}{r:V->List V->Hp->VK->Prop}
theorem Bj (pa:PlainAttrs T) (slot:Slot T name id) (hty:typeOf (.builtin id)=pure (.type "method_descriptor")) (hm:WE X id r) (ho:PE X o to) (ha:PA X (e::es) t)
  (hbase:mQ o name X.env (cz o X.env)=cz o X.env:=by rfl)
  (hfew:((gL cpos (aw (e::es) X.env)).all (fun x=>!x.1)&&(backToKw cpos (P7 [] X.env)).all (fun x=>x.1.isSome)
   && decide ((e::es).length+([] : List FV).length+(if ([] : List FV).isEmpty then 0 else 1)<30))=true:=by rfl)
  (hline:(apos.endLine==cpos.line)=true:=by rfl) (hs:aw (e::es) X.env=(false,cz e X.env)::aw es X.env:=by rfl) (hplain:(gL cpos (aw es X.env)).any (·.1)=false:=by rfl) :
  PE X (.Call (.Attribute o name apos) (e::es) [] cpos) (XV X.K T r to t):=by
 intro pins s σ H Q I h;refine wpAny_Call_method_late hbase hfew hline rfl (fL (ho pins s σ H _ I h) fun v s1 ⟨x,H1,I1,r1,ty,q1⟩=>?_);obtain ⟨h1,h2⟩:=SW I1 r1 ty;refine ⟨T,id,pa,slot,hty,h1,h2,?_⟩;have hA:=ha cpos pins s1 σ H1 _ I1 q1;rw [hs] at hA ⊢;refine Calls.callWith_builtin (by show (false||(gL cpos (aw es X.env)).any (·.1))=false;rw [hplain]<;>rfl) (li ?_);exact fL hA fun us s2 h_30=>by obtain ⟨vs,H2,I2,r2,q2⟩:=h_30;exact hm pins s2 σ H2 x vs v us Q I2 r1 r2 q2
end
end L2
namespace L2
open PySem PySem.Spec PyProof.Rows
def Xn (X:Cx) (id:String) (r:V->List V->Hp->VK->Prop):Prop :=
 ∀ (pins:List (ah×Obj)) (s:ai) (σ:St) (H:Hp) (x:V) (xs:List V) (v:ae) (us:List ae) (Q:VK),bx X pins σ H s->cY x v->de xs us->r x xs H Q ->
  ak (ay X.prog X.w) X.A (call (.builtin id) (v::us)) (EP X pins σ Q) X.xe s
theorem de.one  (h:de [x] us):∃ u,us=[u]/\cY x u:=by
 cases h with|cons r t=>cases t;exact ⟨_,rfl,r⟩
section
theorem bx.lset {its its':List ae}{n:Nat}{f:Array ae->Array ae}{t':Nat} (I:bx X pins σ H s) (hH:H l=some (.lst xs))
  (e:s.heap.get? l=some { cls:=.type "list",data:=.seq its.toArray n }) (hf:f its.toArray=its'.toArray) (hv:de ys its') (hz:ys.length<=sizeLine) :
  bx X pins σ (upd H l (.lst ys)) { s with heap:=s.heap.update l (lj f),toks:=t' }:=by
 have q:=PySem.IsL.update e f;rw [hf] at q;refine I.write (x:=l) (e:=l) (by rw [hH];exact trivial) (.inl rfl) (fun b' u hb hu=>(qG s.heap (lj f) (cZ hb)).trans hu) ⟨_,q⟩ ?_;exact ⟨hz,its',_,hv,q⟩
theorem bx.lnew  (I:bx X pins σ H s) (hv:de ys its) (hz:ys.length<=sizeLine) :
  bx X pins σ (upd H s.heap.objs.size (.lst ys)) { s with heap:=s.heap.push { cls:=.type "list",data:=.seq its.toArray },toks:=t' } :=
 I.laid (fun _ _ q=>aa _ q) (am _) ⟨hz,its,0,hv,aB _ rfl⟩
theorem bx.fresh (I:bx X pins σ H s):H s.heap.objs.size=none:=I.hok.fresh (am _)
theorem bx.lstM (I:bx X pins σ H s) (hH:H l=some (.lst xs)):Xj s.heap l xs:=by
 obtain ⟨z,its,n,r,e⟩:=I.hok l _ hH;exact ⟨z,its,n,r,r.length,e⟩
theorem Ms (h:n<=sizeLine):lU n=false:=by
 unfold lU;exact decide_eq_false (by omega)
end
section
inductive DX (x:V) (vs:List V) (H:Hp) (Q:VK):Prop
 |mk (l xs y:_) (h0:x=.ref l) (h1:vs=[y]) (h2:H l=some (.lst xs)) (h3:xs.length<sizeLine) (h4:Q .non (upd H l (.lst (xs++[y])))):DX  x vs H Q
def PX:V->List V->Hp->VK->Prop:=DX
theorem Bk:Xn X "list.append" PX:=by
 intro pins s σ H x vs v us Q I rx rv h;obtain ⟨l,xs,y,rfl,rfl,hH,hz,q⟩:=h;cases rx;obtain ⟨u,rfl,ru⟩:=rv.one;obtain ⟨z,its,n,r,hl,e⟩:=I.lstM hH;refine yt F.slot_list_append ⟨_,e,rfl⟩ F.entry_list_append (F.args_list_append_2 _ _) (PySem.list_append l its.toArray n u (by rw [aK];omega)) ⟨e,?_⟩;refine ⟨.non,_,I.lset (its':=its++[u]) hH e (by simp) (r.append (.cons ru .nil)) ?_,rfl,q⟩;rw [aL,ik];omega
inductive DY (x:V) (vs:List V) (H:Hp) (Q:VK):Prop
 |mk (l b xs zs:_) (h0:x=.ref l) (h1:vs=[.ref b]) (h2:H l=some (.lst xs)) (h3:H b=some (.lst zs)) (h4:xs.length+zs.length<=sizeLine) (h5:Q .non (upd H l (.lst (xs++zs)))):DY  x vs H Q
def PY:V->List V->Hp->VK->Prop:=DY
theorem Bl:Xn X "list.extend" PY:=by
 intro pins s σ H x vs v us Q I rx rv h;obtain ⟨l,b,xs,zs,rfl,rfl,hH,hB,hz,q⟩:=h;cases rx;obtain ⟨u,rfl,ru⟩:=rv.one;cases ru;obtain ⟨z,its,n,r,hl,e⟩:=I.lstM hH;obtain ⟨z2,its2,n2,r2,hl2,e2⟩:=I.lstM hB;have hsz:its.toArray.size+its2.toArray.size<=sizeLine:=by rw [aK,aK];omega
 have hlong:¬ (!its.toArray.isEmpty&&lU (its.toArray.size+its2.toArray.size))=true:=by
  rw [Ms hsz,n6];exact aH
 refine yt F.slot_list_extend ⟨_,e,rfl⟩ F.entry_list_extend (F.args_list_extend_2 _ _)
  (AutoSeq1.list_extend_list_list_0 l its.toArray n b its2.toArray n2 hlong (by rw [aK];omega) (by omega)) ⟨e,e2,?_⟩
 refine ⟨.non,_,I.lset (its':=its++its2) hH e (by simp) (r.append r2) ?_,rfl,q⟩;rw [aL];omega
end
section
end
section
end
end L2
namespace Att
open PySem PySem.W PySem.Calls PyProof.Rows
theorem xJ  : ∀ (ns:List Int) (vs:List ae),WellAll P h vs (ns.map WData.int)->LV vs ns:=by
 intro ns;induction ns with
 |nil =>
  intro vs w;rw [eE] at w;cases w;exact .nil
 |cons n ns ih =>
  intro vs w;rw [aM] at w;cases w with
  |cons a b =>
   cases a;exact .cons _ _ (ih _ b)
theorem Kj {l:OpenLaw}{n:Nat} (hn:l.most=some n) {P:Params}{h:bt}{args:List WData}{vals:List ae}
  (hpre:l.row.toRowW.claim.pre args=true) (hwl:WellAll P h vals args) :
  ∃ a vs ns,vals=[bj a]/\args=[WData.list (ns.map WData.int)]/\h.get? a=some { cls:=.type "list",data:=.seq vs.toArray }/\LV vs ns/\ns.length<=n:=by
 have hsh:WShape.hasAll [] args [.list .int]=true:=(pre_splitW hpre).1;have hc:l.pre.holds [] { args:=args }=true:=(pre_splitW hpre).2;obtain ⟨d,r,rfl,h1,h2⟩:=hasAllW_cons hsh;obtain rfl:=hasAllW_nil h2;obtain ⟨xs,rfl,h3⟩:=hasW_list h1;obtain ⟨ns,rfl⟩:=items_int h3;have hlen:ns.length<=n:=by
  unfold OpenLaw.pre at hc;have h4:(WTm.not (.lt (.lit (.int (n:Int))) (.len (.arg 0)))).holds [] { args:=[.list (ns.map .int)] }=true:=by
   have h4:=(holds_andW hc).1;rw [hn] at h4;exact h4
  have h5:=condW_of h4 (w_not (w_lt w_lit (w_len_list (w_arg rfl))));rw [ar] at h5;refine P8 fun q=>?_;have q':(n:Int)<((ns.length:Nat):Int):=by omega
  first
   |(rw [decide_eq_true q'] at h5;exact absurd h5 (by decide))
   |(simp at h5;omega)
 cases hwl with
 |cons w1 w2 =>
  cases w2;cases w1 with
  |list ho hall=>exact ⟨_,_,ns,rfl,rfl,ho,xJ ns _ hall,hlen⟩
theorem Kk (l:OpenLaw) (args:List WData):l.row.toRowW.claim.post args (.bool true) args=true :=
 postW_of (r:=l.row.toRowW) (X:=(true==true))
  (show WShape.has [] (.bool true) .bool=true by first|rfl|decide|simp [WShape.has,WShape.arms,WShape.armsAll])
  (show (WTm.eq .res (.lit (.bool true))).value [] { args:=args,res:=some (.bool true),after:=args }=some (.bool (true==true)) from w_eq_bool (w_res rfl) w_lit) rfl
theorem attach_call {l:OpenLaw}{n:Nat}{q:bd}{loose:List Str}{XP:(Str->Option ae)->bt->Prop}{YP:bv->bt->Prop}{d:DefRec}
  (hn:l.most=some n) (hdf:d.params.defaults=[])
  (call:∀ (w:bv) (s₀ s₁:ai) (mg mb:Str->Option ae) (fa:ah) (o:Obj) (pm cd doc:ae) (a:ah) (vs:List ae) (ns:List Int),
   Ground q loose [] XP w s₀ mg mb s₁.heap->YP w s₁.heap ->
   s₁.heap.get? fa=some o->o.data=.func (docDef d.name d.params d.body d.scope pm cd doc)->s₁.heap.CodeRec cd d.name->mg d.name=some (.ref fa) ->
   s₁.heap.get? a=some { cls:=.type "list",data:=.seq vs.toArray }->LV vs ns->ns.length<=n->s₁.gens=#[] ->
   h_ (ay l.prog w) wX (.call (.ref fa) ⟨[.ref a],[]⟩) (fun r s'=>r=.ok (.ret (.bool true))/\OldK s₁.heap s'.heap/\s'.os=s₁.os/\qD s'.gens) s₁) :
  WalkO q loose XP YP l.row.toRowW d [] (fun f vs=>K0 f vs):=by
 intro w s₀ s₁ mg mb G Y fa o pm cd doc dV kV ho hd hcd hD hmg hg args vals as hpre hlay hrd hwl hlo;obtain rfl:dV=.none:=Dflts.none hD hdf;obtain rfl:kV=.none:=Dflts.noKw hD;obtain ⟨a,vs,ns,rfl,rfl,hobj,hints,hlen⟩:=Kj hn hpre hwl;refine enter_call (oG (call w s₀ s₁ mg mb fa o pm cd doc a vs ns G Y ho (fd_plain hd) hcd hmg hobj hints hlen hg) fun r s' hq=>?_);obtain ⟨rfl,h2,h3,h4⟩:=hq;exact ⟨.inl ⟨.bool true,.bool true,[],rfl,fun _=>rfl,.bool true,Kk l _,fun _=>⟨B4,fun _ hm=>(nomatch hm)⟩⟩,h2,h3,h4⟩
section
variable {prog:bd}{w:bv}{A:bO}{E:ae->ai->Prop}{s:ai}{K:Frag}
def WJ (h:bt) (L d:ah):List (ah×Obj):=(bg h.objs.size).filterMap fun a=>if a=L\/a=d then none else (h.get? a).map fun o=>(a,o)
end
end Att
namespace L2
open PySem PySem.Spec PyProof.Rows
theorem Kl  (h:LV vs ns):de (ns.map V.int) vs:=by
 induction h with
 |nil=>exact .nil
 |cons n t h ih=>exact .cons ⟨t,rfl⟩ ih
def SX (H:Hp):Prop:=∀ b,H b=none\/∃ o xs,H b=some (.frz o (.lst xs))
theorem Mt {P:bd}{w:bv}{K:a7}{mg mb:Str->Option ae}{CX:LN}{k:Nat}{fa a:ah}{fd:eI}{x:Str}{sp:Sp}{s₁:ai}{vs:List ae}{ns:List Int}
  (KX:K.In s₁.heap) (hns:s₁.heap.Ns bq mg) (hb:s₁.heap.Ns builtinsNs mb) (hbb:∀ x:Str,x≠"__name__"->mb x=iq x) (hlim:s₁.heap.NoLimit) (hg:s₁.gens=#[])
  (ha:s₁.heap.get? a=some { cls:=.type "list",data:=.seq vs.toArray }) (hi:LV vs ns) (hl:ns.length<=sizeLine) (hr:jY k wX)
  (F:∀ base:bt,K.In base->base.Ns bq mg->sZ P w K mg base CX k fa fd [x] sp) (hbind:∀ (s:ai) (u:ae),wW s fd ⟨[u],[]⟩ [(x,u)])
  (hsp:∀ H:Hp,SX H->nl K H a (ns.map V.int)->sp [.ref a] H (fun v _=>v=.bl true) fun _ _ _=>False)
  (hCX:∀ H e s',CX [] H s₁ (fun _ _ _=>False) e s'->False) :
  h_ (ay P w) wX (.call (.ref fa) ⟨[.ref a],[]⟩) (fun r s'=>r=.ok (.ret (.bool true))/\OldK s₁.heap s'.heap/\s'.os=s₁.os/\qD s'.gens) s₁:=by
 have rv:=Kl hi
 have lenV:=hi.length
 have core:∀ H:Hp,SX H->nl K H a (ns.map V.int)->qA P w H s₁.heap->(∀ b,H b≠none->b=a)->(H a≠none->K.lookup a=none) ->
   h_ (ay P w) wX (.call (.ref fa) ⟨[.ref a],[]⟩) (fun r s'=>r=.ok (.ret (.bool true))/\OldK s₁.heap s'.heap/\s'.os=s₁.os/\qD s'.gens) s₁:=by
  intro H hO hS hok hA hK
  have base_of:∀ {b:ah}{o:Obj},s₁.heap.get? b=some o->H b=none->(Cj s₁.heap H).get? b=some o:=fun e n=>M7 e n
  have noA:∀ {b:ah}{o:Obj}{es:Array DictEntry}{ep:Nat},s₁.heap.get? b=some o->o.data=.dict es ep->H b=none:=fun {b o es ep} e d=>by
   cases q:H b with
   |none=>rfl
   |some u =>
    have e':b=a:=hA b (by rw [q];simp)
    subst e'
    rw [ha] at e;cases e
    have d':Data.seq vs.toArray _=Data.dict es ep:=d
    cases d'
  have nsK:∀ {b:ah}{m:Str->Option ae},s₁.heap.Ns b m->(Cj s₁.heap H).Ns b m:=fun {b m} ⟨o,es,ep,e,d,r⟩=>⟨o,es,ep,base_of e (noA e d),d,r⟩
  have hKb:K.In (Cj s₁.heap H):=fun b o e=>base_of (KX b o e) (by
   cases q:H b with
   |none=>rfl
   |some u =>
    have e':b=a:=hA b (by rw [q];simp)
    subst e'
    rw [hK (by rw [q];simp)] at e;cases e)
  have hM:Mod K mg (Cj s₁.heap H):=⟨hKb,nsK hns,⟨mb,nsK hb,hbb⟩,let ⟨mc,h1,h2⟩:=hlim;⟨mc,nsK h1,h2⟩⟩
  have e0:GJ P w K mg (Cj s₁.heap H) wX [] s₁ H:=⟨rfl,hM,fun b o e=>Pq e,Nat.le_of_eq (Kb _ _),trivial,fun b hb=>absurd (show b∈([] : List ah) from hb) (by simp),hok,.of_eq hg⟩
  refine oG ((F _ hKb (nsK hns)).run wX [] s₁ H ⟨[.ref a],[]⟩ [.ref a] [.ref a] _ _ hr e0 (hbind s₁ (.ref a)) (.cons rfl .nil) (hsp H hO hS)) fun r s' h=>?_
  cases r with
  |error e=>exact (hCX H e s' h).elim
  |ok fl =>
   cases fl with
   |next=>exact ed h
   |brk=>exact ed h
   |cont=>exact ed h
   |ret u =>
    obtain ⟨v,H',os,bare,un,hok',r',q⟩:=h
    have q':v=.bl true:=q
    subst q'
    obtain rfl:u=g_ true:=r'
    refine ⟨rfl,OldK.of_keep fun b o e=>?_,os,bare⟩
    cases q:H b with
    |none=>exact un.keep b o e q (by intro z;exact absurd (show b∈([] : List ah) from z) (by simp)) (by simp)
    |some u =>
     rcases hO b with z|⟨ob,xs,z⟩
     ·rw [q] at z;cases z
     ·have z2:=un.frzs b ob _ z
      obtain ⟨e1,_⟩:=hok b _ z
      obtain ⟨e2,_⟩:=hok' b _ z2
      rw [e] at e1;cases e1
      exact e2
 cases hk:K.lookup a with
 |some o =>
  have e:=KX a o hk
  rw [ha] at e
  cases e
  refine core (fun _=>none) (fun _=>.inl rfl) (.inr ⟨_,vs.toArray,_,hk,rfl,rfl,rfl,by rw [aK,lenV];exact hl,by simpa using rv⟩) (fun b u z=>by have z':(none:Option HO)=some u:=z;cases z') (fun b z=>absurd rfl z) fun z=>absurd rfl z
 |none =>
  refine core (fun b=>if b=a then some (.frz { cls:=.type "list",data:=.seq vs.toArray } (.lst (ns.map V.int))) else none) (fun b=>?_) (.inl (.inr ⟨{ cls:=.type "list",data:=.seq vs.toArray },if_pos rfl⟩)) (fun b u z=>?_) (fun b z=>?_) fun _=>hk
  ·by_cases hb:b=a
   ·exact .inr ⟨_,_,if_pos hb⟩
   ·exact .inl (if_neg hb)
  ·by_cases hb:b=a
   ·have z':=(if_pos hb).symm.trans z
    cases z'
    subst hb
    exact ⟨ha,by rw [ar];exact hl,vs,_,rv,ha⟩
   ·have z':=(if_neg hb).symm.trans z
    cases z'
  ·by_cases hb:b=a
   ·exact hb
   ·exact absurd (if_neg hb) z
end L2
namespace L2
open PySem PySem.Spec PyProof.Rows
abbrev Y4 {K:a7}{h:bt} (_:K.In h):a7:=K
theorem PZ {l:xC}{n k:Nat}{q:bd}{loose:List Str}{XP:(Str->Option ae)->bt->Prop}{YP:bv->bt->Prop}{d:DefRec}{K:Params->a7}{CX:bv->LN}{sp:bv->Sp}{x:Str}
  (hn:l.most=some n) (hn2:n<=sizeLine) (hdf:d.params.defaults=[]) (hr:jY k wX)
  (hY:∀ (w:bv) (h:bt),YP w h->(K w.params).In h)
  (F:∀ (w:bv) (mg:Str->Option ae) (fa:ah) (h:bt),(K w.params).In h->h.Ns bq mg->mg d.name=some (.ref fa) ->
   ∃ fd:eI,(∀ (s:ai) (u:ae),wW s fd ⟨[u],[]⟩ [(x,u)]) /\
    ∀ base:bt,(K w.params).In base->base.Ns bq mg->sZ l.prog w (K w.params) mg base (CX w) k fa fd [x] (sp w))
  (hsp:∀ (w:bv) (H:Hp) (a:ah) (ns:List Int),ns.length<=n->SX H->nl (K w.params) H a (ns.map V.int)->sp w [.ref a] H (fun v _=>v=.bl true) fun _ _ _=>False)
  (hCX:∀ (w:bv) (H:Hp) (s:ai) (e:ae) (s':ai),CX w [] H s (fun _ _ _=>False) e s'->False) :
  O_ q loose XP YP l.row.toRowW d [] (fun f vs=>K0 f vs):=by
 refine Att.attach_call hn hdf fun w s₀ s₁ mg mb fa o pm cd doc a vs ns G Y ho hd hcd hmg hobj hints hlen hg=>?_;have KX:=hY w _ Y;obtain ⟨fd,hb,hF⟩:=F w mg fa _ KX G.T.g hmg;exact Mt KX G.T.g G.T.b G.T.builtins G.T.nolimit hg hobj hints (bK hlen hn2) hr hF hb (fun H hO hS=>hsp w H a ns hlen hO hS) fun H e s'=>hCX w H s₁ e s'
end L2
namespace L2
open PySem PySem.Spec PyProof.Rows
def kH (s:cF):Arguments:=match s with
 |.FunctionDef _ a _ _ _ _ _ _ _ _=>a
 |_=>{ posonlyargs:=[],args:=[],vararg:=none,kwonlyargs:=[],kw_defaults:=[],kwarg:=none,defaults:=[] }
def gU (s:cF):List cF:=match s with
 |.FunctionDef _ _ b _ _ _ _ _ _ _=>b
 |_=>[]
def av (s:cF):gq:=match s with
 |.FunctionDef _ _ _ _ _ _ sc _ _ _=>sc
 |_=>{ kind:=.function,names:=[],isGenerator:=false,isCoroutine:=false }
abbrev Xo:LN:=fun _ _ _ _ _ _=>False
abbrev E0:XK:=fun _ _ _=>False
structure G4 (K:a7) (x qual:Str) (st:cF) (f:ah) (fd:eI):Prop where
 ex:∃ (oc:ae) (od:Option ah) (kV doc pm:ae) (an:Option ah) (cdv ct:ae) (osl:Array (Option ae)),
  fd=ef x qual (kH st) (gU st) (av st) .none kV doc pm an cdv ct/\K.lookup f=some ⟨oc,od,.func fd,osl⟩/\jI K cdv qual=true
 kp:dL K (.ref f)=true
section
variable {P:bd}{w:bv}{K:a7}{mg:Str->Option ae}{base:bt}
theorem G4.binds {x qual:Str}{st:cF}{f:ah}{fd:eI}{ps:List Str} (F:G4 K x qual st f fd)
  (h:∀ (kV doc pm:ae) (an:Option ah) (cdv ct:ae) (us:List ae),us.length=ps.length->P6 (ef x qual (kH st) (gU st) (av st) .none kV doc pm an cdv ct) ⟨us,[]⟩=pure (ps.zip us)):k8 K fd ps []:=by
 obtain ⟨oc,od,kV,doc,pm,an,cdv,ct,osl,rfl,lk,hcd⟩:=F.ex;exact .all (h kV doc pm an cdv ct)
theorem Mu {x qual:Str}{st:cF}{f:ah}{oc:ae}{od an:Option ah}{osl:Array (Option ae)}{kV doc pm cdv ct:ae} (l:K.lookup f=some ⟨oc,od,.func (ef x qual (kH st) (gU st) (av st) .none kV doc pm an cdv ct),osl⟩)
  (c:jI K cdv qual=true) (k:dL K (.ref f)=true):G4 K x qual st f (ef x qual (kH st) (gU st) (av st) .none kV doc pm an cdv ct):=⟨⟨oc,od,kV,doc,pm,an,cdv,ct,osl,rfl,l,c⟩,k⟩
end
theorem j8  (hr:jY k A):A.units+1<sV:=jJ (uL (by decide:1<=64) _) hr.units
theorem cf (h:n<=1000):n<sizeLine:=jJ h (by decide)
section
theorem pv (i:Nat)  (hN:X.N[i]?=some x:=by rfl) (hv:Ps X.env.scope x:=by first|exact iF rfl|exact fK (iF rfl)|exact fK (fK rfl)) (hd:(x==("__debug__" : Str))=false:=by decide)
  (hcd:(x==("__classdict__" : Str))=false:=by decide):PE X (.Name x pos) (Gz i):=pF hN hv hd hcd
end
theorem Aw {A B:Prop} (h:B):if false=true then A else B:=by
 rw [if_neg aH];exact h
theorem DZ {A B:Prop} (h:A):if true=true then A else B:=by
 rw [if_pos rfl];exact h
def dn (H H':Hp):Prop:=∀ b o,H b=some o->H' b=some o
theorem dn.refl (H:Hp):dn H H:=fun _ _ h=>h
theorem dn.trans (a:dn H H1) (b:dn H1 H2):dn H H2:=fun c o h=>b c o (a c o h)
theorem dn.free (e:dn H H') (h:H' l=Option.none):H l=Option.none:=by
 cases q:H l with
 |none=>rfl
 |some o =>
  rw [e l o q] at h;cases h
theorem dn.seq {K:a7}{H H':Hp}{a:ah}{xs:List V} (e:dn H H') (h:nl K H a xs):nl K H' a xs:=by
 rcases h with (h|⟨o,h⟩)|h
 ·exact .inl (.inl (e _ _ h))
 ·exact .inl (.inr ⟨o,e _ _ h⟩)
 ·exact .inr h
end L2
end
section
namespace L2
open PySem PySem.Spec PyProof.Rows
section
variable {κ:Type} [DecidableEq κ]
def uV (kvs:List (κ×V)) (k:κ):Option V:=(kvs.find? fun kv=>decide (kv.1=k)).map (·.2)
def qZ (kvs:List (κ×V)) (k:κ) (v:V):List (κ×V) :=
 if (kvs.any fun kv=>decide (kv.1=k))=true then kvs.map (fun kv=>if kv.1=k then (kv.1,v) else kv) else kvs++[(k,v)]
def Mv (kvs:List (κ×V)) (k:κ):List (κ×V):=kvs.filter fun kv=>decide (kv.1≠k)
theorem yI {p:κ×V}{r:List (κ×V)}{k:κ} (e:p.1=k):uV (p::r) k=some p.2:=by simp [uV,dv,e]
theorem yJ {p:κ×V}{r:List (κ×V)}{k:κ} (e:¬ p.1=k):uV (p::r) k=uV r k:=by simp [uV,dv,e]
theorem D_ (k:κ):∀ kvs:List (κ×V),(kvs.any fun kv=>decide (kv.1=k))=(uV kvs k).isSome
 |[]=>rfl
 |p::r=>by
  rw [fv];by_cases e:p.1=k
  ·simp only [yI e,decide_eq_true e,Bool.true_or,mR]
  ·rw [yJ e,decide_eq_false e,uM];exact D_ k r
theorem q_ (kvs:List (κ×V)) (k:κ) (v:V):(qZ kvs k v).length<=kvs.length+1:=by
 unfold qZ;split
 ·rw [ar];omega
 ·rw [aL,aU,bz];omega
theorem wf.isSome_eq  (r:wf o u):o.isSome=u.isSome:=by
 cases o with
 |none=>cases u with
  |none=>rfl
  |some _=>exact (show False from r).elim
 |some _=>cases u with
  |none=>exact (show False from r).elim
  |some _=>rfl
theorem KV.val {kvs:List (κ×V)}{vs:List (κ×ae)} (r:KV kvs vs) (k:κ):wf (uV kvs k) (Ai vs k):=by
 unfold KV at r;induction r with
 |nil=>exact iT
 | @cons p q ps qs h t ih =>
  obtain ⟨h1,h2⟩:=h;by_cases e:p.1=k
  ·have e':q.1=k:=h1.symm.trans e;have b:Ai (q::qs) k=some q.2:=by simp [Ai,dv,e']
   rw [yI e,b];exact h2
  ·have e':¬ q.1=k:=fun z=>e (h1.trans z);have b:Ai (q::qs) k=Ai qs k:=by simp [Ai,dv,e']
   rw [yJ e,b];exact ih
theorem KV.any  (r:KV kvs vs) (k:κ):(kvs.any fun kv=>decide (kv.1=k))=vs.any fun kv=>decide (kv.1=k):=by
 unfold KV at r;induction r with
 |nil=>rfl
 |cons h t ih=>rw [fv,fv,ih,h.1]
theorem KV.repl  (r:KV kvs vs) (k:κ)  (ry:cY y u) :
  KV (kvs.map fun kv=>if kv.1=k then (kv.1,y) else kv) (vs.map fun kv=>if kv.1=k then (kv.1,u) else kv):=by
 unfold KV at r ⊢;induction r with
 |nil=>exact .nil
 | @cons p q ps qs h t ih =>
  rw [aM,aM];refine .cons ?_ ih;obtain ⟨h1,h2⟩:=h;by_cases e:p.1=k
  ·rw [if_pos e,if_pos (h1.symm.trans e)];exact ⟨h1,ry⟩
  ·rw [if_neg e,if_neg (fun z=>e (h1.trans z))];exact ⟨h1,h2⟩
theorem KV.put  (r:KV kvs vs) (k:κ)  (ry:cY y u):KV (qZ kvs k y) (Gj vs k u):=by
 unfold qZ Gj;rw [r.any k];by_cases e:(vs.any fun kv=>decide (kv.1=k))=true
 ·rw [if_pos e,if_pos e];exact r.repl k ry
 ·rw [if_neg e,if_neg e];exact Paired.snoc r ⟨rfl,ry⟩
theorem KV.length  (r:KV kvs vs):kvs.length=vs.length:=tQ r
end
theorem E2    (r:cY (kV k) u):(dC P w).is k u=true:=by
 cases k with
 |inl i=>obtain ⟨t,e⟩:=(show ∃ t,u=mP i t from r);subst e;exact DQ P w i t
 |inr x=>obtain ⟨t,e⟩:=(show ∃ t,u=iY x t from r);subst e;exact DR P w x t
theorem Bm  : ∀ {ks:List fS}{us:List ae},de (ks.map kV) us->ItemsAre (dC P w) ks us
 |[],_,r=>by rw [eE] at r;cases r;exact .nil
 |k::ks,_,r=>by
  rw [aM] at r;cases r with
  |cons h t=>exact .cons (E2 h) (Bm t)
abbrev KT (H:Hp):List (List fS×V)->List (List fS×ah×ae)->Prop:=LQ fun p q=>p.1=q.1/\H q.2.1=some (.tup (p.1.map kV))/\cY p.2 q.2.2
theorem KT.val {H:Hp}{kvs:List (List fS×V)}{xs:List (List fS×ah×ae)} (r:KT H kvs xs) (k:List fS):wf (uV kvs k) ((Gk xs k).map (·.2)):=by
 induction r with
 |nil=>exact iT
 | @cons p q ps qs h t ih =>
  obtain ⟨h1,_,h2⟩:=h;by_cases e:p.1=k
  ·have e':q.1=k:=h1.symm.trans e;have b:Gk (q::qs) k=some q.2:=by simp [Gk,dv,e']
   rw [yI e,b];exact h2
  ·have e':¬ q.1=k:=fun z=>e (h1.trans z);have b:Gk (q::qs) k=Gk qs k:=by simp [Gk,dv,e']
   rw [yJ e,b];exact ih
theorem KT.repl   (r:KT H kvs xs) (k:List fS)  (ry:cY y u) :
  KT H (kvs.map fun kv=>if kv.1=k then (kv.1,y) else kv) (xs.map (putAt k u)):=by
 induction r with
 |nil=>exact .nil
 | @cons p q ps qs h t ih =>
  rw [aM,aM];refine .cons ?_ ih;obtain ⟨h1,h2,h3⟩:=h;unfold putAt;by_cases e:p.1=k
  ·rw [if_pos e,if_pos (h1.symm.trans e)];exact ⟨h1,h2,ry⟩
  ·rw [if_neg e,if_neg (fun z=>e (h1.trans z))];exact ⟨h1,h2,h3⟩
theorem KT.put   (r:KT H kvs xs) (k:List fS)   (hb:H b=some (.tup (k.map kV))) (ry:cY y u) :
  KT H (qZ kvs k y) (storedH xs k b u):=by
 have e:(kvs.any fun kv=>decide (kv.1=k))=(Gk xs k).isSome:=by
  rw [D_,(r.val k).isSome_eq,K1]
 unfold qZ storedH;rw [e];by_cases q:(Gk xs k).isSome=true
 ·rw [if_pos q,if_pos q];exact r.repl k ry
 ·rw [if_neg q,if_neg q];exact Paired.snoc r ⟨rfl,hb,ry⟩
theorem KT.keeps   (r:KT H kvs xs) (ht:∀ b ys,H b=some (.tup ys)->H' b=some (.tup ys)):KT H' kvs xs :=
 Paired.mapP r fun _ _ z=>⟨z.1,ht _ _ z.2.1,z.2.2⟩
section
theorem Rp (ok:qA P w H h) (e:Rd H a u):cU P w H h a u:=e.ok ok
theorem IC (ok:qA P w H h) (e:Rd H a (.dK kvs)):kvs.length<=sizeLine/\(a==ka)=false/\∃ vs,KV kvs vs/\h.DictOf (dC P w) a vs :=
 show cU P w H h a (.dK kvs) from Rp ok e
theorem Ut (ok:qA P w H h) (e:H a=some (.dK kvs)):kvs.length<=sizeLine/\(a==ka)=false/\∃ vs,KV kvs vs/\h.DictOf (dC P w) a vs:=IC ok (.inl e)
theorem Cz (ok:qA P w H h) (e:H a=some (.tup (ks.map kV))):(C9 (dC P w)).is h ks a:=by
 obtain ⟨_,its,r,o,h1,h2,n,h3⟩:=(show cU P w H h a (.tup (ks.map kV)) from ok a _ e);exact ⟨o,its.toArray,n,h1,h2,h3,by simpa using Bm r⟩
theorem ID (ok:qA P w H h) (e:Rd H a (.dT kvs)):kvs.length<=sizeLine/\(a==ka)=false /\
  ∃ xs,KT H kvs xs/\h.DictOfH (C9 (dC P w)) a xs:=by
 obtain ⟨z,y,xs,r,o,es,ep,h1,h2,h3,h4,h5⟩:=(show cU P w H h a (.dT kvs) from Rp ok e);refine ⟨z,y,xs,r,o,es,ep,h1,h2,h3,h4,fun x hx=>?_,h5⟩;have all:∀ {l:List (List fS×V)}{m:List (List fS×ah×ae)},KT H l m->∀ x∈m,(C9 (dC P w)).is h x.1 x.2.1:=by
  intro l m q;induction q with
  |nil=>intro x hx;exact nomatch hx
  | @cons p q ps qs hq t ih =>
   intro x hx;rcases List.mem_cons.mp hx with e|hx
   ·subst e;exact Cz ok (by rw [<- hq.1];exact hq.2.1)
   ·exact ih x hx
 exact all r x hx
theorem Uu (ok:qA P w H h) (e:H a=some (.dT kvs)):kvs.length<=sizeLine/\(a==ka)=false /\
  ∃ xs,KT H kvs xs/\h.DictOfH (C9 (dC P w)) a xs:=ID ok (.inl e)
end
def GN (H:Hp) (a:ah) (y:V) (r:Option V):Prop :=
 (∃ kvs k,Rd H a (.dK kvs)/\y=kV k/\r=uV kvs k)\/∃ kvs k b,Rd H a (.dT kvs)/\y=.ref b/\H b=some (.tup (k.map kV))/\r=uV kvs k
def Mw (H:Hp) (a:ah) (y v:V) (H':Hp):Prop :=
 (∃ kvs k,H a=some (.dK kvs)/\y=kV k/\kvs.length<sizeLine/\H'=upd H a (.dK (qZ kvs k v))) \/
 ∃ kvs k b,H a=some (.dT kvs)/\y=.ref b/\H b=some (.tup (k.map kV))/\kvs.length<sizeLine/\H'=upd H a (.dT (qZ kvs k v))
theorem GN.k {H:Hp}{a:ah}{kvs:List (fS×V)}{k:fS} (e:H a=some (.dK kvs)):GN H a (kV k) (uV kvs k):=.inl ⟨kvs,k,.inl e,rfl,rfl⟩
theorem Mw.k {H:Hp}{a:ah}{kvs:List (fS×V)}{k:fS}{v:V} (e:H a=some (.dK kvs)) (hl:kvs.length<sizeLine):Mw H a (kV k) v (upd H a (.dK (qZ kvs k v))):=.inl ⟨kvs,k,e,rfl,hl,rfl⟩
section
theorem bx.big (I:bx X pins σ H s):ka<s.heap.objs.size:=by
 have h:bq<s.heap.objs.size:=(I.mod.glob.keeps I.bk).lt;exact xD (by decide) h
theorem Km (hu:A.units+1<sV) (I:bx X pins σ H s) (g:GN H a y (some v)) (ry:cY y u) (h:∀ w' s',bx X pins σ H s'->cY v w'->Q w' s') :
  ak (ay X.prog X.w) A (qF (.ref a) u) Q E s:=by
 rcases g with ⟨kvs,k,e,ey,l⟩|⟨kvs,k,b,e,ey,eb,l⟩
 ·subst ey;obtain ⟨z,hd,vs,rel,dd⟩:=IC I.hok e;obtain ⟨w',hw,rw'⟩:=wf.some_of (v:=v) (o:=Ai vs k) (by rw [l];exact rel.val k);exact wpAny_getItem_of (E2 ry) dd.mapOf hw (h w' _ (I.tok _) rw')
 ·subst ey;cases (show u=bj b from ry);obtain ⟨z,hd,xs,rel,dd⟩:=ID I.hok e;obtain ⟨w',hw,rw'⟩:=wf.some_of (v:=v) (o:=(Gk xs k).map (·.2)) (by rw [l];exact rel.val k);obtain ⟨p,hp,hp2⟩:=Option.map_eq_some_iff.mp hw;refine wpAny_getItem_heap (yu hu) (Cz I.hok eb) dd hp ?_;rw [hp2];exact h w' _ (I.tok _) rw'
theorem d_in (hu:A.units+1<sV) (I:bx X pins σ H s) (g:GN H a y o) (ry:cY y u) (h:∀ s',bx X pins σ H s'->Q (.bool o.isSome) s') :
  ak (ay X.prog X.w) A (bG .In u (.ref a)) Q E s:=by
 rcases g with ⟨kvs,k,e,ey,l⟩|⟨kvs,k,b,e,ey,eb,l⟩
 ·subst ey;obtain ⟨z,hd,vs,rel,dd⟩:=IC I.hok e;refine wpAny_in_of (E2 ry) hd dd.mapOf ?_;rw [<- (rel.val k).isSome_eq,<- l];exact h _ (I.tok _)
 ·subst ey;cases (show u=bj b from ry);obtain ⟨z,hd,xs,rel,dd⟩:=ID I.hok e;refine wpAny_in_heap (yu hu) (Cz I.hok eb) hd dd ?_;have q:=(rel.val k).isSome_eq;rw [K1] at q;rw [<- q,<- l];exact h _ (I.tok _)
theorem IE   (I:bx X pins σ H s) (mu:U3 (H a)) (hs:bE a s.heap h') (he:∃ q,h'.get? a=some q) (new:cU X.prog X.w (upd H a ob) h' a ob) :
  bx X pins σ (upd H a ob) { s with heap:=h',toks:=t' } :=
 I.write (x:=a) (e:=a) mu (.inl rfl) (fun b q hb z=>(hs.2 b hb).trans z) he new
theorem Mx      (z:kvs.length<=sizeLine) (hd:(a==ka)=false) (rel:KV kvs vs) (dd:h'.DictOf (dC P w) a vs) :
  cU P w H' h' a (.dK kvs):=⟨z,hd,vs,rel,dd⟩
theorem Kn  (hu:A.units+1<sV) (I:bx X pins σ H s) (g:Mw H a y v H') (ry:cY y u) (rv:cY v r) (h:∀ s',bx X pins σ H' s'->Q () s') :
  ak (ay X.prog X.w) A (setItem (.ref a) u r) Q E s:=by
 rcases g with ⟨kvs,k,e,ey,l,eH⟩|⟨kvs,k,b,e,ey,eb,l,eH⟩
 ·subst ey eH;obtain ⟨z,hd,vs,rel,dd⟩:=Ut I.hok e;have hz:vs.length<=sizeLine:=by rw [<- rel.length];exact z
  have hl:(qZ kvs k v).length<=sizeLine:=by have:=q_ kvs k v;omega
  refine wpAny_setItem_pairs (hsz:=hz) (E2 ry) dd fun h' dd' hs=>h _ ?_;have he:∃ q,h'.get? a=some q:=let ⟨q,_,_,hq,_⟩:=dd';⟨q,hq⟩
  exact IE I (by rw [e];exact iT) hs he (Mx hl hd (rel.put k rv) dd')
 ·subst ey eH;cases (show u=bj b from ry);obtain ⟨z,hd,xs,rel,dd⟩:=Uu I.hok e;have hz:xs.length<=sizeLine:=by rw [<- tQ rel];exact z
  have hl:(qZ kvs k v).length<=sizeLine:=by have:=q_ kvs k v;omega
  refine wpAny_setItem_heap (hsz:=hz) (yu hu) (Cz I.hok eb) dd fun h' dd' hs=>h _ ?_;obtain ⟨q,es,ep,hq,h2,h3,h4,_,h5⟩:=dd';refine IE I (by rw [e];exact iT) hs ⟨q,hq⟩ ⟨hl,hd,_,(rel.put k eb rv).keeps fun c ys ec=>?_,q,es,ep,hq,h2,h3,h4,h5⟩;rw [aO (U2 ec e (fun z=>nomatch z))];exact ec
end
section
end
def Uv (i:bL):Prop:=∀ ov iv,DG i false ov iv=operate [ov,iv] (qF ov iv)
theorem P_ {prog:bd}{w:bv}{A:bO}{E:ae->ai->Prop}{s:ai}{env:Env}{value slice:bL}{pos:Pos}{T id:String}{Q:ae->ai->Prop}
  (hl:fu (.type T) "__getitem__"=pure (some (.builtin id))) (hs:Uv slice)
  (h:ak (ay prog w) A (cz value env) (fun o s₁=>ak (ay prog w) A (cz slice env) (fun i s₂=>s₂.TypeIs o T/\ak (ay prog w) A (qF o i) Q E s₂) E s₁) E s) :
  ak (ay prog w) A (cz (.Subscript value slice pos) env) Q E s:=by
 refine Subscript_ (aV h (fun o s₁ h₁=>aV h₁ (fun i s₂ h₂=>?_) fun _ _ x=>x) fun _ _ x=>x);obtain ⟨hT,h₂⟩:=h₂;unfold JZ;refine a6 ?_;rw [getitemInPython_of_ne hT.not_modules];refine a6 (wpAny_specialOf hT hl ?_);have fin:ak (ay prog w) A (DG slice false o i) (fun r s₃=>ak (ay prog w) A (letTemporaryGo value o r >>= fun _=>pure r) Q E s₃) E s₂:=by
  rw [hs o i];exact wpAny_operating (aV h₂ (fun r s₃ h₃=>a6 (wpAny_letTemporaryGo (ac h₃))) fun _ _ x=>x)
 first
  |exact ac (a6 fin)
  |exact a6 (ac (a6 fin))
  |exact a6 fin
theorem E3        (I:bx X pins σ H s) (g:GN H a y o):s.TypeIs (.ref a) "dict":=by
 rcases g with ⟨kvs,k,e,_,_⟩|⟨kvs,k,b,e,_,_,_⟩
 ·obtain ⟨_,_,vs,_,dd⟩:=IC I.hok e;exact dd.typeIs
 ·obtain ⟨_,_,xs,_,dd⟩:=ID I.hok e;exact dd.typeIs
def Uw (td ty:TE):TE:=fun σ H Q=>td σ H fun x H1=>ty σ H1 fun y H2=>∃ a v,x=.ref a/\GN H2 a y (some v)/\Q v H2
def Rq (td ty tv:TE):TS:=fun D σ H=>tv σ H fun v H1=>td σ H1 fun x H2=>ty σ H2 fun y H3=>∃ a H4,x=.ref a/\Mw H3 a y v H4/\D.nx σ H4
section
theorem Q0 (hu:X.A.units+1<sV) (ho:PE X o td) (hi:PE X i ty) (hs:Uv i):PE X (.Subscript o i pos) (Uw td ty):=by
 intro pins s σ H Q I h;refine P_ PySem.F.slot_dict_getitem.lookup hs (fL (ho pins s σ H _ I h) fun u s1 ⟨x,H1,I1,rx,q1⟩=>fL (hi pins s1 σ H1 _ I1 q1) fun iv s2 ⟨y,H2,I2,ry,a,v,ex,g,q2⟩=>?_);subst ex;obtain rfl:u=bj a:=rx;exact ⟨E3 I2 g,Km hu I2 g ry fun w' s3 I3 rw'=>⟨v,H2,I3,rw',q2⟩⟩
theorem Q1 (hu:X.A.units+1<sV) (ho:PE X o td) (hi:PE X i ty) (hv:PE X value tv) (hs:iR value (some (.Subscript o i pos')) pos.line X.env=pure false) :
  PS X (.Assign [.Subscript o i pos'] value pos) (Rq td ty tv):=by
 intro pins s σ H D I h;refine wpAny_Assign_Subscript (fL (hv pins s σ H _ I h) fun r s1 ⟨v,H1,I1,rv,q1⟩=>fL (ho pins s1 σ H1 _ I1 q1) fun u s2 ⟨x,H2,I2,rx,q2⟩=>fL (hi pins s2 σ H2 _ I2 q2) fun iv s3 ⟨y,H3,I3,ry,a,H4,ex,g,q3⟩=>?_) hs;subst ex;obtain rfl:u=bj a:=rx;exact Kn hu I3 g ry rv fun s4 I4=>⟨σ,H4,I4,q3⟩
end
theorem My   (h:bt) (hb:ka<h.objs.size):cU P w H (h.push { cls:=.type "dict",data:=.dict #[] }) h.objs.size (.dK []) :=
 ⟨dW _,beq_eq_false_iff_ne.mpr (cZ (aA hb)),[],.nil,FW h⟩
def SY:TE:=fun _ H Q=>∀ p,H p=none->Q (.ref p) (upd H p (.dK []))
section
theorem Mz:PE X (.Dict [] [] pos) SY:=fun pins s σ H Q I h =>
 wpAny_Dict_empty ⟨.ref s.heap.objs.size,_,I.laid (a:=s.heap.objs.size) (o:=.dK []) (t':=s.toks) (fun _ _ q=>aa _ q) (am _) (My s.heap I.big),rfl,h _ (I.hok.fresh (am _))⟩
end
def yK (kvs more:List (fS×V)):List (fS×V):=more.foldl (fun acc kv=>qZ acc kv.1 kv.2) kvs
theorem KV.merge:∀ {more:List (fS×V)}{rs:List (fS×ae)}{kvs:List (fS×V)}{vs:List (fS×ae)},KV more rs->KV kvs vs->KV (yK kvs more) (merged vs rs):=by
 intro more rs kvs vs r;unfold KV at r;induction r generalizing kvs vs with
 |nil=>intro q;exact q
 | @cons p q ps qs h t ih =>
  intro r0;have e:KV (qZ kvs p.1 p.2) (Gj vs q.1 q.2):=by
   have:=r0.put p.1 h.2;rw [<- h.1];exact this
  exact ih e
theorem tG:∀ (more kvs:List (fS×V)),(yK kvs more).length<=kvs.length+more.length
 |[],kvs=>by show kvs.length<=kvs.length+0;omega
 |p::r,kvs=>by
  have h1:=tG r (qZ kvs p.1 p.2);have h2:=q_ kvs p.1 p.2;show (yK (qZ kvs p.1 p.2) r).length<=_;rw [aU];omega
section
end
section
end
section
end
section
end
end L2
namespace L2
open PySem PySem.Spec PyProof.Rows
section
end
section
variable {κ:Type} [DecidableEq κ]
theorem IG:∀ {l:List κ}{k:κ},l.Nodup->¬ k∈l->(l++[k]).Nodup
 |[],k,_,_=>by simp
 |a::r,k,h,hk=>by
  obtain ⟨h1,h2⟩:=List.nodup_cons.mp h;show (a::(r++[k])).Nodup;refine List.nodup_cons.mpr ⟨fun m=>?_,IG h2 fun m=>hk (List.mem_cons.mpr (fK m))⟩;rcases List.mem_append.mp m with q|q
  ·exact h1 q
  ·exact hk (List.mem_cons.mpr (iF (List.mem_singleton.mp q).symm))
end
end L2
end
namespace L2
open PySem PySem.Spec PyProof.Rows
section
section
theorem CA      (I:Nat->ai->Prop)
  (turn:∀ n s,I n s->ak (ay prog w) A (nX it) (fun r s₁=>match r with
   |none=>R (.ok .next) s₁
   |some v=>ak (ay prog w) A (gP target it v) (fun _ s₁'=>ak (ay prog w) A (qL target env v) (fun _ s₂ =>
     ak (ay prog w) A (forIn ifs true fun c r=>if r=true then do let ok <- Ca c env (cz c env);pure (fQ ok) else pure (fQ r)) (fun ok s₃ =>
      if ok=true then ak (ay prog w) A (cz elt env) (fun x s₄ =>
       ak (ay prog w) A (call (.builtin "list.append") [acc,x]) (fun _ s₅=>∃ m,m<n/\I m s₅) (fun _ _=>False) s₄) (fun _ _=>False) s₃
      else ∃ m,m<n/\I m s₃) (fun _ _=>False) s₂) (fun _ _=>False) s₁') (fun _ _=>False) s₁) (fun _ _=>False) s)
  (n:Nat) (h:I n s) :
  h_ (ay prog w) A (.compLoop (.ListComp elt [⟨target,iter,ifs,0⟩] scope pos) 0 it acc env) R s:=by
 refine codeAny_loop rfl I (fun n s hI=>?_) n h;show ak _ A ((compTurn (.ListComp elt [⟨target,iter,ifs,0⟩] scope pos) 0 it acc env).onRaise (fun x=>do sW x env;theTreesLotGoes x)) _ _ s;refine wpAny_noted ?_;rw [compTurn_list];have nf:∀ {α:Type}{t:Sem α}{Q:α->ai->Prop}{E':ae->ai->Prop}{s:ai},ak (ay prog w) A t Q (fun _ _=>False) s->ak (ay prog w) A t Q E' s :=
  fun h=>aV h (fun _ _ q=>q) fun _ _ f=>f.elim
 refine a6 (c_ (a6 (nf (aV (turn n s hI) (fun r s₁ h₁=>?_) fun _ _ h'=>h'))));cases r with
 |none=>exact ac h₁
 |some v =>
  refine a6 (nf (aV h₁ (fun _ s₁' h₁'=>?_) fun _ _ h'=>h'));refine a6 (nf (aV h₁' (fun _ s₂ h₂=>a6 (nf (aV h₂ (fun ok s₃ h₃=>?_) fun _ _ h'=>h'))) fun _ _ h'=>h'));cases ok with
  |false=>exact ac ⟨rfl,h₃⟩
  |true =>
   exact a6 (a6 (nf (aV h₃ (fun x s₄ h₄=>a6 (nf (aV h₄ (fun _ s₅ h₅=>ac (ac ⟨rfl,h₅⟩)) fun _ _ h'=>h'))) fun _ _ h'=>h')))
end
theorem GO (names : List (Str × lc)) : ∀ (cs : List (Str × ah)), (∀ y ∈ names, y.2 = .free -> ∃ c, env.cells.lookup y.1 = some c) ->
    (∀ x c, cs.lookup x = some c -> env.cells.lookup x = some c) ->
    ∃ cl, (forIn names cs fun (x : Str × lc) (cs : List (Str × ah)) => match x with
        | (name, kind) => if (kind == c6) = true then do let a <- cellOf env name; pure (fQ ((name, a) :: cs)) else pure (fQ cs) : Sem (List (Str × ah))) = pure cl /\
      (∀ x c, cl.lookup x = some c -> env.cells.lookup x = some c) /\ (∀ y ∈ names, y.2 = .free -> ∃ c, cl.lookup y.1 = some c) /\ (∀ x c, cs.lookup x = some c -> ∃ c', cl.lookup x = some c') := by
  induction names with
  | nil => intro cs _ h2; exact ⟨cs, rfl, h2, fun _ h => absurd h (by simp), fun x c h => ⟨c, h⟩⟩
  | cons nk r ih =>
    obtain ⟨n, k⟩ := nk;intro cs h1 h2;by_cases hk : k = .free
    · subst hk;obtain ⟨a, ha⟩ := h1 (n, .free) aq rfl;have h2' : ∀ x c, ((n, a) :: cs).lookup x = some c -> env.cells.lookup x = some c := fun x c h => by
        rw [cw] at h;cases e : x == n with
        | true => rw [e] at h; have : x = n := by simpa using e
                  subst this; cases h; exact ha
        | false => rw [e] at h; exact h2 x c h
      obtain ⟨cl, e1, e2, e3, e4⟩ := ih ((n, a) :: cs) (fun y hy => h1 y (ao _ hy)) h2';refine ⟨cl, ?_, e2, fun y hy hf => ?_, fun x c h => ?_⟩
      · rw [lV];have hc : cellOf env n = pure a := by unfold cellOf; rw [ha]
        simp only [beq_self_eq_true, if_true, hc];exact e1
      · rcases List.mem_cons.mp hy with rfl | hy
        · exact e4 n a (by simp)
        · exact e3 y hy hf
      · cases e : x == n with
        | true => exact e4 x a (by rw [cw, e])
        | false => exact e4 x c (by rw [cw, e]; exact h)
    · obtain ⟨cl, e1, e2, e3, e4⟩ := ih cs (fun y hy => h1 y (ao _ hy)) h2;refine ⟨cl, ?_, e2, fun y hy hf => ?_, e4⟩
      · rw [lV];have hk' : (k == c6) = false := by simpa using hk
        simp only [hk', bV, if_false];exact e1
      · rcases List.mem_cons.mp hy with rfl | hy
        · exact absurd hf hk
        · exact e3 y hy hf
theorem tW  (h:∀ y∈scope.names,y.2=.free->∃ c,env.cells.lookup y.1=some c):∃ cl,closureFor scope env=pure cl /\
  (∀ x c,cl.lookup x=some c->env.cells.lookup x=some c)/\(∀ y∈scope.names,y.2=.free->∃ c,cl.lookup y.1=some c):=by
 obtain ⟨cl,e1,e2,e3,_⟩:=GO (env:=env) scope.names [] h (fun x c h=>by simp at h);refine ⟨cl,?_,e2,e3⟩;simp only [closureFor];rw [show (forIn scope.names ([] : List (Str×ah)) fun x r=>_)=(pure cl:Sem (List (Str×ah))) from e1];rfl
end
section
def cH (X:Cx) (N':List Str) (scope:gq) (cl:List (Str×ah)) (C:ah) (s₀:ai) (H₀:Hp) (ex:List ah) (pn:List (ah×Obj)):Cx :=
 { X with N:=N',s₀:=s₀,H₀:=H₀,env:=compEnvC scope cl C X.env,outer:=X.stack,stack:=X.stack,ex:=ex,fn:=fun y=>scope.names.lookup y==some .cell,pn:=pn,xe:=fun _ _=>False }
def P3 (X:Cx) (ifs:List bL) (t:TT):Prop :=
 ∀ (pins:List (ah×Obj)) (s:ai) (σ:St) (H:Hp) (Q:Bool->Hp->Prop),bx X pins σ H s->t σ H Q ->
  ak (ay X.prog X.w) X.A (forIn ifs true fun c r=>if r=true then do let ok <- Ca c X.env (cz c X.env);pure (fQ ok) else pure (fQ r)) (TP X pins σ Q) X.xe s
def WK:TT:=fun _ H Q=>Q true H
theorem Q2:P3 X [] WK:=fun pins s σ H Q I h=>wpAny_tests_nil ⟨H,I,h⟩
theorem Q3   (h:PT X c t):P3 X [c] t:=fun pins s σ H Q I hw=>wpAny_tests_one (h pins s σ H Q I hw)
structure o7 (X:Cx) (scope:gq) (N':List Str) (nt:Nat) (ix:List Nat):Prop where
 kind:scope.kind=.function
 cel:∀ y∈scope.names,y.2=.cell->scope.names.lookup y.1=some .cell
 loc:∀ y∈scope.names,y.2=.local->scope.names.lookup y.1=some .local
 free:∀ y∈scope.names,y.2=.free->X.env.scope.names.lookup y.1=some .cell\/X.env.scope.names.lookup y.1=some .free
 cap:∀ k i,ix[k]?=some i->∃ x,X.N[i]?=some x/\N'[nt+k]?=some x/\scope.names.lookup x=some .free
 len:N'.length=nt+ix.length
def jG (nt:Nat) (ix:List Nat) (σ:St):St:=m_ nt none++ix.map fun i=>(σ[i]?).join
theorem s_ {env:Env}{x:Str}{names:List (Str×lc)}:names.lookup x=some .free ->
  (names.map fun (n,k)=>if (k==c6&&env.scope.kind == .function&&env.kindOf n==some .cell) then (n,dH) else (n,k)).lookup x=some .free \/
  (names.map fun (n,k)=>if (k==c6&&env.scope.kind == .function&&env.kindOf n==some .cell) then (n,dH) else (n,k)).lookup x=some .cell:=by
 induction names with
 |nil=>intro h;simp at h
 |cons nk r ih =>
  obtain ⟨n,k⟩:=nk;intro h;show yv x ((if (k==c6&&env.scope.kind == .function&&env.kindOf n==some .cell)=true then (n,dH) else (n,k))::_)=_ \/
   yv x ((if (k==c6&&env.scope.kind == .function&&env.kindOf n==some .cell)=true then (n,dH) else (n,k))::_)=_
  cases hx:x==n with
  |true =>
   simp only [cw,hx] at h;cases h;by_cases hc:(c6==c6&&env.scope.kind == .function&&env.kindOf n==some .cell)=true
   ·rw [if_pos hc];right;simp [cw,hx]
   ·rw [if_neg hc];left;simp [cw,hx]
  |false =>
   simp only [cw,hx] at h;by_cases hc:(k==c6&&env.scope.kind == .function&&env.kindOf n==some .cell)=true
   ·rw [if_pos hc];simp only [cw,hx];exact ih h
   ·rw [if_neg hc];simp only [cw,hx];exact ih h
theorem uW {env:Env}{x:Str}{names:List (Str×lc)} :
  ((names.map fun (n,k)=>if (k==c6&&env.scope.kind == .function&&env.kindOf n==some .cell) then (n,dH) else (n,k)).lookup x=some .free \/
  (names.map fun (n,k)=>if (k==c6&&env.scope.kind == .function&&env.kindOf n==some .cell) then (n,dH) else (n,k)).lookup x=some .cell) ->
  (x,c6)∈names\/(x,dH)∈names:=by
 induction names with
 |nil=>intro h;simp at h
 |cons nk r ih =>
  obtain ⟨n,k⟩:=nk;intro h;have h:yv x ((if (k==c6&&env.scope.kind == .function&&env.kindOf n==some .cell)=true then (n,dH) else (n,k))::_)=_ \/
   yv x ((if (k==c6&&env.scope.kind == .function&&env.kindOf n==some .cell)=true then (n,dH) else (n,k))::_)=_:=h
  cases hx:x==n with
  |true =>
   have e:x=n:=by simpa using hx
   subst e;by_cases hc:(k==c6&&env.scope.kind == .function&&env.kindOf x==some .cell)=true
   ·have:k=.free:=by simp at hc;exact hc.1.1
    subst this;left;exact aq
   ·rw [if_neg hc] at h;simp only [cw,hx] at h;rcases h with h|h
    ·cases h;left;exact aq
    ·cases h;right;exact aq
  |false =>
   have h':=ih (by
    by_cases hc:(k==c6&&env.scope.kind == .function&&env.kindOf n==some .cell)=true
    ·rw [if_pos hc] at h;simp only [cw,hx] at h;exact h
    ·rw [if_neg hc] at h;simp only [cw,hx] at h;exact h)
   rcases h' with h' | h'
   ·left;exact ao _ h'
   ·right;exact ao _ h'
inductive Rr (nt:Nat) (ix:List Nat) (g:TG) (tt:TT) (te:TE) (σ:St) (Q:VK) (J:It) (H1:Hp):Prop
 |mk (W:Nat->Nat->List V->Hp->Prop) (w0:∃ m,W 0 m [] H1) (turn:∀ i m acc H,W i m acc H ->
 (J.stop i H/\∀ p,H p=none->Q (.ref p) (upd H p (.lst acc))) \/
 (J.go i H/\acc.length<sizeLine/\∀ x H',J.yld i H x H'->g x (jG nt ix σ) H' fun σ2 H2=>tt σ2 H2 fun b H3 =>
  if b=true then te σ2 H3 fun y H4=>∃ m',m'<m/\W (i+1) m' (acc++[y]) H4 else ∃ m',m'<m/\W (i+1) m' acc H3)):Rr nt ix g tt te σ Q J H1
def MA (nt:Nat) (ix:List Nat) (wi:TI) (g:TG) (tt:TT) (te:TE):TE:=fun σ H Q=>wi σ H (Rr nt ix g tt te σ Q)
theorem j9:∀ (names:List (Str×lc)) (n:Nat) (acc:List (Str×ah)),ba n names acc=ba n names []++acc
 |[],_,_=>rfl
 |(y,k)::r,n,acc=>by
  unfold ba;split
  ·rw [j9 r (n+1) ((y,n)::acc),j9 r (n+1) [(y,n)],oJ];rfl
  ·exact j9 r n acc
theorem o8  : ∀ (names:List (Str×lc)) (n:Nat) (acc:List (Str×ah)),(x,c)∈ba n names acc->(x,dH)∈names\/(x,c)∈acc
 |[],_,_,h=>.inr h
 |(y,k)::r,n,acc,h=>by
  unfold ba at h;split at h
  ·rename_i hk
   have hk:k=.cell:=by simpa using hk
   rcases o8 r _ _ h with z|z
   ·exact .inl (ao _ z)
   ·rcases List.mem_cons.mp z with z|z
    ·cases z;subst hk;exact .inl aq
    ·exact .inr z
  ·exact (o8 r _ _ h).imp (ao _) id
theorem kS     (h:(ba n names cl).lookup x=some c) :
  (x,c)∈ba n names []\/((ba n names []).lookup x=none/\cl.lookup x=some c):=by
 rw [j9,LF] at h;cases e:(ba n names []).lookup x with
 |some d=>rw [e] at h;cases h;exact .inl (da e)
 |none=>rw [e] at h;exact .inr ⟨rfl,h⟩
theorem IH {M:Gc}{A:bO}{E:ae->ai->Prop}{s:ai}{scope:gq}{globals:ah}{cl:List (Str×ah)}{qual:Str}{func:Option ah}{code:ae}{outer:Env}{builtins:ah}{Q:Env->ai->Prop}
  (hQ:∀ h₁,h₁=pushCells (s.heap.push { cls:=.type "dict",data:=.dict #[] }) scope.names->Q (newEnv scope s.heap.objs.size globals (ba (s.heap.objs.size+1) scope.names cl) qual func code (some outer) builtins) { s with heap:=h₁ }) :
  ak M A (vY scope globals cl [] qual func code (some outer) builtins) Q E s:=by
 simp only [vY,mR,if_true];refine a6 (P9 ?_);refine a6 (wpAny_layCells _ (fun name kind cells=>by cases hkc:kind==dH<;>simp [hkc]) _ _ _ _ ?_);rw [show ({ s with heap:=s.heap.push { cls:=.type "dict",data:=.dict #[] } }:ai).heap.objs.size=s.heap.objs.size+1 from c7 ..];refine a6 ?_;rw [tu];exact ac (ac (hQ _ rfl))
theorem Bo (h:bt) (names:List (Str×lc)):CellsOk (pushCells (h.push { cls:=.type "dict",data:=.dict #[] }) names) (h.objs.size+1) (ba (h.objs.size+1) names []):=by
 have ok:=cellsFrom_ok names (h.push { cls:=.type "dict",data:=.dict #[] }) (h.objs.size+1) [] ⟨fun _ _ hm=>(nomatch hm),B4⟩ (by rw [c7];exact am _);rw [c7] at ok;exact ok
section
theorem E4 {scope:gq}{N':List Str}{nt:Nat}{ix:List Nat}{cl:List (Str×ah)}{C:ah}{fp:List ah}{h₁:bt}{t':Nat}{m:Str->Option ae}
  (S:o7 X scope N' nt ix) (I:bx X pins σ H s) (c1:∀ x c,cl.lookup x=some c->X.env.cells.lookup x=some c) (c2:∀ y∈scope.names,y.2=.free->∃ c,cl.lookup y.1=some c)
  (hf:∀ b∈fp,qW X pins H b) (ff:∀ b∈fp,b<s.heap.objs.size) (hC:s.heap.objs.size<=C) (hns:h₁.Ns C m) (old:∀ b o,s.heap.get? b=some o->h₁.get? b=some o) (ok:CellsOk h₁ (C+1) (ba (C+1) scope.names [])) :
  bx (cH X N' scope (ba (C+1) scope.names cl) C s H fp (X.pn++pins)) [] (jG nt ix σ) H { s with heap:=h₁,toks:=t' }:=by
 have cellOld:∀ {c v},s.heap.IsCell c v->h₁.IsCell c v:=fun {c v} ⟨o,ho,hd⟩=>⟨o,old _ _ ho,hd⟩;have up:∀ {x c},(x,c)∈ba (C+1) scope.names []->s.heap.objs.size<c:=fun {x c} h=>aC (kf hC) (ok.empty x c h).2;have low:∀ {x c},cl.lookup x=some c->c<s.heap.objs.size:=fun {x c} h=>by
  obtain ⟨v,q⟩:=I.cell x c (c1 x c h);exact q.lt
 refine ⟨⟨I.ok.mod,S.kind,I.ok.glob,I.ok.blt,hC,fun x y c h1 h2=>?_,fun x hx=>?_,fun x c h h2=>?_,I.ok.hd,I.ok.frames,.inl rfl,fun b hb=>⟨?_,fun x c h=>?_⟩,I.bs,bK I.ok.bsz I.sz,fun b o h hb=>?_,fun b hb z=>?_,I.stack,I.stkFree⟩,
  rfl,I.bare,Un.kept old,⟨m,hns,fun i x v h1 h2 h3=>?_⟩,fun x c h=>?_,I.hok.fresh hC,fun x c h=>?_,fun p hp=>?_,I.hok.kept old,?_⟩
 ·rcases kS h1 with a|⟨_,a⟩<;>rcases kS h2 with b|⟨_,b⟩
  ·exact name_of_addr ok.apart a b
  ·exact absurd (up a) (xE (low b))
  ·exact absurd (up b) (xE (low a))
  ·exact I.ok.inj x y c (c1 x c a) (c1 y c b)
 ·have hx':(x,c6)∈scope.names\/(x,dH)∈scope.names:=uW (env:=X.env) (hx.elim .inr .inl);have hs:((ba (C+1) scope.names cl).lookup x).isSome=true:=by
   rcases hx' with z|z
   ·obtain ⟨c,e⟩:=c2 _ z rfl;exact eW _ _ _ (.inr (by rw [e];rfl))
   ·exact eW _ _ _ (.inl (S.cel _ z rfl))
  exact Option.isSome_iff_exists.mp hs
 ·rcases kS h2 with a|⟨a,_⟩
  ·exact bh (up a)
  ·have:=eW (x:=x) scope.names (C+1) [] (.inl (by simpa [cH] using h));rw [a] at this;cases this
 ·exact aA (aC (ff b hb) hC)
 ·rcases kS h with a|⟨_,a⟩
  ·exact dQ (xD (ff b hb) (up a))
  ·exact (hf b hb).f4 x c (c1 x c a)
 ·rcases (hf b hb).f3 with z|z
  ·exact I.ok.noex b o h z
  ·exact absurd (aC (al h) (bK I.ok.bsz z)) (bN _)
 ·rcases List.mem_cons.mp (I.stkSub b z) with e|e
  ·exact (hf b hb).f1 e
  ·exact (hf b hb).f2 e
 ·have hnt:nt<=i:=by
   refine P8 fun hlt=>?_;have h2':(jG nt ix σ)[i]?=some (some v):=h2;unfold jG at h2';rw [bJ (by simpa using hlt),bH,if_pos hlt] at h2';cases h2'
  have h2':(jG nt ix σ)[i]?=some (some v):=h2;unfold jG at h2';rw [bc (by simpa using hnt),cQ,aJ] at h2';cases e:ix[i-nt]? with
  |none=>rw [e] at h2';cases h2'
  |some j =>
   rw [e] at h2';have hj:σ[j]?=some (some v):=by
    have q:(σ[j]?).join=some v:=bD h2';cases e3:σ[j]? with
    |none=>rw [e3] at q;cases q
    |some o=>rw [e3] at q;cases o with
     |none=>cases q
     |some v'=>cases q;rfl
   obtain ⟨x',n1,n2,fr⟩:=S.cap _ _ e;rw [Nat.add_sub_cancel' hnt] at n2;have h1':N'[i]?=some x:=h1;rw [h1'] at n2;cases n2;obtain ⟨mm,hn,hl⟩:=I.loc;have hfree:=S.free (x,.free) (da fr) rfl;obtain ⟨u,r,l⟩:=hl j x v n1 hj (hfree.elim (fun z=>.inr (.inl z)) fun z=>.inr (.inr z));refine ⟨u,r,?_⟩;rcases l with ⟨k,_⟩|⟨k,c,hc,hcell⟩
   ·have k:X.env.scope.names.lookup x=some .local:=k;rcases hfree with z|z<;>(rw [z] at k;cases k)
   ·obtain ⟨c',hc'⟩:=c2 _ (da fr) rfl;have:=c1 x c' hc';rw [hc] at this;cases this;have hno:(ba (C+1) scope.names []).lookup x=none:=by
     cases e:(ba (C+1) scope.names []).lookup x with
     |none=>rfl
     |some d =>
      rcases o8 _ _ _ (da e) with z|z
      ·have q:=S.cel _ z rfl;rw [fr] at q;cases q
      ·cases z
    refine .inr ⟨?_,c,by show (ba (C+1) scope.names cl).lookup x=some c;rw [j9,LF,hno];exact hc',cellOld hcell⟩;rcases s_ (env:=X.env) fr with z|z
    ·exact .inr z
    ·exact .inl z
 ·rcases kS h with a|⟨_,a⟩
  ·exact ⟨none,(ok.empty x c a).1⟩
  ·obtain ⟨v,q⟩:=I.cell x c (c1 x c a);exact ⟨v,cellOld q⟩
 ·rcases kS h with a|⟨_,a⟩
  ·exact I.hok.fresh (bh (up a))
  ·exact I.freeC x c (c1 x c a)
 ·have hp:p∈X.pn++pins:=(List.mem_append.mp hp).elim id fun z=>absurd z (by simp);obtain ⟨e,n,ne,nf,d⟩:=I.pin p hp;refine ⟨old _ _ e,n,aA (aC (al e) hC),fun z=>?_,d⟩;rcases List.mem_cons.mp (I.stkSub p.1 z) with e|e
  ·exact ne e
  ·exact nf e
 ·show (jG nt ix σ).length=N'.length;rw [S.len];simp [jG]
end
end
section
theorem Un.grow   (u:Un fs ex H H1 h h1)  (sb:bE C h1 h2) (hC:h.objs.size<=C) (hD:h.objs.size<=D) (hn:H1 D=none):Un fs ex H (upd H1 D o) h h2 where
 keep:=fun b ob q n hb hx=>(sb.2 b (aA (aC (al q) hC))).trans (u.keep b ob q n hb hx)
 slot:=fun b ob q n hb hx=>by
  obtain ⟨sl,e⟩:=u.slot b ob q n hb hx;exact ⟨sl,(sb.2 b (aA (aC (al q) hC))).trans e⟩
 free:=fun b ob q n hx=>by rw [aO (aA (aC (al q) hD))];exact u.free b ob q n hx
 there:=fun b ob q hx=>by
  obtain ⟨o',e⟩:=u.there b ob q hx;exact ⟨o',(sb.2 b (aA (aC (al q) hC))).trans e⟩
 tups:=fun b xs q=>by have z:=u.tups b xs q;rw [aO (aY z hn)];exact z
 frzs:=fun b ob xs q=>by have z:=u.frzs b ob xs q;rw [aO (aY z hn)];exact z
 tbls:=fun b ps q=>by
  obtain ⟨m,z⟩:=u.tbls b ps q;exact ⟨m,by rw [aO (aY z hn)];exact z⟩
theorem yL     (k:qA P w H h) (hC:H C=none) (sb:bE C h h'):qA P w H h':=fun b ob e=>by
 refine (k b ob e).stay (fun c w' hc q=>(sb.2 c ?_).trans q) (fun _ q=>q) fun _ _ q=>q;rintro rfl;rcases hc with rfl|hc
 ·rw [hC] at e;cases e
 ·rw [hC] at hc;cases hc
theorem sj      (k:qA P w H h) (hD:H D=none) (new:cU P w (upd H D o) h D o):qA P w (upd H D o) h:=fun b ob e=>by
 by_cases hb:b=D
 ·subst hb;rw [aT] at e;cases e;exact new
 ·rw [aO hb] at e;exact (k b ob e).stay (fun c w' hc q=>q) (fun c q=>by rw [aO (aY q hD)];exact q) fun c x q=>by rw [aO (aY q hD)];exact q
theorem nf {M:Gc}{A:bO}{α:Type}{t:Sem α}{Q:α->ai->Prop}{E':ae->ai->Prop}{s:ai} (h:ak M A t Q (fun _ _=>False) s):ak M A t Q E' s :=
 aV h (fun _ _ q=>q) fun _ _ f=>f.elim
theorem bx.pin1      (I:bx X [] σ H s) (e:s.heap.get? D=some o) (n:H D=none) (ne:D≠X.env.locals) (nf:D∉X.fs) (d:∀ v,o.data≠.cell v):bx X [(D,o)] σ H s :=
 I.pins_of fun p hp=>by
  have:p=(D,o):=by simpa using hp
  subst this;exact ⟨e,n,ne,nf,d⟩
def Rs (nt:Nat) (g:TG):Prop:=∀ x σ0 H (Q:St->Hp->Prop),g x σ0 H Q->g x σ0 H (fun σ2 H2=>Q σ2 H2/\σ2.length=σ0.length/\∀ j,nt<=j->σ2[j]?=σ0[j]?)
theorem MB (h:i<nt):Rs nt (xb i):=fun x σ0 H Q q=>⟨q,by simp,fun j hj=>aj (by omega)⟩
theorem Q4 {nt i k n:Nat}{K:a7} (h:i<nt) (h':k<nt):Rs nt (Sv K n (a8 (xb i) (a8 (xb k) aE))):=by
 rintro x σ0 H Q ⟨a,xs,rfl,sq,hl,v,r,rfl,v',r',rfl,rfl,q⟩;exact ⟨a,_,rfl,sq,hl,v,_,rfl,v',_,rfl,rfl,q,by simp,fun j hj=>by rw [aj (by omega),aj (by omega)]⟩
inductive Xp (X:Cx) (pins:List (ah×Obj)) (N':List Str) (scope:gq) (cl:List (Str×ah)) (C:ah) (s2:ai) (H2:Hp) (fp:List ah) (nt:Nat) (ix:List Nat) (σ:St) (tn:Nat->bt->Prop) (W:Nat->Nat->List V->Hp->Prop) (n:Nat) (s':ai):Prop
 |mk (i:Nat) (acc:List V) (its:List ae) (nn:Nat) (H':Hp) (I:bx (cH X N' scope cl C s2 H2 fp (X.pn++pins)) [(s2.heap.objs.size,{ cls:=.type "list",data:=.seq its.toArray nn })] (jG nt ix σ) H' s') (v:de acc its) (l:acc.length<=sizeLine) (t:tn i s'.heap) (f:∀ b∈fp,H' b=none) (w:W i n acc H'):Xp X pins N' scope cl C s2 H2 fp nt ix σ tn W n s'
theorem yM {X:Cx}{elt tg iter:bL}{ifs:List bL}{scope:gq}{pos:Pos}{g:TG}{tt:TT}{te:TE}{N':List Str}{nt:Nat}{ix:List Nat}
  (hc:X.calm=true) (S:o7 X scope N' nt ix) (lo:Rs nt g)
  (hb:∀ cl C s₀ H₀ ex pn,PG (cH X N' scope cl C s₀ H₀ ex pn) tg g/\P3 (cH X N' scope cl C s₀ H₀ ex pn) ifs tt/\PE (cH X N' scope cl C s₀ H₀ ex pn) elt te)
  {cl:List (Str×ah)} (c1:∀ x c,cl.lookup x=some c->X.env.cells.lookup x=some c) (c2:∀ y∈scope.names,y.2=.free->∃ c,cl.lookup y.1=some c)
  {pins:List (ah×Obj)}{σ:St}{H2:Hp}{s2:ai}{it:ah}{fp:List ah}{tn:Nat->bt->Prop}{J:It}{Q:VK}{E:ae->ai->Prop}
  (I2:bx X pins σ H2 s2) (T:yF X.prog X.w X.K tg J fp it tn) (st2:tn 0 s2.heap) (f2:∀ b∈fp,qW X pins H2 b)
  {W:Nat->Nat->List V->Hp->Prop} (w0:∃ m,W 0 m [] H2)
  (turn:∀ i m acc H,W i m acc H->(J.stop i H/\∀ p,H p=none->Q (.ref p) (upd H p (.lst acc))) \/
   (J.go i H/\acc.length<sizeLine/\∀ x H',J.yld i H x H'->g x (jG nt ix σ) H' fun σ2 H2=>tt σ2 H2 fun b H3 =>
    if b=true then te σ2 H3 fun y H4=>∃ m',m'<m/\W (i+1) m' (acc++[y]) H4 else ∃ m',m'<m/\W (i+1) m' acc H3))
  {RR:ae->ah->Result->ai->Prop}
  (hRR:∀ D C m s' (acc:List V) H',H' D=none->qW X pins (upd H' D (.lst acc)) C->Q (.ref D) (upd H' D (.lst acc))->s'.heap.Ns C m->(∀ h',bE C s'.heap h'->bx X pins σ (upd H' D (.lst acc)) { s' with heap:=h' })->RR (.ref D) C (.ok .next) s') :
  ak (ay X.prog X.w) X.A (newList []) (fun acc s₃=>ak (ay X.prog X.w) X.A (vY scope X.env.globals cl [] X.env.qual none .none (some X.env)) (fun cenv s₄ =>
   h_ (ay X.prog X.w) X.A (.compStart (.ListComp elt [⟨tg,iter,ifs,0⟩] scope pos) 0 (.ref it) acc { cenv with scope:=relabel scope X.env }) (RR acc cenv.locals) s₄) E s₃) E s2:=by
 refine cj (IH fun h₁ hh₁=>?_);dsimp only at hh₁ ⊢;generalize hG2:s2.heap.push { cls:=.type "list",dict:=none,data:=.seq ([] : List ae).toArray }=G2 at hh₁ ⊢;have hC:G2.objs.size=s2.heap.objs.size+1:=by rw [<- hG2,c7]
 have hDC:s2.heap.objs.size≠G2.objs.size:=by rw [hC];exact aA (ev _)
 have hCle:s2.heap.objs.size<=G2.objs.size:=by rw [hC];exact i0 _
 have below:∀ b,b<s2.heap.objs.size->b≠G2.objs.size:=fun b hb=>by rw [hC];exact aA (gJ hb)
 have kp:∀ b o,G2.get? b=some o->h₁.get? b=some o:=fun b o e=>by rw [hh₁];exact uz _ _ b o (aa _ e)
 have hns₁:h₁.Ns G2.objs.size (fun _=>none):=by rw [hh₁];exact (Heap.Ns.new G2 (.type "dict")).keeps (uz _ _)
 have ok₁:CellsOk h₁ (G2.objs.size+1) (ba (G2.objs.size+1) scope.names []):=by rw [hh₁];exact Bo G2 scope.names
 have cne:∀ x c,(ba (G2.objs.size+1) scope.names cl).lookup x=some c->X.env.cells.lookup x=some c\/s2.heap.objs.size<c:=fun x c e=>by
  rcases kS e with a|⟨_,a⟩
  ·exact .inr (aC (kf hCle) (ok₁.empty x c a).2)
  ·exact .inl (c1 x c a)
 have old:∀ b o,s2.heap.get? b=some o->h₁.get? b=some o:=fun b o e=>kp b o (hG2 ▸ aa _ e);have hacc:h₁.get? s2.heap.objs.size=some { cls:=.type "list",dict:=none,data:=.seq ([] : List ae).toArray }:=kp _ _ (hG2 ▸ aB _ rfl);have ff:∀ b∈fp,b<s2.heap.objs.size:=fun b hb=>by
  obtain ⟨o,e,_⟩:=T.obj _ _ st2 b hb;exact al e
 have I3:bx (cH X N' scope (ba (G2.objs.size+1) scope.names cl) G2.objs.size s2 H2 fp (X.pn++pins)) [] (jG nt ix σ) H2 { s2 with heap:=h₁,toks:=s2.toks }:=E4 S I2 c1 c2 f2 ff hCle hns₁ old ok₁;obtain ⟨pg,pt,pe⟩:=hb (ba (G2.objs.size+1) scope.names cl) G2.objs.size s2 H2 fp (X.pn++pins);have hDfs:s2.heap.objs.size∉lv X.stack:=fun z=>by
  rcases List.mem_cons.mp (I2.stkSub _ z) with e|e
  ·exact absurd I2.lt (by rw [<- e];exact bN _)
  ·exact I2.nofs (am _) e
 have nod:∀ (its:List ae) (n:Nat) v,({ cls:=.type "list",data:=.seq its.toArray n }:Obj).data≠.cell v:=fun _ _ _ z=>nomatch z;have st1:tn 0 h₁:=T.keep _ _ _ st2 fun b _ o e=>old b o e;have hDf:s2.heap.objs.size∉fp:=fun z=>absurd (ff _ z) (bN _);have stat:∀ {H':Hp}{pl:List (ah×Obj)},(∀ p∈pl,p.1∉fp)->(∀ b∈fp,H' b=none)->∀ b∈fp,qW (cH X N' scope (ba (G2.objs.size+1) scope.names cl) G2.objs.size s2 H2 fp (X.pn++pins)) pl H' b:=fun hpl hn b hb=>by
  obtain ⟨f0,f1,f2',f3,f4,f5⟩:=f2 b hb;refine ⟨hn b hb,below b (ff b hb),fun z=>?_,.inl hb,fun x c e=>(cne x c e).elim (f4 x c) fun q z=>xE q (by rw [z];exact ff b hb),fun p hp z=>?_⟩
  ·rcases List.mem_cons.mp (I2.stkSub _ z) with e|e
   ·exact f1 e
   ·exact f2' e
  ·rcases List.mem_append.mp hp with q|q
   ·exact f5 p q z
   ·exact hpl p q (z ▸ hb)
 obtain ⟨m0,w0⟩:=w0;have loop:h_ (ay X.prog X.w) X.A (.compLoop (.ListComp elt [⟨tg,iter,ifs,0⟩] scope pos) 0 (.ref it) (.ref s2.heap.objs.size) (compEnvC scope (ba (G2.objs.size+1) scope.names cl) G2.objs.size X.env))
    (RR (.ref s2.heap.objs.size) G2.objs.size) { s2 with heap:=h₁,toks:=s2.toks }:=by
  refine CA (Xp X pins N' scope (ba (G2.objs.size+1) scope.names cl) G2.objs.size s2 H2 fp nt ix σ tn W) ?_ m0
   ⟨0,[],[],0,H2,I3.pin1 hacc (I2.hok.fresh (am _)) hDC hDfs (nod _ _),.nil,dW _,st1,fun b hb=>(f2 b hb).1,w0⟩
  rintro n s3 ⟨i,acc,its,nn,H3,J3,rv,hz,st3,fr3,w3⟩;have plD:∀ p∈[(s2.heap.objs.size,({ cls:=.type "list",data:=.seq its.toArray nn }:Obj))],p.1∉fp:=fun p hp=>by
   have:p=(s2.heap.objs.size,({ cls:=.type "list",data:=.seq its.toArray nn }:Obj)):=by simpa using hp
   rw [this];exact hDf
  rcases turn i n acc H3 w3 with ⟨stop,qn⟩|⟨go,hlt,step⟩
  ·refine fL (T.done (cH X N' scope (ba (G2.objs.size+1) scope.names cl) G2.objs.size s2 H2 fp (X.pn++pins)) rfl rfl rfl hc i _ s3 _ H3 _ J3 (stat plD fr3) st3 stop) fun r s4 h_0=>?_;obtain ⟨hr,I4⟩:=h_0;subst hr;obtain ⟨pD,pN,_⟩:=I4.pin (s2.heap.objs.size,_) (aW _ (List.mem_singleton.mpr rfl));obtain ⟨mm,hn,_⟩:=I4.loc;have hCn:H3 G2.objs.size=none:=I4.free;refine hRR _ _ mm s4 acc H3 pN (I2.fpOk hCle (by rw [aO (cZ hDC)];exact hCn)) (qn _ pN) hn fun h' sb=>?_;have hu:Un (lv X.stack) fp H2 (upd H3 s2.heap.objs.size (.lst acc)) s2.heap h':=Un.grow I4.base sb hCle (am _) pN;refine I2.call' (s':={ s4 with heap:=h' }) (ch:=fp) I4.os hu ?_ I4.bare fun b hb=>?_
   ·refine sj (yL I4.hok hCn sb) pN ⟨hz,its,nn,rv,(sb.2 _ hDC).trans pD⟩
   ·obtain ⟨_,f1,_,f3,f4,f5⟩:=f2 b hb;exact ⟨f3,f1,f4,f5⟩
  ·refine fL (T.item (cH X N' scope (ba (G2.objs.size+1) scope.names cl) G2.objs.size s2 H2 fp (X.pn++pins)) rfl rfl rfl hc i _ s3 _ H3 _ J3 (stat plD fr3) st3 go) fun r s4 h_1=>?_;obtain ⟨u,hr,h4⟩:=h_1;subst hr;refine fL h4 fun _ s5 h_2=>?_;obtain ⟨x,H5,I5,r5,y5,st5,fr5⟩:=h_2;have I5':=I5.pinned (stat plD fr5) (T.obj _ _ st5);refine fL (pg _ s5 _ H5 x u _ I5' r5 (lo _ _ _ _ (step x H5 y5))) fun _ s6 h_3=>?_;obtain ⟨σ6,H6,I6,q6,l6,k6⟩:=h_3;have hw:∀ (j:Nat) v,(jG nt ix σ)[j]?=some (some v)->σ6[j]?=some (some v):=fun j v e=>by
    by_cases hj:nt<=j
    ·rw [k6 j hj];exact e
    ·unfold jG at e;rw [bJ (by simpa using hj),bH,if_pos (by omega)] at e;cases e
   refine fL (pt _ s6 σ6 H6 _ I6 q6) fun b s7 h_4=>?_;obtain ⟨H7,I7,q7⟩:=h_4;have fpk:∀ {s8:ai}{σ8:St}{H8:Hp},bx (cH X N' scope (ba (G2.objs.size+1) scope.names cl) G2.objs.size s2 H2 fp (X.pn++pins)) ([(s2.heap.objs.size,{ cls:=.type "list",data:=.seq its.toArray nn })]++wg fp s5.heap) σ8 H8 s8 ->
     tn (i+1) s8.heap/\∀ b∈fp,H8 b=none:=fun {s8 σ8 H8} I8=>by
    refine ⟨T.keep _ _ _ st5 fun b hb o e=>(I8.pin (b,o) (aW _ (aW _ (ki hb e)))).1,fun b hb=>?_⟩;obtain ⟨o,e,d⟩:=T.obj _ _ st5 b hb;exact (I8.pin (b,o) (aW _ (aW _ (ki hb e)))).2.1
   cases b with
   |false =>
    simp only [bV,if_false] at q7 ⊢;obtain ⟨m',hm,w7⟩:=q7;obtain ⟨t7,f7⟩:=fpk I7;exact ⟨m',hm,i+1,acc,its,nn,H7,(I7.weak l6.symm hw).unpinned,rv,hz,t7,f7,w7⟩
   |true =>
    simp only [if_true] at q7 ⊢;refine fL (pe _ s7 σ6 H7 _ I7 q7) fun u8 s8 h_5=>?_;obtain ⟨y,H8,I8,r8,m',hm,w8⟩:=h_5;obtain ⟨t8,f8⟩:=fpk I8;obtain ⟨pD,pN,_⟩:=I8.pin (s2.heap.objs.size,_) (aW _ (gI _ (List.mem_singleton.mpr rfl)));have hl:=rv.length;refine wpAny_list_append_plain ⟨nn,pD⟩ (hsz:=by rw [aK];omega) ?_;intro h9 pl9 sb9;obtain ⟨n9,e9⟩:=pl9;have e9':h9.get? s2.heap.objs.size=some { cls:=.type "list",data:=.seq (its++[u8]).toArray n9 }:=by rw [e9];simp
    refine ⟨m',hm,i+1,acc++[y],its++[u8],n9,H8,?_,rv.append (.cons r8 .nil),by rw [aL,ik];omega,T.keep _ _ _ t8 fun b hb o e=>sb9.extBut b o (fun z=>hDf (z ▸ hb)) e,f8,w8⟩;have I8':bx (cH X N' scope (ba (G2.objs.size+1) scope.names cl) G2.objs.size s2 H2 fp (X.pn++pins)) [] (jG nt ix σ) H8 s8:=(I8.weak l6.symm hw).pins_of fun p hp=>absurd hp (by simp);have I9:bx (cH X N' scope (ba (G2.objs.size+1) scope.names cl) G2.objs.size s2 H2 fp (X.pn++pins)) [] (jG nt ix σ) H8 { s8 with heap:=h9,toks:=s8.toks } :=
     I8'.turned (it:=s2.heap.objs.size) (fun b o hb e=>sb9.extBut b o hb e) pN hDC (.inr (am _)) (fun x c e z=>by
      rcases cne x c e with e|e
      ·obtain ⟨v,q⟩:=I2.cell x c e;exact absurd q.lt (by rw [z];exact bN _)
      ·exact absurd e (by rw [z];exact bN _)) fun p hp z=>by
      have hp:p∈X.pn++pins:=(List.mem_append.mp hp).elim id fun z=>absurd z (by simp);exact absurd (al (I2.pin p hp).1) (by rw [z];exact bN _)
    exact I9.pin1 e9' pN hDC hDfs (nod _ _)
 exact codeAny_compStart_list loop (T.self _ 0 _ _ _ st1 loop)
end
section
theorem E5
  (hc:X.calm=true) (S:o7 X scope N' nt ix) (lo:Rs nt g) (hi:PI X tg iter wi)
  (hb:∀ cl C s₀ H₀ ex pn,PG (cH X N' scope cl C s₀ H₀ ex pn) tg g/\P3 (cH X N' scope cl C s₀ H₀ ex pn) ifs tt/\PE (cH X N' scope cl C s₀ H₀ ex pn) elt te)
  (hs:∀ x,dY iter X.env x=pure x:=by intro _;rfl):PE X (.ListComp elt [⟨tg,iter,ifs,0⟩] scope pos) (MA nt ix wi g tt te):=by
 intro pins s σ H Q I h;obtain ⟨cl,hcl,c1,c2⟩:=tW (scope:=scope) (env:=X.env) fun y hy hf=>I.ok.has y.1 (S.free y hy hf);rw [eval_ListComp];refine qN (use:=none) rfl hs hcl S.kind S.loc (fL (hi pins s σ H _ I h) fun v s1 h1=>fL h1 fun itv s2 h2=>?_);obtain ⟨it,fp,tn,J,H2,e,I2,T,st2,f2,W,w0,turn⟩:=h2;subst e;refine yM (RR:=fun acc C=>compPost (ay X.prog X.w) X.A X.xe none (EP X pins σ Q) acc C) hc S lo hb c1 c2 I2 T st2 f2 w0 turn ?_;intro D C m s' acc H' hD _ q hn hI;exact ⟨m,hn,fun h' sb=>⟨.ref D,_,hI h' sb,rfl,q⟩⟩
def Ux (i:Nat) (te:TE):TS:=fun D σ H=>te σ H fun x H1=>D.nx (σ.set i (some x)) H1
theorem GP
  (hN:X.N.Nodup) (hiN:X.N[i]?=some y) (hy:X.env.scope.names.lookup y=some .local)
  (hc:X.calm=true) (S:o7 X scope N' nt ix) (lo:Rs nt g) (hi:PI X tg iter wi)
  (hb:∀ cl C s₀ H₀ ex pn,PG (cH X N' scope cl C s₀ H₀ ex pn) tg g/\P3 (cH X N' scope cl C s₀ H₀ ex pn) ifs tt/\PE (cH X N' scope cl C s₀ H₀ ex pn) elt te)
  (hsw:iR (.ListComp elt [⟨tg,iter,ifs,0⟩] scope pos) (some (.Name y py)) spos.line X.env=pure true:=by rfl)
  (hs:∀ x,dY iter X.env x=pure x:=by intro _;rfl):PS X (.Assign [.Name y py] (.ListComp elt [⟨tg,iter,ifs,0⟩] scope pos) spos) (Ux i (MA nt ix wi g tt te)):=by
 intro pins s σ H D I h;obtain ⟨cl,hcl,c1,c2⟩:=tW (scope:=scope) (env:=X.env) fun y hy hf=>I.ok.has y.1 (S.free y hy hf);rw [exec_Assign_Name_used _ _ _ _ hsw];refine a6 (c_ (a6 ?_));show ak _ X.A (do let _ <- comprehension (.ListComp elt [⟨tg,iter,ifs,0⟩] scope pos) scope X.env _ (newList []) false (cz iter X.env) (some (qL (.Name y py) X.env))) _ _ s;refine a6 (aV (qN (use:=some (qL (.Name y py) X.env)) (Q:=fun _ s'=>SP X pins D .next s') rfl hs hcl S.kind S.loc
  (fL (hi pins s σ H _ I h) fun v s1 h1=>fL h1 fun itv s2 h2=>?_)) (fun _ s' hq=>ac (ac hq)) fun _ _ e=>e)
 obtain ⟨it,fp,tn,J,H2,e,I2,T,st2,f2,W,w0,turn⟩:=h2;subst e;refine yM (Q:=fun x H1=>D.nx (σ.set i (some x)) H1) (RR:=fun acc C=>compPost (ay X.prog X.w) X.A X.xe (some (qL (.Name y py) X.env)) (fun _ s'=>SP X pins D .next s') acc C) hc S lo hb c1 c2 I2 T st2 f2 w0 turn ?_;intro L C m s' acc H' hD fC q hn hI;show ak _ X.A (qL (.Name y py) X.env (.ref L)) _ _ _;have I3:bx X pins σ (upd H' L (.lst acc)) s':=hI s'.heap (.refl ..);refine wpAny_assign_Name (Bb I3 hN hiN (.inl hy) (v:=.ref L) rfl (fun s4 I4 ⟨a,sb,ha⟩=>?_) (.inr hy));obtain ⟨g0,g1,g2,g3,g4,g5⟩:=fC;have hCa:C≠a:=by
  rcases ha with z|z
  ·rw [z];exact g1
  ·exact fun e=>g4 y a z e.symm
 refine ⟨m,hn.sameBut sb hCa,fun h5 sb5=>?_⟩;exact ⟨_,_,I4.turned (t':=s4.toks) (fun b o hb e=>(sb5.2 b hb).trans e) g0 g1 g3 g4 g5,q⟩
end
section
def jZ (e:Int×ae):Str:=match e.2 with
 |.str x _=>x
 |_=>⟨#[]⟩
def tX (w:bv) (e:Int×ae):Prop:=∃ x tk,e=(hashStr w x,iY x tk)
structure cL (w:bv) (h:bt) (a:ah) (es:Array (Int×ae)) (ep:Nat) (t:ll):Prop where
 at_:h.get? a=some { cls:=.type "set",dict:=none,data:=.set es ep t }
 txt:∀ e∈es.toList,tX w e
 nd:(es.toList.map jZ).Nodup
 few:es.size<iU
 fits:t.fits es.size=true
 led:t.led=!w.params.followText "set-order"
 pl:es.size=0\/t.plain=false
inductive lz (w:bv) (h:bt) (a:ah) (ss:List Str):Prop
 |mk (es ep t:_) (h0:cL w h a es ep t) (h1:(es.toList.map jZ).Perm ss):lz w h a ss
theorem GQ (t:ll) (es:Array (Int×ae)) (h:Int) (x:ae):(layNew t es h x).2.1.led=t.led:=by
 unfold layNew;cases t.freeSlot h with
 |none=>rfl
 |some p =>
  obtain ⟨slot,d⟩:=p;show ((t.put slot).1.orStandIn _).led=_;unfold FX;split<;>rfl
theorem CB (t:ll) (es:Array (Int×ae)) (h:Int) (x:ae):t.plain=false->(layNew t es h x).2.1.plain=false:=by
 intro hp;unfold layNew;cases t.freeSlot h with
 |none=>rfl
 |some p =>
  obtain ⟨slot,d⟩:=p;show ((t.put slot).1.orStandIn _).plain=_;unfold FX;split
  ·exact hp
  ·rfl
theorem E6 {t t':ll}{hs:Array Int}{n:Nat}{o:Array Nat} (h:t.relaid hs n=some (t',o)):t'.led=t.led/\t'.plain=t.plain:=by
 unfold K2 Ac at h;cases e:uA (c8 n-1) hs with
 |none=>rw [e] at h;cases h
 |some ow =>
  rw [e] at h;have h:=bD h;have h1:=congrArg Prod.fst h;subst h1;exact ⟨rfl,rfl⟩
theorem Ko (t:ll) (es:Array (Int×ae)) (n:Nat):(vZ t es n).2.1.led=t.led/\(t.plain=false->(vZ t es n).2.1.plain=false):=by
 unfold vZ;cases e:t.relaid (es.map (·.1)) n with
 |none=>exact ⟨rfl,fun _=>rfl⟩
 |some p =>
  obtain ⟨t',o⟩:=p;obtain ⟨h1,h2⟩:=E6 e;dsimp only;split
  ·exact ⟨h1,fun h=>h2.trans h⟩
  ·exact ⟨rfl,fun _=>rfl⟩
theorem MC   (h:∀ e∈l,tX w e):ElemsOf (strKind P w) l:=fun e he=>by
 obtain ⟨x,tk,rfl⟩:=h e he;exact ⟨⟨x,by simp [PySem.strKind,uw],rfl⟩,rfl⟩
theorem VW (P:bd) (w:bv) (x:Str) (tk:Tok):(strKind P w).is x (.str x tk)=true:=by simp [PySem.strKind,uw]
theorem II   (h:tX w e) (x:Str):(strKind P w).is x e.2=true↔jZ e=x:=by
 obtain ⟨y,tk,rfl⟩:=h;constructor
 ·intro q;have:=(strKind P w).inj _ _ _ q (VW P w y tk);rw [this];rfl
 ·rintro rfl;exact VW P w _ tk
section
theorem sk     (I:cL w h a es ep t):(h.update a (qO es' t')).get? a=some { cls:=.type "set",dict:=none,data:=.set es' (ep+1) t' }:=by
 have q:=fV (qO es' t') I.at_ rfl;exact q
theorem Bp     (hS:lz w s.heap a ss) (hr:ss.length+1<iU)
  (h:∀ h' tk',bE a s.heap h'->lz w h' a (if x∈ss then ss else ss++[x])->Q (!decide (x∈ss)) { s with heap:=h',toks:=tk' }) :
  ak (ay P w) A (setAddHashed a (.str x tk) ((strKind P w).hash x)) Q E s:=by
 obtain ⟨es,ep,t,I,pm⟩:=hS
 have hlen:es.size=ss.length:=by rw [<- pm.length_eq,ar,ap]
 have hel:ElemsOf (strKind P w) es.toList:=MC I.txt
 unfold setAddHashed setAddHashedIn
 refine bS (a6 (br (s:=s) I.at_ rfl I.fits ?_))
 dsimp only
 rw [byScan_of rfl I.few hel]
 rw [if_pos rfl]
 unfold setAddByScan
 refine a6 (a6 (gy (a6 (wpAny_setScan_of (s:=s) (VW P w x tk) I.at_ rfl I.fits hel ?_))))
 have inmem:x∈ss↔∃ e∈es.toList,(strKind P w).is x e.2=true:=by
  rw [<- pm.mem_iff,List.mem_map]
  constructor
  ·rintro ⟨e,he,q⟩;exact ⟨e,he,(II (I.txt e he) x).mpr q⟩
  ·rintro ⟨e,he,q⟩;exact ⟨e,he,(II (I.txt e he) x).mp q⟩
 cases hf:List.findIdx? (fun e=>(strKind P w).is x e.2) es.toList with
 |some j =>
  obtain ⟨hj,hp,_⟩:=List.findIdx?_eq_some_iff_getElem.mp hf
  have hin:x∈ss:=inmem.mpr ⟨_,j4 hj,hp⟩
  have q:=h s.heap s.toks (.refl ..) (by rw [if_pos hin];exact ⟨es,ep,t,I,pm⟩)
  rw [decide_eq_true hin] at q
  exact ac (ac q)
 |none =>
  have hout:x∉ss:=fun z=>by
   obtain ⟨e,he,q⟩:=inmem.mp z
   rw [List.findIdx?_eq_none_iff.mp hf e he] at q
   cases q
  have h:=fun h' tk' sb=>h h' tk' sb
  rw [decide_eq_false hout,if_neg hout] at h
  have p1:=layNew_perm t es ((strKind P w).hash x) (.str x tk)
  have f1:=layNew_fits t es ((strKind P w).hash x) (.str x tk)
  have l1:=GQ t es ((strKind P w).hash x) (.str x tk)
  have q1:=CB t es ((strKind P w).hash x) (.str x tk)
  generalize layNew t es ((strKind P w).hash x) (.str x tk)=L at p1 f1 l1 q1 ⊢
  obtain ⟨es1,t1,wd,gv⟩:=L
  dsimp only at p1 f1 l1 q1 ⊢
  rw [LG] at p1
  have tx1:∀ e∈es1.toList,tX w e:=fun e he=>by
   rcases List.mem_append.mp (p1.mem_iff.mp he) with z|z
   ·exact I.txt e z
   ·rw [cg] at z;exact ⟨x,tk,z⟩
  have km:(es1.toList.map jZ).Perm (ss++[x]):=(p1.map jZ).trans (by rw [cu];exact pm.append_right _)
  have nd1:(ss++[x]).Nodup:=by
   rw [LW]
   exact ⟨pm.nodup_iff.mp I.nd,by simp,fun y hy z hz e=>hout (by rw [cg] at hz;rw [<- hz,<- e];exact hy)⟩
  have sz1:es1.size=es.size+1:=by rw [<- ap,p1.length_eq,aL,ap];rfl
  have few1:es1.size<iU:=by omega
  have gw:∀ (b:Bool) {s₁:ai}{Q':Unit->ai->Prop},Q' () s₁->ak (ay P w) A (match b with|true=>rule "set.scan.the-table-gave-way" | false=>pure ()) Q' E s₁ :=
   fun b _ _ z=>by cases b<;>first|exact ac z|exact gy z
  have tail:∀ t2:ll,t2.fits es1.size=true->t2.led=t.led->t2.plain=false->ak (ay P w) A (do
    storeSet a es1 t2
    if (!wd&&t2.tooFull)=true then do
      (match (vZ t2 es1 (il es1.size)).2.2 with|true=>rule "set.scan.the-table-gave-way" | false=>pure ())
      storeSet a (vZ t2 es1 (il es1.size)).1 (vZ t2 es1 (il es1.size)).2.1
      pure (some true)
     else pure (some true)) (fun r s'=>r=some true/\Q true s') E s:=fun t2 f2 l2 n2=>by
   refine a6 (j5 (s:=s) I.at_ rfl ?_ (fm few1))
   have at1:=sk (es':=es1) (t':=t2) I
   have sb1:=bQ s.heap a (qO es1 t2)
   have I1:cL w (s.heap.update a (qO es1 t2)) a es1 (ep+1) t2:=⟨at1,tx1,km.nodup_iff.mpr nd1,few1,f2,l2.trans I.led,.inr n2⟩
   split
   ·have p2:=relayAll_perm t2 es1 (il es1.size)
    have f3:=relayAll_fits t2 es1 (il es1.size)
    have l3:=Ko t2 es1 (il es1.size)
    generalize vZ t2 es1 (il es1.size)=R3 at p2 f3 l3 ⊢
    obtain ⟨es2,t3,gv2⟩:=R3
    dsimp only at p2 f3 l3 ⊢
    have few2:es2.size<iU:=by rw [<- ap,p2.length_eq,ap];exact few1
    have km2:=(p2.map jZ).trans km
    refine a6 (gw _ (a6 (j5 (s:={ s with heap:=s.heap.update a (qO es1 t2) }) I1.at_ rfl ?_ (fm few2))))
    refine ac ⟨rfl,h _ _ (sb1.trans (bQ _ a _)) ⟨es2,ep+1+1,t3,⟨sk I1,fun e he=>tx1 e (p2.mem_iff.mp he),km2.nodup_iff.mpr nd1,few2,f3,l3.1.trans (l2.trans I.led),.inr (l3.2 n2)⟩,km2⟩⟩
   ·exact ac ⟨rfl,h _ _ sb1 ⟨es1,ep+1,t2,I1,km⟩⟩
  refine a6 (gw gv ?_)
  cases hp:t1.plain with
  |true =>
   simp only [if_true]
   rw [hashByValue_scannable 8 (x:=.str x tk) rfl]
   refine a6 (ac ?_)
   refine aV (tail { t1 with plain:=false } (by cases t1;exact f1) l1 rfl) (fun r s' z=>?_) fun _ _ z=>z
   obtain ⟨rfl,z⟩:=z
   exact ac z
  |false =>
   simp only [bV,if_false]
   refine a6 (ac ?_)
   refine aV (tail t1 f1 l1 hp) (fun r s' z=>?_) fun _ _ z=>z
   obtain ⟨rfl,z⟩:=z
   exact ac z
theorem E7     (hS:lz w s.heap a ss) (hr:ss.length+1<iU)
  (h:∀ h' tk',bE a s.heap h'->lz w h' a (if x∈ss then ss else ss++[x])->Q (!decide (x∈ss)) { s with heap:=h',toks:=tk' }) :
  ak (ay P w) A (setAdd a (.str x tk)) Q E s:=by
 unfold setAdd;refine bS (a6 ((strKind P w).pyHash (k:=x) (VW P w x tk) ?_));exact Bp (s:={ s with toks:=s.toks+1 }) hS hr h
end
end
section
abbrev eY (w:bv):Obj:={ cls:=.type "set",dict:=none,data:=.set #[] 0 (.fresh 0 0 (!w.params.followText "set-order")) }
theorem Br (w:bv)  (e:h.get? a=some (eY w)):lz w h a [] :=
 ⟨#[],0,_,⟨e,fun e he=>by simp at he,by simp,by decide,rfl,rfl,.inl rfl⟩,by simp⟩
def cX:List Str->List Str->List Str
 |acc,[]=>acc
 |acc,x::r=>cX (if x∈acc then acc else acc++[x]) r
theorem iI:∀ (l acc:List Str) (x:Str),x∈cX acc l↔x∈acc\/x∈l
 |[],acc,x=>by simp [cX]
 |y::r,acc,x=>by
  rw [cX,iI r];by_cases h:y∈acc
  ·rw [if_pos h];simp only [a_];constructor
   ·exact fun z=>z.elim .inl fun z=>.inr (.inr z)
   ·rintro (z|z|z)
    ·exact .inl z
    ·exact .inl (z ▸ h)
    ·exact .inr z
  ·rw [if_neg h];simp [qP,or_assoc]
theorem iz:∀ (l acc:List Str),acc.Nodup->(cX acc l).Nodup
 |[],acc,h=>h
 |y::r,acc,h=>by
  rw [cX];refine iz r _ ?_;by_cases hy:y∈acc
  ·rw [if_pos hy];exact h
  ·rw [if_neg hy,LW];exact ⟨h,by simp,fun a ha b hb e=>hy (by rw [cg] at hb;rw [<- hb,<- e];exact ha)⟩
theorem gd:∀ (l acc:List Str),(cX acc l).length<=acc.length+l.length
 |[],acc=>by simp [cX]
 |y::r,acc=>by
  rw [cX];have:=gd r (if y∈acc then acc else acc++[y]);by_cases hy:y∈acc
  ·rw [if_pos hy] at this ⊢;simp only [aU];omega
  ·rw [if_neg hy] at this ⊢;simp only [aU,aL,ik,bz] at this ⊢;omega
section
theorem lz.keep   (x:lz w h a ss) (k:∀ o,h.get? a=some o->h'.get? a=some o):lz w h' a ss :=
 let ⟨es,ep,t,I,p⟩:=x;⟨es,ep,t,⟨k _ I.at_,I.txt,I.nd,I.few,I.fits,I.led,I.pl⟩,p⟩
theorem Ax {I:ah}{fp wr:List ah}{n:Nat}{Pv:Nat->ae->Prop}{St:Nat->bt->Prop} (W:LH prog w A.in1 I fp wr n Pv St) (D:ah) (hD:D∉fp) (xs:List Str) (hx:xs.length=n)
  (hv:∀ i v,Pv i v->∃ x t,xs[i]?=some x/\v=.str x t) (hb:n+1<iU) :
  ∀ (k i:Nat) (s:ai) (acc:List Str),n-i=k->i<=n->acc.length<=i->St i s.heap->lz w s.heap D acc ->
   (∀ h' tk,(∀ b o,b∉D::wr->s.heap.get? b=some o->h'.get? b=some o)->lz w h' D (cX acc (xs.drop i))->R (.ok (.ret .none)) { s with heap:=h',toks:=tk }) ->
   h_ (ay prog w) A (.builtin "set.update.loop" ⟨[.ref D,.ref I],[]⟩) R s:=by
 have hDw:D∉wr:=fun z=>hD (W.sub _ z);intro k;induction k with
 |zero =>
  intro i s acc hk hi hl st hS hR;obtain rfl:i=n:=by omega
  refine fz pj ?_;rw [eF i9 _];show ak _ A.in1 (nX (.ref I) >>= _) _ _ s;refine a6 (W.done s _ _ st fun h' tk kp=>?_);refine ac (hR h' tk (fun b o hb e=>kp b o (fun z=>hb (ao _ z)) e) ?_);rw [FY (by omega)];exact hS.keep fun o e=>kp D o hDw e
 |succ k ih =>
  intro i s acc hk hi hl st hS hR;have hlt:i<n:=by omega
  refine fz pj ?_;rw [eF i9 _];show ak _ A.in1 (nX (.ref I) >>= _) _ _ s;refine a6 (W.item i s _ _ hlt st fun v h' tk hP st' kp=>?_);obtain ⟨x,t,hxi,rfl⟩:=hv i v hP;have hS':lz w h' D acc:=hS.keep fun o e=>kp D o hDw e;refine a6 (bS (E7 (s:={ s with heap:=h',toks:=tk }) hS' (by omega) fun h2 tk2 sb hS2=>?_));refine ac ⟨mS i9 _,ih (i+1) _ (if x∈acc then acc else acc++[x]) (by omega) hlt ?_ (W.frame _ _ _ st' fun b hb o e=>?_) hS2 fun h3 tk3 k3 hS3=>?_⟩
  ·by_cases z:x∈acc
   ·rw [if_pos z];omega
   ·rw [if_neg z,aL,ik];omega
  ·rw [sb.2 b fun z=>hD (z ▸ hb)];exact e
  ·refine hR h3 tk3 (fun b o hb e=>k3 b o hb ?_) ?_
   ·rw [sb.2 b fun z=>hb (by rw [z];exact aq)];exact kp b o (fun z=>hb (ao _ z)) e
   ·have hd:xs.drop i=x::xs.drop (i+1):=by
     obtain ⟨h1,h2⟩:=List.getElem?_eq_some_iff.mp hxi;rw [Cd h1,h2]
    rw [hd,cX];exact hS3
theorem MD (a:ae) (h:Q₁ (.ref s.heap.objs.size) { s with heap:=s.heap.push (eY w) }) :
  h_ (ay prog w) A (.call (.builtin "set.__new__") ⟨[.type "set",a],[]⟩) (wants Q₁ E) s:=by
 refine uB ?_;show ak _ A.in1 (do m7 "set.__new__" ⟨[.type "set",a],[]⟩;again (.builtin "set.__new__" ⟨[.type "set",a],[]⟩)) _ _ s;refine a6 (mV (F.newCall_set_1 a) (ac ⟨mS F.plain_set_new _,fz F.entry_set_new ?_⟩));rw [eF F.plain_set_new _];unfold fW.«set.__new__» Pa;have hsub:=LX;obtain ⟨hp,g,d,tk,os⟩:=s;dsimp only;wp_walk;refine i7 (ac ?_);dsimp only;simp only [newObj];refine a6 (P9 (ac ?_));exact ac h
structure SZ (prog:bd) (w:bv) (A:bO) (T:String) (l:ah) (o:Obj) (items:Array ae):Prop where
 ty:o.cls=.type T
 s1:isSubtype (.type T) (.type "set")=pure false
 s2:isSubtype (.type T) (.type "frozenset")=pure false
 nd:(hG T==hG "dict")=false
 iter:∀ (s:ai) (Q:ae->ai->Prop) (E:ae->ai->Prop),s.heap.get? l=some o ->
  (∀ ob St,LH prog w A.in1 s.heap.objs.size [s.heap.objs.size,l] [s.heap.objs.size] items.size (fun i v=>items[i]?=some v) St->St 0 (s.heap.push ob)->Q (.ref s.heap.objs.size) { s with heap:=s.heap.push ob })->ak (ay prog w) A (yp (.ref l)) Q E s
theorem uX {T:String}{l:ah}{ol:Obj}{items:Array ae}{xs:List Str}{Q:ae->ai->Prop}
  (src:SZ prog w A.in1.in1 T l ol items) (hol:s.heap.get? l=some ol) (hi:∀ (i:Nat) (v:ae),items[i]?=some v->∃ x t,xs[i]?=some x/\v=iY x t) (hx:xs.length=items.size) (hb:items.size+1<iU)
  (h:∀ (h':bt) (tk:Nat),lz w h' s.heap.objs.size (cX [] xs)->(∀ b o,s.heap.get? b=some o->h'.get? b=some o)->Q (.ref s.heap.objs.size) { s with heap:=h',toks:=tk }) :
  ak (ay prog w) A (call (.type "set") [.ref l]) Q E s:=by
 obtain ⟨c,tl,hmro⟩:=F.called_set.mro;have hmade:=F.called_set.made;have hsub:=F.called_set.sub;refine kc (uB ?_);show ak _ _ (callAny (.type "set") _) _ _ _;refine ac ⟨n8 _ (by decide +kernel),fz F.entry_type_call ?_⟩;rw [Around.under_plain (weight_type_call_type "set" [.ref l] []) rfl];have h1:=F.called_set.notType;have h2:=F.called_set.canCreate;have hct:=F.typeCall_set_1 (.ref l);repeat (any_goals (first|assumption|wp_step))
 refine oG (MD (.ref l) (E:=E) (Q₁:=fun obj s₁=>obj=.ref s.heap.objs.size/\s₁={ s with heap:=s.heap.push (eY w) }) ⟨rfl,rfl⟩) fun r s₁ hr=>?_;cases r with
 |error e=>exact hr
 |ok fl =>
  cases fl with
  |ret obj =>
   obtain ⟨rfl,rfl⟩:=hr;have hS:(s.heap.push (eY w)).get? s.heap.objs.size=some (eY w):=aB _ rfl;have hT:Pb { s with heap:=s.heap.push (eY w) } (.ref s.heap.objs.size) "set":=⟨_,hS,rfl⟩;have hli:=F.called_set.init.lookup;have hbi:=F.called_set.init.bind (.ref s.heap.objs.size);repeat (any_goals (first|assumption|wp_step))
   refine oG (jn (R:=wants (fun r s₂=>r=.none/\∃ h' tk,s₂={ s with heap:=h',toks:=tk }/\lz w h' s.heap.objs.size (cX [] xs) /\
     (∀ b o,s.heap.get? b=some o->h'.get? b=some o)) E) F.called_set.init.plain F.entry_set_init (check_set_init_1 hT ?_)) fun r₂ s₂ hr₂=>?_
   ·obtain ⟨oc,od,odt,os'⟩:=ol;obtain ⟨ty,s1,s2,nd,iter⟩:=src;have ty:oc=.type T:=ty;subst ty;have hol':(s.heap.push (eY w)).get? l=some { cls:=.type T,dict:=od,data:=odt,slots:=os' }:=aa _ hol;unfold fW.«set.__init__» noKeywords jE;generalize hPI:yp=PI;wp_walk;subst hPI;refine iter { s with heap:=s.heap.push (eY w) } _ _ hol' fun ob St W st=>?_;have hlS:l<s.heap.objs.size:=al hol;refine a6 (wpAny_runValue ?_);have szp:(s.heap.push (eY w)).objs.size=s.heap.objs.size+1:=c7 ..;refine Ax (A:=A.in1.in1) W s.heap.objs.size (by rw [szp];simp only [a_,aQ,or_false,not_or];exact ⟨aA (ev _),dQ hlS⟩) xs hx hi hb items.size 0 _ [] (by omega) (dW _) (am _) st (Br w (aa _ hS)) fun h' tk kp hS'=>?_;show ak _ _ _ _ _ _;refine ac ?_;show ak _ _ (ret e8) _ _ _;refine ac ⟨rfl,h',tk,rfl,hS',fun b o e=>kp b o ?_ (aa _ (aa _ e))⟩;have:=al e;rw [szp];simp only [a_,aQ,or_false,not_or];exact ⟨aA this,aA (gJ this)⟩
   ·cases r₂ with
    |error e=>exact hr₂
    |ok fl₂ =>
     cases fl₂ with
     |ret r =>
      obtain ⟨rfl,h',tk,rfl,hS',hk'⟩:=hr₂;repeat (any_goals (first|assumption|wp_step))
      exact h _ _ hS' hk'
     |next=>exact hr₂.elim
     |brk=>exact hr₂.elim
     |cont=>exact hr₂.elim
  |next=>exact hr.elim
  |brk=>exact hr.elim
  |cont=>exact hr.elim
theorem ME {l:ah}{o:Obj}{its:List ae} (hh:A.handled=none) (e0:o.cls=.type "list") (e1:∃ n,o.data=.seq its.toArray n):SZ prog w A "list" l o its.toArray :=
 ⟨e0,F.sub_list_set,F.sub_list_frozenset,by decide,fun s Q E e h=>l9 ⟨_,e,e0,e1⟩
  (h _ _ (Aj (by simpa using hh) _ l (aA (al e)) its.toArray) ⟨⟨_,aB _ rfl,rfl,rfl⟩,⟨_,aa _ e,e0,e1⟩⟩)⟩
theorem Q5 {l:ah}{o:Obj}{its:List ae} (hh:A.handled=none) (e0:o.cls=.type "tuple") (e1:∃ n,o.data=.seq its.toArray n):SZ prog w A "tuple" l o its.toArray :=
 ⟨e0,F.sub_tuple_set,F.sub_tuple_frozenset,by decide,fun s Q E e h=>gz ⟨_,e,e0,e1⟩
  (h _ _ (Walks.tuple (by simpa using hh) _ l (aA (al e)) its.toArray) ⟨⟨_,aB _ rfl,rfl,rfl⟩,⟨_,aa _ e,e0,e1⟩⟩)⟩
end
end
end L2
section
namespace L2
open PySem PySem.Spec PyProof.Rows
namespace SI
theorem entry_iter:Gm table "set.__iter__"=some fW.«frozenset.__iter__» :=
 Gn (id':="frozenset.__iter__") (by kernel_rfl) rfl (by decide +kernel) (by kernel_rfl)
theorem slot_next:Slot "set_iterator" "__next__" "set_iterator.__next__":=by
 refine .of (owner:="set_iterator") (n:="__next__") ?_ ?_ ?_ ?_ ?_ ?_
 ·rw [uC,lW];kernel_rfl
 ·decide +kernel
 ·decide +kernel
 ·decide +kernel
 ·first
   |exact .inl (by decide +kernel)
   |exact .inr (by decide +kernel)
 ·rw [Go];kernel_rfl
theorem entry_next:Gm table "set_iterator.__next__"=some fW.«set_iterator.__next__» :=
 entryFor_of_tree (by kernel_rfl)
theorem E8:Manifest.owners.lookup (String.ofList ['r','o','t','a','r','e','t','i','_','t','e','s'].reverse)=some Manifest.sig_set_iterator:=by kernel_rfl
theorem args_next (a:ae):Gp "set_iterator.__next__" ⟨[a],[]⟩:=by
 unfold Gp;rw [signature?_of (id:="set_iterator.__next__") (n:=['_','_','t','x','e','n','_','_']) (o:=['r','o','t','a','r','e','t','i','_','t','e','s']) (by kernel_rfl) E8]
 kernel_rfl
theorem args_iter (a:ae):Gp "set_iterator.__iter__" ⟨[a],[]⟩:=by
 unfold Gp;rw [signature?_of (id:="set_iterator.__iter__") (n:=['_','_','r','e','t','i','_','_']) (o:=['r','o','t','a','r','e','t','i','_','t','e','s']) (by kernel_rfl) E8]
 kernel_rfl
theorem entry_self:Gm table "set_iterator.__iter__"=some fW.«dict_keyiterator.__iter__» :=
 Gn (id':="dict_keyiterator.__iter__") (by kernel_rfl) rfl (by decide +kernel) (by kernel_rfl)
theorem slot_iter:Slot "set_iterator" "__iter__" "set_iterator.__iter__":=by
 refine .of (owner:="set_iterator") (n:="__iter__") ?_ ?_ ?_ ?_ ?_ ?_
 ·rw [uC,lW];kernel_rfl
 ·decide +kernel
 ·decide +kernel
 ·decide +kernel
 ·first
   |exact .inl (by decide +kernel)
   |exact .inr (by decide +kernel)
 ·rw [Go];kernel_rfl
end SI
end L2
end
namespace L2
open PySem PySem.Spec PyProof.Rows
section
theorem tY {α:Type}:∀ {l:List α}{i:Nat} (h:i<l.length),(l[i]::l.eraseIdx i).Perm l
 |x::r,0,_=>.refl _
 |x::r,i+1,h=>by
  have q:=tY (l:=r) (i:=i) (by simpa using h);rw [List.getElem_cons_succ,List.eraseIdx_cons_succ];exact (List.Perm.swap _ _ _).trans (q.cons x)
section
theorem Kp   (hn:n≠0) (h:∀ i d,i<n->Q i { s with drawn:=d }):ak M A (choose src n) Q E s :=
 fun _ _ _=>⟨hn,h _ _ (Ce _ (Nat.pos_of_ne_zero hn))⟩
theorem uY {α:Type}:∀ (n:Nat) (xs:List α) (s:ai) (Q:List α->ai->Prop),n=xs.length->(∀ ys d,ys.Perm xs->Q ys { s with drawn:=d })->ak M A (drawOrder n xs) Q E s
 | 0,xs,s,Q,hn,h=>by
  obtain rfl:xs=[]:=List.length_eq_zero_iff.mp hn.symm;exact ac (h [] s.drawn .nil)
 |n+1,[],s,Q,hn,h=>by cases hn
 |n+1,x::r,s,Q,hn,h=>by
  show ak M A (choose .order (x::r).length >>= _) Q E s;refine a6 (Kp (by simp) fun i d hi=>?_);rw [aX hi];refine a6 (uY n _ _ _ (by rw [B5 hi];omega) fun ys d' p=>ac ?_);exact h _ _ ((p.cons _).trans (tY hi))
end
theorem CC {α:Type} (next:Nat->Nat):∀ (n k:Nat) (left:List α) (out:Array α),n=left.length->(Ak next n k left out).toList.Perm (out.toList++left)
 | 0,k,left,out,hn=>by
  obtain rfl:left=[]:=List.length_eq_zero_iff.mp hn.symm;rw [Ak,cr]
 |n+1,k,left,out,hn=>by
  have hl:next k % left.length<left.length:=Ce _ (by omega)
  rw [Ak,aX hl];refine (CC next n (k+1) _ _ (by rw [B5 hl];omega)).trans ?_;rw [LG,oJ];exact (tY hl).append_left _
theorem wl {α:Type} (next:Nat->Nat) (xs:Array α):(pp next xs).toList.Perm xs.toList:=by
 have:=CC next xs.size 0 xs.toList #[] (by simp)
 simpa [pp] using this
def CD (h:bt) (I S:ah) (first:ae) (i n ep:Nat):Prop:=h.get? I=some { cls:=.type "set_iterator",data:=.fields #[first,.int i 0,.ref S,.int n 0,.int ep 0] }
section
theorem CD.put {f f':ae}{j j':Nat}{k:Nat}{x:ae}{h:bt} (hit:CD h I S f j n ep) (e:(#[f,.int j 0,.ref S,.int n 0,.int ep 0] : Array ae).setIfInBounds k x=#[f',.int j' 0,.ref S,.int n 0,.int ep 0]) :
  CD (h.update I (eJ (·.setIfInBounds k x))) I S f' j' n ep:=by
 have q:=fV (eJ (·.setIfInBounds k x)) hit rfl;unfold CD;rw [q];show some ({ cls:=.type "set_iterator",data:=.fields ((#[f,.int j 0,.ref S,.int n 0,.int ep 0] : Array ae).setIfInBounds k x) }:Obj)=_;rw [e]
theorem sr (hit:CD s.heap I S first i n ep) (hS:cL w s.heap S es ep t) (hn:n=es.size)
  (h:ak (ay prog w) A.in1 (do
   if let .int slot _:=first then
    match <- LY S slot.toNat i ep with
    |some (x,next) =>
     fP (.ref I) 0 (c9 next)
     fP (.ref I) 1 (c9 (i+1))
     ret x
    |none=>fP (.ref I) 2 .none;v_ (<- yw (.type "StopIteration") [])
   else
    let some places <- LJ first|unsupported "internal:set_iterator"
    match places[i]? with
    |some (.int place _) =>
     let x <- setNextDrawn S place.toNat ep
     fP (.ref I) 1 (c9 (i+1))
     ret x
    |some _=>unsupported "internal:set_iterator"
    |none=>fP (.ref I) 0 (c9 0);fP (.ref I) 2 .none;v_ (<- yw (.type "StopIteration") []))
   (fun fin s'=>∃ v,fin=.done (.ret v)/\Q (some v) s') (fun e s'=>ak (ay prog w) A (pC e (.type "StopIteration")) (fun b s''=>b=true/\Q none s'') E s') s) :
  ak (ay prog w) A (nX (.ref I)) Q E s:=by
 unfold nX;refine a6 (jW ?_);refine cW (name:=j6 "__next__") ⟨_,hit,rfl⟩ SI.slot_next ?_;refine cA SI.slot_next ⟨_,hit,rfl⟩ SI.entry_next ?_ (SI.args_next _);show ak _ _ (fieldsOf (.ref I) >>= _) _ _ s;refine a6 (wpAny_fieldsOf hit rfl ?_);show ak _ _ (setEntries S >>= _) _ _ s;refine a6 (wpAny_setEntries_of hS.at_ rfl hS.fits ?_);rw [if_neg (by rw [hn];simp)];refine aV h (fun fin s' z=>?_) fun e s' z=>?_
 ·obtain ⟨v,rfl,q⟩:=z;exact ⟨v,rfl,ac q⟩
 ·refine a6 (aV z (fun b s'' ⟨hb,q⟩=>?_) fun _ _ z=>z);subst hb;exact ac q
theorem CF {B:bO}{Q:Option ae->ai->Prop}{Q':Fin->ai->Prop}{o:Obj}{vs:Array ae} (hh:B.handled=none) (ho:s.heap.get? I=some o) (hd:o.data=.fields vs) (hz:2<vs.size)
  (h:∀ h',Heap.ExtBut I s.heap h'->Q none { s with heap:=h' }) :
  ak (ay prog w) B (do fP (.ref I) 2 .none;v_ (<- yw (.type "StopIteration") []))
   Q' (fun e s'=>ak (ay prog w) A (pC e (.type "StopIteration")) (fun b s''=>b=true/\Q none s'') E s') s:=by
 refine a6 (jo ho hd hz ?_);show ak _ _ (yw (.type "StopIteration") [] >>= _) _ _ _;refine a6 ?_;simp only [yw,newTuple];refine a6 (cj ?_ (by size_fits));refine a6 (m:=w4 _ _) (mV (a:=e8) ?_ ?_)
 ·first
   |rfl
   |(simp only [w4];rfl)
 refine cj ?_ (by size_fits);simp only [v_];refine a6 (wpAny_handled ?_);rw [hh];refine a6 (ac (wpAny_throw ?_));refine jF (T:="StopIteration") (b:=true) ⟨_,aB _ rfl,rfl⟩ Gq ⟨rfl,?_⟩;exact h _ (((bQ ..).extBut.push _).push _)
end
end
section
section
variable {prog:bd}{w:bv}{A:bO}{E:ae->ai->Prop}{s:ai}{I S:ah}{es:Array (Int×ae)}{ep:Nat}{t:ll}{i n:Nat}{first:ae}
theorem cL.keep (x:cL w h S es ep t) (k:∀ o,h.get? S=some o->h'.get? S=some o):cL w h' S es ep t:=⟨k _ x.at_,x.txt,x.nd,x.few,x.fits,x.led,x.pl⟩
theorem CG {Q:ae->ai->Prop} (hit:CD s.heap I S first i n ep) (h:Q (.ref I) s):ak (ay prog w) A (yp (.ref I)) Q E s:=by
 refine wpAny_pyIter_slot ⟨_,hit,rfl⟩ SI.slot_iter (cA SI.slot_iter ⟨_,hit,rfl⟩ SI.entry_self ?_ (SI.args_iter _));show ak _ _ (ret (.ref I)) _ _ s;exact ac ⟨_,rfl,"set_iterator",_,⟨_,hit,rfl⟩,SI.slot_next.lookup,h⟩
theorem fe {Q:Bool->ai->Prop}{B:bO} (h:Q (w.params.followText "set-order") s):ak (ay prog w) B setsByText Q E s:=by
 unfold setsByText;exact a6 (i7 (ac h))
theorem MF {B:bO}{Q':Fin->ai->Prop}{x:ae}{nx:Nat}{E':ae->ai->Prop} (hit:CD s.heap I S first i n ep)
  (h:∀ h',CD h' I S (.int nx 0) (i+1) n ep->bE I s.heap h'->Q' (.done (.ret x)) { s with heap:=h' }) :
  ak (ay prog w) B (do fP (.ref I) 0 (c9 nx);fP (.ref I) 1 (c9 (i+1));ret x) Q' E' s:=by
 refine a6 (jo hit rfl (by simp) ?_);have h1:CD (s.heap.update I (eJ (·.setIfInBounds 0 (c9 nx)))) I S (.int nx 0) i n ep:=hit.put (by simp [c9]);refine a6 (jo h1 rfl (by simp) ?_);have h2:CD ((s.heap.update I (eJ (·.setIfInBounds 0 (c9 nx)))).update I (eJ (·.setIfInBounds 1 (c9 (i+1))))) I S (.int nx 0) (i+1) n ep:=h1.put (by simp [c9]);exact ac (h _ h2 ((bQ ..).trans (bQ ..)))
theorem wn (f:Nat->Nat) (es:Array (Int×ae)):(pp f es).size=es.size:=by
 rw [<- ap,(wl f es).length_eq,ap]
theorem GR (hh:A.handled=none) (hw:w.params.followText "set-order"=true) (hne:S≠I) :
  LH prog w A I [I,S] [I] es.size (fun i v=>((pp (w.params.setOrder S ep) es).toList.map (·.2))[i]?=some v) (fun i h=>CD h I S (.int 0 0) i es.size ep/\cL w h S es ep t) where
 sub:=fun b hb=>by simp at hb;simp [hb]
 frame:=fun i h h' st k=>⟨k I (by simp) _ st.1,st.2.keep fun o e=>k S (by simp) o e⟩
 item:=fun i s Q E hi st hQ=>by
  obtain ⟨hit,hS⟩:=st;refine sr hit hS rfl ?_;dsimp only;unfold LY setWalk;refine a6 (a6 (br hS.at_ rfl hS.fits (a6 (fe ?_))));rw [hw];simp only [if_true,bne_self_eq_false,bV,if_false];refine a6 (a6 (br hS.at_ rfl hS.fits (a6 (fe ?_))));rw [hw];simp only [if_true];refine a6 (i7 (ac (ac ?_)));have hi':i<(pp (w.params.setOrder S ep) es).size:=by rw [wn];exact hi
  show ak _ _ (match ((pp (w.params.setOrder S ep) es)[i]?).map fun e=>(e.2,(0:Int).toNat) with
   |some (x,next)=>do fP (.ref I) 0 (c9 next);fP (.ref I) 1 (c9 (i+1));ret x
   |none=>do fP (.ref I) 2 .none;v_ (<- yw (.type "StopIteration") [])) _ _ s
  rw [getElem?_pos _ i hi'];refine MF (nx:=0) hit fun h' h1 sb=>⟨_,rfl,hQ _ h' s.toks ?_ ⟨h1,hS.keep fun o e=>(sb.2 S hne).trans e⟩ fun b o hb e=>(sb.2 b fun z=>hb (by simp [z])).trans e⟩;simp [hi']
 done:=fun s Q E st hQ=>by
  obtain ⟨hit,hS⟩:=st;refine sr hit hS rfl ?_;dsimp only;unfold LY setWalk;refine a6 (a6 (br hS.at_ rfl hS.fits (a6 (fe ?_))));rw [hw];simp only [if_true,bne_self_eq_false,bV,if_false];refine a6 (a6 (br hS.at_ rfl hS.fits (a6 (fe ?_))));rw [hw];simp only [if_true];refine a6 (i7 (ac (ac ?_)));show ak _ _ (match ((pp (w.params.setOrder S ep) es)[es.size]?).map fun e=>(e.2,(0:Int).toNat) with
   |some (x,next)=>do fP (.ref I) 0 (c9 next);fP (.ref I) 1 (c9 (es.size+1));ret x
   |none=>do fP (.ref I) 2 .none;v_ (<- yw (.type "StopIteration") [])) _ _ s
  rw [getElem?_neg _ es.size (by rw [wn];exact bN _)];exact CF (by simpa using hh) hit rfl (by simp) fun h' eb=>hQ h' s.toks fun b o hb e=>eb b o (fun z=>hb (by simp [z])) e
 self:=fun i s Q E st h=>CG st.1 h
inductive WL (h:bt) (T:ah) (ps:List Nat):Prop
 |mk (o k:_) (h0:h.get? T=some o) (h1:o.data=.seq (ps.map fun (p:Nat)=>mP (p:Int) 0).toArray k):WL h T ps
theorem E9 (hh:A.handled=none)  (hne:S≠I) (hT:T≠I) (hp:∀ p∈ps,p<es.size) (hn:ps.length=es.size) :
  LH prog w A I [I,S,T] [I] es.size (fun i v=>(ps.map fun p=>(es.getD p (0,.none)).2)[i]?=some v) (fun i h=>CD h I S (.ref T) i es.size ep/\cL w h S es ep t/\WL h T ps) where
 sub:=fun b hb=>by simp at hb;simp [hb]
 frame:=fun i h h' st k=>⟨k I (by simp) _ st.1,st.2.1.keep fun o e=>k S (by simp) o e,let ⟨o,q,e,d⟩:=st.2.2;⟨o,q,k T (by simp) o e,d⟩⟩
 item:=fun i s Q E hi st hQ=>by
  obtain ⟨hit,hS,o,q,e,d⟩:=st;refine sr hit hS rfl ?_;dsimp only;refine a6 (dZ e d ?_);have hi':i<ps.length:=by omega
  dsimp only;rw [show ((ps.map fun (p:Nat)=>mP (p:Int) 0).toArray)[i]?=some (.int (ps[i] : Nat) 0) by simp [hi']];dsimp only;unfold setNextDrawn;refine a6 (a6 (br hS.at_ rfl hS.fits ?_));have hlt:=hp ps[i] (j4 hi');simp only [bne_self_eq_false,bV,if_false,ke];rw [getElem?_pos es ps[i] hlt];refine ac ?_;refine a6 (jo hit rfl (by simp) ?_);have h1:CD (s.heap.update I (eJ (·.setIfInBounds 1 (c9 (i+1))))) I S (.ref T) (i+1) es.size ep:=hit.put (by simp [c9]);have sb:bE I s.heap (s.heap.update I (eJ (·.setIfInBounds 1 (c9 (i+1))))):=bQ ..;refine ac ⟨_,rfl,hQ _ _ s.toks ?_ ⟨h1,hS.keep fun o e=>(sb.2 S hne).trans e,o,q,(sb.2 T hT).trans e,d⟩ fun b o hb e=>(sb.2 b fun z=>hb (by simp [z])).trans e⟩;simp [hi',hlt]
 done:=fun s Q E st hQ=>by
  obtain ⟨hit,hS,o,q,e,d⟩:=st;refine sr hit hS rfl ?_;dsimp only;refine a6 (dZ e d ?_);dsimp only;rw [show ((ps.map fun (p:Nat)=>mP (p:Int) 0).toArray)[es.size]?=none by simp [<- hn]];dsimp only;refine a6 (jo hit rfl (by simp) ?_);have h1:CD (s.heap.update I (eJ (·.setIfInBounds 0 (c9 0)))) I S (.int 0 0) es.size es.size ep:=hit.put (by simp [c9]);have sb:bE I s.heap (s.heap.update I (eJ (·.setIfInBounds 0 (c9 0)))):=bQ ..;exact CF (s:={ s with heap:=s.heap.update I (eJ (·.setIfInBounds 0 (c9 0))) }) (by simpa using hh) h1 rfl (by simp) fun h' eb=>hQ h' s.toks fun b o hb e=>eb b o (fun z=>hb (by simp [z])) ((sb.2 b fun z=>hb (by simp [z])).trans e)
 self:=fun i s Q E st h=>CG st.1 h
theorem MG  (h:p=#[j]):im p 0=0:=by subst h;simp [im,Al]
theorem MH {p:Array Nat}{j:Nat} (h:p=#[j]):im p (j+1)=1:=by subst h;simp [im,Al]
theorem Kq (h : t.fits 1 = true) : ∃ j, t.place = #[j] := by
  have h1 : t.place.size = 1 := by
    simp only [nc, aN, beq_iff_eq] at h; exact h.1
  exact ⟨t.place[0], by apply Array.ext; · simp [h1]
                        · intro i h2 h3; have : i = 0 := by omega
                          subst this; simp⟩
theorem S_   (hl:t.led=true) (h:ak (ay prog w) B (k ()) Q E s) :
  ak (ay prog w) B ((if (!t.led && !es.isEmpty)=true then unsupported "set:maker-not-led" else pure ()) >>= k) Q E s:=by
 rw [if_neg (by rw [hl];simp)];exact a6 (ac h)
theorem uZ {B:bO}{slot g:Nat}{Q:Option (ae×Nat)->ai->Prop} (hw:w.params.followText "set-order"=false) (hS:cL w s.heap S es ep t) (h1:es.size<=1)
  (h:Q (match es[im t.place slot]?,t.place[im t.place slot]? with|some (_,x),some j=>some (x,j+1)|_,_=>none) s):ak (ay prog w) B (LY S slot g ep) Q E s:=by
 unfold LY;refine a6 (br hS.at_ rfl hS.fits (a6 (fe ?_)));rw [hw];simp only [bV,if_false];split
 ·rename_i z
  exact absurd (show (!t.plain&&decide (es.size > 1))=true from z) (by simp;omega)
 ·have hl:t.led=true:=by rw [hS.led,hw];rfl
  exact S_ hl (ac h)
theorem Kr (hh:A.handled=none) (hw:w.params.followText "set-order"=false) (hne:S≠I) (h1:es.size<=1) :
  LH prog w A I [I,S] [I] es.size (fun i v=>(es.toList.map (·.2))[i]?=some v)
   (fun i h=>∃ k,CD h I S (.int (k:Nat) 0) i es.size ep/\cL w h S es ep t/\(i=0->k=0)/\(i=1->es.size=1->∃ j,t.place=#[j]/\k=j+1)) where
 sub:=fun b hb=>by simp at hb;simp [hb]
 frame:=fun i h h' st k=>let ⟨c,a1,a2,a3⟩:=st;⟨c,k I (by simp) _ a1,a2.keep fun o e=>k S (by simp) o e,a3⟩
 item:=fun i s Q E hi st hQ=>by
  obtain ⟨c,hit,hS,c0,c1⟩:=st;have hi0:i=0:=by omega
  subst hi0;obtain rfl:c=0:=c0 rfl;have e1:es.size=1:=by omega
  obtain ⟨j,hj⟩:=Kq (t:=t) (by rw [<- e1];exact hS.fits);refine sr hit hS rfl ?_;dsimp only;refine a6 (uZ hw hS h1 ?_);rw [show (((0:Nat):Int).toNat)=0 from rfl,MG hj,getElem?_pos es 0 (by omega),hj];refine MF (nx:=j+1) hit fun h' h1 sb=>⟨_,rfl,hQ _ h' s.toks ?_ ⟨j+1,h1,hS.keep fun o e=>(sb.2 S hne).trans e,by simp,fun _ _=>⟨j,hj,rfl⟩⟩ fun b o hb e=>(sb.2 b fun z=>hb (by simp [z])).trans e⟩;simp [e1]
 done:=fun s Q E st hQ=>by
  obtain ⟨c,hit,hS,c0,c1⟩:=st;refine sr hit hS rfl ?_;dsimp only;refine a6 (uZ hw hS h1 ?_);have hz:es[im t.place ((c:Nat):Int).toNat]?=none:=by
   rcases Nat.eq_zero_or_pos es.size with z|z
   ·rw [getElem?_neg];omega
   ·have e1:es.size=1:=by omega
    obtain ⟨j,hj,hc⟩:=c1 e1 e1;rw [hc,show (((j+1:Nat):Int).toNat)=j+1 from rfl,MH hj,getElem?_neg];omega
  rw [hz];exact CF (by simpa using hh) hit rfl (by simp) fun h' eb=>hQ h' s.toks fun b o hb e=>eb b o (fun z=>hb (by simp [z])) e
 self:=fun i s Q E st h=>let ⟨_,a1,_⟩:=st;CG a1 h
theorem GS {Q:ae->ai->Prop} (hh:A.handled=none) (hS:cL w s.heap S es ep t)
  (h:∀ (I:ah) (fp:List ah) (ord:List ae) (St:Nat->bt->Prop) (h':bt) (d:LC),s.heap.objs.size<=I->(∀ b∈fp,b=S\/s.heap.objs.size<=b)->(∀ b∈fp,b<h'.objs.size)->ord.Perm (es.toList.map (·.2))->(∀ B:bO,B.handled=none->LH prog w B I fp [I] ord.length (fun i v=>ord[i]?=some v) St)->St 0 h' ->
   (∀ b o,s.heap.get? b=some o->h'.get? b=some o)->Pb { s with heap:=h',drawn:=d } (.ref I) "set_iterator"->Q (.ref I) { s with heap:=h',drawn:=d }):ak (ay prog w) A (yp (.ref S)) Q E s:=by
 have hT:s.TypeIs (.ref S) "set":=⟨_,hS.at_,rfl⟩;have hlt:=al hS.at_;refine wpAny_pyIter_slot hT F.slot_set_iter (cA F.slot_set_iter hT SI.entry_iter ?_ (F.args_set_iter_1 _));show ak _ _ (tS S >>= _) _ _ s;unfold tS;refine a6 (a6 (wpAny_setEntries_of hS.at_ rfl hS.fits (ac ?_)));show ak _ _ (setDrawn S >>= _) _ _ s;unfold setDrawn;refine a6 (a6 (br hS.at_ rfl hS.fits (a6 (fe (ac ?_)))));have fin:∀ (first:ae) (fp:List ah) (ord:List ae) (St:Nat->bt->Prop) (h':bt) (d:LC),(∀ b o,s.heap.get? b=some o->h'.get? b=some o)->s.heap.objs.size<=h'.objs.size ->
   (∀ b∈fp,b=S\/b=h'.objs.size\/(s.heap.objs.size<=b/\b<h'.objs.size))->ord.Perm (es.toList.map (·.2))->(∀ B:bO,B.handled=none->LH prog w B h'.objs.size fp [h'.objs.size] ord.length (fun i v=>ord[i]?=some v) St) ->
   (∀ h'':bt,(∀ b o,h'.get? b=some o->h''.get? b=some o)->CD h'' h'.objs.size S first 0 es.size ep->St 0 h'') ->
   ak (ay prog w) A.in1 (setEpoch S >>= fun e=>newFields "set_iterator" [first,c9 0,.ref S,c9 es.size,c9 e] >>= fun x=>ret x) (fun fin s'=>∃ v,fin=.done (.ret v)/\∃ T' r,s'.TypeIs v T'/\fu (.type T') "__next__"=pure (some r)/\Q v s') E { s with heap:=h',drawn:=d }:=by
  intro first fp ord St h' d kp hsz hfp pm W st
  have hS':cL w h' S es ep t:=hS.keep fun o e=>kp S o e;refine a6 (wpAny_setEpoch_of (s:={ s with heap:=h',drawn:=d }) hS'.at_ rfl hS'.fits ?_);refine a6 (cj ?_ (by size_fits));have gp:∀ b o,h'.get? b=some o->(h'.push { cls:=.type "set_iterator",dict:=none,data:=.fields #[first,c9 0,.ref S,c9 es.size,c9 ep] }).get? b=some o:=fun b o e=>aa _ e;have it:(h'.push { cls:=.type "set_iterator",dict:=none,data:=.fields #[first,c9 0,.ref S,c9 es.size,c9 ep] }).get? h'.objs.size=some { cls:=.type "set_iterator",dict:=none,data:=.fields #[first,c9 0,.ref S,c9 es.size,c9 ep] }:=aB _ rfl;refine ac ⟨_,rfl,"set_iterator",_,⟨_,it,rfl⟩,SI.slot_next.lookup,h h'.objs.size fp ord St _ d hsz (fun b hb=>?_) (fun b hb=>?_) pm W (st _ gp it) (fun b o e=>gp b o (kp b o e)) ⟨_,it,rfl⟩⟩
  ·rcases hfp b hb with z|z|z
   ·exact .inl z
   ·exact .inr (by rw [z];exact hsz)
   ·exact .inr z.1
  ·rw [c7];rcases hfp b hb with z|z|z
   ·rw [z];exact gJ (aC hlt hsz)
   ·rw [z];exact ev _
   ·exact gJ z.2
 dsimp only;split
 ·rename_i z
  have z:(!w.params.followText "set-order" && (!t.plain&&decide (es.size > 1)))=true:=z;refine a6 (uY _ _ _ _ (by simp) fun ys d pm=>?_);simp only [newTuple];have hyl:ys.length=es.size:=by have:=pm.length_eq;rwa [dO] at this
  have zl:=fm hS.few;refine a6 (cj ?_ (by show (ys.map fun (i:Nat)=>c9 i).toArray.size<=sizeLine;simp;omega));have tp:∀ ob:Obj,(s.heap.push ob).objs.size=s.heap.objs.size+1:=fun ob=>c7 ..;refine fin (.ref s.heap.objs.size) [s.heap.objs.size+1,S,s.heap.objs.size] (ys.map fun p=>(es.getD p (0,.none)).2)
   (fun i h=>CD h (s.heap.objs.size+1) S (.ref s.heap.objs.size) i es.size ep/\cL w h S es ep t/\WL h s.heap.objs.size ys) (s.heap.push _) d
   (fun b o e=>aa _ e) (by rw [tp];exact i0 _) (fun b hb=>?_) ?_ (fun B hB=>?_) (fun h'' k it=>⟨by rw [tp] at it;exact it,hS.keep fun o e=>k S o (aa _ e),_,_,k _ _ (aB _ rfl),rfl⟩)
  ·simp only [a_,aQ,or_false] at hb;rcases hb with y|y|y
   ·exact .inr (.inl (by rw [tp];exact y))
   ·exact .inl y
   ·exact .inr (.inr ⟨by rw [y];exact am _,by rw [tp,y];exact ev _⟩)
  ·refine (pm.map _).trans (.of_eq ?_);apply x_
   ·simp
   ·intro k h1 h2;have:k<es.size:=by simpa using h1
    simp [this]
  ·rw [ar,hyl,tp];exact E9 hB (aA (gJ hlt)) (aA (ev _)) (fun p hp=>List.mem_range.mp (pm.mem_iff.mp hp)) hyl
 ·rename_i z
  have z:¬ (!w.params.followText "set-order" && (!t.plain&&decide (es.size > 1)))=true:=z;refine a6 (ac ?_);have hne:S≠s.heap.objs.size:=aA hlt;cases hw:w.params.followText "set-order" with
  |true =>
   refine fin (c9 0) [s.heap.objs.size,S] ((pp (w.params.setOrder S ep) es).toList.map (·.2)) (fun i h=>CD h s.heap.objs.size S (.int 0 0) i es.size ep/\cL w h S es ep t) s.heap s.drawn (fun _ _ e=>e) (am _) (fun b hb=>?_) ((wl _ es).map _) (fun B hB=>?_) (fun h'' k it=>⟨it,hS.keep fun o e=>k S o e⟩)
   ·simp only [a_,aQ,or_false] at hb;exact hb.elim (fun z=>.inr (.inl z)) .inl
   ·rw [ar,ap,wn];exact GR hB hw hne
  |false =>
   have h1:es.size<=1:=by
    rw [hw] at z;rcases hS.pl with y|y
    ·omega
    ·rw [y] at z;simpa using z
   refine fin (c9 0) [s.heap.objs.size,S] (es.toList.map (·.2)) (fun i h=>∃ k,CD h s.heap.objs.size S (.int (k:Nat) 0) i es.size ep/\cL w h S es ep t/\(i=0->k=0)/\(i=1->es.size=1->∃ j,t.place=#[j]/\k=j+1)) s.heap s.drawn (fun _ _ e=>e) (am _) (fun b hb=>?_) (.refl _) (fun B hB=>?_) (fun h'' k it=>⟨0,it,hS.keep fun o e=>k S o e,fun _=>rfl,fun y=>by cases y⟩)
   ·simp only [a_,aQ,or_false] at hb;exact hb.elim (fun z=>.inr (.inl z)) .inl
   ·rw [ar,ap];exact Kr hB hw hne h1
end
end
section
section
theorem Ea (hh:A.handled=none) (hS:cL w s.heap S es ep t)
  (h:∀ (ord:List ae) (h':bt) (d:LC) (tk:Nat),ord.Perm (es.toList.map (·.2))->(∀ b o,s.heap.get? b=some o->h'.get? b=some o)->s.heap.objs.size<=h'.objs.size->Q ord { s with heap:=h',drawn:=d,toks:=tk }) :
  ak (ay prog w) A (collect (.ref S)) Q E s:=by
 have hlt:=al hS.at_;unfold collect;refine a6 (wpAny_runValue (fz F.entry_proto_collect ?_));rw [eF F.plain_proto_collect _];show ak _ A.in1 (newList [] >>= fun l=>again (.builtin "list.__iadd__" ⟨[l,.ref S],[]⟩)) _ _ s;refine a6 (cj ?_);refine ac ⟨mS F.plain_list_iadd _,fz F.entry_list_iadd ?_⟩;rw [eF F.plain_list_iadd _];let s1:ai:={ s with heap:=s.heap.push { cls:=.type "list",data:=.seq ([] : List ae).toArray } }
 have sz1:s1.heap.objs.size=s.heap.objs.size+1:=c7 ..;have at1:s1.heap.get? s.heap.objs.size=some { cls:=.type "list",data:=.seq ([] : List ae).toArray }:=aB _ rfl;have hS1:cL w s1.heap S es ep t:=hS.keep fun o e=>aa _ e;show ak _ A.in1 (uN (.ref s.heap.objs.size) (.ref S) (.ref s.heap.objs.size)) _ _ s1;have hT1:s1.TypeIs (.ref S) "set":=⟨_,hS1.at_,rfl⟩;unfold uN;refine a6 (jD hT1 ?_);have e1:wY (.ref s.heap.objs.size) (.ref S)=false:=by simp [wY,dQ hlt]
 have e2:(hG "set" == hG "list")=false:=by decide
 have e3:(hG "set" == hG "tuple")=false:=by decide
 simp only [e1,e2,e3,Bool.or_false,bV,if_false];refine a6 (GS (A:=A.in1) (by simpa using hh) hS1 fun I fp ord St h' d hI hfp hfl pm W st kp tI=>?_);let s2:ai:={ s1 with heap:=h',drawn:=d }
 have hS2:cL w s2.heap S es ep t:=hS1.keep fun o e=>kp S o e;have hT2:s2.TypeIs (.ref S) "set":=⟨_,hS2.at_,rfl⟩;refine a6 (bS ?_);unfold Builtin.List.listLengthHint;refine a6 (wpAny_specialOf (s:=s2) hT2 F.slot_set_len.lookup ?_);dsimp only;rw [show splitId "set.__len__"=some ("set","__len__") from by decide +kernel];dsimp only;refine a6 (jF (b:=true) (s:=s2) hT2 (by rw [Go];kernel_rfl) ?_);rw [if_neg (by decide),if_pos (by decide)];refine a6 (jD (s:=s2) hT2 (ac ?_));rw [if_pos (by decide)];refine a6 (gy ?_);have nS:s.heap.objs.size∉fp:=fun z=>by
  rcases hfp _ z with q|q
  ·exact absurd hlt (by rw [<- q];exact bN _)
  ·rw [sz1] at q;exact absurd q (Nat.not_succ_le_self _)
 have at2:s2.heap.get? s.heap.objs.size=some { cls:=.type "list",data:=.seq ([] : List ae).toArray }:=kp _ _ at1;refine a6 ?_;show ak _ A.in1 (updateSeq s.heap.objs.size (·.push .none) >>= fun _=>updateSeq s.heap.objs.size (·.pop)) _ _ s2;refine a6 (wpAny_updateSeq at2 rfl ?_);have at3:=fV (lj (·.push e8)) at2 rfl;refine wpAny_updateSeq at3 rfl ?_;have at4:=fV (lj (·.pop)) at3 rfl;have oth:∀ b o,b≠s.heap.objs.size->s2.heap.get? b=some o->((s2.heap.update s.heap.objs.size (lj (·.push e8))).update s.heap.objs.size (lj (·.pop))).get? b=some o :=
  fun b o hb e=>(qG _ _ (cZ hb)).trans ((qG _ _ (cZ hb)).trans e)
 have zl:ord.length<=sizeLine:=by rw [pm.length_eq,ar,ap];exact fm hS.few
 have W1:=W A.in1 (by simpa using hh);refine ac ⟨mS F.plain_extend_loop _,codeAny_extend_loopS (A:=A) W1.toS zl _ nS _ ord.length 0 { s2 with heap:=(s2.heap.update s.heap.objs.size (lj (·.push e8))).update s.heap.objs.size (lj (·.pop)) } _ _ rfl (dW _) (W1.frame 0 _ _ st fun b hb o e=>oth b o (fun z=>nS (z ▸ hb)) e) at4 (ItemsOf.nil _) fun s' acc' c' hm hS' hacc=>?_⟩;show ak _ A (load s.heap.objs.size >>= _) _ _ s';refine a6 (wpAny_load hS' (ac ?_));have hacc':acc'.toList=ord:=by
  apply List.ext_getElem?;intro j;rw [d_];by_cases hj:j<acc'.size
  ·have:=hacc.2 j acc'[j] (by simp [hj]);rw [this];simp [hj]
  ·rw [getElem?_neg acc' j hj,cp (by rw [<- hacc.1];omega)]
 rw [hacc'];obtain ⟨h3,g3,d3,t3,o3⟩:=s';obtain rfl:g3=s.gens:=hm.gens;obtain rfl:d3=d:=hm.drawn;obtain rfl:o3=s.os:=hm.os;have old:∀ b o,s.heap.get? b=some o->h3.get? b=some o:=fun b o e=>by
  have hb:=al e;refine hm.heap b o ?_ (oth b o (aA hb) (kp b o (aa _ e)));simp only [a_,aQ,or_false,not_or];exact ⟨aA hb,aA (aC hb (by have q:=hI;rw [sz1] at q;exact Nat.le_of_succ_le q))⟩
 refine h ord h3 _ t3 pm old ?_;have:=al (show h3.get? s.heap.objs.size=some _ from hS');exact bh this
theorem Eb  (hc:ak (ay prog w) A.in1 (collect x) (fun vs s1=>∃ ss,tT vs ss/\vs.length<64 /\
   ∀ (h':bt) (vs':List ae) (ss':List Str) (e:Nat),(∀ b o,s1.heap.get? b=some o->h'.get? b=some o)->h'.get? s1.heap.objs.size=some (seqObj "list" vs'.toArray e)->tT vs' ss'->ss'.Perm ss->sortedS ss'=true ->
    Q (.ref s1.heap.objs.size) { s1 with heap:=h' }) E s):ak (ay prog w) A (call (.builtin "sorted") [x]) Q E s:=by
 refine B6 kind_sorted plain_sorted entry_sorted (args_sorted1 _) ?_;unfold fW.«sorted»;refine a6 (m:=checkCount "sorted" 1 1 _) (ac ?_);refine a6 (aV hc (fun vs s1 z=>?_) fun _ _ z=>z);obtain ⟨ss,hss,h64,hq⟩:=z;refine a6 (wpAny_newList ?_);have at1:(s1.heap.push (seqObj "list" vs.toArray 0)).get? s1.heap.objs.size=some (seqObj "list" vs.toArray 0):=aB _ rfl;show ak _ _ _ _ _ { s1 with heap:=s1.heap.push (seqObj "list" vs.toArray 0) };refine a6 (bS (cA slot_list_sort ⟨_,at1,rfl⟩ entry_list_sort (list_sort_treeK strKind_oneLt at1 hss.keysOf (fun v₁ v₂ bB e=>keyKind_strs (by rw [<- e];exact hss)) h64 fun st' a1 a2=>⟨_,rfl,?_⟩) (args_list_sort _)));obtain ⟨ss',p1,p2,p3⟩:=sorted_out_str hss a1 a2;obtain ⟨e,at2⟩:=sortedHeap_at (out:=(arrOf st').map (·.2)) at1;refine ac ⟨_,rfl,hq _ _ ss' e (fun b o q=>?_) at2 p1 p2 p3⟩;have hb:=al q;rw [sortedHeap_old (aA hb) (by rw [c7];exact gJ hb)];exact aa _ q
end
end
section
def qK (x y:Str):Bool:=decide (x.cps.toList<y.cps.toList)
def GT (x:Str):List Str->List Str
 |[]=>[x]
 |y::r=>if qK y x then y::GT x r else x::y::r
def jO:List Str->List Str
 |[]=>[]
 |x::r=>GT x (jO r)
theorem wq (x:Str):∀ l,(GT x l).Perm (x::l)
 |[]=>.refl _
 |y::r=>by
  rw [GT];split
  ·exact ((wq x r).cons y).trans (.swap ..)
  ·exact .refl _
theorem gV:∀ l,(jO l).Perm l
 |[]=>.refl _
 |x::r=>(wq x _).trans ((gV r).cons x)
theorem tZ (x:Str):qK x x=false:=decide_eq_false (List.lt_irrefl _)
theorem su (h1:qK x y=true) (h2:qK y z=true):qK x z=true :=
 decide_eq_true (List.lt_trans (of_decide_eq_true h1) (of_decide_eq_true h2))
theorem yd (h1:qK x y=false) (h2:qK y x=false):x=y:=by
 have h1:¬ x.cps.toList<y.cps.toList:=of_decide_eq_false h1;have h2:¬ y.cps.toList<x.cps.toList:=of_decide_eq_false h2;have:x.cps.toList=y.cps.toList:=List.le_antisymm (List.not_lt.mp h2) (List.not_lt.mp h1)
 cases x;cases y;exact congrArg Str.mk (Array.toList_inj.mp this)
abbrev P4 (l:List Str):Prop:=l.Pairwise fun a b=>qK b a=false
theorem MI (x:Str):∀ l,P4 l->P4 (GT x l)
 |[],_=>by simp [GT,P4]
 |y::r,h=>by
  obtain ⟨h1,h2⟩:=List.pairwise_cons.mp h;rw [GT];split
  ·rename_i hy
   refine List.pairwise_cons.mpr ⟨fun z hz=>?_,MI x r h2⟩;rcases List.mem_cons.mp ((wq x r).mem_iff.mp hz) with e|e
   ·subst e;cases q:qK z y with
    |false=>rfl
    |true=>exact absurd (su q hy) (by rw [tZ];decide)
   ·exact h1 z e
  ·rename_i hy
   have hy:qK y x=false:=by simpa using hy
   refine List.pairwise_cons.mpr ⟨fun z hz=>?_,h⟩;rcases List.mem_cons.mp hz with e|e
   ·subst e;exact hy
   ·cases q:qK z x with
    |false=>rfl
    |true =>
     have hzy:=h1 z e;cases q2:qK x y with
     |true=>rw [su q q2] at hzy;cases hzy
     |false=>rw [<- yd hy q2,hzy] at q;cases q
theorem r6:∀ l,P4 (jO l)
 |[]=>.nil
 |x::r=>MI x _ (r6 r)
theorem u_:∀ (p:Str) (l:List Str),risingS p l=true->P4 (p::l)
 |p,[],_=>by simp [P4]
 |p,x::r,h=>by
  rw [risingS,aN] at h;obtain ⟨h1,h2⟩:=h;have h1:qK x p=false:=by
   rw [ltCps_eq] at h1;simpa [qK] using h1
  have ih:=u_ x r h2;refine List.pairwise_cons.mpr ⟨fun z hz=>?_,ih⟩;rcases List.mem_cons.mp hz with e|e
  ·rw [e];exact h1
  ·have hzx:=(List.pairwise_cons.mp ih).1 z e;cases q:qK z p with
   |false=>rfl
   |true =>
    cases q2:qK p x with
    |true=>rw [su q q2] at hzx;cases hzx
    |false=>rw [yd q2 h1,hzx] at q;cases q
theorem CH:∀ (l:List Str),sortedS l=true->P4 l
 |[],_=>.nil
 |x::r,h=>u_ x r h
theorem Bs:∀ {l l':List Str},l.Perm l'->P4 l->P4 l'->l=l'
 |[],l',p,_,_=>by rw [List.nil_perm.mp p]
 |x::r,[],p,_,_=>by have:=p.length_eq;simp at this
 |x::r,y::r',p,h,h'=>by
  obtain ⟨a1,a2⟩:=List.pairwise_cons.mp h;obtain ⟨b1,b2⟩:=List.pairwise_cons.mp h';have e:x=y:=by
   have hx:x∈y::r':=p.mem_iff.mp aq;have hy:y∈x::r:=p.mem_iff.mpr aq;rcases List.mem_cons.mp hx with e|e
   ·exact e
   ·rcases List.mem_cons.mp hy with e' | e'
    ·exact e'.symm
    ·exact yd (b1 x e) (a1 y e')
  subst e;rw [Bs (List.Perm.cons_inv p) a2 b2]
theorem Ec (p:l'.Perm l) (h:sortedS l'=true):l'=jO l:=Bs (p.trans (gV l).symm) (CH _ h) (r6 l)
theorem wt (h:P4 l) (nd:l.Nodup):l.Pairwise fun a b=>qK a b=true:=by
 induction l with
 |nil=>exact .nil
 |cons x r ih =>
  obtain ⟨a1,a2⟩:=List.pairwise_cons.mp h;obtain ⟨n1,n2⟩:=List.nodup_cons.mp nd;refine List.pairwise_cons.mpr ⟨fun y hy=>?_,ih a2 n2⟩;cases q:qK x y with
  |true=>rfl
  |false=>exact absurd (yd q (a1 y hy) ▸ hy) n1
theorem lG:∀ {ss:List Str}{us:List ae},de (ss.map V.str) us->tT us ss
 |[],_,.nil=>.nil
 |x::r,_,.cons h t=>by obtain ⟨tk,rfl⟩:=h;exact .cons x tk (lG t)
theorem pG:∀ {ss:List Str}{us:List ae},tT us ss->de (ss.map V.str) us
 |_,_,.nil=>.nil
 |_,_,.cons x t h=>.cons ⟨t,rfl⟩ (pG h)
theorem fA:∀ {ss:List Str}{us:List ae},tT us ss->us.length=ss.length
 |_,_,.nil=>rfl
 |_,_,.cons x t h=>by simp [fA h]
theorem yN  (h:tT us ss) (i:Nat) (v:ae) (e:us[i]?=some v):∃ x t,ss[i]?=some x/\v=iY x t:=by
 induction h generalizing i with
 |nil=>simp at e
 |cons y t _ ih =>
  cases i with
  |zero=>simp at e;exact ⟨y,t,by simp,e.symm⟩
  |succ i=>simp at e;simpa using ih i e
theorem v3:∀ {l:List (Int×ae)},(∀ e∈l,tX w e)->tT (l.map (·.2)) (l.map jZ)
 |[],_=>.nil
 |e::r,h=>by
  obtain ⟨x,tk,rfl⟩:=h e aq;exact .cons x tk (v3 fun e he=>h e (ao _ he))
theorem CI  (h:tT us ss) (p:us'.Perm us):∃ ss',tT us' ss'/\ss'.Perm ss:=by
 refine ⟨us'.map strOf,strsAre_map _ fun v hv=>h.all v (p.mem_iff.mp hv),?_⟩;rw [<- h.strs];exact p.map _
def lH (w:bv) (a:ah) (ss:List Str):HO:=.ext fun h=>lz w h a ss
theorem CJ      (x:lz w h a ss):cU P w H h a (lH w a ss) :=
 ⟨x,let ⟨_,_,_,I,_⟩:=x;⟨_,I.at_⟩,fun _ _ y k=>y.keep k⟩
section
theorem Ed (hc:X.calm=true):jN X (.type "set") (fun xs H Q=>∃ p ss,xs=[.ref p]/\(nl X.K H p (ss.map V.str)\/lw X.K H p (ss.map V.str))/\ss.length+1<iU/\∀ a,H a=none->Q (.ref a) (upd H a (lH X.w a (cX [] ss)))):=by
 intro pins s σ H xs us Q I r h;obtain ⟨p,ss,rfl,hq,hz,q⟩:=h;obtain ⟨u,rfl,rx⟩:=lC r;cases rx;have hh:=I.ok.hd hc;have fin:∀ (h':bt) (tk:Nat),lz X.w h' s.heap.objs.size (cX [] ss)->(∀ b o,s.heap.get? b=some o->h'.get? b=some o)->EP X pins σ Q (.ref s.heap.objs.size) { s with heap:=h',toks:=tk }:=fun h' tk hS kp =>
  ⟨.ref s.heap.objs.size,_,I.laid (t':=tk) kp (am _) (CJ hS),rfl,q _ (I.hok.fresh (am _))⟩
 rcases hq with hq|hq
 ·obtain ⟨its,r',⟨o,n,ho,h1,h2,h3⟩,_⟩:=I.list hq;have sa:=lG r';exact uX (ME (by simpa using hh) h1 ⟨n,h3⟩) ho (fun i v e=>yN sa i v (by simpa using e)) (by simp [fA sa]) (by simp [fA sa];exact hz) fin
 ·obtain ⟨its,r',⟨o,ho,h1,n,h3⟩,_⟩:=I.tuple hq;have sa:=lG r';exact uX (Q5 (by simpa using hh) h1 ⟨n,h3⟩) ho (fun i v e=>yN sa i v (by simpa using e)) (by simp [fA sa]) (by simp [fA sa];exact hz) fin
theorem wu:jN X (.builtin "sorted") (fun xs H Q=>∃ p ss,xs=[.ref p]/\nl X.K H p (ss.map V.str)/\ss.length<64/\∀ l,H l=none->Q (.ref l) (upd H l (.lst ((jO ss).map V.str)))):=by
 intro pins s σ H xs us Q I r h;obtain ⟨p,ss,rfl,hq,hz,q⟩:=h;obtain ⟨u,rfl,rx⟩:=lC r;cases rx;obtain ⟨its,r',pl,hl⟩:=I.list hq;have sa:=lG r';refine sorted_strs pl.isList sa (by rw [fA sa];exact hz) fun out ss' a1 a2 a3=>?_;obtain ⟨e,he⟩:=sortedAll_at s.heap its out;have kp:∀ b o,s.heap.get? b=some o->(sortedAll s.heap its out).get? b=some o:=fun b o=>sortedAll_old;obtain rfl:=Ec a2 a3;refine ⟨.ref (s.heap.objs.size+1),upd H (s.heap.objs.size+1) (.lst ((jO ss).map V.str)),I.laid (t':=s.toks) kp (i0 _) (show cU X.prog X.w _ _ _ (.lst _) from ⟨?_,out.toList,e,pG a1,by simpa [seqObj] using he⟩),rfl,q _ (I.hok.fresh (i0 _))⟩;rw [ar,(gV ss).length_eq];have:=hl;rw [ar] at this;exact this
theorem xK (hc:X.calm=true):jN X (.builtin "sorted") (fun xs H Q=>∃ p ss,xs=[.ref p]/\H p=some (lH X.w p ss)/\ss.length<64/\∀ l,H l=none->Q (.ref l) (upd H l (.lst ((jO ss).map V.str)))):=by
 intro pins s σ H xs us Q I r h;obtain ⟨p,ss,rfl,hq,hz,q⟩:=h;obtain ⟨u,rfl,rx⟩:=lC r;cases rx;have hh:=I.ok.hd hc;obtain ⟨⟨es,ep,t,S,pm⟩,_⟩:=(show cU X.prog X.w H s.heap p (lH X.w p ss) from I.hok p _ hq);refine Eb (Ea (by simpa using hh) S fun ord h' d tk po kp sz=>?_);obtain ⟨ss1,sa,p1⟩:=CI (v3 S.txt) po;have ln:ss1.length=ss.length:=(p1.trans pm).length_eq;refine ⟨ss1,sa,by rw [fA sa,ln];exact hz,fun h2 vs' ss' e kp2 at2 sa2 p2 s2=>?_⟩;have kk:∀ b o,s.heap.get? b=some o->h2.get? b=some o:=fun b o e=>kp2 b o (kp b o e);have es':ss'=jO ss:=Ec (p2.trans (p1.trans pm)) s2;subst es';have fr:=I.hok.fresh sz;have ok2:cU X.prog X.w (upd H h'.objs.size (.lst ((jO ss).map V.str))) h2 h'.objs.size (.lst ((jO ss).map V.str)) :=
  ⟨by rw [ar,(gV ss).length_eq];exact bK (bh hz) (by rw [vW];decide),vs',e,pG sa2,at2⟩
 exact ⟨.ref h'.objs.size,_,I.call' (s':={ s with heap:=h2,drawn:=d,toks:=tk }) (ch:=[]) rfl (Un.laid kk sz fr) (I.hok.laid kk sz ok2) I.bare (fun b z=>absurd z (by simp)),rfl,q _ fr⟩
end
end
section
section
theorem xh {prog:bd}{w:bv}{B:bO}{bs:List Bool}{its:List ae} (r:de (bs.map V.bl) its):TruthOf prog w B (fun i v=>its.toArray[i]?=some v) (fun i=>bs.getD i false):=by
 intro i v s Q E hv hq;have hv:its[i]?=some v:=by simpa using hv
 have hl:=r.length;rw [ar] at hl;obtain ⟨hi,_⟩:=List.getElem?_eq_some_iff.mp hv;have hb:bs[i]?=some bs[i]:=aX (by omega);obtain ⟨u,hu,ru⟩:=r.get (i:=i) (x:=.bl bs[i]) (by rw [aJ,hb];rfl);rw [hv] at hu;cases hu;cases ru;have hq:Q (bs.getD i false) s:=hq;rw [fR,hb] at hq;exact dX hq
theorem MJ (bs:List Bool):(bg bs.length).all (fun i=>bs.getD i false)=bs.all id:=by
 rw [gC,cJ,cJ];constructor
 ·intro h b hb;obtain ⟨i,hi,rfl⟩:=jh hb;have:=h i (List.mem_range.mpr hi);simpa [fR,hi] using this
 ·intro h i hi;have hi:=List.mem_range.mp hi;have:=h bs[i] (j4 hi);simpa [fR,hi] using this
theorem MK (bs:List Bool):(bg bs.length).any (fun i=>bs.getD i false)=bs.any id:=by
 rw [gC,l5,l5];constructor
 ·rintro ⟨i,hi,h⟩;have hi:=List.mem_range.mp hi;exact ⟨bs[i],j4 hi,by simpa [fR,hi] using h⟩
 ·rintro ⟨b,hb,h⟩;obtain ⟨i,hi,rfl⟩:=jh hb;exact ⟨i,List.mem_range.mpr hi,by simpa [fR,hi] using h⟩
theorem yO (hc:X.calm=true):jN X (.builtin "all") (fun xs H Q=>∃ p,∃ bs:List Bool,xs=[.ref p]/\nl X.K H p (bs.map V.bl)/\Q (.bl (bs.all id)) H):=by
 intro pins s σ H xs us Q I r h;obtain ⟨p,bs,rfl,hq,q⟩:=h;obtain ⟨u,rfl,rx⟩:=lC r;cases rx;obtain ⟨its,r',pl,hl⟩:=I.list hq;have ln:its.toArray.size=bs.length:=by have:=r'.length;simp at this ⊢;omega
 obtain ⟨o,ho,hk⟩:=pl.isList;refine call_all_walk (l9 pl.isList ⟨_,_,_,_,_,_,_,rfl,Aj (by simpa using I.ok.hd hc) _ p (aA (al ho)) its.toArray,⟨⟨_,aB _ rfl,rfl,rfl⟩,pl.isList.push _⟩,xh r',fun h' tk kp=>?_⟩);rw [ln,MJ];refine ⟨.bl _,H,I.kept (t':=tk) fun b o e=>kp b o ?_ (aa _ e),rfl,q⟩;simp only [cg];exact aA (al e)
theorem yP (hc:X.calm=true):jN X (.builtin "any") (fun xs H Q=>∃ p,∃ bs:List Bool,xs=[.ref p]/\nl X.K H p (bs.map V.bl)/\Q (.bl (bs.any id)) H):=by
 intro pins s σ H xs us Q I r h;obtain ⟨p,bs,rfl,hq,q⟩:=h;obtain ⟨u,rfl,rx⟩:=lC r;cases rx;obtain ⟨its,r',pl,hl⟩:=I.list hq;have ln:its.toArray.size=bs.length:=by have:=r'.length;simp at this ⊢;omega
 obtain ⟨o,ho,hk⟩:=pl.isList;refine call_any_walk (l9 pl.isList ⟨_,_,_,_,_,_,_,rfl,Aj (by simpa using I.ok.hd hc) _ p (aA (al ho)) its.toArray,⟨⟨_,aB _ rfl,rfl,rfl⟩,pl.isList.push _⟩,xh r',fun h' tk kp=>?_⟩);rw [ln,MK];refine ⟨.bl _,H,I.kept (t':=tk) fun b o e=>kp b o ?_ (aa _ e),rfl,q⟩;simp only [cg];exact aA (al e)
theorem Ks:pw X (bG .LtE) (fun x y H Q=>∃ i j,x=.str i/\y=.str j/\Q (.bl (!decide (j.cps.toList<i.cps.toList))) H):=by
 intro pins s σ H x y v u Q I rx ry h;obtain ⟨i,j,rfl,rfl,q⟩:=h;obtain ⟨t,rfl⟩:=rx;obtain ⟨t',rfl⟩:=ry;exact PySem.P.le_str (gT I q rfl)
end
end
section
def Uy (x:Str):It:=⟨fun i _=>i<x.cps.size,fun i H v H'=>H'=H/\∃ c,x.cps[i]?=some c/\v=.str ⟨#[c]⟩,fun i _=>x.cps.size<=i⟩
theorem ML {P:bd}{w:bv}{K:a7}{tg:bL} (x:Str) (t:Tok) (it:ah):yF P w K tg (Uy x) [it] it (fun i h=>h.IsStrIter it (io x) x t i) where
 mem:=by simp
 obj:=fun i h st b hb=>by
  obtain rfl:b=it:=by simpa using hb
  obtain ⟨o,e,c,d⟩:=st;exact ⟨o,e,fun v z=>by rw [d] at z;cases z⟩
 keep:=fun i h h' st k=>let ⟨o,e,r⟩:=st;⟨o,k it (by simp) o e,r⟩
 item:=by
  intro X hP hw hK hc i pins s σ H E I hf st hg;subst hP hw hK;have hg:i<x.cps.size:=hg;obtain ⟨f0,f1,f2,f3,f4,f5⟩:=hf it (by simp);have hx:x.cps[i]?=some x.cps[i]:=getElem?_pos _ i hg;have go:∀ (h':bt) (tk tk':Nat),h'.IsStrIter it (io x) x t (i+1)->bE it s.heap h'->∃ u,some (iY ⟨#[x.cps[i]]⟩ tk)=some u /\
    ak (ay X.prog X.w) X.A (gP tg (.ref it) u) (fun _ s2=>∃ v H',bx X pins σ H' s2/\cY v u/\(Uy x).yld i H v H'/\s2.heap.IsStrIter it (io x) x t (i+1)/\∀ b∈[it],H' b=none) E { s with heap:=h',toks:=tk' }:=fun h' tk tk' st' sb=>by
   have I1:bx X pins σ H { s with heap:=h',toks:=tk' }:=I.turned (fun b o hb e=>(sb.2 b hb).trans e) f0 f1 f3 f4 f5;refine ⟨_,rfl,?_⟩;have q:∃ v H',bx X pins σ H' { s with heap:=h',toks:=tk' }/\cY v (iY ⟨#[x.cps[i]]⟩ tk)/\(Uy x).yld i H v H'/\h'.IsStrIter it (io x) x t (i+1)/\∀ b∈[it],H' b=none :=
    ⟨.str ⟨#[x.cps[i]]⟩,H,I1,⟨tk,rfl⟩,⟨rfl,_,hx,rfl⟩,st',fun b hb=>(hf b hb).1⟩
   unfold gP;cases tg<;>exact ac q
  cases ha:x.cps.all (·<128)
  ·have ty:io x="str_iterator":=by unfold io;rw [ha];rfl
   rw [ty] at st;exact wpAny_pyNext_wide_item st hx fun h' st' sb=>go h' _ _ (by rw [ty];exact st') sb
  ·have ty:io x="str_ascii_iterator":=by unfold io;rw [ha];rfl
   rw [ty] at st;exact wpAny_pyNext_ascii_item st hx fun h' st' sb=>go h' _ _ (by rw [ty];exact st') sb
 done:=by
  intro X hP hw hK hc i pins s σ H E I hf st hg;subst hP hw hK;have hg:x.cps.size<=i:=hg;obtain ⟨f0,f1,f2,f3,f4,f5⟩:=hf it (by simp);have hx:x.cps[i]?=none:=getElem?_neg _ i (Nat.not_lt.mpr hg);unfold io at st;cases ha:x.cps.all (·<128)
  ·rw [ha] at st;exact wpAny_pyNext_wide_end (I.ok.hd hc) st hx fun h' eb=>⟨rfl,I.turned (t':=s.toks) (fun b o hb e=>eb b o hb e) f0 f1 f3 f4 f5⟩
  ·rw [ha] at st;exact wpAny_pyNext_ascii_end (I.ok.hd hc) st hx fun h' eb=>⟨rfl,I.turned (t':=s.toks) (fun b o hb e=>eb b o hb e) f0 f1 f3 f4 f5⟩
 self:=fun _ _ _ _ _ st h=>by
  unfold io at st;cases ha:x.cps.all (·<128)
  ·rw [ha] at st;exact wpAny_pyIter_striter_wide st h
  ·rw [ha] at st;exact wpAny_pyIter_striter_ascii st h
def WM (tl:TE):TI:=fun σ H R=>tl σ H fun v H1=>∃ x,v=.str x/\R (Uy x) H1
theorem MM {X:Cx}{tg l:bL}{tl:TE} (hl:PE X l tl):PI X tg l (WM tl):=by
 intro pins s σ H R I h;refine fL (hl pins s σ H _ I h) fun v s1 h_0=>?_;obtain ⟨y,H1,I1,r1,q1⟩:=h_0;obtain ⟨x,rfl,q⟩:=q1;obtain ⟨t,rfl⟩:=r1;refine wpAny_pyIter_strU ?_;refine ⟨s1.heap.objs.size,[s1.heap.objs.size],_,_,H1,rfl,I1.kept (t':=s1.toks) fun b o e=>aa _ e,ML x t _,⟨_,aB _ rfl,rfl,rfl⟩,fun b hb=>?_,q⟩;obtain rfl:b=s1.heap.objs.size:=by simpa using hb
 exact I1.fpOk (am _) (I1.hok.fresh (am _))
end
section
section
theorem bx.turnedL {t':Nat}{ch:List ah} (I:bx X pins σ H s) (k:∀ b o,b∉ch->s.heap.get? b=some o->h'.get? b=some o) (hf:∀ b∈ch,qW X pins H b):bx X pins σ H { s with heap:=h',toks:=t' }:=by
 have nt:∀ b u,H b=some u->b∉ch:=fun b u e z=>by rw [(hf b z).1] at e;cases e
 refine I.step (g':=s.gens) (d':=s.drawn) (ch:=ch) (fun b hb=>?_) (fun b o _ _ hc e _=>k b o hc e) (fun b o _ _ hc e _=>⟨o.slots,k b o hc e⟩) (fun _ _ _ _ n=>n)
  (fun b o hc e=>⟨o,k b o hc e⟩) (fun _ _ e=>e) (fun _ _ _ e=>e) (fun b ps e=>⟨#[],by rw [e];simp⟩) (fun m hm=>?_) (fun b u e=>?_) I.bare
 ·obtain ⟨f0,f1,f2,f3,f4,f5⟩:=hf b hb;exact ⟨f3,f1,f4,f5⟩
 ·obtain ⟨o,es,ep,ho,r⟩:=hm;exact ⟨o,es,ep,k _ o (fun z=>(hf _ z).f1 rfl) ho,r⟩
 ·refine (I.hok b u e).stay (fun c v hc q=>k c v ?_ q) (fun _ q=>q) fun _ _ q=>q;rcases hc with z|z
  ·rw [z];exact nt b u e
  ·exact nt c _ z
theorem bx.track  (I:bx X pins σ H s) (hf:qW X pins H D) (new:cU X.prog X.w (upd H D ho) s.heap D ho):bx X pins σ (upd H D ho) s:=by
 obtain ⟨f0,f1,f2,f3,f4,f5⟩:=hf;have I':bx X pins σ (upd H D ho) { s with heap:=s.heap,gens:=s.gens,drawn:=s.drawn,toks:=s.toks }:=I.step (ch:=[D]) (fun b hb=>by
   obtain rfl:b=D:=by simpa using hb
   exact ⟨f3,f1,f4,f5⟩) (fun b o _ _ _ e _=>e) (fun b o _ _ _ e _=>⟨o.slots,e⟩) (fun b o hc e n=>by rw [aO (fun z=>hc (by simp [z]))];exact n) (fun b o _ e=>⟨o,e⟩)
  (fun b xs e=>by rw [aO (aY e f0)];exact e) (fun b o xs e=>by rw [aO (aY e f0)];exact e) (fun b ps e=>⟨#[],by rw [aO (aY e f0),e];simp⟩) (fun m hm=>hm) (sj I.hok f0 new) I.bare
 exact I'
end
section
theorem v4  (ti:s.heap.IsTupleIter it l i) (tl:s.heap.IsTuple l items) (hx:items[i]?=some x)
  (q:∀ h',h'.IsTupleIter it l (i+1)->bE it s.heap h'->Q x { s with heap:=h' }):ak (ay prog w) A (ck (.ref it)) Q E s:=by
 obtain ⟨oi,ei,ci,di⟩:=id ti;obtain ⟨ot,et,_,nt,dt⟩:=tl;unfold ck;refine a6 (cW (name:=j6 "__next__") ti.typeIs j7 ?_);refine cA j7 ti.typeIs DH ?_ (Cf _);show ak _ _ (Am (.ref it) 0 >>= _) _ _ s;refine a6 (du ei di (x:=.ref l) rfl ?_);show ak _ _ (if (bj l==e8)=true then _ else _) _ _ s;rw [if_neg (fun z:(bj l==e8)=true=>aH z)];show ak _ _ (Am (.ref it) 1 >>= _) _ _ s;refine a6 (du ei di (x:=.int i 0) rfl ?_);show ak _ _ (LJ (.ref l) >>= _) _ _ s;refine a6 (dZ et dt ?_);simp only [ke,hx];refine a6 (jo ei di (by simp) (ac ⟨x,rfl,ac (q _ ?_ (bQ ..))⟩));refine ⟨_,fV _ ei (Obj.isFreed_of_fields (LZ di _)),(Obj.cls_mapFields ..).trans ci,?_⟩;rw [LZ di];simp [c9]
theorem v5 (hh:A.handled=none) (ti:s.heap.IsTupleIter it l i) (tl:s.heap.IsTuple l items) (hx:items[i]?=none)
  (q:∀ h' e,Heap.ExtBut it s.heap h'->(∃ o,h'.get? e=some o/\o.cls=.type "StopIteration")->E (.ref e) { s with heap:=h' }):ak (ay prog w) A (ck (.ref it)) Q E s:=by
 obtain ⟨oi,ei,ci,di⟩:=id ti;obtain ⟨ot,et,_,nt,dt⟩:=tl;unfold ck;refine a6 (cW (name:=j6 "__next__") ti.typeIs j7 ?_);refine cA j7 ti.typeIs DH ?_ (Cf _);show ak _ _ (Am (.ref it) 0 >>= _) _ _ s;refine a6 (du ei di (x:=.ref l) rfl ?_);show ak _ _ (if (bj l==e8)=true then _ else _) _ _ s;rw [if_neg (fun z:(bj l==e8)=true=>aH z)];show ak _ _ (Am (.ref it) 1 >>= _) _ _ s;refine a6 (du ei di (x:=.int i 0) rfl ?_);show ak _ _ (LJ (.ref l) >>= _) _ _ s;refine a6 (dZ et dt ?_);simp only [ke,hx];refine a6 (gy (a6 (jo ei di (by simp) ?_)));show ak _ _ (yw (.type "StopIteration") [] >>= _) _ _ _;refine a6 ?_;simp only [yw,newTuple];refine a6 (cj ?_ (by size_fits));refine a6 (m:=w4 _ _) (mV (a:=e8) ?_ ?_)
 ·first
   |rfl
   |(simp only [w4];rfl)
 refine cj ?_ (by size_fits);simp only [v_];refine a6 (wpAny_handled ?_);rw [show A.in1.handled=none from hh];refine a6 (ac (wpAny_throw ?_));exact q _ _ (((bQ ..).extBut.push _).push _) ⟨_,aB _ rfl,rfl⟩
theorem Kt (hh:A.handled=none) (it l:ah) (hne:l≠it) (items:Array ae) :
  Draws prog w A it [it,l] items.size (fun i v=>items[i]?=some v) (fun i h=>h.IsTupleIter it l i/\h.IsTuple l items) where
 live:=fun i h st=>let ⟨o,e,_⟩:=st.1;⟨o,e⟩
 frame:=fun i h h' st k=>⟨let ⟨o,e,r⟩:=st.1;⟨o,k it (by simp) o e,r⟩,let ⟨o,e,r⟩:=st.2;⟨o,k l (by simp) o e,r⟩⟩
 item:=fun i s Q E hi st q=>v4 st.1 st.2 (x:=items[i]) (by simp [hi]) fun h' t' sb=>q _ h' s.toks (by simp [hi]) ⟨t',st.2.extBut sb.extBut hne⟩ sb
 done:=fun s Q E st q=>v5 hh st.1 st.2 (by simp) q
end
theorem yQ (l:ah) (items:Array ae) (n:Nat) (dct:Option ah) (sl:Array (Option ae)) :
  Meets (fW.«enumerate.__new__» ⟨[.type "enumerate",.ref l],[]⟩) (fun _ R s=>s.heap.get? l=some { cls:=.type "tuple",dict:=dct,data:=.seq items n,slots:=sl } /\
   R (.ok (.ret (.ref (s.heap.push { cls:=.type "tuple_iterator",data:=.fields #[.ref l,.int 0 0] }).objs.size)))
    { s with heap:=(s.heap.push { cls:=.type "tuple_iterator",data:=.fields #[.ref l,.int 0 0] }).push { cls:=.type "enumerate",data:=.fields #[.none,.bool false,.ref s.heap.objs.size,c9 0,.none,.none] } }) :=
 .of_wp fun prog w A R s h=>by
  obtain ⟨hp,g,d,tk,os⟩:=s;obtain ⟨hl,h⟩:=h;have hsub:=PySem.sub_enumerate;have hL:FZ (F_ ⟨hp,g,d,tk,os⟩) l items:=⟨_,hl,rfl,n,rfl⟩;wp_walk using fZ hl;refine wpAny_stack_any fun st=>ac ?_;split
  ·rename_i c _ _ _ _ _
   cases (c==hG "enumerate")
   ·wp_walk using fZ hl,gz hL;exact ⟨_,rfl,h⟩
   ·wp_walk using fZ hl,gz hL;exact ⟨_,rfl,h⟩
  ·wp_walk using fZ hl,gz hL;exact ⟨_,rfl,h⟩
end
section
section
theorem Ay   (hL:s.heap.IsTuple l items)
  (h:∀ h',IsEnum h' (s.heap.objs.size+1) s.heap.objs.size 0 .none->h'.IsTupleIter s.heap.objs.size l 0->(∀ b o,s.heap.get? b=some o->h'.get? b=some o)->h'.objs.size=s.heap.objs.size+2 ->
   Q (.ref (s.heap.objs.size+1)) { s with heap:=h' }):ak (ay prog w) A (call (.type "enumerate") [.ref l]) Q E s:=by
 obtain ⟨⟨c,dc,dt,sl⟩,hl,hc,n,hd⟩:=hL;obtain rfl:c=.type "tuple":=hc;obtain rfl:dt=.seq items n:=hd;refine callType_new F.called_enumerate (by decide) (F.typeCall_enumerate_1 _) (F.newCall_enumerate_1 _) (fun obj=>F.args_object_init_2 obj _) F.entry_enumerate_new (yQ l items n dc sl) ⟨hl,?_⟩;have z1:(s.heap.push { cls:=.type "tuple_iterator",data:=.fields #[.ref l,.int 0 0] }).objs.size=s.heap.objs.size+1:=c7 ..;show _/\_;rw [z1];have he:IsEnum ((s.heap.push { cls:=.type "tuple_iterator",data:=.fields #[.ref l,.int 0 0] }).push { cls:=.type "enumerate",data:=.fields #[.none,.bool false,.ref s.heap.objs.size,c9 0,.none,.none] }) (s.heap.objs.size+1) s.heap.objs.size 0 .none:=by
  have q:=aB (s.heap.push { cls:=.type "tuple_iterator",data:=.fields #[.ref l,.int 0 0] }) (o:={ cls:=.type "enumerate",data:=.fields #[.none,.bool false,.ref s.heap.objs.size,c9 0,.none,.none] }) rfl;rw [z1] at q;exact q
 exact ⟨⟨_,he,rfl⟩,h _ he ⟨_,aa _ (aB _ rfl),rfl,rfl⟩ (fun b o e=>aa _ (aa _ e)) (by rw [c7,z1])⟩
end
def WN (K:a7) (a:ah):It :=
 ⟨fun i H=>∃ xs x,lw K H a xs/\xs[i]?=some x,fun i H v H'=>∃ p,H p=none/\v=.ref p/\∀ xs,lw K H a xs->∃ x,xs[i]?=some x/\H'=upd H p (.tup [.int i,x]),fun i H=>∃ xs,lw K H a xs/\xs.length<=i⟩
theorem Ku {P:bd}{w:bv}{K:a7}{elts:List bL}{x1}{pos:Pos} (a e it:ah) (hei:e≠it):yF P w K (.Tuple elts x1 pos) (WN K a) [e,it] e (fun i h=>(∃ old,IsEnum h e it i old)/\h.IsTupleIter it a i) where
 mem:=by simp
 obj:=fun i h st b hb=>by
  simp only [a_,aQ,or_false] at hb;rcases hb with rfl|rfl
  ·obtain ⟨⟨old,q⟩,_⟩:=st;exact ⟨_,q,fun v z=>by cases z⟩
  ·obtain ⟨_,o,q,_,d⟩:=st;exact ⟨o,q,fun v z=>by rw [d] at z;cases z⟩
 keep:=fun i h h' st k=>⟨let ⟨old,q⟩:=st.1;⟨old,k e (by simp) _ q⟩,let ⟨o,q,r⟩:=st.2;⟨o,k it (by simp) o q,r⟩⟩
 item:=by
  intro X hP hw hK hc i pins s σ H E I hf st hg;subst hP hw hK;obtain ⟨xs,x,hq,hx⟩:=hg;obtain ⟨its,rv,p,hz⟩:=I.tuple hq;obtain ⟨u,hu,ru⟩:=rv.get hx;obtain ⟨⟨old,he⟩,hit⟩:=st;have hit0:=hit;obtain ⟨oi,ei,_⟩:=hit0;have hai:a≠it:=fun z=>by
   obtain ⟨o1,e1,c1,_⟩:=p;obtain ⟨o2,e2,c2,_⟩:=hit;rw [z,e2] at e1;cases e1;rw [c2] at c1;exact absurd (Iq c1) (by decide)
  have hae:a≠e:=fun z=>by
   obtain ⟨o1,e1,c1,_⟩:=p;rw [z,he] at e1;cases e1;exact absurd (Iq (show hG "enumerate"=hG "tuple" from c1)) (by decide)
  have hlt:i<its.toArray.size:=by simp;exact (List.getElem?_eq_some_iff.mp hu).1
  have he0:=al he;refine wpAny_pyNext_enum_itemD (Kt (by simpa using I.ok.hd hc) it a hai its.toArray) he ⟨hit,p⟩ hlt hei (by simp [hei,cZ hae]) ?_;intro x' h1 tk hx' eo st1 tup sz k1;have hx'':its[i]?=some x':=by simpa using hx'
  rw [hu] at hx'';cases hx'';refine ⟨_,rfl,Gr eo fun h2 e2 sb2=>?_⟩;have szn:s.heap.objs.size≠e:=dQ he0;have I2:bx X pins σ H { s with heap:=h2,toks:=tk+1 }:=I.turnedL (ch:=[e,it]) (fun b o hb q=>by
   simp only [a_,aQ,or_false,not_or] at hb;exact (sb2.2 b hb.1).trans (k1 b o hb.1 hb.2 q)) hf
  have fT:=I.fpOk (H':=H) (am _) (I.hok.fresh (am _));have tup2:h2.get? s.heap.objs.size=some { cls:=.type "tuple",data:=.seq #[.int i tk,u] }:=(sb2.2 _ szn).trans tup;have I3:=I2.track (ho:=.tup [.int i,x]) fT ⟨by show 2<=sizeLine;decide,[.int i tk,u],.cons ⟨tk,rfl⟩ (.cons ru .nil),⟨_,tup2,rfl,0,rfl⟩⟩;refine ⟨.ref s.heap.objs.size,_,I3,rfl,⟨_,fT.1,rfl,fun ys hy=>?_⟩,⟨⟨u,?_⟩,?_⟩,fun b hb=>?_⟩
  ·rw [I.tuple_inj hy hq];exact ⟨x,hx,rfl⟩
  ·have:(((i+1:Nat):Int))=(i:Int)+1:=by omega
   rw [this];exact e2
  ·obtain ⟨o,q,r⟩:=st1.1;exact ⟨o,(sb2.2 it (cZ hei)).trans q,r⟩
  ·rw [aO]
   ·exact (hf b hb).1
   ·simp only [a_,aQ,or_false] at hb;rcases hb with z|z
    ·rw [z];exact aA he0
    ·rw [z];exact aA (al ei)
 done:=by
  intro X hP hw hK hc i pins s σ H E I hf st hg;subst hP hw hK;obtain ⟨xs,hq,hx⟩:=hg;obtain ⟨its,rv,p,hz⟩:=I.tuple hq;obtain ⟨⟨old,he⟩,hit⟩:=st;have hl:=rv.length;have hT:s.TypeIs (.ref e) "enumerate":=⟨_,he,rfl⟩;unfold nX;refine a6 (jW (cW (name:=j6 "__next__") hT LK ?_));refine cA LK hT F.entry_enumerate_next ?_ (F.args_enumerate_next_1 _);show ak _ _ (Am (.ref e) 2 >>= _) _ _ _;refine a6 (du he rfl (x:=.ref it) rfl ?_);refine a6 (v5 (by simpa using I.ok.hd hc) hit (show s.heap.IsTuple a its.toArray from p) (by simp;omega) fun h' z eb hz'=>?_);obtain ⟨o,ho,hcl⟩:=hz';refine a6 (jF (T:="StopIteration") (b:=true) ⟨o,ho,hcl⟩ Gq ?_);exact ac ⟨rfl,I.turnedL (t':=s.toks) (ch:=[e,it]) (fun b o hb q=>eb b o (by
   simp only [a_,aQ,or_false,not_or] at hb;exact hb.2) q) hf⟩
 self:=fun _ _ _ _ _ st h=>let ⟨⟨_,q⟩,_⟩:=st;qH q h
def Uz (K:a7) (ta:TA):TI:=fun σ H R=>ta σ H fun vs H1=>∃ a xs,vs=[.ref a]/\lw K H1 a xs/\R (WN K a) H1
theorem Q6 {X:Cx}{elts:List bL}{x1}{tpos p pos:Pos}{a:bL}{ta:TA} (hg:Gl X "enumerate") (hm:X.mg "enumerate"=none) (ha:PA X [a] ta) (hs:aw [a] X.env=[(false,cz a X.env)]:=by rfl) :
  PI X (.Tuple elts x1 tpos) (.Call (.Name "enumerate" p) [a] [] pos) (Uz X.K ta):=by
 intro pins s σ H R I h;refine Call_ (qU I hg hm boot_enumerate (dh (fL (ha pos pins s σ H _ I h) fun us s1 ⟨vs,H1,I1,r1,q1⟩=>?_) hs rfl));obtain ⟨ad,xs,rfl,hq,q⟩:=q1;obtain ⟨u,rfl,rx⟩:=lC r1;cases rx;obtain ⟨its,rv,tp,hz⟩:=I1.tuple hq;refine Ay (show s1.heap.IsTuple ad its.toArray from tp) fun h' e1 t1 kp sz=>?_;refine qH e1 ?_;have I2:bx X pins σ H1 { s1 with heap:=h' }:=I1.kept (t':=s1.toks) kp;refine ⟨s1.heap.objs.size+1,[s1.heap.objs.size+1,s1.heap.objs.size],_,_,H1,rfl,I2,Ku ad _ _ (dQ (ev _)),⟨⟨.none,e1⟩,t1⟩,fun b hb=>?_,q⟩;simp only [a_,aQ,or_false] at hb;rcases hb with z|z
 ·rw [z];exact I1.fpOk (i0 _) (I1.hok.fresh (i0 _))
 ·rw [z];exact I1.fpOk (am _) (I1.hok.fresh (am _))
end
section
section
variable {prog:bd}{w:bv}{A:bO}{E:ae->ai->Prop}{s:ai}{z TI TO i1 i2 l1 l2:ah}{k1 k2:Nat}{xs ys:Array ae}{x y a b:ae}
theorem jp    (t:h.IsTupleIter it l k) (sb:bE c h h') (ne:it≠c):h'.IsTupleIter it l k:=t.extBut sb.extBut ne
theorem pH    (t:h.IsTuple l xs) (sb:bE c h h') (ne:l≠c):h'.IsTuple l xs:=t.extBut sb.extBut ne
theorem MN {Q:ae->ai->Prop} (D:Pc z TI TO i1 i2 l1 l2) (za:w5 s.heap z TI TO .none) (pa:kg s.heap TI (.ref i1) (.ref i2)) (pb:kg s.heap TO a b)
  (u1:s.heap.IsTupleIter i1 l1 k1) (u2:s.heap.IsTupleIter i2 l2 k2) (v1:s.heap.IsTuple l1 xs) (v2:s.heap.IsTuple l2 ys) (hx:xs[k1]?=some x) (hy:ys[k2]?=some y)
  (q:∀ h',w5 h' z TI TO (c9 s.heap.objs.size)->kg h' TO x y->h'.IsTupleIter i1 l1 (k1+1)->h'.IsTupleIter i2 l2 (k2+1)->kg h' s.heap.objs.size x y ->
   (∀ c o,c≠z->c≠TO->c≠i1->c≠i2->s.heap.get? c=some o->h'.get? c=some o)->Q (.ref s.heap.objs.size) { s with heap:=h' }) :
  ak (ay prog w) A (fW.«zip.__next__» ⟨[.ref z],[]⟩) (fun fin s'=>∃ v,fin=.done (.ret v)/\Q v s') E s:=by
 show ak _ _ (Am (.ref z) 2 >>= _) _ _ _;refine a6 (du za rfl (x:=.bool false) rfl ?_);show ak _ _ (Am (.ref z) 3 >>= _) _ _ _;refine a6 (du za rfl (x:=.ref TI) rfl ?_);refine a6 (dZ pa rfl ?_);show ak _ _ (eg (.ref z) >>= _) _ _ _;refine a6 ?_;unfold eg;refine a6 (du za rfl (x:=.none) rfl (ac ?_));simp only [if_true];refine a6 (gy ?_);refine a6 (du za rfl (x:=.ref TO) rfl ?_);refine a6 (iw za (by simp) fun g1 z1 b1=>?_);replace z1:w5 g1 z TI TO .ellipsis:=z1;refine a6 ?_;simp only [P0,Pd,lV,tu];refine a6 (a6 (y0 ?_));show ak _ _ (ck (.ref i1) >>= _) _ _ _;refine a6 (v4 (jp u1 b1 D.i1z) (pH v1 b1 D.l1z) hx fun g2 w1 b2=>ac ?_);have p2:kg g2 TO a b:=b2.extBut _ _ D.TOi1 (b1.extBut _ _ D.TOz pb);refine a6 (dZ p2 rfl (a6 (w6 p2 fun g3 p3 b3=>?_)));replace p3:kg g3 TO x b:=p3;refine a6 (Pe (ac (a6 (a6 (y0 ?_)))));show ak _ _ (ck (.ref i2) >>= _) _ _ _;refine a6 (v4 (jp (jp (jp u2 b1 D.i2z) b2 D.i12.symm) b3 D.TOi2.symm) (pH (pH (pH v2 b1 D.l2z) b2 D.l2i1) b3 D.l2TO) hy fun g4 w2 b4=>ac ?_);have p4:kg g4 TO x b:=b4.extBut _ _ D.TOi2 p3;refine a6 (dZ p4 rfl (a6 (w6 p4 fun g5 p5 b5=>?_)));replace p5:kg g5 TO x y:=p5;refine a6 (Pe (ac (ac ?_)));refine a6 (dZ p5 rfl (a6 (wpAny_newTuple ?_)));have sz:g5.objs.size=s.heap.objs.size:=by rw [b5.1,b4.1,b3.1,b2.1,b1.1]
 have z5:w5 g5 z TI TO .ellipsis:=b5.extBut _ _ D.TOz.symm (b4.extBut _ _ D.i2z.symm (b3.extBut _ _ D.TOz.symm (b2.extBut _ _ D.i1z.symm z1)));have k5:∀ c o,c≠z->c≠TO->c≠i1->c≠i2->s.heap.get? c=some o->g5.get? c=some o:=fun c o n1 n2 n3 n4 e =>
  b5.extBut _ _ n2 (b4.extBut _ _ n4 (b3.extBut _ _ n2 (b2.extBut _ _ n3 (b1.extBut _ _ n1 e))))
 have y1:g5.IsTupleIter i1 l1 (k1+1):=jp (jp (jp w1 b3 D.TOi1.symm) b4 D.i12) b5 D.TOi1.symm;have y2:g5.IsTupleIter i2 l2 (k2+1):=jp w2 b5 D.TOi2.symm;have zl:z<g5.objs.size:=al z5;show ak _ _ (ng (.ref z) (.ref g5.objs.size) >>= _) _ _ _;refine a6 ?_;unfold ng;have z6:w5 (g5.push { cls:=.type "tuple",data:=.seq #[x,y] }) z TI TO .ellipsis:=aa _ z5;refine a6 (iw z6 (by simp) fun g7 z7 b7=>?_);replace z7:w5 g7 z TI TO (c9 g5.objs.size):=z7;refine iw z7 (by simp) fun g8 z8 b8=>?_;replace z8:w5 g8 z TI TO (c9 g5.objs.size):=z8;have up:∀ c o,c≠z->g5.get? c=some o->g8.get? c=some o:=fun c o n1 e=>b8.extBut _ _ n1 (b7.extBut _ _ n1 (aa _ e));have p8:kg g8 g5.objs.size x y:=b8.extBut _ _ (dQ zl) (b7.extBut _ _ (dQ zl) (aB _ rfl));rw [sz] at z8 p8;refine ac ⟨_,rfl,?_⟩;show Q (.ref g5.objs.size) _;rw [sz];exact q g8 z8 (up _ _ D.TOz p5) (let ⟨o,e,r⟩:=y1;⟨o,up _ o D.i1z e,r⟩) (let ⟨o,e,r⟩:=y2;⟨o,up _ o D.i2z e,r⟩) p8 fun c o n1 n2 n3 n4 e=>up c o n1 (k5 c o n1 n2 n3 n4 e)
theorem MO (hh:A.handled=none) (D:Pc z TI TO i1 i2 l1 l2) (za:w5 s.heap z TI TO .none) (pa:kg s.heap TI (.ref i1) (.ref i2)) (pb:kg s.heap TO a b)
  (u1:s.heap.IsTupleIter i1 l1 k1) (u2:s.heap.IsTupleIter i2 l2 k2) (v1:s.heap.IsTuple l1 xs) (v2:s.heap.IsTuple l2 ys) (hend:xs[k1]?=none\/ys[k2]?=none)
  (q:∀ h' e,(∀ c o,c≠z->c≠TO->c≠i1->c≠i2->s.heap.get? c=some o->h'.get? c=some o)->(∃ o,h'.get? e=some o/\o.cls=.type "StopIteration")->E (.ref e) { s with heap:=h' }) :
  ak (ay prog w) A (fW.«zip.__next__» ⟨[.ref z],[]⟩) Q E s:=by
 show ak _ _ (Am (.ref z) 2 >>= _) _ _ _;refine a6 (du za rfl (x:=.bool false) rfl ?_);show ak _ _ (Am (.ref z) 3 >>= _) _ _ _;refine a6 (du za rfl (x:=.ref TI) rfl ?_);refine a6 (dZ pa rfl ?_);show ak _ _ (eg (.ref z) >>= _) _ _ _;refine a6 ?_;unfold eg;refine a6 (du za rfl (x:=.none) rfl (ac ?_));simp only [if_true];refine a6 (gy ?_);refine a6 (du za rfl (x:=.ref TO) rfl ?_);refine a6 (iw za (by simp) fun g1 z1 b1=>?_);replace z1:w5 g1 z TI TO .ellipsis:=z1;refine a6 ?_;simp only [P0,Pd,lV,tu];refine a6 (a6 (y0 ?_));show ak _ _ (ck (.ref i1) >>= _) _ _ _;cases hx:xs[k1]? with
 |none =>
  refine a6 (v5 hh (jp u1 b1 D.i1z) (pH v1 b1 D.l1z) hx fun g2 e b2 he=>?_);obtain ⟨oe,ee,ce⟩:=he;have z2:w5 g2 z TI TO .ellipsis:=b2 _ _ D.i1z.symm z1;have ez:e≠z:=fun n=>by subst n;rw [z2] at ee;cases ee;simp at ce
  refine iw z2 (by simp) fun g3 _ b3=>q g3 e (fun c o n1 _ n3 _ m=>b3.extBut _ _ n1 (b2 _ _ n3 (b1.extBut _ _ n1 m))) ⟨oe,b3.extBut _ _ ez ee,ce⟩
 |some x =>
  have hy:ys[k2]?=none:=hend.resolve_left fun n=>by rw [hx] at n;cases n
  refine a6 (v4 (jp u1 b1 D.i1z) (pH v1 b1 D.l1z) hx fun g2 w1 b2=>ac ?_);have p2:kg g2 TO a b:=b2.extBut _ _ D.TOi1 (b1.extBut _ _ D.TOz pb);refine a6 (dZ p2 rfl (a6 (w6 p2 fun g3 p3 b3=>?_)));refine a6 (Pe (ac (a6 (a6 (y0 ?_)))));show ak _ _ (ck (.ref i2) >>= _) _ _ _;refine a6 (v5 hh (jp (jp (jp u2 b1 D.i2z) b2 D.i12.symm) b3 D.TOi2.symm) (pH (pH (pH v2 b1 D.l2z) b2 D.l2i1) b3 D.l2TO) hy fun g4 e b4 he=>?_);obtain ⟨oe,ee,ce⟩:=he;have z4:w5 g4 z TI TO .ellipsis:=b4 _ _ D.i2z.symm (b3.extBut _ _ D.TOz.symm (b2.extBut _ _ D.i1z.symm z1));have ez:e≠z:=fun n=>by subst n;rw [z4] at ee;cases ee;simp at ce
  refine iw z4 (by simp) fun g5 _ b5=>q g5 e (fun c o n1 n2 n3 n4 m=>b5.extBut _ _ n1 (b4 _ _ n4 (b3.extBut _ _ n2 (b2.extBut _ _ n3 (b1.extBut _ _ n1 m))))) ⟨oe,b5.extBut _ _ ez ee,ce⟩
end
abbrev VX (h:bt) (l1:ah):bt:=h.push { cls:=.type "tuple_iterator",data:=.fields #[.ref l1,.int 0 0] }
abbrev VY (h:bt) (l1 l2:ah):bt:=(VX h l1).push { cls:=.type "tuple_iterator",data:=.fields #[.ref l2,.int 0 0] }
abbrev VZ (h:bt) (l1 l2:ah):bt:=(VY h l1 l2).push { cls:=.type "tuple",data:=.seq #[.ref h.objs.size,.ref (VX h l1).objs.size] }
abbrev V_ (h:bt) (l1 l2:ah):bt:=(VZ h l1 l2).push { cls:=.type "tuple",data:=.seq #[.none,.none] }
abbrev T_ (h:bt) (l1 l2:ah):bt:=(V_ h l1 l2).push { cls:=.type "zip",data:=.fields #[.none,.bool false,.bool false,.ref (VY h l1 l2).objs.size,.ref (VZ h l1 l2).objs.size] }
theorem Az (l1 l2:ah) (xs ys:Array ae) :
  Meets (fW.«zip.__new__» ⟨[.type "zip",.ref l1,.ref l2],[]⟩) (fun _ R s=>s.heap.IsTuple l1 xs/\s.heap.IsTuple l2 ys/\R (.ok (.ret (.ref (V_ s.heap l1 l2).objs.size))) { s with heap:=T_ s.heap l1 l2 }) :=
 .of_wp fun prog w A R s h=>by
  obtain ⟨hp,g,d,tk,os⟩:=s;obtain ⟨v1,v2,h⟩:=h;have hsub:=PySem.sub_zip;have L1:FZ (F_ ⟨hp,g,d,tk,os⟩) l1 xs:=v1;have L2:FZ (F_ ⟨hp.push { cls:=.type "tuple_iterator",data:=.fields #[.ref l1,.int 0 0] },g,d,tk,os⟩) l2 ys:=Heap.IsTuple.push v2 _;wp_walk using gz L1,gz L2;exact ⟨_,rfl,h⟩
section
theorem CK   (v1:s.heap.IsTuple l1 xs) (v2:s.heap.IsTuple l2 ys)
  (h:∀ h',w5 h' (s.heap.objs.size+4) (s.heap.objs.size+2) (s.heap.objs.size+3) .none->kg h' (s.heap.objs.size+2) (.ref s.heap.objs.size) (.ref (s.heap.objs.size+1)) ->
   kg h' (s.heap.objs.size+3) .none .none->h'.IsTupleIter s.heap.objs.size l1 0->h'.IsTupleIter (s.heap.objs.size+1) l2 0 ->
   (∀ c o,s.heap.get? c=some o->h'.get? c=some o)->Q (.ref (s.heap.objs.size+4)) { s with heap:=h' }):ak (ay prog w) A (call (.type "zip") [.ref l1,.ref l2]) Q E s:=by
 refine callType_new F.called_zip (by decide) (F.typeCall_zip_2 _ _) (F.newCall_zip_2 _ _) (fun obj=>F.args_object_init_3 obj _ _) F.entry_zip_new (Az l1 l2 xs ys) ⟨v1,v2,?_⟩;have n1:(VX s.heap l1).objs.size=s.heap.objs.size+1:=c7 ..;have n2:(VY s.heap l1 l2).objs.size=s.heap.objs.size+2:=by rw [c7,n1]
 have n3:(VZ s.heap l1 l2).objs.size=s.heap.objs.size+3:=by rw [c7,n2]
 have n4:(V_ s.heap l1 l2).objs.size=s.heap.objs.size+4:=by rw [c7,n3]
 have c5:(T_ s.heap l1 l2).get? (V_ s.heap l1 l2).objs.size=some _:=aB _ rfl;have c4:(T_ s.heap l1 l2).get? (VZ s.heap l1 l2).objs.size=some _:=aa _ (aB _ rfl);have c3:(T_ s.heap l1 l2).get? (VY s.heap l1 l2).objs.size=some _:=aa _ (aa _ (aB _ rfl));have c2:(T_ s.heap l1 l2).get? (VX s.heap l1).objs.size=some _:=aa _ (aa _ (aa _ (aB _ rfl)));have c1:(T_ s.heap l1 l2).get? s.heap.objs.size=some _:=aa _ (aa _ (aa _ (aa _ (aB _ rfl))));show _/\_;rw [n2,n3,n4] at c5;rw [n1,n2] at c3;rw [n3] at c4;rw [n1] at c2;rw [n4];exact ⟨⟨_,c5,rfl⟩,h _ c5 c3 c4 ⟨_,c1,rfl,rfl⟩ ⟨_,c2,rfl,rfl⟩ fun c o e=>aa _ (aa _ (aa _ (aa _ (aa _ e))))⟩
end
theorem lw.ne_fp       (I:bx X pins σ H s) (hq:lw X.K H a xs) (hf:qW X pins H b):a≠b:=by
 rintro rfl;rcases hq with (h|⟨o,h⟩)|⟨o,its,n,hk,_⟩
 ·rw [hf.1] at h;cases h
 ·rw [hf.1] at h;cases h
 ·have e:X.base.get? a=some o:=I.mod.kin a o hk;rcases hf.f3 with z|z
  ·exact I.ok.noex a o e z
  ·exact absurd (aC (al e) (bK I.ok.bsz z)) (bN _)
def WO (K:a7) (a b:ah):It :=
 ⟨fun i H=>∃ xs ys x y,lw K H a xs/\lw K H b ys/\xs[i]?=some x/\ys[i]?=some y,
  fun i H v H'=>∃ p,H p=none/\v=.ref p/\∀ xs ys,lw K H a xs->lw K H b ys->∃ x y,xs[i]?=some x/\ys[i]?=some y/\H'=upd H p (.tup [x,y]),
  fun i H=>∃ xs ys,lw K H a xs/\lw K H b ys/\(xs.length<=i\/ys.length<=i)⟩
structure WP (z TI TO i1 i2:ah):Prop where
 d1:TI≠z
 d2:TO≠z
 d3:i1≠z
 d4:i2≠z
 d5:TI≠TO
 d6:TI≠i1
 d7:TI≠i2
 d8:TO≠i1
 d9:TO≠i2
 d0:i1≠i2
theorem MP {P:bd}{w:bv}{K:a7}{elts:List bL}{x1}{pos:Pos} (l1 l2 z TI TO i1 i2:ah) (Z:WP z TI TO i1 i2) :
  yF P w K (.Tuple elts x1 pos) (WO K l1 l2) [z,TI,TO,i1,i2] z (fun i h=>w5 h z TI TO .none/\kg h TI (.ref i1) (.ref i2)/\(∃ a b,kg h TO a b)/\h.IsTupleIter i1 l1 i/\h.IsTupleIter i2 l2 i) where
 mem:=by simp
 obj:=fun i h st b hb=>by
  obtain ⟨s1,s2,⟨_,_,s3⟩,⟨o4,e4,_,f4⟩,⟨o5,e5,_,f5⟩⟩:=st;simp only [a_,aQ,or_false] at hb;rcases hb with rfl|rfl|rfl|rfl|rfl
  ·exact ⟨_,s1,fun v q=>by cases q⟩
  ·exact ⟨_,s2,fun v q=>by cases q⟩
  ·exact ⟨_,s3,fun v q=>by cases q⟩
  ·exact ⟨o4,e4,fun v q=>by rw [f4] at q;cases q⟩
  ·exact ⟨o5,e5,fun v q=>by rw [f5] at q;cases q⟩
 keep:=fun i h h' st k=>by
  obtain ⟨s1,s2,⟨u,v,s3⟩,⟨o4,e4,r4⟩,⟨o5,e5,r5⟩⟩:=st;exact ⟨k z (by simp) _ s1,k TI (by simp) _ s2,⟨u,v,k TO (by simp) _ s3⟩,⟨o4,k i1 (by simp) _ e4,r4⟩,⟨o5,k i2 (by simp) _ e5,r5⟩⟩
 item:=by
  intro X hP hw hK hc i pins s σ H E I hf st hg;subst hP hw hK;obtain ⟨xs,ys,x,y,hq1,hq2,hx,hy⟩:=hg;obtain ⟨its1,rv1,p1,_⟩:=I.tuple hq1;obtain ⟨its2,rv2,p2,_⟩:=I.tuple hq2;obtain ⟨u,hu,ru⟩:=rv1.get hx;obtain ⟨v,hv,rv⟩:=rv2.get hy;obtain ⟨s1,s2,⟨a,b,s3⟩,s4,s5⟩:=st;have ne1:∀ b∈[z,TI,TO,i1,i2],l1≠b:=fun b hb=>hq1.ne_fp I (hf b hb);have ne2:∀ b∈[z,TI,TO,i1,i2],l2≠b:=fun b hb=>hq2.ne_fp I (hf b hb);have D:Pc z TI TO i1 i2 l1 l2:=⟨Z.d1,Z.d2,Z.d3,Z.d4,Z.d5,Z.d6,Z.d7,Z.d8,Z.d9,Z.d0,ne1 z (by simp),ne1 TO (by simp),ne1 i1 (by simp),ne1 i2 (by simp),ne2 z (by simp),ne2 TO (by simp),ne2 i1 (by simp),ne2 i2 (by simp)⟩;have zl:=al s1;have hT:s.TypeIs (.ref z) "zip":=⟨_,s1,rfl⟩;unfold nX;refine a6 (jW (cW (name:=j6 "__next__") hT tw ?_));refine cA tw hT F.entry_zip_next (MN D s1 s2 s3 s4 s5 p1 p2 (by simpa using hu) (by simpa using hv) fun h1 z1 t1 y1 y2 pr k1=>?_) (F.args_zip_next_1 _);refine ac ⟨_,rfl,wpAny_letOwnedTupleGo_zip z1 fun h2 z2 b2=>?_⟩;have szn:s.heap.objs.size≠z:=dQ zl;have TIk:kg h1 TI (.ref i1) (.ref i2):=k1 TI _ Z.d1 Z.d5 Z.d6 Z.d7 s2;have I2:bx X pins σ H { s with heap:=h2 }:=I.turnedL (t':=s.toks) (ch:=[z,TI,TO,i1,i2]) (fun b o hb q=>by
   simp only [a_,aQ,or_false,not_or] at hb;exact (b2.2 b hb.1).trans (k1 b o hb.1 hb.2.2.1 hb.2.2.2.1 hb.2.2.2.2 q)) hf
  have fT:=I.fpOk (H':=H) (am _) (I.hok.fresh (am _));have pr2:h2.get? s.heap.objs.size=some { cls:=.type "tuple",data:=.seq #[u,v] }:=(b2.2 _ szn).trans pr;have I3:=I2.track (ho:=.tup [x,y]) fT ⟨by show 2<=sizeLine;decide,[u,v],.cons ru (.cons rv .nil),⟨_,pr2,rfl,0,rfl⟩⟩;refine ⟨.ref s.heap.objs.size,_,I3,rfl,⟨_,fT.1,rfl,fun xs' ys' h1 h2=>?_⟩,⟨z2,(b2.2 TI Z.d1).trans TIk,⟨u,v,(b2.2 TO Z.d2).trans t1⟩,jp y1 b2 Z.d3,jp y2 b2 Z.d4⟩,fun b hb=>?_⟩
  ·rw [I.tuple_inj h1 hq1,I.tuple_inj h2 hq2];exact ⟨x,y,hx,hy,rfl⟩
  ·have bl:b<s.heap.objs.size:=by
    simp only [a_,aQ,or_false] at hb;rcases hb with q|q|q|q|q
    ·rw [q];exact zl
    ·rw [q];exact al s2
    ·rw [q];exact al s3
    ·obtain ⟨_,e,_⟩:=s4;rw [q];exact al e
    ·obtain ⟨_,e,_⟩:=s5;rw [q];exact al e
   rw [aO (aA bl)];exact (hf b hb).1
 done:=by
  intro X hP hw hK hc i pins s σ H E I hf st hg;subst hP hw hK;obtain ⟨xs,ys,hq1,hq2,hend⟩:=hg;obtain ⟨its1,rv1,p1,_⟩:=I.tuple hq1;obtain ⟨its2,rv2,p2,_⟩:=I.tuple hq2;obtain ⟨s1,s2,⟨a,b,s3⟩,s4,s5⟩:=st;have ne1:∀ b∈[z,TI,TO,i1,i2],l1≠b:=fun b hb=>hq1.ne_fp I (hf b hb);have ne2:∀ b∈[z,TI,TO,i1,i2],l2≠b:=fun b hb=>hq2.ne_fp I (hf b hb);have D:Pc z TI TO i1 i2 l1 l2:=⟨Z.d1,Z.d2,Z.d3,Z.d4,Z.d5,Z.d6,Z.d7,Z.d8,Z.d9,Z.d0,ne1 z (by simp),ne1 TO (by simp),ne1 i1 (by simp),ne1 i2 (by simp),ne2 z (by simp),ne2 TO (by simp),ne2 i1 (by simp),ne2 i2 (by simp)⟩;have hT:s.TypeIs (.ref z) "zip":=⟨_,s1,rfl⟩;have n1:=rv1.length;have n2:=rv2.length;unfold nX;refine a6 (jW (cW (name:=j6 "__next__") hT tw ?_));refine cA tw hT F.entry_zip_next (MO (by simpa using I.ok.hd hc) D s1 s2 s3 s4 s5 p1 p2 (hend.elim (fun q=>.inl (by simp;omega)) fun q=>.inr (by simp;omega)) fun h' e kp he=>?_) (F.args_zip_next_1 _);obtain ⟨o,eo,co⟩:=he;refine a6 (jF (T:="StopIteration") (b:=true) ⟨o,eo,co⟩ Gq ?_);exact ac ⟨rfl,I.turnedL (t':=s.toks) (ch:=[z,TI,TO,i1,i2]) (fun b o hb q=>by
   simp only [a_,aQ,or_false,not_or] at hb;exact kp b o hb.1 hb.2.2.1 hb.2.2.2.1 hb.2.2.2.2 q) hf⟩
 self:=fun _ _ _ _ _ st h=>wpAny_pyIter_zip st.1 h
def WQ (K:a7) (ta:TA):TI:=fun σ H R=>ta σ H fun vs H1=>∃ a b xs ys,vs=[.ref a,.ref b]/\lw K H1 a xs/\lw K H1 b ys/\R (WO K a b) H1
theorem T2 {X:Cx}{elts:List bL}{x1}{tpos p pos:Pos}{a b:bL}{ta:TA} (hg:Gl X "zip") (hm:X.mg "zip"=none) (ha:PA X [a,b] ta) (hs:aw [a,b] X.env=[(false,cz a X.env),(false,cz b X.env)]:=by rfl)
  (hs2:aw [b] X.env=[(false,cz b X.env)]:=by rfl):PI X (.Tuple elts x1 tpos) (.Call (.Name "zip" p) [a,b] [] pos) (WQ X.K ta):=by
 intro pins s σ H R I h;refine Call_ (qU I hg hm boot_zip (dh (fL (ha pos pins s σ H _ I h) fun us s1 ⟨vs,H1,I1,r1,q1⟩=>?_) (by rw [hs,hs2]) (by rw [hs2];rfl)));obtain ⟨a1,a2,xs,ys,rfl,hq1,hq2,q⟩:=q1;obtain ⟨u1,u2,rfl,rx1,rx2⟩:=Mn r1;cases rx1;cases rx2;obtain ⟨its1,rv1,p1,_⟩:=I1.tuple hq1;obtain ⟨its2,rv2,p2,_⟩:=I1.tuple hq2;refine CK (show s1.heap.IsTuple a1 its1.toArray from p1) (show s1.heap.IsTuple a2 its2.toArray from p2) fun h' c1 c2 c3 c4 c5 kp=>?_;refine wpAny_pyIter_zip c1 ?_;have I2:bx X pins σ H1 { s1 with heap:=h' }:=I1.kept (t':=s1.toks) kp;have ad:∀ k j:Nat,k≠j->s1.heap.objs.size+k≠s1.heap.objs.size+j:=fun k j n e=>n (Nat.add_left_cancel e);refine ⟨s1.heap.objs.size+4,[s1.heap.objs.size+4,s1.heap.objs.size+2,s1.heap.objs.size+3,s1.heap.objs.size+0,s1.heap.objs.size+1],_,_,H1,rfl,I2,
  MP a1 a2 _ _ _ _ _ ⟨ad _ _ (by decide),ad _ _ (by decide),ad _ _ (by decide),ad _ _ (by decide),ad _ _ (by decide),ad _ _ (by decide),ad _ _ (by decide),ad _ _ (by decide),ad _ _ (by decide),ad _ _ (by decide)⟩,
  ⟨c1,c2,⟨_,_,c3⟩,c4,c5⟩,fun b hb=>?_,q⟩
 have:∀ k:Nat,qW X pins H1 (s1.heap.objs.size+k):=fun k=>I1.fpOk (Pf _ _) (I1.hok.fresh (Pf _ _))
 simp only [a_,aQ,or_false] at hb;rcases hb with q|q|q|q|q<;>(rw [q];exact this _)
end
section
mutual
inductive GU (K:a7) (H:Hp):V->Cg->Prop
 |none:GU K H .non .none
 |bool (b:Bool):GU K H (.bl b) (.bool b)
 |int (i:Int):GU K H (.int i) (.int i)
 |str (x:Str):GU K H (.str x) (.str x)
 |list {a:ah}{xs:List V}{ds:List Cg}:nl K H a xs->Reps K H xs ds->GU K H (.ref a) (.list ds)
 |tuple {a:ah}{xs:List V}{ds:List Cg}:lw K H a xs->Reps K H xs ds->GU K H (.ref a) (.tuple ds)
inductive Reps (K:a7) (H:Hp):List V->List Cg->Prop
 |nil:Reps K H [] []
 |cons {x:V}{xs:List V}{d:Cg}{ds:List Cg}:GU K H x d->Reps K H xs ds->Reps K H (x::xs) (d::ds)
end
theorem dn.tup {K:a7}{H H':Hp}{a:ah}{xs:List V} (e:dn H H') (h:lw K H a xs):lw K H' a xs:=by
 rcases h with (h|⟨o,h⟩)|h
 ·exact .inl (.inl (e _ _ h))
 ·exact .inl (.inr ⟨o,e _ _ h⟩)
 ·exact .inr h
section
theorem Q7 (I:bx X pins σ H s)    (h:nl X.K H a xs) (ih:∀ {us:List ae},de xs us->∃ as,ReadsAll s.heap us ds as) (r:cY (.ref a) u):∃ as,Reads s.heap u (.list ds) as:=by
 cases r;obtain ⟨its,rv,⟨o,n,e,c,_,d⟩,_⟩:=I.list h;obtain ⟨as,ra⟩:=ih rv;exact ⟨_,.list e c d (by simpa using ra)⟩
theorem MQ (I:bx X pins σ H s)    (h:lw X.K H a xs) (ih:∀ {us:List ae},de xs us->∃ as,ReadsAll s.heap us ds as) (r:cY (.ref a) u):∃ as,Reads s.heap u (.tuple ds) as:=by
 cases r;obtain ⟨its,rv,⟨o,e,c,n,d⟩,_⟩:=I.tuple h;obtain ⟨as,ra⟩:=ih rv;exact ⟨_,.tuple e c d (by simpa using ra)⟩
theorem sw (I:bx X pins σ H s)  (h:GU X.K H v d):∀ {u:ae},cY v u->∃ as,Reads s.heap u d as :=
 GU.rec (motive_1:=fun v d _=>∀ {u:ae},cY v u->∃ as,Reads s.heap u d as) (motive_2:=fun vs ds _=>∀ {us:List ae},de vs us->∃ as,ReadsAll s.heap us ds as)
  (fun r=>by cases r;exact ⟨_,.none⟩) (fun b _ r=>by cases r;exact ⟨_,.bool b⟩) (fun i _ r=>by obtain ⟨t,rfl⟩:=r;exact ⟨_,.int i t⟩) (fun x _ r=>by obtain ⟨t,rfl⟩:=r;exact ⟨_,.str x t⟩)
  (fun h _ ih _ r=>Q7 I h ih r) (fun h _ ih _ r=>MQ I h ih r) (fun r=>by cases r;exact ⟨_,.nil⟩) (fun _ _ a b _ r=>by
   cases r with
   |cons r rs =>
    obtain ⟨as,ra⟩:=a r;obtain ⟨bs,rb⟩:=b rs;exact ⟨_,.cons ra rb⟩) h
end
section
inductive Rt (K:a7) (neg:Bool) (x:V) (y:V) (H:Hp) (Q:VK):Prop
 |mk (dx dy:_) (h0:GU K H x dx) (h1:GU K H y dy) (h2:dx.canLay0=true) (h3:dy.canLay0=true) (h4:min dx.depth dy.depth<=60) (h5:Q (.bl (if neg then !bw dx dy else bw dx dy)) H):Rt K neg x y H Q
def T3 (K:a7) (neg:Bool):R2:=Rt K neg
theorem T4 (hu:X.A.units+64<sV):pw X (bG .Eq) (T3 X.K false):=by
 intro pins s σ H x y v u Q I rx ry h;obtain ⟨dx,dy,hx,hy,lx,ly,dp,q⟩:=h;obtain ⟨as,ra⟩:=sw I hx rx;obtain ⟨bs,rb⟩:=sw I hy ry;exact PySem.SeqAt.compareEq_reads ra rb lx ly (by omega) ⟨.bl _,H,I,rfl,q⟩
theorem T5 (hu:X.A.units+64<sV):pw X (bG .NotEq) (T3 X.K true):=by
 intro pins s σ H x y v u Q I rx ry h;obtain ⟨dx,dy,hx,hy,lx,ly,dp,q⟩:=h;obtain ⟨as,ra⟩:=sw I hx rx;obtain ⟨bs,rb⟩:=sw I hy ry;exact PySem.SeqAt.compareNe_reads ra rb lx ly (by omega) ⟨.bl _,H,I,rfl,q⟩
end
end
section
inductive DS {α:Type}:Sem α->Prop
 |pure (a:α):DS (.pure a)
 |raise (e:ae):DS (.raise e)
 |uns (w:String):DS (.unsupported w)
 |fin (w:Ending):DS (.finish w)
 |rule {t k} (h:∀ u,DS (k u)):DS (.rule t k)
 |at {p k} (h:∀ u,DS (k u)):DS (.at p k)
 |load {a p k} (h:∀ u,DS (k u)):DS (.load a p k)
 |update {a p f k} (d:∀ o:Obj,(f o).dict=o.dict) (h:∀ u,DS (k u)):DS (.update a p f k)
 |alloc {o k} (h:∀ u,DS (k u)):DS (.alloc o k)
 |point {l k} (h:∀ u,DS (k u)):DS (.point l k)
 |ask {k} (h:∀ u,DS (k u)):DS (.ask k)
 |reg {a k}:DS (.register a k)
 |stack {k} (h:∀ u,DS (k u)):DS (.stack k)
theorem DS.bind {α β:Type}{m:Sem α}{f:α->Sem β} (h:DS m) (hf:∀ a,DS (f a)):DS (m >>= f):=by
 show DS (m.bind f)
 induction h with
 |pure a=>exact hf a
 |raise e=>exact .raise e
 |uns w=>exact .uns w
 |fin w=>exact .fin w
 |rule _ ih=>exact .rule ih
 | «at» _ ih=>exact .at ih
 |load _ ih=>exact .load ih
 |update d _ ih=>exact .update d ih
 |alloc _ ih=>exact .alloc ih
 |point _ ih=>exact .point ih
 |ask _ ih=>exact .ask ih
 |reg=>exact .reg
 |stack _ ih=>exact .stack ih
def DK (h h':bt):Prop:=∀ (b:Nat) (o:Obj),h.objs[b]?=some o->∃ o':Obj,h'.objs[b]?=some o'/\o'.dict=o.dict
theorem DK.rfl (h:bt):DK h h:=fun _ o e=>⟨o,e,_root_.rfl⟩
theorem DK.trans {h1 h2 h3:bt} (a:DK h1 h2) (b:DK h2 h3):DK h1 h3:=fun c o e=>by
 obtain ⟨o1,e1,d1⟩:=a c o e
 obtain ⟨o2,e2,d2⟩:=b c o1 e1
 exact ⟨o2,e2,d2.trans d1⟩
theorem DK.push (h:bt) (o:Obj):DK h (h.push o):=fun b x e=>by
 obtain ⟨hb,_⟩:=Array.getElem?_eq_some_iff.1 e
 exact ⟨x,(Array.getElem?_push_lt hb).trans (by rw [<- g6 hb];exact e),_root_.rfl⟩
theorem DK.update (h:bt) (a:ah) {f:Obj->Obj} (d:∀ o,(f o).dict=o.dict):DK h (h.update a f):=fun b x e=>by
 have q:(h.update a f).objs[b]?=(h.objs.modify a f)[b]?:=_root_.rfl
 rw [q,Array.getElem?_modify,e]
 by_cases z:a=b
 ·exact ⟨f x,by simp [z],d x⟩
 ·exact ⟨x,by simp [z],_root_.rfl⟩
theorem Ee {h:bt}{b:ah}{o:Obj} (e:h.get? b=some o):h.objs[b]?=some o:=by
 unfold Heap.get? at e
 split at e
 ·cases e
 ·exact e
theorem DK.at {h h':bt} (k:DK h h') {b:ah}{o o':Obj} (e:h.get? b=some o) (e':h'.get? b=some o'):o'.dict=o.dict:=by
 obtain ⟨x,ex,d⟩:=k b o (Ee e)
 rw [Ee e'] at ex;cases ex
 exact d
theorem UA {α:Type}{M:Gc}{Γ : PySem.Ctx}{t:Sem α} (d:DS t):∀ {Q:α->Pos->ai->Prop}{E:ae->Pos->ai->Prop}{p:Pos}{s:ai}{h0:bt},DK h0 s.heap->lm M Γ t Q E p s->lm M Γ t (fun a p s'=>Q a p s'/\DK h0 s'.heap) (fun a p s'=>E a p s'/\DK h0 s'.heap) p s:=by
 induction d with
 |pure a=>intro Q E p s h0 k h;rw [lm] at h ⊢;exact ⟨h,k⟩
 |raise e=>intro Q E p s h0 k h;rw [lm] at h ⊢;exact ⟨h,k⟩
 |uns w=>intro Q E p s h0 k h;rw [lm] at h;exact h.elim
 |fin w=>intro Q E p s h0 k h;rw [lm] at h;exact h.elim
 |rule _ ih=>intro Q E p s h0 k h;rw [lm] at h ⊢;exact ih () k h
 | «at» _ ih=>intro Q E p s h0 k h;rw [lm] at h ⊢;exact ih () k h
 |load _ ih=>intro Q E p s h0 k h;rw [lm] at h ⊢;obtain ⟨o,e,h⟩:=h;exact ⟨o,e,ih o k h⟩
 |update d _ ih=>intro Q E p s h0 k h;rw [lm] at h ⊢;exact ⟨h.1,ih () (k.trans (DK.update _ _ d)) h.2⟩
 |alloc _ ih=>intro Q E p s h0 k h;rw [lm] at h ⊢;exact ih _ (k.trans (DK.push _ _)) h
 |point _ ih=>intro Q E p s h0 k h;rw [lm] at h ⊢;exact ih () k h
 |ask _ ih=>intro Q E p s h0 k h;rw [lm] at h ⊢;exact ih _ k h
 |reg=>intro Q E p s h0 k h;rw [lm] at h;exact h.elim
 |stack _ ih=>intro Q E p s h0 k h;rw [lm] at h ⊢;exact ih _ k h
theorem r9 {α:Type}{M:Gc}{A:bO}{t:Sem α}{Q:α->ai->Prop}{E:ae->ai->Prop}{s:ai} (d:DS t) (h:ak M A t Q E s):ak M A t (fun a s'=>Q a s'/\DK s.heap s'.heap) (fun a s'=>E a s'/\DK s.heap s'.heap) s :=
 fun Γ p hΓ=>UA d (DK.rfl _) (h Γ p hΓ)
theorem CL (a:ah):DS (load a):=.load fun _=>.pure _
theorem o9 {α:Type} (w:String):DS (unsupported w:Sem α):=.uns w
theorem eO {α:Type} (a:α):DS (pure a:Sem α):=.pure a
theorem Ef (v:ae):DS (fieldsOf v):=by
 unfold fieldsOf
 split
 ·refine .bind (CL _) fun o=>?_
  split
  ·exact eO _
  ·exact o9 _
 ·exact o9 _
theorem v6 (v:ae) (i:Nat):DS (Am v i):=by
 unfold Am
 refine .bind (Ef v) fun vs=>?_
 split
 ·exact eO _
 ·exact o9 _
theorem yR (g:Array ae->Array ae) (o:Obj):(eJ g o).dict=o.dict:=by
 obtain ⟨c,d,dt,sl⟩:=o
 cases dt<;>rfl
theorem re (v:ae) (i:Nat) (x:ae):DS (fP v i x):=by
 unfold fP
 split
 ·unfold updateField
  refine .bind (CL _) fun o=>?_
  split
  ·split
   ·exact .update (yR _) fun _=>.pure _
   ·exact o9 _
  ·exact o9 _
 ·exact o9 _
theorem pI (e:ae) (f:Option ah):DS (setFlight e f):=by
 unfold setFlight
 refine .bind (v6 _ _) fun tb=>?_
 split
 ·exact re _ _ _
 ·exact eO _
theorem yS:DS stack:=.stack fun _=>.pure _
theorem CM:DS frameEnvs:=.bind yS fun _=>eO _
theorem Eg:∀ l,DS (readyFrames l)
 |[]=>eO _
 |env::outer=>by
  unfold readyFrames
  split
  ·refine .bind (CL _) fun o=>?_
   split
   ·exact eO _
   ·refine .bind ?_ fun i=>.bind ?_ fun b=>.bind (.update (fun _=>rfl) fun _=>.pure _) fun _=>Eg outer
    ·unfold behindIsImport
     split
     ·exact eO _
     ·split
      ·exact eO _
      ·exact .bind (v6 _ _) fun _=>eO _
    ·unfold keptBack
     split
     ·split
      ·exact eO _
      ·exact .bind (.bind yS fun _=>eO _) fun _=>eO _
     ·exact eO _
  ·exact o9 _
theorem GV (env:Env):DS (Ch env):=by
 unfold Ch
 refine .bind CM fun l=>.bind ?_ fun r=>?_
 ·unfold frameObject
  split
  ·exact eO _
  ·exact .bind (Eg _) fun _=>eO _
 ·split
  ·exact eO _
  ·exact o9 _
theorem MR (f:ah) (b:Bool):DS (L_ f b):=by
 unfold L_
 refine .bind yS fun l=>?_
 split
 ·exact eO _
 ·exact eO _
theorem T6 (T:String) (vs:Array ae):DS (newObj (.type T) (.fields vs)):=by
 have h:DS (newObjAsIs (.type T) (.fields vs)):=.bind (.alloc fun _=>.pure _) fun _=>eO _
 unfold newObj
 dsimp only
 by_cases z:vs.size > sizeLine+2
 ·rw [if_pos z];exact .bind (o9 _) fun _=>h
 ·rw [if_neg z];exact h
theorem MS (a b c d e:ae) (pl:List ae):DS (Ci a b c d e pl):=T6 _ _
theorem IJ (e:ae) (env:Env):DS (sW e env):=by
 unfold sW
 split
 ·rename_i f _
  refine .bind (v6 _ _) fun head=>?_
  have tail:DS (do fP e 1 (<- Ci head (<- Ch env) .none (c9 f) .none (<- L_ f (head != .none)))):=.bind (GV _) fun _=>.bind (MR _ _) fun _=>.bind (MS _ _ _ _ _ _) fun _=>re _ _ _
  split
  ·refine .bind (v6 _ _) fun x=>?_
   split
   ·exact eO _
   ·exact .bind (re _ _ _) fun _=>tail
  ·exact tail
 ·exact o9 _
theorem yT (env:Env) (e:ae):DS (Ag env e):=.bind (IJ _ _) fun _=>pI _ _
structure Ru (P:bd) (w:bv) (l:List Env) (H H':Hp) (h h' B:bt) (ea C t:ah):Prop where
 fly:j_ B l ea (.ref C) (.ref t) h'
 cov:∀ b u,H' b=some u->∃ o,B.get? b=some o
 old:∀ b o,h.get? b=some o->H b=none->b∉lv l->B.get? b=some o
 all:∀ b o,h.get? b=some o->b∉lv l->∃ o',B.get? b=some o'
 un:Un (lv l) [] H H' h h'
 hok:qA P w H' h'
def Lk (h:bt) (ea:ah) (dx:Option ah):Prop:=∀ d,dx=some d->∃ oe:Obj,h.get? ea=some oe/\oe.dict=some d
theorem Lk.no (h:bt) (ea:ah):Lk h ea none:=fun d z=>nomatch z
theorem Lk.on {h h':bt}{ea:ah}{dx:Option ah} (l:Lk h ea dx) (k:DK h h') (t:∃ oe:Obj,h'.get? ea=some oe):Lk h' ea dx:=fun d z=>by
 obtain ⟨oe,e,q⟩:=l d z
 obtain ⟨oe',e'⟩:=t
 exact ⟨oe',e',(k.at e e').trans q⟩
inductive UB (P:bd) (w:bv) (outer:List Env) (H:Hp) (s:ai) (E:XK) (e:ae) (s':ai):Prop
 |mk (ea C t H' B dx:_) (h0:e=.ref ea) (h1:s'.os=s.os) (h2:qD s'.gens) (h3:Ru P w outer H H' s.heap s'.heap B ea C t) (lk:Lk s'.heap ea dx) (h4:E (.ref C) dx H'):UB P w outer H s E e s'
def ja (P:bd) (w:bv):LN:=UB P w
theorem rf      (x:qA P w H h) (e:H b=some u):∃ o,h.get? b=some o:=by
 have y:=x b u e
 cases u with
 |lst xs=>obtain ⟨_,_,_,_,k⟩:=y;exact ⟨_,k⟩
 |tup xs=>obtain ⟨_,_,_,o,k,_⟩:=y;exact ⟨o,k⟩
 |dK kvs=>obtain ⟨_,_,_,_,o,_,_,k,_⟩:=y;exact ⟨o,k⟩
 |dT kvs=>obtain ⟨_,_,_,_,o,_,_,k,_⟩:=y;exact ⟨o,k⟩
 |set S n=>obtain ⟨o,_,_,_,k,_⟩:=y;exact ⟨o,k⟩
 |ins C dx fs=>obtain ⟨_,_,_,k,_⟩:=y;exact ⟨_,k⟩
 |own y'=>exact y
 |xd fs=>obtain ⟨_,⟨o,_,_,k,_⟩,_⟩:=y;exact ⟨o,k⟩
 |rng lo hi=>obtain ⟨_,_,_,k⟩:=y;exact ⟨_,k⟩
 |frz o u=>exact ⟨o,y.1⟩
 |tbl ps=>exact ⟨_,y⟩
 |met f y'=>exact ⟨_,y⟩
 |ext φ=>exact y.2.1
theorem ye   (he:env∈l) (hf:env.frame=some b):b∈lv l:=List.mem_filterMap.mpr ⟨env,he,hf⟩
section
variable {P:bd}{w:bv}{l:List Env}{H H':Hp}{h h' h'' B:bt}{ea C t:ah}
theorem Ru.kp (x:Ru P w l H H' h h' B ea C t) (st:B.StaysIn h'') (b:ah) (u:HO) (o:Obj) (e:H' b=some u) (q:h'.get? b=some o):h''.get? b=some o:=by
 obtain ⟨o',e1⟩:=x.cov b u e
 have:=x.fly.1 b o' e1
 rw [q] at this;cases this
 exact st b o e1
theorem Ru.on (x:Ru P w l H H' h h' B ea C t) (fl:j_ B l ea (.ref C) (.ref t) h'') (up:h'.UpToSlots h''):Ru P w l H H' h h'' B ea C t:=by
 have st:=fl.1
 refine ⟨fl,x.cov,x.old,x.all,⟨fun b o q n hb hx=>st b o (x.old b o q n hb),fun b o q n hb hx=>?_,x.un.free,fun b o q hx=>?_,x.un.tups,x.un.frzs,x.un.tbls⟩,fun b u e=>?_⟩
 ·obtain ⟨sl,e1⟩:=x.un.slot b o q n hb hx
  obtain ⟨_,o',k1,k2⟩:=bW x.fly.2.2.1 hb
  rw [e1] at k1;cases k1
  obtain ⟨sl',e2⟩:=up b _ e1 k2
  exact ⟨sl',e2⟩
 ·by_cases hb:b∈lv l
  ·obtain ⟨_,o',k1,_⟩:=bW fl.2.2.1 hb
   exact ⟨o',k1⟩
  ·obtain ⟨o',k⟩:=x.all b o q hb
   exact ⟨o',st b o' k⟩
 ·exact (x.hok b u e).stay (fun c o hc q=>by
   rcases hc with z|z
   ·rw [z] at q ⊢;exact x.kp st b u o e q
   ·exact x.kp st c _ o z q) (fun _ q=>q) fun _ _ q=>q
end
section
variable {P:bd}{w:bv}{K:a7}{mg:Str->Option ae}{base:bt}{N:List Str}{qual:Str}{scope:gq}{f:ah}{cd:ae}{A:bO}{outer:List Env}{s:ai}{H:Hp}{E:XK}
theorem CN       (I:bx (eK (ja P w) P w K mg base N qual scope f cd A outer s H E) pins σ H1 s1)
  (hx:tx s1.heap h' ea (.ref C) vs) (q:E (.ref C) none H1):(eK (ja P w) P w K mg base N qual scope f cd A outer s H E).xe (.ref ea) { s1 with heap:=h' }:=by
 let X:=eK (ja P w) P w K mg base N qual scope f cd A outer s H E
 let B:=l8 s1.heap (lv X.stack)
 have hin:∀ env∈X.stack,∀ a,env.frame=some a->a∈lv X.stack:=fun env he a hf=>ye he hf
 have stB:B.StaysIn s1.heap:=fun b o e=>jl _ e
 have nS:∀ b,b∉lv X.stack->∀ o,s1.heap.get? b=some o->B.get? b=some o:=fun b n o e=>eS _ e n
 show ak _ X.A (Ag X.env (.ref ea)) _ _ _
 refine wpAny_leaves_madeW (s:={ s1 with heap:=h' }) (base:=B) (outer:=outer) (L:=X.env.locals) I.ok.frames rfl stB (pE I.stack hin) hx fun h2 t fl tup tn up=>?_
 have st2:=fl.1
 have bl:∀ b o,s.heap.get? b=some o->b∉lv outer->b∉lv X.stack:=fun b o e n z=>by
  rcases List.mem_cons.mp (I.stkSub b z) with y|y
  ·exact absurd (al e) (by rw [y];exact Nat.not_lt.mpr I.ok.above)
  ·exact n y
 have noex:∀ b:ah,b∉X.ex:=fun b z=>absurd (show b∈([] : List ah) from z) (by simp)
 have cov:∀ b u,H1 b=some u->∃ o,B.get? b=some o:=fun b u e=>by
  have hb:b∉lv X.stack:=fun z=>by have:=I.stkFree b z;rw [e] at this;cases this
  obtain ⟨o,k⟩:=rf I.hok e
  exact ⟨o,nS b hb o k⟩
 refine ⟨ea,C,t,H1,B,none,rfl,I.os,I.bare,⟨fl,cov,fun b o e n hb=>?_,fun b o e hb=>?_,⟨fun b o e n hb hx'=>?_,fun b o e n hb hx'=>?_,fun b o e n _=>I.base.free b o e n (noex b),fun b o e _=>?_,I.base.tups,I.base.frzs,I.base.tbls⟩,fun b u e=>?_⟩,Lk.no _ _,q⟩
 ·exact nS b (bl b o e hb) o (I.base.keep b o e n hb (noex b))
 ·obtain ⟨o',k⟩:=I.base.there b o e (noex b)
  exact ⟨o',nS b (bl b o e hb) o' k⟩
 ·exact st2 b o (nS b (bl b o e hb) o (I.base.keep b o e n hb (noex b)))
 ·obtain ⟨sl,k⟩:=I.base.slot b o e n hb (noex b)
  obtain ⟨_,o',k1,k2⟩:=bW I.funs hb
  rw [k] at k1;cases k1
  obtain ⟨sl',k3⟩:=up b _ (hx.keeps _ _ k) k2
  exact ⟨sl',k3⟩
 ·obtain ⟨o',k⟩:=I.base.there b o e (noex b)
  by_cases hb:b∈lv outer
  ·obtain ⟨_,o2,k1,_⟩:=bW fl.2.2.1 hb
   exact ⟨o2,k1⟩
  ·exact ⟨o',st2 b o' (nS b (bl b o e hb) o' k)⟩
 ·refine (I.hok b u e).stay (fun c o hc k=>?_) (fun _ q=>q) fun _ _ q=>q
  have hcs:c∉lv X.stack:=fun z=>by
   have:=I.stkFree c z
   rcases hc with y|y
   ·rw [y,e] at this;cases this
   ·rw [y] at this;cases this
  exact st2 c o (nS c hcs o k)
theorem Eh (hE:∀ c dx H',E' c dx H'->E c dx H'):o6 (ja P w) (eK (ja P w) P w K mg base N qual scope f cd A outer s H E) E':=by
 intro pins σ H1 s1 e s' I h
 obtain ⟨ea,C,t,H',B,dx,rfl,os,bare,x,lk,q⟩:=h
 let X:=eK (ja P w) P w K mg base N qual scope f cd A outer s H E
 have noex:∀ b:ah,b∉X.ex:=fun b z=>absurd (show b∈([] : List ah) from z) (by simp)
 have bl:∀ b o,s.heap.get? b=some o->b∉lv outer->b∉lv X.stack:=fun b o e n z=>by
  rcases List.mem_cons.mp (I.stkSub b z) with y|y
  ·exact absurd (al e) (by rw [y];exact Nat.not_lt.mpr I.ok.above)
  ·exact n y
 have sub:∀ b∈lv outer,b∈lv X.stack:=fun b hb=>by
  obtain ⟨env,he,hf⟩:=List.mem_filterMap.mp hb
  exact ye (ao _ he) hf
 show ak _ X.A (Ag X.env (.ref ea)) _ _ _
 refine aV (r9 (yT _ _) (wpAny_leaves_onW (base:=B) (outer:=outer) (L:=X.env.locals) (Q:=fun _ s2=>∃ h2,s2={ s' with heap:=h2 }/\j_ B outer ea (.ref C) (.ref t) h2/\s'.heap.UpToSlots h2) (E:=fun _ _=>False) I.ok.frames rfl x.fly fun h2 fl up=>⟨h2,rfl,fl,up⟩)) (fun _ s2 h2=>?_) fun _ _ z=>z.1.elim
 obtain ⟨⟨h2,rfl,fl,up⟩,dk⟩:=h2
 have st2:=fl.1
 refine ⟨ea,C,t,H',B,dx,rfl,os.trans I.os,bare,⟨fl,x.cov,fun b o e n hb=>?_,fun b o e hb=>?_,⟨fun b o e n hb hx'=>?_,fun b o e n hb hx'=>?_,fun b o e n _=>?_,fun b o e _=>?_,fun b xs e=>x.un.tups b xs (I.base.tups b xs e),fun b o xs e=>x.un.frzs b o xs (I.base.frzs b o xs e),fun b ps e=>?_⟩,fun b u e=>?_⟩,lk.on dk (fl.there.elim fun o h=>⟨o,h.1⟩),hE _ _ _ q⟩
 ·exact x.old b o (I.base.keep b o e n hb (noex b)) (I.base.free b o e n (noex b)) (bl b o e hb)
 ·obtain ⟨o',k⟩:=I.base.there b o e (noex b)
  exact x.all b o' k (bl b o e hb)
 ·exact st2 b o (x.old b o (I.base.keep b o e n hb (noex b)) (I.base.free b o e n (noex b)) (bl b o e hb))
 ·obtain ⟨sl,k⟩:=I.base.slot b o e n hb (noex b)
  obtain ⟨sl1,k1⟩:=x.un.slot b _ k (I.base.free b o e n (noex b)) (sub b hb) (by simp)
  obtain ⟨_,o',k2,k3⟩:=bW x.fly.2.2.1 (sub b hb)
  rw [k1] at k2;cases k2
  obtain ⟨sl2,k4⟩:=up b _ k1 k3
  exact ⟨sl2,k4⟩
 ·obtain ⟨o',k⟩:=I.base.there b o e (noex b)
  exact x.un.free b o' k (I.base.free b o e n (noex b)) (by simp)
 ·obtain ⟨o',k⟩:=I.base.there b o e (noex b)
  by_cases hb:b∈lv outer
  ·obtain ⟨_,o2,k1,_⟩:=bW fl.2.2.1 hb
   exact ⟨o2,k1⟩
  ·obtain ⟨o2,k2⟩:=x.all b o' k (bl b o e hb)
   exact ⟨o2,st2 b o2 k2⟩
 ·obtain ⟨m1,e1⟩:=I.base.tbls b ps e
  obtain ⟨m2,e2⟩:=x.un.tbls b _ e1
  exact ⟨m1++m2,by rw [e2,JQ]⟩
 ·exact (x.hok b u e).stay (fun c o hc k=>by
   rcases hc with z|z
   ·rw [z] at k ⊢;exact x.kp st2 b u o e k
   ·exact x.kp st2 c _ o z k) (fun _ q=>q) fun _ _ q=>q
end
end
section
section
variable {P:bd}{w:bv}{K:a7}{mg:Str->Option ae}{base:bt}{N:List Str}{qual:Str}{scope:gq}{f:ah}{cd:ae}{A:bO}{outer:List Env}{s:ai}{H:Hp}{E:XK}
theorem MT {x:Str}{np cpos pos:Pos}{e0:bL}{bB:List bL}{C:ah}{bmB:List ae}{newId initId Bn:String}{ta:TA} (O:OwnCls x C bmB newId mg base) (FB:tU Bn newId initId bmB)
  (hg:Gl (eK (ja P w) P w K mg base N qual scope f cd A outer s H E) x) (ha:PA (eK (ja P w) P w K mg base N qual scope f cd A outer s H E) (e0::bB) ta)
  (he:aw (e0::bB) (eK (ja P w) P w K mg base N qual scope f cd A outer s H E).env=(false,cz e0 (eK (ja P w) P w K mg base N qual scope f cd A outer s H E).env)::aw bB (eK (ja P w) P w K mg base N qual scope f cd A outer s H E).env:=by rfl)
  (hdb:(x==("__debug__" : Str))=false:=by decide) (hpl:(gL cpos (aw bB (eK (ja P w) P w K mg base N qual scope f cd A outer s H E).env)).any (·.1)=false:=by rfl) :
  PS (eK (ja P w) P w K mg base N qual scope f cd A outer s H E) (.Raise (some (.Call (.Name x np) (e0::bB) [] cpos)) none pos) (fun D σ H1=>ta σ H1 fun vs H2=>vs.length<=sizeLine/\E (.ref C) none H2):=by
 intro pins s1 σ H1 D I h
 obtain ⟨tl,Nn,nm,q,bs,hdct,sn,sub,ab,col,dd,k0,k1,k2,k3,k5,mN,hC,hN,hni,T⟩:=O.obj
 refine wpAny_Raise_call_subT (C:=C) (nm:=nm) (q:=q) (N:=Nn) (bs:=bs) (bm:=tl) (hdct:=hdct) (sn:=sn) (sub:=sub) (ab:=ab) (col:=col) (dd:=dd) (k0:=k0) (k1:=k1) (k2:=k2) (k3:=k3) (k5:=k5)
  FB (mN:=mN) (T.hasType FB.hasBase) (I.ok.hd rfl) ?_ hni (sg I hg O.bound ⟨rfl,?_⟩ hdb)
 ·rw [he]
  show (false||_)=false
  rw [uM];exact hpl
 ·have hx:=ha cpos pins s1 σ H1 _ I h
  rw [he] at hx ⊢
  refine li (fL hx fun us s2 ⟨vs,H2,I2,r2,z,qE⟩=>?_)
  have kb:∀ b o,base.get? b=some o->s2.heap.get? b=some o:=I2.bk
  exact ⟨rfl,by show us.length<=sizeLine;rw [<- r2.length];exact z,kb _ _ hC,hN.keeps kb,T.keeps kb,fun h' ea hm=>CN I2 hm qE⟩
end
structure CO (base:bt) (C:ah) (bm:List ae):Prop where
 obj:∃ nm q N bs hdct sn sub ab col dd k0 k1 k2 k3 k5 newId,base.get? C=some (eX nm q C N bs bm hdct sn sub ab col dd k0 k1 k2 k3 k5 newId)
 exc:bm.contains (.type "BaseException")=true
def v7 (dx:Option ah) (ea C:ah):HO:=.ext fun h=>∃ o,h.get? ea=some o/\o.cls=.ref C/\∀ d,dx=some d->o.dict=some d/\qQ o=true
theorem Q8 {dx:Option ah} (e:h.get? ea=some o) (c:o.cls=.ref C) (l:∀ d,dx=some d->o.dict=some d/\qQ o=true):cU P w H h ea (v7 dx ea C) :=
 ⟨⟨o,e,c,l⟩,⟨o,e⟩,fun h1 h2 ⟨o,e,c,l⟩ k=>⟨o,k o e,c,l⟩⟩
def Q9 (X:Cx) (ea:ah):Cx:={ X with A:=X.A.mark (some (.ref ea)),calm:=false,xe:=fun _ _=>False }
theorem bx.inH     (I:bx X pins σ H s) (ea:ah):bx (Q9 X ea) pins σ H s :=
 ⟨⟨I.ok.mod,I.ok.kind,I.ok.glob,I.ok.blt,I.ok.above,I.ok.inj,I.ok.has,I.ok.cab,(fun z=>l7 z),I.ok.frames,I.ok.stk,I.ok.exf,I.ok.bs,I.ok.bsz,I.ok.noex,I.ok.exfs,I.ok.funs,I.ok.frf⟩,I.os,I.bare,I.base,I.loc,I.cell,I.free,I.freeC,I.pin,I.hok,I.len⟩
theorem bx.outH      (ok:X.Ok) (I:bx (Q9 X ea) pins σ H s):bx X pins σ H s :=
 ⟨ok,I.os,I.bare,I.base,I.loc,I.cell,I.free,I.freeC,I.pin,I.hok,I.len⟩
def xL (X:Cx):St:=m_ X.N.length none
theorem bx.forget        (I:bx X pins σ H s) (hn:h'.Ns X.env.locals m') (sb:bE X.env.locals s.heap h'):bx X pins (xL X) H { s with heap:=h',toks:=t' }:=by
 have ne0:∀ b o,X.s₀.heap.get? b=some o->b≠X.env.locals:=fun b o e=>aA (aC (al e) I.ok.above)
 refine ⟨I.ok,I.os,I.bare,⟨fun b o e n hb hx=>(sb.2 b (ne0 b o e)).trans (I.base.keep b o e n hb hx),fun b o e n hb hx=>?_,I.base.free,fun b o e hx=>?_,I.base.tups,I.base.frzs,I.base.tbls⟩,⟨m',hn,fun i x v h1 h2 h3=>?_⟩,fun x c e=>?_,I.free,I.freeC,fun p hp=>?_,yL I.hok I.free sb,by simp [xL]⟩
 ·obtain ⟨sl,k⟩:=I.base.slot b o e n hb hx
  exact ⟨sl,(sb.2 b (ne0 b o e)).trans k⟩
 ·obtain ⟨o',k⟩:=I.base.there b o e hx
  exact ⟨o',(sb.2 b (ne0 b o e)).trans k⟩
 ·have h2:(xL X)[i]?=some (some v):=h2
  unfold xL at h2
  rw [bH] at h2
  split at h2<;>cases h2
 ·obtain ⟨v,z⟩:=I.cell x c e
  exact ⟨v,z.sameBut sb (I.cne x c e)⟩
 ·obtain ⟨e,n,ne,nf,d⟩:=I.pin p hp
  exact ⟨(sb.2 p.1 ne).trans e,n,ne,nf,d⟩
theorem MU           (I:bx X pins σ H s) (hg:Gl X x) (hm:X.mg x=some u) (h:Q u s)
  (hd:(x==("__debug__" : Str))=false:=by decide):ak (ay X.prog X.w) A (cz (.Name x pos) X.env) Q E s :=
 mT I.ok.kind hg (DE (by rw [I.ok.glob];exact I.mod.glob.keeps I.bk) hm h) hd
def T8 (X:Cx) (xe:ae->ai->Prop) (pn:List (ah×Obj)):Cx:={ X with xe:=xe,pn:=pn }
theorem bx.inT     (I:bx X pins σ H s) (xe:ae->ai->Prop):bx (T8 X xe (X.pn++pins)) [] σ H s :=
 ⟨⟨I.ok.mod,I.ok.kind,I.ok.glob,I.ok.blt,I.ok.above,I.ok.inj,I.ok.has,I.ok.cab,I.ok.hd,I.ok.frames,I.ok.stk,I.ok.exf,I.ok.bs,I.ok.bsz,I.ok.noex,I.ok.exfs,I.ok.funs,I.ok.frf⟩,I.os,I.bare,I.base,I.loc,I.cell,I.free,I.freeC,
  fun p hp=>I.pin p ((List.mem_append.mp hp).elim id fun z=>absurd z (by simp)),I.hok,I.len⟩
theorem bx.outT      (ok:X.Ok) (I:bx (T8 X xe (X.pn++pins)) pins' σ H s):bx X pins σ H s :=
 ⟨ok,I.os,I.bare,I.base,I.loc,I.cell,I.free,I.freeC,fun p hp=>I.pin p (gI _ hp),I.hok,I.len⟩
theorem bx.track0       (I:bx X pins σ H s) (h0:X.s₀.heap.get? D=none) (f0:H D=none) (f1:D≠X.env.locals) (f4:∀ x c,X.env.cells.lookup x=some c->c≠D) (f5:∀ p∈X.pn++pins,p.1≠D)
  (new:cU X.prog X.w (upd H D ho) s.heap D ho):bx X pins σ (upd H D ho) s :=
 ⟨I.ok,I.os,I.bare,⟨I.base.keep,I.base.slot,fun b o e n hx=>by rw [aO (fun z=>by rw [z,h0] at e;cases e)];exact I.base.free b o e n hx,I.base.there,fun b xs e=>by have q:=I.base.tups b xs e;rw [aO (aY q f0)];exact q,
  fun b o xs e=>by have q:=I.base.frzs b o xs e;rw [aO (aY q f0)];exact q,fun b ps e=>by obtain ⟨m,q⟩:=I.base.tbls b ps e;exact ⟨m,by rw [aO (aY q f0)];exact q⟩⟩,I.loc,I.cell,
  by rw [aO (cZ f1)];exact I.free,fun x c e=>by rw [aO (f4 x c e)];exact I.freeC x c e,fun p hp=>by
  obtain ⟨e,n,r⟩:=I.pin p hp
  exact ⟨e,by rw [aO (f5 p hp)];exact n,r⟩,sj I.hok f0 new,I.len⟩
end
section
structure Ei (K:a7) (C:ah):Prop where
 ga:ft K (.ref C) "__getattribute__"=some (some (.builtin "BaseException.__getattribute__"))
 gn:ft K (.ref C) "__getattr__"=some none
 ca:ft K (.ref C) "__class__"=some (some (.builtin "object.__class__"))
 gg:uG K (.builtin "object.__class__") "__get__"=some (some (.builtin "getset_descriptor.__get__"))
 tk:xB K (.builtin "object.__class__")=some true
 mo:cb K C (.type "object")=some true
 be:cb K C (.type "BaseException")=some true
 cl:(gE K C).isSome=true
def Bt (x C:ah) (h:bt):Prop:=∃ o,h.get? x=some o/\o.cls=.ref C
theorem Bt.type   (p:Bt x C h):An M h (typeOf (.ref x)) (.ref C):=by
 obtain ⟨o,e,c⟩:=p
 exact c ▸ (PySem.W.Looks.ld e).andThen .now
section
variable {prog:bd}{w:bv}{A:bO}{E:ae->ai->Prop}{s:ai}{K:a7}{x C:ah}{R:Result->ai->Prop}
open PySem.W Builtin Builtin.ObjectAttr Builtin.Getset_descriptor in
theorem Qa (Z:Ei K C) (X:K.In s.heap) (p:Bt x C s.heap) (q:R (.ok (.ret (.ref C))) s):h_ (ay prog w) A (.call (.builtin "getset_descriptor.__get__") ⟨[.builtin "object.__class__",.ref x,tp],[]⟩) R s:=by
 obtain ⟨hp,gs,dr,tt,os⟩:=s
 have T0:=p.type (M:=ay prog w)
 have T1:=looks_mroIn (M:=ay prog w) X Z.mo
 refine jn KF.slot_gs.plain KF.entry_gs ?_
 refine KF.slot_gs.check _ _ _ _ _ _ _ _ KF.type_class (KF.args_gs _ _ _) ?_
 unfold fW.«getset_descriptor.__get__» descrGet
 rw [dga_obj]
 refine a6 (ac ?_)
 unfold descrGetter descrCheckInstance descrNameAndClass pC
 simp only [KF.owner_class]
 repeat lk
 refine ⟨n8 _ (by decide +kernel),fz KF.entry_class ?_⟩
 unfold fW.«object.__class__» shownTypeOf
 repeat lk
 exact q
theorem Kv (Z:Ei K C) (X:K.In s.heap) (p:Bt x C s.heap) (h:Q (some (.ref C)) { s with toks:=s.toks+1 }):ak (ay prog w) A (Pg (.ref x) "__class__") Q E s:=by
 obtain ⟨hh,g,d,t,os⟩:=s
 have L0:=p.type (M:=ay prog w)
 have L1:=iy (M:=ay prog w) X Z.ga
 have L2:=iy (M:=ay prog w) X Z.gn
 have F1:=iy (M:=ay prog w) X Z.ca
 have F2:=PySem.W.looks_specialIn (M:=ay prog w) X Z.gg
 have F3:=PySem.W.looks_takesIn (M:=ay prog w) X Z.tk
 have L4:=G0 (M:=ay prog w) X Z.be
 unfold Pg getAttrBy? getAttrBy
 refine a6 (wpAny_mkText (a6 (jW (bS (a6 (L0.at (a6 (L1.at ?_))))))))
 show ak _ _ (uD (.ref x) (.str "__class__" t) (.ref C) (.builtin "BaseException.__getattribute__") false false) _ _ _
 unfold uD
 show ak _ _ (fu (.ref C) "__getattr__" >>= _) _ _ _
 refine a6 (L2.at (a6 (jW (bS ?_))))
 show ak _ _ (w9 (.builtin "BaseException.__getattribute__") (.ref x) (.str "__class__" t)) _ _ _
 unfold w9
 refine a6 (mV (F.excAttr_ValueError.ga.bind (.ref x)) ?_)
 show ak _ _ (call (.builtin "BaseException.__getattribute__") [.ref x,.str "__class__" t]) _ _ _
 refine kc (jn F.excAttr_ValueError.ga.plain F.entry_bexc_ga ?_)
 have hk:builtinKind "BaseException.__getattribute__"=some .slot:=by decide +kernel
 have hsp:splitId "BaseException.__getattribute__"=some ("BaseException","__getattribute__"):=by decide +kernel
 have hao:=F.args_bexc_ga (.ref x) (.str "__class__" t)
 simp only [m7,hk,hsp]
 have LI:An (ay prog w) hh (pC (.ref x) (.type "BaseException")) true:=L0.andThen L4
 refine a6 (LI.at ?_)
 rw [if_neg (by decide)]
 refine mV (a:=()) (by unfold Gp at hao;exact hao) ?_
 unfold fW.«object.__getattribute__»
 refine a6 (m:=slotArgs "__getattribute__" 1 _) (ac ?_)
 refine a6 (m:=qR _) (ac ?_)
 refine a6 (L0.at (a6 ?_))
 unfold P1
 refine a6 (F1.at (a6 (F2.at (a6 ?_))))
 refine a6 (F3.at ?_)
 refine ac (a6 (gy (ac ?_)))
 show ak _ _ (holding [.builtin "object.__class__"] (call (.builtin "getset_descriptor.__get__") [.builtin "object.__class__",.ref x,.ref C]) >>= fun v=>ret v) _ _ _
 refine a6 (bS (kc (Qa (s:=⟨hh,g,d,t+1,os⟩) Z X p ?_)))
 exact ac (PySem.W.handed_on rfl (ac h))
theorem MV (Z:Ei K C):PySem.W.KitX K (.ref x) (.ref C) (Bt x C) where
 ty:=fun _ _ _ p=>p.type
 it:=fun M h X _=>by
  obtain ⟨cd,hc⟩:=Option.isSome_iff_exists.mp Z.cl
  unfold gE at hc
  split at hc
  ·rename_i c' d' cd' sl' ho
   intro A' Q' E' s' k q
   unfold isType loadHead
   exact a6 (wpAny_loadPart (k _ _ (X _ _ ho)) (ac q))
  ·cases hc
 ne:=fun h tp dd its n sl X htp=>by
  refine Bool.eq_false_iff.mpr fun q=>?_
  obtain rfl:C=tp:=Value.ref.inj (beq_iff_eq.mp q)
  obtain ⟨cd,hc⟩:=Option.isSome_iff_exists.mp Z.cl
  unfold gE at hc
  split at hc
  ·rename_i c' d' cd' sl' ho
   have z:=(X _ _ ho).symm.trans htp
   cases z
  ·cases hc
 ca:=fun X p k=>Kv Z X p k
end
section
variable {X:Cx}
theorem xi:jN X (.builtin "isinstance") (fun xs H Q=>∃ x c cv b,xs=[x,c]/\((∃ n,c=.ty n/\cv=.type n)\/∃ C',c=.ref C'/\cv=.ref C')/\((∃ t,wj X.K H x t/\db X.K t cv=some b) \/
  ∃ dx ea C,x=.ref ea/\H ea=some (v7 dx ea C)/\Ei X.K C/\db X.K (.ref C) cv=some b)/\Q (.bl b) H):=by
 intro pins s σ H xs us Q I r h
 obtain ⟨x,c,cv,b,rfl,rc,h,q⟩:=h
 obtain ⟨u,v,rfl,ru,rv⟩:=Mn r
 obtain rfl:v=cv:=by
  rcases rc with ⟨n,rfl,rfl⟩|⟨C',rfl,rfl⟩
  ·exact rv
  ·exact rv
 rcases h with ⟨t,ty,e⟩|⟨dx,ea,C,rfl,hH,Z,e⟩
 ·exact oN I ru ty e fun tk=>⟨.bl b,H,I.tok tk,rfl,q⟩
 ·cases ru
  have p:Bt ea C s.heap:=(show cU X.prog X.w H s.heap ea (v7 dx ea C) from I.hok ea _ hH).1.elim fun o h=>⟨o,h.1,h.2.1⟩
  exact cn (MV Z) I.kIn p e (fun z=>nomatch z) fun tk=>⟨.bl b,H,I.tok tk,rfl,q⟩
end
end
section
structure mj (k:Nat) (A:bO):Prop where
 dp:A.depth+3*k+5<gD
 un:A.units+16*k+200<sV
theorem jY.h  (r:jY k A):mj k A:=⟨r.dp,r.un⟩
theorem mj.mark  (r:mj k A) (v:Option ae):mj k (A.mark v):=⟨r.dp,r.un⟩
theorem mj.deeper  (r:mj (k+1) A) (env:Env):mj k (A.deeper env):=⟨by have:=r.dp;show A.depth+1+3*k+5<_;omega,by have:=r.un;show A.units+3+16*k+200<_;omega⟩
structure Ej (P:bd) (w:bv) (K:a7) (mg:Str->Option ae) (base:bt) (k:Nat) (f:ah) (fd:eI) (ps:List Str) (sp:Sp):Prop where
 len:∀ vs H Q E,sp vs H Q E->vs.length=ps.length
 run:∀ (A:bO) (outer:List Env) (s:ai) (H:Hp) (args:Args) (us:List ae) (vs:List V) (Q:VK) (E:XK),mj k A->GJ P w K mg base A outer s H->wW s fd args (ps.zip us)->de vs us->sp vs H Q E ->
  h_ (ay P w) A (.call (.ref f) args) (CR Xo outer P w H s Q E) s
def UC (P:bd) (w:bv) (K:a7) (mg:Str->Option ae) (base:bt) (N:List Str) (qual:Str) (scope:gq) (f:ah) (cd:ae) (A:bO) (outer:List Env) (s:ai) (H:Hp):Cx where
 prog:=P
 w:=w
 K:=K
 mg:=mg
 base:=base
 A:=A.deeper (jH qual scope s.heap.objs.size f cd)
 N:=N
 s₀:=s
 H₀:=H
 env:=jH qual scope s.heap.objs.size f cd
 outer:=outer
 stack:=jH qual scope s.heap.objs.size f cd::outer
 ex:=[]
 calm:=false
 fn:=fun _=>true
 pn:=[]
 xe:=fun _ _=>False
section
variable {P:bd}{w:bv}{K:a7}{mg:Str->Option ae}{base:bt}
theorem GW
  (S:bn N ps scope) (e0:GJ P w K mg base A outer s H) (hl:vs.length=ps.length) (r:de vs us)
  (x:InCallC s s.heap.objs.size (Gg (jH qual scope s.heap.objs.size f cd).kindOf (ps.zip us) fun _=>none) (ba (s.heap.objs.size+1) scope.names []) (Gh (jH qual scope s.heap.objs.size f cd).kindOf (ps.zip us) fun _=>none) s1) :
  bx (UC P w K mg base N qual scope f cd A outer s H) [] (start N vs) H s1:=by
 have e1:GJ P w K mg base { A with handled:=none } outer s H:=⟨e0.frames,e0.mod,e0.bs,e0.bsz,e0.funs,e0.frf,e0.hok,e0.bare⟩;have I:=Bh (CX:=Xo) (E:=E0) S (A:={ A with handled:=none }) rfl e1 hl r x;exact ⟨⟨I.ok.mod,I.ok.kind,I.ok.glob,I.ok.blt,I.ok.above,I.ok.inj,I.ok.has,I.ok.cab,(fun z=>l7 z),I.ok.frames,I.ok.stk,I.ok.exf,I.ok.bs,I.ok.bsz,I.ok.noex,I.ok.exfs,I.ok.funs,I.ok.frf⟩,I.os,I.bare,I.base,I.loc,I.cell,I.free,I.freeC,I.pin,I.hok,I.len⟩
theorem T9 {k:Nat}{f:ah}{name qual:Str}{params:Arguments}{body:List cF}{scope:gq}{dV kV doc pm cdv ct oc:ae}{an od:Option ah}
  {osl:Array (Option ae)}{N ps:List Str}{sp:Sp} (lk:K.lookup f=some ⟨oc,od,.func (ef name qual params body scope dV kV doc pm an cdv ct),osl⟩) (hcd:jI K cdv qual=true) (S:bn N ps scope)
  (len:∀ vs H Q E,sp vs H Q E->vs.length=ps.length)
  (hbody:∀ (A:bO) (outer:List Env) (s:ai) (H:Hp) (vs:List V) (Q:VK) (E:XK),mj k (A.deeper (jH qual scope s.heap.objs.size f cdv))->sp vs H Q E ->
   ∃ t,Cm (UC P w K mg base N qual scope f cdv A outer s H) body t/\t { nx:=fun _ H'=>Q .non H',rt:=Q } (start N vs) H) :
  Ej P w K mg base (k+1) f (ef name qual params body scope dV kV doc pm an cdv ct) ps sp:=by
 refine ⟨len,fun A outer s H args us vs Q E hr e0 hb r hsp=>?_⟩;have hl:=len _ _ _ _ hsp;have KX:K.In s.heap:=e0.mod.kin.keeps fun b o e=>(e0.bs b o e).1;have lim:s.heap.NoLimit:=e0.mod.nolimit.keeps fun b o e=>(e0.bs b o e).1;have hkind:∀ y∈ps.zip us,scope.names.lookup y.1=some .local\/(scope.names.lookup y.1=some .cell/\((ba (s.heap.objs.size+1) scope.names []).lookup y.1).isSome=true):=fun ⟨n,v⟩ hy=>by
  rcases S.par n (qM hy).1 with q|q
  ·exact .inl q
  ·exact .inr ⟨q,eW _ _ _ (.inl q)⟩
 refine OZ (by have:=hr.dp;omega) (KX _ _ lk) rfl S.co S.gen rfl (tR KX hcd) (hb _ _ _ _ ?_);refine Gi S.kind hkind fun env he s1 x=>?_;subst he;refine ⟨lim.keeps x.toInCall.keep,codeAny_func ?_⟩;obtain ⟨t,ht,hq⟩:=hbody A outer s H vs Q E (hr.deeper _) hsp;have I:bx (UC P w K mg base N qual scope f cdv A outer s H) [] (start N vs) H s1:=GW S e0 hl r x;refine aV (ht [] s1 (start N vs) H _ I hq) (fun fl s' hs=>?_) fun e s' hs=>(show False from hs).elim;have fin:∀ {σ':St}{H':Hp}{v:V}{u:ae},bx (UC P w K mg base N qual scope f cdv A outer s H) [] σ' H' s'->cY v u->Q v H'->CE outer P w H s Q u s' :=
  fun {σ' H' v u} J rv q=>⟨v,H',J.os,J.bare,J.base,J.hok,rv,q⟩
 cases fl with
 |ret u =>
  obtain ⟨v,σ',H',J,rv,q⟩:=hs;exact fin J rv q
 |next =>
  obtain ⟨σ',H',J,q⟩:=hs;exact fin (v:=V.non) (u:=e8) J rfl q
 |brk =>
  obtain ⟨_,_,_,q⟩:=hs;exact ed q
 |cont =>
  obtain ⟨_,_,_,q⟩:=hs;exact ed q
theorem G4.okH {x qual:Str}{st:cF}{f:ah}{fd:eI}{N ps:List Str}{k:Nat}{sp:Sp} (F:G4 K x qual st f fd) (S:bn N ps (av st)) (len:∀ vs H Q E,sp vs H Q E->vs.length=ps.length)
  (hbody:∀ (cdv:ae) (A:bO) (outer:List Env) (s:ai) (H:Hp) (vs:List V) (Q:VK) (E:XK),mj k (A.deeper (jH qual (av st) s.heap.objs.size f cdv))->sp vs H Q E ->
   ∃ t,Cm (UC P w K mg base N qual (av st) f cdv A outer s H) (gU st) t/\t { nx:=fun _ H'=>Q .non H',rt:=Q } (start N vs) H):Ej P w K mg base (k+1) f fd ps sp:=by
 obtain ⟨oc,od,kV,doc,pm,an,cdv,ct,osl,rfl,lk,hcd⟩:=F.ex;exact T9 lk hcd S len fun A outer s H vs Q E hr hsp=>hbody cdv A outer s H vs Q E hr hsp
end
section
theorem MW (F:Ej X.prog X.w X.K X.mg X.base k f fd ps sp) (hr:mj k X.A) (hg:Gl X x) (hm:X.mg x=some (.ref f)) (hk:dL X.K (.ref f)=true) (hb:k8 X.K fd ps [])
  (ha:PA X (e::es) t) (hdb:(x==("__debug__" : Str))=false:=by decide) (he:aw (e::es) X.env=(false,cz e X.env)::aw es X.env:=by rfl) (hpl:(gL pos (aw es X.env)).any (·.1)=false:=by rfl) :
  PE X (.Call (.Name x p) (e::es) [] pos) (Iz sp [] E0 t):=by
 intro pins s σ H Q I h;refine pA (sg I hg hm ?_ hdb);refine Gf (h₀:=X.base) I.ok.mod.kin hk (fL (ha pos pins s σ H _ I h) fun us s1 ⟨vs,H1,I1,r,q⟩=>⟨I1.kIn,?_⟩) he hpl;have q:sp (vs++[]) H1 Q E0:=q;rw [cr] at q;have hl:us.length=ps.length:=by rw [<- r.length];exact F.len _ _ _ _ q
 have hb':=hb s1 us I1.kIn (by rw [cr];exact hl);rw [cr] at hb';refine kc (oG (F.run X.A X.stack s1 H1 ⟨us,[]⟩ us vs Q E0 hr I1.env0 hb' r q) fun r s' hq=>?_);cases r with
 |error e=>exact (show False from hq).elim
 |ok fl =>
  cases fl with
  |ret u=>exact I1.after hq
  |next=>exact ed hq
  |brk=>exact ed hq
  |cont=>exact ed hq
end
end
section
section
def WR:Cg->String
 |.none=>"NoneType" | .bool _=>"bool" | .int _=>"int" | .str _=>"str" | .list _=>"list" | .tuple _=>"tuple" | .dict _=>"dict"
theorem GX            (I:bx X pins σ H s) (rx:cY x u) (r:GU X.K H x d) (e:db X.K (.type (WR d)) c=some b) (h:∀ tk,Q (.bool b) { s with toks:=tk }) :
  ak (ay X.prog X.w) A (call (.builtin "isinstance") [u,c]) Q E s:=by
 cases r with
 |none=>exact oN I rx .non e h
 |bool y=>exact oN I rx (.bl y) e h
 |int i=>exact oN I rx (.int i) e h
 |str y=>exact oN I rx (.str y) e h
 |list hq _ =>
  cases rx;obtain ⟨its,rv,⟨o,n,ho,c,_,dd⟩,_⟩:=I.list hq;exact cn uH I.kIn ⟨o,ho,c⟩ e (fun z=>nomatch z) h
 |tuple hq _ =>
  cases rx;obtain ⟨its,rv,⟨o,ho,c,n,dd⟩,_⟩:=I.tuple hq;exact cn Ge I.kIn ⟨o,ho,c⟩ e (fun z=>nomatch z) h
theorem MX:jN X (.builtin "isinstance") (fun xs H Q=>∃ x d T b,xs=[x,.ty T]/\GU X.K H x d/\db X.K (.type (WR d)) (.type T)=some b/\Q (.bl b) H):=by
 intro pins s σ H xs us Q I r h;obtain ⟨x,d,T,b,rfl,rp,e,q⟩:=h;obtain ⟨u,v,rfl,ru,rv⟩:=Mn r;obtain rfl:v=.type T:=rv;exact GX I ru rp e fun tk=>⟨.bl b,H,I.tok tk,rfl,q⟩
end
end
end L2
section
namespace HT
open PySem PyProof.Rows
section
theorem Ek {t sl:ah}{items:Array ae}{vl vu:ae}{lo hi:Option Int}{Q:ae->ai->Prop} (ht:Ga s.heap t items) (hs:s.heap.IsSliceOf sl vl vu .none) (pl:vX vl lo) (pu:vX vu hi)
  (hw:iW items.size 0 lo=0/\iW items.size items.size hi=items.size) (h:Q (.ref t) s):ak (ay prog w) A (qF (.ref t) (.ref sl)) Q E s:=by
 obtain ⟨os,hos,hcs,hds⟩:=id hs;have hTs:s.TypeIs (.ref sl) "slice":=⟨os,hos,hcs⟩;unfold qF;try with_reducible refine bS ?_
 first|refine a6 (ac ?_)|skip
 refine a6 (wpAny_sequenceKey ht.typeIs (by decide) ?_);refine a6 (cW (name:=j6 "__getitem__") ht.typeIs fU
  (cA fU ht.typeIs entry_tuple_getitem ?_ (args_tuple_getitem _ _)))
 show ak _ _ (uJ (.ref t) >>= _) _ _ s;refine a6 (tupleItemsOf_ ht ?_);refine a6 (jD hTs ?_);rw [if_pos (by decide)];refine a6 (oP hs pl pu ?_);have hyes:((((iW items.size 0 lo:Nat):Int)==0&&(1:Int)==1&&(iW items.size items.size hi-iW items.size 0 lo)==items.size)=true):=by
  rw [hw.1,hw.2];simp
 show ak _ _ (if (((iW items.size 0 lo:Nat):Int)==0&&(1:Int)==1&&(iW items.size items.size hi-iW items.size 0 lo)==items.size)=true then _ else _) _ _ s;rw [if_pos hyes];refine a6 ?_;unfold Builtin.Tuple.tupleIsExact;refine a6 (jD ht.typeIs (ac ?_));rw [if_pos (by decide)];refine a6 (gy ?_);first
  |exact ac (ac ⟨_,rfl,h⟩)
  |exact ac ⟨_,rfl,ac h⟩
  |exact a6 (ac (ac ⟨_,rfl,ac h⟩))
  |exact a6 (ac (ac ⟨_,rfl,h⟩))
end
end HT
namespace L2
open PySem PySem.Spec PyProof.Rows
section
inductive MY (K:a7) (x:V) (lo:Option Int) (hi:Option Int) (H:Hp) (Q:VK):Prop
 |mk (a xs:_) (h0:x=.ref a) (h1:lw K H a xs) (h2:(HT.iW xs.length 0 lo=0/\HT.iW xs.length xs.length hi=xs.length)) (h3:Q (.ref a) H):MY K x lo hi H Q
def UD (K:a7):V->Option Int->Option Int->Hp->VK->Prop:=MY K
theorem Qb:Uo X (UD X.K):=by
 intro pins s σ H x v vl vu lo hi sl Q I rx hs pl pu h;obtain ⟨a,xs,rfl,hx,hw,q⟩:=h;cases rx;obtain ⟨its,r,ht,hz⟩:=I.tuple hx;have hlen:its.toArray.size=xs.length:=by rw [aK];exact r.length.symm
 exact ⟨"tuple",_,PyProof.Rows.slot_tuple_getitem.lookup,ht.typeIs,HT.Ek ht hs pl pu (by rw [hlen];exact hw) ⟨.ref a,H,I,rfl,q⟩⟩
theorem iA   (h:H p=none):dn H (upd H p o):=fun b u e=>by rw [aO (aY e h)];exact e
theorem t_:∀ {bs:List Bool}{us:List ae},de (bs.map V.bl) us->us=bs.map g_
 |[],_,.nil=>rfl
 |b::r,_,.cons h t=>by cases h;rw [t_ t];rfl
theorem yU {A:bO}{s:ai}{bs:List Bool}:∀ y,y∈(bs.map g_).toArray->J_ A s y (.bool true) (wa true y):=fun y hy=>by
 have hy:y∈bs.map g_:=by simpa using hy
 obtain ⟨b,_,rfl⟩:=List.mem_map.mp hy;exact B3 b true
def Qc (K:a7):V->List V->Hp->VK->Prop:=fun x vs H Q=>∃ l,∃ bs:List Bool,x=.ref l/\vs=[.bl true]/\nl K H l (bs.map V.bl)/\Q (.int (bs.countP id:Nat)) H
theorem Kw:WE X "list.count" (Qc X.K):=by
 intro pins s σ H x vs v us Q I rx rv h;obtain ⟨l,bs,rfl,rfl,hq,q⟩:=h;cases rx;obtain ⟨u,rfl,ru⟩:=rv.one;cases ru;obtain ⟨its,r,⟨o,n,ho,c,hd,dt⟩,hz⟩:=I.list hq;rw [t_ r] at dt;obtain ⟨cls,dd,data,sl⟩:=o;simp only at c dt;subst c dt;refine yt B7 ⟨_,ho,rfl⟩ PySem.F.entry_list_count (PySem.F.args_list_count_2 _ _) (SeqAt.list_countAt l (bs.map g_).toArray n dd sl (.bool true) (wa true)) ⟨ho,fun y hy=>yU y hy,?_⟩;refine ⟨.int _,H,I.tok _,⟨_,rfl⟩,?_⟩;have e:(bs.map g_).toArray.toList.countP (wa true)=bs.countP id:=by
  show (bs.map g_).countP (wa true)=_;rw [List.countP_map];congr 1;funext b;cases b<;>rfl
 rw [e];exact q
def Qd (K:a7):V->List V->Hp->VK->Prop:=fun x vs H Q=>∃ l,∃ bs:List Bool,∃ j:Nat,x=.ref l/\vs=[.bl true]/\nl K H l (bs.map V.bl)/\bs[j]?=some true/\(∀ m,m<j->bs[m]?=some false)/\j<=1000/\Q (.int (j:Nat)) H
theorem Kx:WE X "list.index" (Qd X.K):=by
 intro pins s σ H x vs v us Q I rx rv h;obtain ⟨l,bs,j,rfl,rfl,hq,hj,hno,hsm,q⟩:=h;cases rx;obtain ⟨u,rfl,ru⟩:=rv.one;cases ru;obtain ⟨its,r,⟨o,n,ho,c,hd,dt⟩,hz⟩:=I.list hq;rw [t_ r] at dt;obtain ⟨cls,dd,data,sl⟩:=o;simp only at c dt;subst c dt;obtain ⟨hjl,hjv⟩:=List.getElem?_eq_some_iff.mp hj;refine yt B8 ⟨_,ho,rfl⟩ PySem.F.entry_list_index (PySem.F.args_list_index_2 _ _) (SeqAt.list_indexAt l (bs.map g_).toArray n dd sl (.bool true) (wa true) j (by simpa using hjl) (by omega) ?_ ?_) ⟨ho,fun y hy=>yU y hy,?_⟩
 ·simp [wa,hjv]
 ·intro m hm hlt;have:=hno m hlt;obtain ⟨_,hv⟩:=List.getElem?_eq_some_iff.mp this;simp [wa,hv]
 ·exact ⟨.int _,H,I.tok _,⟨_,rfl⟩,q⟩
theorem yV (hc:X.calm=true):jN X (.type "list") (fun xs H Q=>∃ a kvs,xs=[.ref a]/\H a=some (.dK kvs)/\∀ l,H l=none->Q (.ref l) (upd H l (.lst (kvs.map fun p=>kV p.1)))):=by
 intro pins s σ H xs us Q I r h;obtain ⟨a,kvs,rfl,hH,q⟩:=h;obtain ⟨u,rfl,rx⟩:=lC r;cases rx;obtain ⟨hz,hs,vs,rk,hd⟩:=(show cU X.prog X.w H s.heap a (.dK kvs) from I.hok a _ hH);obtain ⟨ep,hat⟩:∃ ep,s.heap.DictAt (dC X.prog X.w) a vs ep:=by
  obtain ⟨o,es,ep,h1,h2,h3,h4⟩:=hd;exact ⟨ep,o,es,h1,h2,h3,h4⟩
 have hlen:kvs.length=vs.length:=tQ rk;refine PySem.W.kdl_call (PySem.W.kdl_dict hs) (I.ok.hd hc) hat (by omega) fun h' tk acc' c' kp e hacc=>?_;have rv:de (kvs.map fun p=>kV p.1) acc'.toList:=by
  have key:∀ {kvs:List (fS×V)}{vs:List (fS×ae)} (acc:List ae),KV kvs vs->acc.length=vs.length->(∀ (j:Nat) (v:ae),acc[j]?=some v->∃ k x,vs[j]?=some (k,x)/\yE k v=true)->de (kvs.map fun p=>kV p.1) acc:=by
   intro kvs;induction kvs with
   |nil=>intro vs acc rk hl _;cases rk;cases acc with
    |nil=>exact .nil
    |cons _ _=>simp at hl
   |cons p kvs ih =>
    intro vs acc rk hl hv;cases rk with
    |cons h1 t1 =>
     cases acc with
     |nil=>simp at hl
     |cons v acc =>
      refine .cons ?_ (ih acc t1 (by simpa using hl) fun j v hj=>by simpa using hv (j+1) v (by simpa using hj));obtain ⟨k,x,e1,e2⟩:=hv 0 v rfl;simp only [DP,DI] at e1;subst e1;have hk:p.1=k:=h1.1;rcases fc e2 with ⟨i,t,e,rfl⟩|⟨i,t,e,rfl⟩
      ·show cY (kV p.1) _;rw [hk,e];exact ⟨t,rfl⟩
      ·show cY (kV p.1) _;rw [hk,e];exact ⟨t,rfl⟩
  exact key acc'.toList rk (by rw [ap];exact hacc.1) fun j v hj=>hacc.2 j v (by rw [<- d_];exact hj)
 exact ⟨.ref s.heap.objs.size,_,I.laid (t':=tk) kp (am _) (show cU X.prog X.w _ h' _ (.lst _) from ⟨by simpa using hz,acc'.toList,c',rv,by rw [Gs];exact e⟩),rfl,q _ (I.hok.fresh (am _))⟩
def yW (x:Str):List V:=x.cps.toList.map fun c=>V.str ⟨#[c]⟩
theorem xM (hc:X.calm=true):jN X (.type "tuple") (fun xs H Q=>∃ x,xs=[.str x]/\x.cps.size<=sizeLine/\∀ l,H l=none->Q (.ref l) (upd H l (.tup (yW x)))):=by
 intro pins s σ H xs us Q I r h;obtain ⟨x,rfl,hz,q⟩:=h;obtain ⟨u,rfl,rx⟩:=lC r;obtain ⟨t,rfl⟩:=rx;refine call_tuple_str (I.ok.hd hc) x t (fun h' tk acc kp hacc=>?_) hz;have I1:bx X pins σ H { s with heap:=h',toks:=tk }:=I.kept (t':=tk) kp;have rv:de (yW x) acc.toList:=by
  have key:∀ (cs:List Nat) (acc:List ae),acc.length=cs.length->(∀ (j:Nat) (v:ae),acc[j]?=some v->∃ c u,cs[j]?=some c/\v=.str ⟨#[c]⟩ u)->de (cs.map fun c=>V.str ⟨#[c]⟩) acc:=by
   intro cs;induction cs with
   |nil=>intro acc hl _;cases acc with
    |nil=>exact .nil
    |cons _ _=>simp at hl
   |cons c cs ih =>
    intro acc hl hv;cases acc with
    |nil=>simp at hl
    |cons v acc =>
     obtain ⟨c',u,e1,rfl⟩:=hv 0 v rfl;simp only [DP,DI] at e1;subst e1;exact .cons ⟨u,rfl⟩ (ih acc (by simpa using hl) fun j v hj=>by simpa using hv (j+1) v (by simpa using hj))
  refine key x.cps.toList acc.toList (by rw [ap,ap];exact hacc.1) fun j v hj=>?_;obtain ⟨c,u,e1,e2⟩:=hacc.2 j v (by rw [<- d_];exact hj);exact ⟨c,u,by rw [d_];exact e1,e2⟩
 have I2:bx X pins σ (upd H h'.objs.size (.tup (yW x))) { s with heap:=h'.push { cls:=.type "tuple",data:=.seq acc },toks:=tk } :=
  I1.laid (t':=tk) (fun b o e=>aa _ e) (am _) (show cU X.prog X.w _ _ _ (.tup (yW x)) from ⟨by unfold yW;simpa using hz,acc.toList,rv,by rw [Gs];exact xA _ _⟩)
 exact ⟨.ref h'.objs.size,_,I2,rfl,q _ (I1.hok.fresh (am _))⟩
end
end L2
end
namespace L2
open PySem PySem.Spec PyProof.Rows
section
theorem CQ (elt target iter:bL) (ifs:List bL) (scope:gq) (pos:Pos) (it acc:ae) (env:Env) :
  compTurn (.SetComp elt [⟨target,iter,ifs,0⟩] scope pos) 0 it acc env=(do
   FU iter.pos
   let r <- nX it
   match r with
   |none=>pure (.done .next)
   |some v =>
    gP target it v
    qL target env v;let mut ok:=true
    for c in ifs do
     if ok then ok <- Ca c env (cz c env)
    if ok then
     (do let v <- cz elt env;FU elt.pos;let _ <- call (.builtin "set.add") [acc,v])
    again (.compLoop (.SetComp elt [⟨target,iter,ifs,0⟩] scope pos) 0 it acc env)):=by rfl
section
theorem qB {elt target iter ifs bB scope pos it acc env}
  (h0:h_ (ay prog w) A (.compLoop (.SetComp elt (⟨target,iter,ifs,0⟩::bB) scope pos) 0 it acc env) R s)
  (h:ak (ay prog w) A (yp it) (fun it' s'=>h_ (ay prog w) A (.compLoop (.SetComp elt (⟨target,iter,ifs,0⟩::bB) scope pos) 0 it' acc env) R s')
   (notedBy (ay prog w) A env fun x s'=>R (.error x) s') s) :
  h_ (ay prog w) A (.compStart (.SetComp elt (⟨target,iter,ifs,0⟩::bB) scope pos) 0 it acc env) R s:=by
 refine uB ?_;show ak _ _ ((compStart (.SetComp elt (⟨target,iter,ifs,0⟩::bB) scope pos) 0 it acc env).onRaise (fun x=>do sW x env;FU theWindowsPlace)) _ _ s;refine wpAny_notedAt ?_;unfold compStart;show ak _ _ (ask >>= _) _ _ s;refine a6 (i7 (wpAny_ite ?_));split
 ·first
   |exact a6 (ac (ac (yx rfl h0)))
   |exact ac (yx rfl h0)
 ·first
   |exact a6 (gy (a6 (c_ (a6 (aV h (fun it' s' hq=>ac (yx rfl hq)) fun _ _ x=>x)))))
   |(refine a6 (gy ?_);show ak _ _ (FU iter.pos >>= _) _ _ s;exact a6 (c_ (a6 (aV h (fun it' s' hq=>ac (yx rfl hq)) fun _ _ x=>x))))
theorem tH (h:Q (.ref s.heap.objs.size) { s with heap:=s.heap.push (eY w) }):ak (ay prog w) A (newSet (.type "set")) Q E s:=by
 unfold newSet setsByText;refine a6 (a6 (i7 (ac ?_)));dsimp only;simp only [newObj];exact a6 (P9 (ac h))
theorem AA     (hS:lz w s.heap a ss) (hr:ss.length+1<iU)
  (h:∀ h' tk',bE a s.heap h'->lz w h' a (if x∈ss then ss else ss++[x])->Q .none { s with heap:=h',toks:=tk' }) :
  ak (ay prog w) A (call (.builtin "set.add") [.ref a,.str x tk]) Q E s:=by
 have hT:s.TypeIs (.ref a) "set":=by obtain ⟨es,ep,t,I,_⟩:=id hS;exact ⟨_,I.at_,rfl⟩
 refine cA F.slot_set_add hT F.entry_set_add ?_ (F.args_set_add_2 _ _);unfold fW.«set.add» Ph;simp only [List.isEmpty_nil,bind_assoc];unfold Pi;refine a6 (ac ?_);try dsimp only
 refine a6 (ac ?_);try dsimp only
 refine a6 ?_;refine E7 hS hr fun h' tk' sb hS'=>?_;exact ac ⟨_,rfl,h h' tk' sb hS'⟩
end
section
theorem El      (I:Nat->ai->Prop)
  (turn:∀ n s,I n s->ak (ay prog w) A (nX it) (fun r s₁=>match r with
   |none=>R (.ok .next) s₁
   |some v=>ak (ay prog w) A (gP target it v) (fun _ s₁'=>ak (ay prog w) A (qL target env v) (fun _ s₂ =>
     ak (ay prog w) A (forIn ifs true fun c r=>if r=true then do let ok <- Ca c env (cz c env);pure (fQ ok) else pure (fQ r)) (fun ok s₃ =>
      if ok=true then ak (ay prog w) A (cz elt env) (fun x s₄ =>
       ak (ay prog w) A (call (.builtin "set.add") [acc,x]) (fun _ s₅=>∃ m,m<n/\I m s₅) (fun _ _=>False) s₄) (fun _ _=>False) s₃
      else ∃ m,m<n/\I m s₃) (fun _ _=>False) s₂) (fun _ _=>False) s₁') (fun _ _=>False) s₁) (fun _ _=>False) s)
  (n:Nat) (h:I n s) :
  h_ (ay prog w) A (.compLoop (.SetComp elt [⟨target,iter,ifs,0⟩] scope pos) 0 it acc env) R s:=by
 refine codeAny_loop rfl I (fun n s hI=>?_) n h;show ak _ A ((compTurn (.SetComp elt [⟨target,iter,ifs,0⟩] scope pos) 0 it acc env).onRaise (fun x=>do sW x env;theTreesLotGoes x)) _ _ s;refine wpAny_noted ?_;rw [CQ];have nf:∀ {α:Type}{t:Sem α}{Q:α->ai->Prop}{E':ae->ai->Prop}{s:ai},ak (ay prog w) A t Q (fun _ _=>False) s->ak (ay prog w) A t Q E' s :=
  fun h=>aV h (fun _ _ q=>q) fun _ _ f=>f.elim
 refine a6 (c_ (a6 (nf (aV (turn n s hI) (fun r s₁ h₁=>?_) fun _ _ h'=>h'))));cases r with
 |none=>exact ac h₁
 |some v =>
  refine a6 (nf (aV h₁ (fun _ s₁' h₁'=>?_) fun _ _ h'=>h'));refine a6 (nf (aV h₁' (fun _ s₂ h₂=>a6 (nf (aV h₂ (fun ok s₃ h₃=>?_) fun _ _ h'=>h'))) fun _ _ h'=>h'));cases ok with
  |false=>exact ac ⟨rfl,h₃⟩
  |true =>
   exact a6 (a6 (nf (aV h₃ (fun x s₄ h₄=>a6 (c_ (a6 (nf (aV h₄ (fun _ s₅ h₅=>ac (ac ⟨rfl,h₅⟩)) fun _ _ h'=>h'))))) fun _ _ h'=>h')))
end
inductive Xq (X:Cx) (pins:List (ah×Obj)) (N':List Str) (scope:gq) (cl:List (Str×ah)) (C:ah) (s2:ai) (H2:Hp) (fp:List ah) (nt:Nat) (ix:List Nat) (σ:St) (tn:Nat->bt->Prop) (W:Nat->Nat->List Str->Hp->Prop) (n:Nat) (s':ai):Prop
 |mk (i:Nat) (acc:List Str) (oD:Obj) (H':Hp) (I:bx (cH X N' scope cl C s2 H2 fp (X.pn++pins)) [(s2.heap.objs.size,oD)] (jG nt ix σ) H' s') (S:lz X.w s'.heap s2.heap.objs.size acc) (t:tn i s'.heap) (f:∀ b∈fp,H' b=none) (w:W i n acc H'):Xq X pins N' scope cl C s2 H2 fp nt ix σ tn W n s'
theorem Ky {X:Cx}{elt tg iter:bL}{ifs:List bL}{scope:gq}{pos:Pos}{g:TG}{tt:TT}{te:TE}{N':List Str}{nt:Nat}{ix:List Nat}
  (hc:X.calm=true) (S:o7 X scope N' nt ix) (lo:Rs nt g)
  (hb:∀ cl C s₀ H₀ ex pn,PG (cH X N' scope cl C s₀ H₀ ex pn) tg g/\P3 (cH X N' scope cl C s₀ H₀ ex pn) ifs tt/\PE (cH X N' scope cl C s₀ H₀ ex pn) elt te)
  {cl:List (Str×ah)} (c1:∀ x c,cl.lookup x=some c->X.env.cells.lookup x=some c) (c2:∀ y∈scope.names,y.2=.free->∃ c,cl.lookup y.1=some c)
  {pins:List (ah×Obj)}{σ:St}{H2:Hp}{s2:ai}{it:ah}{fp:List ah}{tn:Nat->bt->Prop}{J:It}{Q:VK}{E:ae->ai->Prop}
  (I2:bx X pins σ H2 s2) (T:yF X.prog X.w X.K tg J fp it tn) (st2:tn 0 s2.heap) (f2:∀ b∈fp,qW X pins H2 b)
  {W:Nat->Nat->List Str->Hp->Prop} (w0:∃ m,W 0 m [] H2)
  (turn:∀ i m acc H,W i m acc H->(J.stop i H/\∀ p,H p=none->Q (.ref p) (upd H p (lH X.w p acc))) \/
   (J.go i H/\acc.length+1<iU/\∀ x H',J.yld i H x H'->g x (jG nt ix σ) H' fun σ2 H2=>tt σ2 H2 fun b H3 =>
    if b=true then te σ2 H3 fun y H4=>∃ z m',y=.str z/\m'<m/\W (i+1) m' (if z∈acc then acc else acc++[z]) H4 else ∃ m',m'<m/\W (i+1) m' acc H3))
  {RR:ae->ah->Result->ai->Prop}
  (hRR:∀ D C m s' (acc:List Str) H',H' D=none->qW X pins (upd H' D (lH X.w D acc)) C->Q (.ref D) (upd H' D (lH X.w D acc))->s'.heap.Ns C m->(∀ h',bE C s'.heap h'->bx X pins σ (upd H' D (lH X.w D acc)) { s' with heap:=h' })->RR (.ref D) C (.ok .next) s') :
  ak (ay X.prog X.w) X.A (newSet (.type "set")) (fun acc s₃=>ak (ay X.prog X.w) X.A (vY scope X.env.globals cl [] X.env.qual none .none (some X.env)) (fun cenv s₄ =>
   h_ (ay X.prog X.w) X.A (.compStart (.SetComp elt [⟨tg,iter,ifs,0⟩] scope pos) 0 (.ref it) acc { cenv with scope:=relabel scope X.env }) (RR acc cenv.locals) s₄) E s₃) E s2:=by
 refine tH (IH fun h₁ hh₁=>?_);dsimp only at hh₁ ⊢;generalize hG2:s2.heap.push (eY X.w)=G2 at hh₁ ⊢;have hC:G2.objs.size=s2.heap.objs.size+1:=by rw [<- hG2,c7]
 have hDC:s2.heap.objs.size≠G2.objs.size:=by rw [hC];exact aA (ev _)
 have hCle:s2.heap.objs.size<=G2.objs.size:=by rw [hC];exact i0 _
 have below:∀ b,b<s2.heap.objs.size->b≠G2.objs.size:=fun b hb=>by rw [hC];exact aA (gJ hb)
 have kp:∀ b o,G2.get? b=some o->h₁.get? b=some o:=fun b o e=>by rw [hh₁];exact uz _ _ b o (aa _ e)
 have hns₁:h₁.Ns G2.objs.size (fun _=>none):=by rw [hh₁];exact (Heap.Ns.new G2 (.type "dict")).keeps (uz _ _)
 have ok₁:CellsOk h₁ (G2.objs.size+1) (ba (G2.objs.size+1) scope.names []):=by rw [hh₁];exact Bo G2 scope.names
 have cne:∀ x c,(ba (G2.objs.size+1) scope.names cl).lookup x=some c->X.env.cells.lookup x=some c\/s2.heap.objs.size<c:=fun x c e=>by
  rcases kS e with a|⟨_,a⟩
  ·exact .inr (aC (kf hCle) (ok₁.empty x c a).2)
  ·exact .inl (c1 x c a)
 have old:∀ b o,s2.heap.get? b=some o->h₁.get? b=some o:=fun b o e=>kp b o (hG2 ▸ aa _ e);have hacc:h₁.get? s2.heap.objs.size=some (eY X.w):=kp _ _ (hG2 ▸ aB _ rfl);have ff:∀ b∈fp,b<s2.heap.objs.size:=fun b hb=>by
  obtain ⟨o,e,_⟩:=T.obj _ _ st2 b hb;exact al e
 have I3:bx (cH X N' scope (ba (G2.objs.size+1) scope.names cl) G2.objs.size s2 H2 fp (X.pn++pins)) [] (jG nt ix σ) H2 { s2 with heap:=h₁,toks:=s2.toks }:=E4 S I2 c1 c2 f2 ff hCle hns₁ old ok₁;obtain ⟨pg,pt,pe⟩:=hb (ba (G2.objs.size+1) scope.names cl) G2.objs.size s2 H2 fp (X.pn++pins);have hDfs:s2.heap.objs.size∉lv X.stack:=fun z=>by
  rcases List.mem_cons.mp (I2.stkSub _ z) with e|e
  ·exact absurd I2.lt (by rw [<- e];exact bN _)
  ·exact I2.nofs (am _) e
 have st1:tn 0 h₁:=T.keep _ _ _ st2 fun b _ o e=>old b o e;have hDf:s2.heap.objs.size∉fp:=fun z=>absurd (ff _ z) (bN _);have stat:∀ {H':Hp}{pl:List (ah×Obj)},(∀ p∈pl,p.1∉fp)->(∀ b∈fp,H' b=none)->∀ b∈fp,qW (cH X N' scope (ba (G2.objs.size+1) scope.names cl) G2.objs.size s2 H2 fp (X.pn++pins)) pl H' b:=fun hpl hn b hb=>by
  obtain ⟨f0,f1,f2',f3,f4,f5⟩:=f2 b hb;refine ⟨hn b hb,below b (ff b hb),fun z=>?_,.inl hb,fun x c e=>(cne x c e).elim (f4 x c) fun q z=>xE q (by rw [z];exact ff b hb),fun p hp z=>?_⟩
  ·rcases List.mem_cons.mp (I2.stkSub _ z) with e|e
   ·exact f1 e
   ·exact f2' e
  ·rcases List.mem_append.mp hp with q|q
   ·exact f5 p q z
   ·exact hpl p q (z ▸ hb)
 obtain ⟨m0,w0⟩:=w0;have loop:h_ (ay X.prog X.w) X.A (.compLoop (.SetComp elt [⟨tg,iter,ifs,0⟩] scope pos) 0 (.ref it) (.ref s2.heap.objs.size) (compEnvC scope (ba (G2.objs.size+1) scope.names cl) G2.objs.size X.env))
    (RR (.ref s2.heap.objs.size) G2.objs.size) { s2 with heap:=h₁,toks:=s2.toks }:=by
  refine El (Xq X pins N' scope (ba (G2.objs.size+1) scope.names cl) G2.objs.size s2 H2 fp nt ix σ tn W) ?_ m0
   ⟨0,[],_,H2,I3.pin1 hacc (I2.hok.fresh (am _)) hDC hDfs (fun v z=>nomatch z),Br X.w hacc,st1,fun b hb=>(f2 b hb).1,w0⟩
  rintro n s3 ⟨i,acc,oD,H3,J3,hS3,st3,fr3,w3⟩;have plD:∀ p∈[(s2.heap.objs.size,oD)],p.1∉fp:=fun p hp=>by
   have:p=(s2.heap.objs.size,oD):=by simpa using hp
   rw [this];exact hDf
  have stS:∀ {s8:ai},s8.heap.get? s2.heap.objs.size=some oD->lz X.w s8.heap s2.heap.objs.size acc:=fun {s8} e=>hS3.keep fun o eo=>by
   have q:=(J3.pin (s2.heap.objs.size,oD) (aW _ (List.mem_singleton.mpr rfl))).1;rw [q] at eo;cases eo;exact e
  rcases turn i n acc H3 w3 with ⟨stop,qn⟩|⟨go,hlt,step⟩
  ·refine fL (T.done (cH X N' scope (ba (G2.objs.size+1) scope.names cl) G2.objs.size s2 H2 fp (X.pn++pins)) rfl rfl rfl hc i _ s3 _ H3 _ J3 (stat plD fr3) st3 stop) fun r s4 h_0=>?_;obtain ⟨hr,I4⟩:=h_0;subst hr;obtain ⟨pD,pN,_⟩:=I4.pin (s2.heap.objs.size,_) (aW _ (List.mem_singleton.mpr rfl));obtain ⟨mm,hn,_⟩:=I4.loc;have hCn:H3 G2.objs.size=none:=I4.free;refine hRR _ _ mm s4 acc H3 pN (I2.fpOk hCle (by rw [aO (cZ hDC)];exact hCn)) (qn _ pN) hn fun h' sb=>?_;have hu:Un (lv X.stack) fp H2 (upd H3 s2.heap.objs.size (lH X.w s2.heap.objs.size acc)) s2.heap h':=Un.grow I4.base sb hCle (am _) pN;refine I2.call' (s':={ s4 with heap:=h' }) (ch:=fp) I4.os hu ?_ I4.bare fun b hb=>?_
   ·exact sj (yL I4.hok hCn sb) pN (CJ ((stS pD).keep fun o e=>(sb.2 _ hDC).trans e))
   ·obtain ⟨_,f1,_,f3,f4,f5⟩:=f2 b hb;exact ⟨f3,f1,f4,f5⟩
  ·refine fL (T.item (cH X N' scope (ba (G2.objs.size+1) scope.names cl) G2.objs.size s2 H2 fp (X.pn++pins)) rfl rfl rfl hc i _ s3 _ H3 _ J3 (stat plD fr3) st3 go) fun r s4 h_1=>?_;obtain ⟨u,hr,h4⟩:=h_1;subst hr;refine fL h4 fun _ s5 h_2=>?_;obtain ⟨x,H5,I5,r5,y5,st5,fr5⟩:=h_2;have I5':=I5.pinned (stat plD fr5) (T.obj _ _ st5);refine fL (pg _ s5 _ H5 x u _ I5' r5 (lo _ _ _ _ (step x H5 y5))) fun _ s6 h_3=>?_;obtain ⟨σ6,H6,I6,q6,l6,k6⟩:=h_3;have hw:∀ (j:Nat) v,(jG nt ix σ)[j]?=some (some v)->σ6[j]?=some (some v):=fun j v e=>by
    by_cases hj:nt<=j
    ·rw [k6 j hj];exact e
    ·unfold jG at e;rw [bJ (by simpa using hj),bH,if_pos (by omega)] at e;cases e
   refine fL (pt _ s6 σ6 H6 _ I6 q6) fun b s7 h_4=>?_;obtain ⟨H7,I7,q7⟩:=h_4;have fpk:∀ {s8:ai}{σ8:St}{H8:Hp},bx (cH X N' scope (ba (G2.objs.size+1) scope.names cl) G2.objs.size s2 H2 fp (X.pn++pins)) ([(s2.heap.objs.size,oD)]++wg fp s5.heap) σ8 H8 s8 ->
     tn (i+1) s8.heap/\∀ b∈fp,H8 b=none:=fun {s8 σ8 H8} I8=>by
    refine ⟨T.keep _ _ _ st5 fun b hb o e=>(I8.pin (b,o) (aW _ (aW _ (ki hb e)))).1,fun b hb=>?_⟩;obtain ⟨o,e,d⟩:=T.obj _ _ st5 b hb;exact (I8.pin (b,o) (aW _ (aW _ (ki hb e)))).2.1
   cases b with
   |false =>
    simp only [bV,if_false] at q7 ⊢;obtain ⟨m',hm,w7⟩:=q7;obtain ⟨t7,f7⟩:=fpk I7;obtain ⟨pD,_⟩:=I7.pin (s2.heap.objs.size,oD) (aW _ (gI _ (List.mem_singleton.mpr rfl)));exact ⟨m',hm,i+1,acc,oD,H7,(I7.weak l6.symm hw).unpinned,stS pD,t7,f7,w7⟩
   |true =>
    simp only [if_true] at q7 ⊢;refine fL (pe _ s7 σ6 H7 _ I7 q7) fun u8 s8 h_5=>?_;obtain ⟨y,H8,I8,r8,z,m',hy,hm,w8⟩:=h_5;obtain ⟨t8,f8⟩:=fpk I8;obtain ⟨pD,pN,_⟩:=I8.pin (s2.heap.objs.size,_) (aW _ (gI _ (List.mem_singleton.mpr rfl)));subst hy;obtain ⟨tz,rfl⟩:=r8;refine AA (stS pD) hlt fun h9 tk9 sb9 hS9=>?_;obtain ⟨es9,ep9,t9,is9,pm9⟩:=id hS9;have e9':=is9.at_;refine ⟨m',hm,i+1,_,{ cls:=.type "set",dict:=none,data:=.set es9 ep9 t9 },H8,?_,hS9,T.keep _ _ _ t8 fun b hb o e=>sb9.extBut b o (fun z=>hDf (z ▸ hb)) e,f8,w8⟩;have I8':bx (cH X N' scope (ba (G2.objs.size+1) scope.names cl) G2.objs.size s2 H2 fp (X.pn++pins)) [] (jG nt ix σ) H8 s8:=(I8.weak l6.symm hw).pins_of fun p hp=>absurd hp (by simp);have I9:bx (cH X N' scope (ba (G2.objs.size+1) scope.names cl) G2.objs.size s2 H2 fp (X.pn++pins)) [] (jG nt ix σ) H8 { s8 with heap:=h9,toks:=tk9 } :=
     I8'.turned (it:=s2.heap.objs.size) (fun b o hb e=>sb9.extBut b o hb e) pN hDC (.inr (am _)) (fun x c e z=>by
      rcases cne x c e with e|e
      ·obtain ⟨v,q⟩:=I2.cell x c e;exact absurd q.lt (by rw [z];exact bN _)
      ·exact absurd e (by rw [z];exact bN _)) fun p hp z=>by
      have hp:p∈X.pn++pins:=(List.mem_append.mp hp).elim id fun z=>absurd z (by simp);exact absurd (al (I2.pin p hp).1) (by rw [z];exact bN _)
    exact I9.pin1 e9' pN hDC hDfs (fun v z=>nomatch z)
 exact qB loop (T.self _ 0 _ _ _ st1 loop)
inductive Rv (w:bv) (nt:Nat) (ix:List Nat) (g:TG) (tt:TT) (te:TE) (σ:St) (Q:VK) (J:It) (H1:Hp):Prop
 |mk (W:Nat->Nat->List Str->Hp->Prop) (w0:∃ m,W 0 m [] H1) (turn:∀ i m acc H,W i m acc H ->
 (J.stop i H/\∀ p,H p=none->Q (.ref p) (upd H p (lH w p acc))) \/
 (J.go i H/\acc.length+1<iU/\∀ x H',J.yld i H x H'->g x (jG nt ix σ) H' fun σ2 H2=>tt σ2 H2 fun b H3 =>
  if b=true then te σ2 H3 fun y H4=>∃ z m',y=.str z/\m'<m/\W (i+1) m' (if z∈acc then acc else acc++[z]) H4 else ∃ m',m'<m/\W (i+1) m' acc H3)):Rv w nt ix g tt te σ Q J H1
def MZ (w:bv) (nt:Nat) (ix:List Nat) (wi:TI) (g:TG) (tt:TT) (te:TE):TE:=fun σ H Q=>wi σ H (Rv w nt ix g tt te σ Q)
theorem GY {X:Cx}{elt tg iter:bL}{ifs:List bL}{scope:gq}{pos:Pos}{wi:TI}{g:TG}{tt:TT}{te:TE}{N':List Str}{nt:Nat}{ix:List Nat}
  (hc:X.calm=true) (S:o7 X scope N' nt ix) (lo:Rs nt g) (hi:PI X tg iter wi)
  (hb:∀ cl C s₀ H₀ ex pn,PG (cH X N' scope cl C s₀ H₀ ex pn) tg g/\P3 (cH X N' scope cl C s₀ H₀ ex pn) ifs tt/\PE (cH X N' scope cl C s₀ H₀ ex pn) elt te)
  (hs:∀ x,dY iter X.env x=pure x:=by intro _;rfl):PE X (.SetComp elt [⟨tg,iter,ifs,0⟩] scope pos) (MZ X.w nt ix wi g tt te):=by
 intro pins s σ H Q I h;obtain ⟨cl,hcl,c1,c2⟩:=tW (scope:=scope) (env:=X.env) fun y hy hf=>I.ok.has y.1 (S.free y hy hf);show ak _ _ (comprehension (.SetComp elt [⟨tg,iter,ifs,0⟩] scope pos) scope X.env (firstIterPos [⟨tg,iter,ifs,0⟩] pos) (newSet (.type "set")) (firstAsync [⟨tg,iter,ifs,0⟩]) (firstIter [⟨tg,iter,ifs,0⟩] X.env)) _ _ _;refine qN (use:=none) rfl hs hcl S.kind S.loc (fL (hi pins s σ H _ I h) fun v s1 h1=>fL h1 fun itv s2 h2=>?_);obtain ⟨it,fp,tn,J,H2,e,I2,T,st2,f2,W,w0,turn⟩:=h2;subst e;refine Ky (RR:=fun acc C=>compPost (ay X.prog X.w) X.A X.xe none (EP X pins σ Q) acc C) hc S lo hb c1 c2 I2 T st2 f2 w0 turn ?_;intro D C m s' acc H' hD _ q hn hI;exact ⟨m,hn,fun h' sb=>⟨.ref D,_,hI h' sb,rfl,q⟩⟩
section
theorem AB:jN X (.builtin "len") (fun xs H Q=>∃ p ss,xs=[.ref p]/\H p=some (lH X.w p ss)/\Q (.int ss.length) H):=by
 intro pins s σ H xs us Q I r h;obtain ⟨p,ss,rfl,hq,q⟩:=h;obtain ⟨u,rfl,rx⟩:=lC r;cases rx;obtain ⟨es,ep,t,is,pm⟩:=(show cU X.prog X.w H s.heap p (lH X.w p ss) from I.hok p _ hq).1;have hlen:es.size=ss.length:=by rw [<- pm.length_eq,ar,ap]
 have hsm:(es.size:Int)<2 ^ 63:=by
  have h1:=is.few;have h2:iU<=2 ^ 62:=by decide
  omega
 refine B6 kind_len plain_len entry_len (args_len1 _) (wpAny_len_body_set is.at_ ⟨rfl,rfl,rfl⟩ rfl is.fits hsm ?_);refine ⟨.int _,H,I.tok _,⟨_,rfl⟩,?_⟩;rw [hlen];exact q
end
end
end L2
section
namespace L2
open PySem PySem.Spec PyProof.Rows
section
variable {K:a7}{nt:Nat}{ix:List Nat}{te:TE}{σ:St}{H1:Hp}{Q:VK}{a:ah}{xs:List V}{i:Nat}
end
end L2
namespace L2
open PySem PySem.Spec PyProof.Rows
def IK (so:gq) (N:List Str) (scope:gq) (N':List Str) (nt:Nat) (ix:List Nat):Bool :=
 (scope.kind == .function)&&(scope.names.all fun y=>y.2 != .cell||scope.names.lookup y.1==some .cell)&&(scope.names.all fun y=>y.2 != .local||scope.names.lookup y.1==some .local) &&
 (scope.names.all fun y=>y.2 != .free||so.names.lookup y.1==some .cell||so.names.lookup y.1==some .free) &&
 ((bg ix.length).all fun k=>match ix[k]? with
  |none=>false
  |some i=>match N[i]? with
   |none=>false
   |some x=>N'[nt+k]? == some x&&scope.names.lookup x==some .free)&&(N'.length==nt+ix.length)
theorem bX       (h:IK so N scope N' nt ix=true) (h1:X.env.scope=so:=by rfl) (h2:X.N=N:=by rfl):o7 X scope N' nt ix:=by
 unfold IK at h;simp only [aN,cJ] at h;obtain ⟨⟨⟨⟨⟨a,b⟩,c⟩,d⟩,e⟩,l⟩:=h;refine ⟨by simpa using a,fun y hy z=>?_,fun y hy z=>?_,fun y hy z=>?_,fun k i hk=>?_,by simpa using l⟩
 ·have:=b y hy;simpa [z] using this
 ·have:=c y hy;simpa [z] using this
 ·have:=d y hy;rw [h1];simpa [z] using this
 ·have hl:k<ix.length:=(List.getElem?_eq_some_iff.mp hk).1;have:=e k (List.mem_range.mpr hl);rw [hk] at this;rw [h2];simp only at this;split at this
  ·cases this
  ·rename_i x hx
   simp only [aN] at this;exact ⟨x,hx,by simpa using this.1,by simpa using this.2⟩
end L2
end
namespace L2
open PySem PySem.Spec PyProof.Rows
section
section
variable {K:a7}{nt:Nat}{ix:List Nat}{te:TE}{σ:St}{H1:Hp}{Q:VK}{a b:ah}{xs ys:List V}{i k:Nat}
end
end
end L2
namespace J
open PySem L2
section
abbrev D:=Cg
inductive R (α:Type) where
 |ok (a:α)
 |ex (c:Str) (n:Option D)
 |no
def R.bind {α β:Type}:R α->(α->R β)->R β
 |.ok a,f=>f a
 |.ex c n,_=>.ex c n
 |.no,_=>.no
@[simp] theorem bind_ok {α β:Type} (a:α) (f:α->R β):(R.ok a).bind f=f a:=rfl
@[simp] theorem bind_ex {α β:Type} (c:Str) (n:Option D) (f:α->R β):(R.ex c n).bind f=.ex c n:=rfl
@[simp] theorem bind_no {α β:Type} (f:α->R β):(R.no:R α).bind f=.no:=rfl
def kD:fS->D
 |.inl i=>.int i
 |.inr x=>.str x
def tD (ks:List fS):D:=.tuple (ks.map kD)
mutual
inductive RD (K:a7) (H:Hp):V->D->Prop
 |none:RD K H .non .none
 |bool (b:Bool):RD K H (.bl b) (.bool b)
 |int (i:Int):RD K H (.int i) (.int i)
 |str (x:Str):RD K H (.str x) (.str x)
 |list {a:ah}{xs:List V}{ds:List D}:nl K H a xs->RDs K H xs ds->RD K H (.ref a) (.list ds)
 |tuple {a:ah}{xs:List V}{ds:List D}:H a=some (.tup xs)->RDs K H xs ds->RD K H (.ref a) (.tuple ds)
 |dictK {a:ah}{kvs:List (fS×V)}{ds:List (D×D)}:H a=some (.dK kvs)->RDk K H kvs ds->RD K H (.ref a) (.dict ds)
 |dictT {a:ah}{kvs:List (List fS×V)}{ds:List (D×D)}:H a=some (.dT kvs)->kvs≠[]->RDt K H kvs ds->RD K H (.ref a) (.dict ds)
 |dictF {a:ah}{o:Obj}{kvs:List (List fS×V)}{ds:List (D×D)}:H a=some (.frz o (.dT kvs))->kvs≠[]->RDt K H kvs ds->RD K H (.ref a) (.dict ((.none,.none)::ds))
inductive RDs (K:a7) (H:Hp):List V->List D->Prop
 |nil:RDs K H [] []
 |cons {x:V}{xs:List V}{d:D}{ds:List D}:RD K H x d->RDs K H xs ds->RDs K H (x::xs) (d::ds)
inductive RDk (K:a7) (H:Hp):List (fS×V)->List (D×D)->Prop
 |nil:RDk K H [] []
 |cons {k:fS}{x:V}{xs:List (fS×V)}{d:D}{ds:List (D×D)}:RD K H x d->RDk K H xs ds->RDk K H ((k,x)::xs) ((kD k,d)::ds)
inductive RDt (K:a7) (H:Hp):List (List fS×V)->List (D×D)->Prop
 |nil:RDt K H [] []
 |cons {k:List fS}{x:V}{xs:List (List fS×V)}{d:D}{ds:List (D×D)}:RD K H x d->RDt K H xs ds->RDt K H ((k,x)::xs) ((tD k,d)::ds)
end
section
theorem RD.same (e:dn H H')  (h:RD K H v d):RD K H' v d:=RD.rec (motive_1:=fun v d _=>RD K H' v d) (motive_2:=fun v d _=>RDs K H' v d) (motive_3:=fun v d _=>RDk K H' v d) (motive_4:=fun v d _=>RDt K H' v d) .none .bool .int .str (fun h _ r=>.list (e.seq h) r) (fun h _ r=>.tuple (e _ _ h) r) (fun h _ r=>.dictK (e _ _ h) r) (fun h n _ r=>.dictT (e _ _ h) n r) (fun h n _ r=>.dictF (e _ _ h) n r) .nil (fun _ _ a b=>.cons a b) .nil (fun _ _ a b=>.cons a b) .nil (fun _ _ a b=>.cons a b) h
theorem RDs.same (e:dn H H')  (h:RDs K H v d):RDs K H' v d:=RDs.rec (motive_1:=fun v d _=>RD K H' v d) (motive_2:=fun v d _=>RDs K H' v d) (motive_3:=fun v d _=>RDk K H' v d) (motive_4:=fun v d _=>RDt K H' v d) .none .bool .int .str (fun h _ r=>.list (e.seq h) r) (fun h _ r=>.tuple (e _ _ h) r) (fun h _ r=>.dictK (e _ _ h) r) (fun h n _ r=>.dictT (e _ _ h) n r) (fun h n _ r=>.dictF (e _ _ h) n r) .nil (fun _ _ a b=>.cons a b) .nil (fun _ _ a b=>.cons a b) .nil (fun _ _ a b=>.cons a b) h
theorem RDk.same (e:dn H H')  (h:RDk K H v d):RDk K H' v d:=RDk.rec (motive_1:=fun v d _=>RD K H' v d) (motive_2:=fun v d _=>RDs K H' v d) (motive_3:=fun v d _=>RDk K H' v d) (motive_4:=fun v d _=>RDt K H' v d) .none .bool .int .str (fun h _ r=>.list (e.seq h) r) (fun h _ r=>.tuple (e _ _ h) r) (fun h _ r=>.dictK (e _ _ h) r) (fun h n _ r=>.dictT (e _ _ h) n r) (fun h n _ r=>.dictF (e _ _ h) n r) .nil (fun _ _ a b=>.cons a b) .nil (fun _ _ a b=>.cons a b) .nil (fun _ _ a b=>.cons a b) h
theorem RDt.same (e:dn H H')  (h:RDt K H v d):RDt K H' v d:=RDt.rec (motive_1:=fun v d _=>RD K H' v d) (motive_2:=fun v d _=>RDs K H' v d) (motive_3:=fun v d _=>RDk K H' v d) (motive_4:=fun v d _=>RDt K H' v d) .none .bool .int .str (fun h _ r=>.list (e.seq h) r) (fun h _ r=>.tuple (e _ _ h) r) (fun h _ r=>.dictK (e _ _ h) r) (fun h n _ r=>.dictT (e _ _ h) n r) (fun h n _ r=>.dictF (e _ _ h) n r) .nil (fun _ _ a b=>.cons a b) .nil (fun _ _ a b=>.cons a b) .nil (fun _ _ a b=>.cons a b) h
mutual
def qC:D->Bool
 |.dict _=>false
 |.list xs=>noDs xs
 |.tuple xs=>noDs xs
 |_=>true
def noDs:List D->Bool
 |[]=>true
 |x::r=>qC x&&noDs r
end
theorem UE (h:(a&&b)=true):a=true:=(Bool.and_eq_true_iff.mp h).1
theorem UF (h:(a&&b)=true):b=true:=(Bool.and_eq_true_iff.mp h).2
theorem RD.rep  (h:RD K H v d):qC d=true->GU K H v d:=RD.rec (motive_1:=fun v d _=>qC d=true->GU K H v d) (motive_2:=fun v d _=>noDs d=true->Reps K H v d) (motive_3:=fun _ _ _=>True) (motive_4:=fun _ _ _=>True) (fun _=>.none) (fun b _=>.bool b) (fun i _=>.int i) (fun x _=>.str x) (fun h _ r e=>.list h (r e)) (fun h _ r e=>.tuple (.of h) (r e)) (fun _ _ _ e=>l7 e) (fun _ _ _ _ e=>l7 e) (fun _ _ _ _ e=>l7 e) (fun _=>.nil) (fun _ _ a b e=>.cons (a (UE e)) (b (UF e))) trivial (fun _ _ _ _=>trivial) trivial (fun _ _ _ _=>trivial) h
theorem RDs.length:∀ {ds:List D},RDs K H vs ds->vs.length=ds.length:=by
 induction vs with
 |nil=>intro ds h;cases h;rfl
 |cons x r ih=>intro ds h;cases h with|cons a b=>exact congrArg (· + 1) (ih b)
theorem RDs.get:∀ {ds:List D}{i:Nat}{v:V},RDs K H vs ds->vs[i]?=some v->∃ d,ds[i]?=some d/\RD K H v d:=by
 induction vs with
 |nil=>intro ds i v _ e;cases e
 |cons x r ih =>
  intro ds i v h e;cases h with
  |cons a b =>
   cases i with
   |zero=>cases e;exact ⟨_,rfl,a⟩
   |succ i=>have q:=ih (i:=i) b e;exact q
theorem RDs.get':∀ {ds:List D}{i:Nat}{d:D},RDs K H vs ds->ds[i]?=some d->∃ v,vs[i]?=some v/\RD K H v d:=by
 induction vs with
 |nil=>intro ds i v h e;cases h;cases e
 |cons x r ih =>
  intro ds i v h e;cases h with
  |cons a b =>
   cases i with
   |zero=>cases e;exact ⟨_,rfl,a⟩
   |succ i=>have q:=ih (i:=i) b e;exact q
theorem RDs.append  : ∀ {ds:List D},RDs K H vs ds->RDs K H ws es->RDs K H (vs++ws) (ds++es):=by
 induction vs with
 |nil=>intro ds h s;cases h;exact s
 |cons x r ih=>intro ds h s;cases h with|cons a b=>exact .cons a (ih b s)
theorem RDs.drop:∀ {ds:List D} (n:Nat),RDs K H vs ds->RDs K H (vs.drop n) (ds.drop n):=by
 induction vs with
 |nil=>intro ds n h;cases h;cases n<;>exact .nil
 |cons x r ih =>
  intro ds n h;cases n with
  |zero=>exact h
  |succ n=>cases h with|cons a b=>exact ih n b
theorem RDs.take:∀ {ds:List D} (n:Nat),RDs K H vs ds->RDs K H (vs.take n) (ds.take n):=by
 induction vs with
 |nil=>intro ds n h;cases h;cases n<;>exact .nil
 |cons x r ih =>
  intro ds n h;cases n with
  |zero=>exact .nil
  |succ n=>cases h with|cons a b=>exact .cons a (ih n b)
theorem yX:∀ (ss:List Str),RDs K H (ss.map V.str) (ss.map aD)
 |[]=>.nil
 |x::r=>.cons (.str x) (yX r)
theorem RD.str_inv  (h:RD K H v (.str x)):v=.str x:=by cases h;rfl
theorem RD.bool_inv  (h:RD K H v (.bool x)):v=.bl x:=by cases h;rfl
theorem RD.int_inv  (h:RD K H v (.int x)):v=.int x:=by cases h;rfl
theorem IL {α:Type}{c:α->D}{k:α->V} (hc:∀ {v x},RD K H v (c x)->v=k x) {ss:List α}:∀ {vs:List V},RDs K H vs (ss.map c)->vs=ss.map k:=by
 induction ss with
 |nil=>intro vs h;cases h;rfl
 |cons x r ih=>intro vs h;cases h with|cons a b=>rw [hc a,ih b];rfl
theorem pJ {ss:List Str}{vs:List V}:RDs K H vs (ss.map aD)->vs=ss.map V.str:=IL RD.str_inv
theorem AC {ss:List Bool}{vs:List V}:RDs K H vs (ss.map cG)->vs=ss.map V.bl:=IL RD.bool_inv
end
def nt:HO->Bool
 |.tup _=>false
 |_=>true
structure cD (H Hs H' Hs':Hp):Prop where
 all:dn H H'
 sh:dn Hs Hs'
 sub:dn Hs' H'
 out:∀ a o,H a=some o->nt o=true->Hs a=none->Hs' a=none
theorem cD.refl (h:dn Hs H):cD H Hs H Hs:=⟨.refl _,.refl _,h,fun _ _ _ _ e=>e⟩
theorem cD.trans (a:cD H Hs H1 Hs1) (b:cD H1 Hs1 H2 Hs2):cD H Hs H2 Hs2 :=
 ⟨a.all.trans b.all,a.sh.trans b.sh,b.sub,fun c o e t n=>b.out c o (a.all c o e) t (a.out c o e t n)⟩
theorem cD.new   (h:dn Hs H) (n:H p=none):cD H Hs (upd H p o) (upd Hs p o):=by
 have n':Hs p=none:=h.free n;refine ⟨iA n,iA n',fun b u e=>?_,fun a u e t z=>?_⟩
 ·by_cases hb:b=p
  ·subst hb;rw [aT] at e ⊢;exact e
  ·rw [aO hb] at e ⊢;exact h b u e
 ·rw [aO (aY e n)];exact z
theorem cD.mine   (h:dn Hs H) (n:H p=none):cD H Hs (upd H p o) Hs:=by
 refine ⟨iA n,.refl _,fun b u e=>?_,fun a u e t z=>z⟩;have e':=h b u e;rw [aO (aY e' n)];exact e'
inductive mW (K:a7) (Hs:Hp):HO->D->Prop
 |lst {vs:List V}{ds:List D}:RDs K Hs vs ds->mW K Hs (.lst vs) (.list ds)
 |dK {kvs:List (fS×V)}{ds:List (D×D)}:RDk K Hs kvs ds->mW K Hs (.dK kvs) (.dict ds)
 |dT {kvs:List (List fS×V)}{ds:List (D×D)}:kvs≠[]->RDt K Hs kvs ds->mW K Hs (.dT kvs) (.dict ds)
 |dF {o:Obj}{kvs:List (List fS×V)}{ds:List (D×D)}:kvs≠[]->RDt K Hs kvs ds->mW K Hs (.frz o (.dT kvs)) (.dict ((.none,.none)::ds))
theorem mW.same    (e:dn Hs Hs') (h:mW K Hs o d):mW K Hs' o d:=by
 cases h with
 |lst r=>exact .lst (r.same e)
 |dK r=>exact .dK (r.same e)
 |dT n r=>exact .dT n (r.same e)
 |dF n r=>exact .dF n (r.same e)
theorem mW.nt    (h:mW K Hs o d):J.nt o=true:=by cases h<;>rfl
theorem mW.share     (n:Hs a=none) (h:mW K Hs o d):RD K (upd Hs a o) (.ref a) d:=by
 have e:dn Hs (upd Hs a o):=iA n;cases h with
 |lst r=>exact .list (.of aT) (r.same e)
 |dK r=>exact .dictK aT (r.same e)
 |dT n r=>exact .dictT aT n (r.same e)
 |dF n r=>exact .dictF aT n (r.same e)
inductive Sl where
 |no
 |shr (d:D)
 |own (d:D)
 |lck (d:D)
 |ow2 (dss:List (List D))
abbrev az:=List Sl
inductive Bu (K:a7) (H Hs:Hp):List ah->List (List D)->Prop
 |nil:Bu K H Hs [] []
 |cons {a:ah}{as:List ah}{vs:List V}{ds:List D}{dss:List (List D)}:H a=some (.lst vs)->RDs K Hs vs ds->Bu K H Hs as dss->Bu K H Hs (a::as) (ds::dss)
theorem Bu.step  (e:dn H H') (e':dn Hs Hs')  (h:Bu K H Hs as dss):Bu K H' Hs' as dss:=by
 induction h with
 |nil=>exact .nil
 |cons h r t ih=>exact .cons (e _ _ h) (r.same e') ih
theorem Bu.upd      (n:b∉as) (h:Bu K H Hs as dss):Bu K (upd H b o) Hs as dss:=by
 induction h with
 |nil=>exact .nil
 |cons h r t ih=>exact .cons (by rw [aO (fun z=>n (by rw [<- z];exact aq))];exact h) r (ih fun z=>n (ao _ z))
theorem Bu.there     (h:Bu K H Hs as dss) (hb:b∈as):∃ o,H b=some o/\nt o=true:=by
 induction h with
 |nil=>cases hb
 |cons h r t ih =>
  rcases List.mem_cons.mp hb with e|hb
  ·exact ⟨_,e ▸ h,rfl⟩
  ·exact ih hb
structure O2 (K:a7) (H0 H Hs:Hp) (ρ:az) (σ:St) (i:Nat) (dss:List (List D)) (a:ah) (as:List ah):Prop where
 at_:σ[i]?=some (some (V.ref a))
 ob:H a=some (.lst (as.map V.ref))
 nd:(a::as).Nodup
 out:∀ b∈a::as,Hs b=none/\H0 b=none
 dj:∀ b∈a::as,∀ (j:Nat) (e:D),ρ[j]?=some (Sl.own e)->σ[j]?≠some (some (V.ref b))
 inn:Bu K H Hs as dss
structure Fr (K:a7) (H0 Hs0:Hp) (la:Nat->Option ah) (ρ:az) (σ:St) (H Hs:Hp):Prop where
 st:cD H0 Hs0 H Hs
 len:ρ.length=σ.length
 sh:∀ (i:Nat) (d:D),ρ[i]?=some (Sl.shr d)->∃ v,σ[i]?=some (some v)/\RD K Hs v d
 ow:∀ (i:Nat) (d:D),ρ[i]?=some (Sl.own d)->∃ a o,σ[i]?=some (some (V.ref a))/\H a=some o/\Hs a=none/\H0 a=none/\mW K Hs o d
 lk:∀ (i:Nat) (d:D),ρ[i]?=some (Sl.lck d)->∃ a o,σ[i]?=some (some (V.ref a))/\la i=some a/\H a=some o/\Hs a=none/\H0 a=some o/\mW K Hs o d
 dj:∀ (i j:Nat) (d e:D) (a:ah),ρ[i]?=some (Sl.own d)->ρ[j]?=some (Sl.own e)->σ[i]?=some (some (V.ref a))->σ[j]?=some (some (V.ref a))->i=j
 lh:∀ (i:Nat) (a:ah),la i=some a->∃ o,H0 a=some o
 o2:∀ (i:Nat) (dss:List (List D)),ρ[i]?=some (Sl.ow2 dss)->∃ a as,O2 K H0 H Hs ρ σ i dss a as
 u2:∀ (i j:Nat) (d e:List (List D)),ρ[i]?=some (Sl.ow2 d)->ρ[j]?=some (Sl.ow2 e)->i=j
theorem Fr.step     (f:Fr K H0 Hs0 la ρ σ H Hs) (s:cD H Hs H' Hs'):Fr K H0 Hs0 la ρ σ H' Hs':=by
 refine ⟨f.st.trans s,f.len,fun i d e=>?_,fun i d e=>?_,fun i d e=>?_,f.dj,f.lh,fun i dss e=>?_,f.u2⟩
 ·obtain ⟨v,h1,h2⟩:=f.sh i d e;exact ⟨v,h1,h2.same s.sh⟩
 ·obtain ⟨a,o,h1,h2,h3,h4,h5⟩:=f.ow i d e;exact ⟨a,o,h1,s.all _ _ h2,s.out _ _ h2 h5.nt h3,h4,h5.same s.sh⟩
 ·obtain ⟨a,o,h1,h2,h3,h4,h5,h6⟩:=f.lk i d e;exact ⟨a,o,h1,h2,s.all _ _ h3,s.out _ _ h3 h6.nt h4,h5,h6.same s.sh⟩
 ·obtain ⟨a,as,h⟩:=f.o2 i dss e;refine ⟨a,as,h.at_,s.all _ _ h.ob,h.nd,fun b hb=>⟨?_,(h.out b hb).2⟩,h.dj,h.inn.step s.all s.sh⟩;have there:∃ o,H b=some o/\nt o=true:=by
   rcases List.mem_cons.mp hb with rfl|hb
   ·exact ⟨_,h.ob,rfl⟩
   ·exact h.inn.there hb
  obtain ⟨o,ho,hn⟩:=there;exact s.out b o ho hn (h.out b (by assumption)).1
inductive UG (K:a7) (H Hs:Hp) (v:V) (d:D):Prop
 |mk (a:ah) (o:HO) (h0:v=.ref a) (h1:H a=some o) (h2:Hs a=none) (h3:mW K Hs o d):UG K H Hs v d
def RB (K:a7) (H Hs:Hp) (v:V) (d:D):Prop:=RD K Hs v d\/UG K H Hs v d
theorem RB.step    (h:RB K H Hs v d) (s:cD H Hs H' Hs'):RB K H' Hs' v d:=by
 rcases h with h|⟨a,o,h1,h2,h3,h4⟩
 ·exact .inl (h.same s.sh)
 ·exact .inr ⟨a,o,h1,s.all _ _ h2,s.out _ _ h2 h4.nt h3,h4.same s.sh⟩
theorem RB.full    (sub:dn Hs H) (h:RB K H Hs v d):RD K H v d:=by
 rcases h with h|⟨a,o,rfl,h2,h3,h4⟩
 ·exact h.same sub
 ·have e:dn (upd Hs a o) H:=fun b u q=>by
   by_cases hb:b=a
   ·subst hb;rw [aT] at q;cases q;exact h2
   ·rw [aO hb] at q;exact sub b u q
  exact (h4.share h3).same e
theorem RB.list    (sub:dn Hs H) (h:RB K H Hs v (.list ds)):∃ a vs,v=.ref a/\nl K H a vs/\RDs K Hs vs ds:=by
 rcases h with h|⟨a,o,rfl,h2,h3,h4⟩
 ·cases h with|list q r=>exact ⟨_,_,rfl,sub.seq q,r⟩
 ·cases h4 with|lst r=>exact ⟨a,_,rfl,.of h2,r⟩
theorem RB.tuple    (sub:dn Hs H) (h:RB K H Hs v (.tuple ds)):∃ a vs,v=.ref a/\lw K H a vs/\RDs K Hs vs ds/\Hs a=some (.tup vs):=by
 rcases h with h|⟨a,o,rfl,h2,h3,h4⟩
 ·cases h with|tuple q r=>exact ⟨_,_,rfl,.of (sub _ _ q),r,q⟩
 ·cases h4
theorem RB.str    (h:RB K H Hs v (.str x)):v=.str x:=by
 rcases h with h|⟨a,o,rfl,h2,h3,h4⟩
 ·exact h.str_inv
 ·cases h4
theorem RB.int    (h:RB K H Hs v (.int i)):v=.int i:=by
 rcases h with h|⟨a,o,rfl,h2,h3,h4⟩
 ·exact h.int_inv
 ·cases h4
theorem RB.non   (h:RB K H Hs v .none):v=.non:=by
 rcases h with h|⟨a,o,rfl,h2,h3,h4⟩
 ·cases h;rfl
 ·cases h4
def XW (K:a7) (cls:Str->ah) (E:XK) (c:Str) (n:Option D) (H Hs:Hp):Prop:=match n with
 |none=>E (.ref (cls c)) none H
 |some d=>∀ dx v,H dx=some (.xd [("number",v)])->RD K Hs v d->E (.ref (cls c)) (some dx) H
def Fin {α:Type} (K:a7) (cls:Str->ah) (E:XK) (H Hs:Hp) (r:R α) (q:α->Prop):Prop:=match r with
 |.ok d=>q d
 |.ex c n=>∀ H' Hs',cD H Hs H' Hs'->XW K cls E c n H' Hs'
 |.no=>False
inductive Xr (K:a7) (cls:Str->ah) (E:XK) (ρ:az) (r:R D) (σ:St) (H:Hp) (Q:VK):Prop
 |mk (H0 Hs0:Hp) (la:Nat->Option ah) (Hs:Hp) (f:Fr K H0 Hs0 la ρ σ H Hs) (q:Fin K cls E H Hs r fun d=>∀ v H' Hs',cD H Hs H' Hs'->RD K Hs' v d->Q v H'):Xr K cls E ρ r σ H Q
def TR (K:a7) (cls:Str->ah) (E:XK) (ρ:az) (r:R D):TE:=Xr K cls E ρ r
inductive Xs (K:a7) (cls:Str->ah) (E:XK) (ρ:az) (r:R D) (σ:St) (H:Hp) (Q:VK):Prop
 |mk (H0 Hs0:Hp) (la:Nat->Option ah) (Hs:Hp) (f:Fr K H0 Hs0 la ρ σ H Hs) (q:Fin K cls E H Hs r fun d=>∀ v H' Hs',cD H Hs H' Hs'->RB K H' Hs' v d->Q v H'):Xs K cls E ρ r σ H Q
def TB (K:a7) (cls:Str->ah) (E:XK) (ρ:az) (r:R D):TE:=Xs K cls E ρ r
inductive UH (K:a7) (cls:Str->ah) (E:XK) (ρ:az) (r:R Bool) (σ:St) (H:Hp) (Q:Bool->Hp->Prop):Prop
 |mk (H0 Hs0:Hp) (la:Nat->Option ah) (Hs:Hp) (f:Fr K H0 Hs0 la ρ σ H Hs) (q:Fin K cls E H Hs r fun b=>∀ H' Hs',cD H Hs H' Hs'->Q b H'):UH K cls E ρ r σ H Q
def Kz (K:a7) (cls:Str->ah) (E:XK) (ρ:az) (r:R Bool):TT:=UH K cls E ρ r
inductive P5 (K:a7) (H Hs:Hp):List V->List D->Prop
 |nil:P5 K H Hs [] []
 |cons {x:V}{xs:List V}{d:D}{ds:List D}:RB K H Hs x d->P5 K H Hs xs ds->P5 K H Hs (x::xs) (d::ds)
inductive UI (K:a7) (cls:Str->ah) (E:XK) (ρ:az) (r:R (List D)) (σ:St) (H:Hp) (Q:List V->Hp->Prop):Prop
 |mk (H0 Hs0:Hp) (la:Nat->Option ah) (Hs:Hp) (f:Fr K H0 Hs0 la ρ σ H Hs) (q:Fin K cls E H Hs r fun d=>∀ v H' Hs',cD H Hs H' Hs'->RDs K Hs' v d->Q v H'):UI K cls E ρ r σ H Q
def W0 (K:a7) (cls:Str->ah) (E:XK) (ρ:az) (r:R (List D)):TA:=UI K cls E ρ r
inductive UJ (K:a7) (cls:Str->ah) (E:XK) (ρ:az) (r:R (List D)) (σ:St) (H:Hp) (Q:List V->Hp->Prop):Prop
 |mk (H0 Hs0:Hp) (la:Nat->Option ah) (Hs:Hp) (f:Fr K H0 Hs0 la ρ σ H Hs) (q:Fin K cls E H Hs r fun d=>∀ v H' Hs',cD H Hs H' Hs'->P5 K H' Hs' v d->Q v H'):UJ K cls E ρ r σ H Q
def W2 (K:a7) (cls:Str->ah) (E:XK) (ρ:az) (r:R (List D)):TA:=UJ K cls E ρ r
structure C where
 X:Cx
 cls:Str->ah
 E:XK
structure JE (c:C) (e:bL) (g:az->R D):Prop where of ::
 run:∀ ρ,PE c.X e (TR c.X.K c.cls c.E ρ (g ρ))
instance {c:C}{e:bL}{g:az->R D}:CoeFun (JE c e g) (fun _=>∀ ρ,PE c.X e (TR c.X.K c.cls c.E ρ (g ρ))):=⟨JE.run⟩
structure JB (c:C) (e:bL) (g:az->R D):Prop where of ::
 run:∀ ρ,PE c.X e (TB c.X.K c.cls c.E ρ (g ρ))
instance {c:C}{e:bL}{g:az->R D}:CoeFun (JB c e g) (fun _=>∀ ρ,PE c.X e (TB c.X.K c.cls c.E ρ (g ρ))):=⟨JB.run⟩
structure JT (c:C) (e:bL) (g:az->R Bool):Prop where of ::
 run:∀ ρ,PT c.X e (Kz c.X.K c.cls c.E ρ (g ρ))
instance {c:C}{e:bL}{g:az->R Bool}:CoeFun (JT c e g) (fun _=>∀ ρ,PT c.X e (Kz c.X.K c.cls c.E ρ (g ρ))):=⟨JT.run⟩
structure JW (c:C) (e:bL) (g:az->R Bool):Prop where of ::
 run:∀ ρ,PW c.X e (Kz c.X.K c.cls c.E ρ (g ρ))
instance {c:C}{e:bL}{g:az->R Bool}:CoeFun (JW c e g) (fun _=>∀ ρ,PW c.X e (Kz c.X.K c.cls c.E ρ (g ρ))):=⟨JW.run⟩
structure G5 (c:C) (es:List bL) (g:az->R (List D)):Prop where of ::
 run:∀ ρ,PA c.X es (W0 c.X.K c.cls c.E ρ (g ρ))
instance {c:C}{es:List bL}{g:az->R (List D)}:CoeFun (G5 c es g) (fun _=>∀ ρ,PA c.X es (W0 c.X.K c.cls c.E ρ (g ρ))):=⟨G5.run⟩
structure Qe (c:C) (es:List bL) (g:az->R (List D)):Prop where of ::
 run:∀ ρ,PA c.X es (W2 c.X.K c.cls c.E ρ (g ρ))
instance {c:C}{es:List bL}{g:az->R (List D)}:CoeFun (Qe c es g) (fun _=>∀ ρ,PA c.X es (W2 c.X.K c.cls c.E ρ (g ρ))):=⟨Qe.run⟩
section
theorem tJ   (h:PE X e t) (m:∀ σ H Q,t' σ H Q->t σ H Q):PE X e t':=fun pins s σ H Q I q=>h pins s σ H Q I (m σ H Q q)
theorem W3   (h:PT X e t) (m:∀ σ H Q,t' σ H Q->t σ H Q):PT X e t':=fun pins s σ H Q I q=>h pins s σ H Q I (m σ H Q q)
theorem Xt   (h:PW X e t) (m:∀ σ H Q,t' σ H Q->t σ H Q):PW X e t':=fun wh pins s σ H Q I q=>h wh pins s σ H Q I (m σ H Q q)
theorem W4 {X:Cx}{e:List bL}{t t':TA} (h:PA X e t) (m:∀ σ H Q,t' σ H Q->t σ H Q):PA X e t':=fun pos pins s σ H Q I q=>h pos pins s σ H Q I (m σ H Q q)
theorem AD {X:Cx}{e:cF}{t t':TS} (h:PS X e t) (m:∀ D σ H,t' D σ H->t D σ H):PS X e t':=fun pins s σ H Q I q=>h pins s σ H Q I (m Q σ H q)
theorem WS {X:Cx}{e:List cF}{t t':TS} (h:Cm X e t) (m:∀ D σ H,t' D σ H->t D σ H):Cm X e t':=fun pins s σ H Q I q=>h pins s σ H Q I (m Q σ H q)
theorem JE.bor (h:JE c e g):JB c e g:=.of fun ρ=>tJ (h ρ) fun σ H Q ⟨H0,Hs0,la,Hs,f,q⟩=>⟨H0,Hs0,la,Hs,f,by
 cases hr:g ρ with
 |ok d=>rw [hr] at q;exact fun v H' Hs' s r=>q v H' Hs' s (.inl r)
 |ex c n=>rw [hr] at q;exact q
 |no=>rw [hr] at q;exact q⟩
theorem one {K:a7}{cls:Str->ah}{E:XK}{ρ:az}{r:R D}{β:Type}{k:D->R β}{σ:St}{H:Hp}{H0 Hs0 Hs:Hp}{la:Nat->Option ah}{Q:V->Hp->Prop}{q:β->Prop} (f:Fr K H0 Hs0 la ρ σ H Hs)
  (h:Fin K cls E H Hs (r.bind k) q) (m:∀ d v H' Hs',r=.ok d->cD H Hs H' Hs'->Fr K H0 Hs0 la ρ σ H' Hs'->RB K H' Hs' v d->Q v H'):TB K cls E ρ r σ H Q:=by
 refine ⟨H0,Hs0,la,Hs,f,?_⟩;cases r with
 |ok d=>exact fun v H' Hs' s r=>m d v H' Hs' rfl s (f.step s) r
 |ex c n=>exact h
 |no=>exact h
theorem CS {K:a7}{cls:Str->ah}{E:XK}{ρ:az}{r:R D}{β:Type}{k:D->R β}{σ:St}{H:Hp}{H0 Hs0 Hs:Hp}{la:Nat->Option ah}{Q:V->Hp->Prop}{q:β->Prop} (f:Fr K H0 Hs0 la ρ σ H Hs)
  (h:Fin K cls E H Hs (r.bind k) q) (m:∀ d v H' Hs',r=.ok d->cD H Hs H' Hs'->Fr K H0 Hs0 la ρ σ H' Hs'->RD K Hs' v d->Q v H'):TR K cls E ρ r σ H Q:=by
 refine ⟨H0,Hs0,la,Hs,f,?_⟩;cases r with
 |ok d=>exact fun v H' Hs' s r=>m d v H' Hs' rfl s (f.step s) r
 |ex c n=>exact h
 |no=>exact h
theorem M_ {K:a7}{cls:Str->ah}{E:XK}{ρ:az}{r:R Bool}{β:Type}{k:Bool->R β}{σ:St}{H:Hp}{H0 Hs0 Hs:Hp}{la:Nat->Option ah}{Q:Bool->Hp->Prop}{q:β->Prop} (f:Fr K H0 Hs0 la ρ σ H Hs)
  (h:Fin K cls E H Hs (r.bind k) q) (m:∀ d H' Hs',r=.ok d->cD H Hs H' Hs'->Fr K H0 Hs0 la ρ σ H' Hs'->Q d H'):Kz K cls E ρ r σ H Q:=by
 refine ⟨H0,Hs0,la,Hs,f,?_⟩;cases r with
 |ok d=>exact fun H' Hs' s=>m d H' Hs' rfl s (f.step s)
 |ex c n=>exact h
 |no=>exact h
theorem Em {K:a7}{cls:Str->ah}{E:XK}{ρ:az}{r:R (List D)}{β:Type}{k:List D->R β}{σ:St}{H:Hp}{H0 Hs0 Hs:Hp}{la:Nat->Option ah}{Q:List V->Hp->Prop}{q:β->Prop} (f:Fr K H0 Hs0 la ρ σ H Hs)
  (h:Fin K cls E H Hs (r.bind k) q) (m:∀ d v H' Hs',r=.ok d->cD H Hs H' Hs'->Fr K H0 Hs0 la ρ σ H' Hs'->RDs K Hs' v d->Q v H'):W0 K cls E ρ r σ H Q:=by
 refine ⟨H0,Hs0,la,Hs,f,?_⟩;cases r with
 |ok d=>exact fun v H' Hs' s r=>m d v H' Hs' rfl s (f.step s) r
 |ex c n=>exact h
 |no=>exact h
theorem IM {K:a7}{cls:Str->ah}{E:XK}{ρ:az}{r:R (List D)}{β:Type}{k:List D->R β}{σ:St}{H:Hp}{H0 Hs0 Hs:Hp}{la:Nat->Option ah}{Q:List V->Hp->Prop}{q:β->Prop} (f:Fr K H0 Hs0 la ρ σ H Hs)
  (h:Fin K cls E H Hs (r.bind k) q) (m:∀ d v H' Hs',r=.ok d->cD H Hs H' Hs'->Fr K H0 Hs0 la ρ σ H' Hs'->P5 K H' Hs' v d->Q v H'):W2 K cls E ρ r σ H Q:=by
 refine ⟨H0,Hs0,la,Hs,f,?_⟩;cases r with
 |ok d=>exact fun v H' Hs' s r=>m d v H' Hs' rfl s (f.step s) r
 |ex c n=>exact h
 |no=>exact h
theorem Fin.on {α:Type}{K:a7}{cls:Str->ah}{E:XK}{H Hs H' Hs':Hp}{r:R α}{q q':α->Prop} (h:Fin K cls E H Hs r q) (s:cD H Hs H' Hs') (m:∀ a,q a->q' a):Fin K cls E H' Hs' r q':=by
 cases r with
 |ok a=>exact m a h
 |ex c n=>exact fun H2 Hs2 s2=>h H2 Hs2 (s.trans s2)
 |no=>exact h
end
end
section
def G6 (ρ:az) (i:Nat):R D:=match ρ[i]? with
 |some (Sl.shr d)=>.ok d
 |_=>.no
def G7 (ρ:az) (i:Nat):R D:=match ρ[i]? with
 |some (Sl.shr d)=>.ok d
 |some (Sl.own d)=>.ok d
 |some (Sl.lck d)=>.ok d
 |_=>.no
section
variable {c:C}{e a b:bL}{g ga gb:az->R D}{pos:Pos}
theorem af (i:Nat) (hN:c.X.N[i]?=some x:=by rfl) (hv:Ps c.X.env.scope x:=by first|exact iF rfl|exact fK (iF rfl)|exact fK (fK rfl)) (hd:(x==("__debug__" : Str))=false:=by decide)
  (hcd:(x==("__classdict__" : Str))=false:=by decide):JE c (.Name x pos) (fun ρ=>G6 ρ i):=.of fun ρ=>tJ (pF hN hv hd hcd) fun σ H Q h_0=>by
 obtain ⟨H0,Hs0,la,Hs,f,q⟩:=h_0;cases hr:ρ[i]? with
 |none=>simp only [G6,hr] at q;exact q.elim
 |some s =>
  cases s with
  |shr d =>
   obtain ⟨v,h1,h2⟩:=f.sh i d hr;simp only [G6,hr] at q;exact ⟨v,h1,q v H Hs (.refl f.st.sub) h2⟩
  |no=>simp only [G6,hr] at q;exact q.elim
  |own d=>simp only [G6,hr] at q;exact q.elim
  |lck d=>simp only [G6,hr] at q;exact q.elim
  |ow2 d=>simp only [G6,hr] at q;exact q.elim
theorem ag (i:Nat) (hN:c.X.N[i]?=some x:=by rfl) (hv:Ps c.X.env.scope x:=by first|exact iF rfl|exact fK (iF rfl)|exact fK (fK rfl)) (hd:(x==("__debug__" : Str))=false:=by decide)
  (hcd:(x==("__classdict__" : Str))=false:=by decide):JB c (.Name x pos) (fun ρ=>G7 ρ i):=.of fun ρ=>tJ (pF hN hv hd hcd) fun σ H Q h_1=>by
 obtain ⟨H0,Hs0,la,Hs,f,q⟩:=h_1;cases hr:ρ[i]? with
 |none=>simp only [G7,hr] at q;exact q.elim
 |some s =>
  cases s with
  |shr d =>
   obtain ⟨v,h1,h2⟩:=f.sh i d hr;simp only [G7,hr] at q;exact ⟨v,h1,q v H Hs (.refl f.st.sub) (.inl h2)⟩
  |no=>simp only [G7,hr] at q;exact q.elim
  |own d =>
   obtain ⟨a,o,h1,h2,h3,h4,h5⟩:=f.ow i d hr;simp only [G7,hr] at q;exact ⟨_,h1,q _ H Hs (.refl f.st.sub) (.inr ⟨a,o,rfl,h2,h3,h5⟩)⟩
  |lck d =>
   obtain ⟨a,o,h1,h2,h3,h4,h5,h6⟩:=f.lk i d hr;simp only [G7,hr] at q;exact ⟨_,h1,q _ H Hs (.refl f.st.sub) (.inr ⟨a,o,rfl,h3,h4,h6⟩)⟩
  |ow2 d=>simp only [G7,hr] at q;exact q.elim
theorem rg  (h:PE c.X e (tC v)) (r:∀ Hs,RD c.X.K Hs v d):JE c e (fun _=>.ok d):=.of fun ρ=>tJ h fun σ H Q h_2=>by obtain ⟨H0,Hs0,la,Hs,f,q⟩:=h_2;exact q v H Hs (.refl f.st.sub) (r Hs)
theorem ax  : JE c (.Constant (.int i) j pos) (fun _=>.ok (.int i)):=rg M8 fun _=>.int i
theorem ml  : JE c (.Constant (.bool i) j pos) (fun _=>.ok (.bool i)):=rg M9 fun _=>.bool i
theorem pK:JE c (.Constant .none j pos) (fun _=>.ok .none):=rg Sn fun _=>.none
theorem pL  : JE c (.Constant (.str i) j pos) (fun _=>.ok (.str i)):=rg GA fun _=>.str i
theorem rh  (hg:Gl c.X x) (hm:∃ t,c.X.mg x=some (.int i t)) (hd:(x==("__debug__" : Str))=false:=by decide):JE c (.Name x pos) (fun _=>.ok (.int i)):=by
 obtain ⟨t,hm⟩:=hm;exact rg (Iu hg hm (v:=.int i) ⟨t,rfl⟩ hd) fun _=>.int i
inductive Xu (K:a7) (h:D->D->R D) (x:V) (y:V) (H:Hp) (Q:VK):Prop
 |mk (Hs dx dy:_) (h0:dn Hs H) (h1:RB K H Hs x dx) (h2:RB K H Hs y dy) (h3:∃ d,h dx dy=.ok d/\∀ v H' Hs',cD H Hs H' Hs'->RD K Hs' v d->Q v H'):Xu K h x y H Q
def rD (K:a7) (h:D->D->R D):R2:=Xu K h
def xN (X:Cx) (f:ae->ae->Sem ae) (h:D->D->R D):Prop:=pw X f (rD X.K h)/\∀ x y c n,h x y≠.ex c n
def g2 (ga gb:az->R D) (h:D->D->R D):az->R D:=fun ρ=>(ga ρ).bind fun x=>(gb ρ).bind fun y=>h x y
theorem two        (hx:∀ x y c n,h x y≠.ex c n) (q:TR K cls E ρ (g2 ga gb h ρ) σ H Q):Uc (rD K h) (TB K cls E ρ (ga ρ)) (TB K cls E ρ (gb ρ)) σ H Q:=by
 obtain ⟨H0,Hs0,la,Hs,f,q⟩:=q;refine one f q fun x v H1 Hs1 e1 s1 f1 r1=>?_;unfold g2 at q;rw [e1,bind_ok] at q;refine one f1 (q.on s1 (q':=fun _=>True) fun _ _=>trivial) fun y u H2 Hs2 e2 s2 f2 r2=>?_;rw [e2,bind_ok] at q;cases hr:h x y with
 |ok d =>
  rw [hr] at q;exact ⟨Hs2,x,y,f2.st.sub,r1.step s2,r2,d,hr,fun w H3 Hs3 s3 r3=>q w H3 Hs3 (s1.trans (s2.trans s3)) r3⟩
 |ex c n=>exact (hx x y c n hr).elim
 |no=>rw [hr] at q;exact q.elim
theorem bF  (ho:xN c.X (eV op) h) (ha:JB c a ga) (hb:JB c b gb):JE c (.BinOp a op b pos) (g2 ga gb h):=.of fun ρ=>tJ (Ri ho.1 (ha ρ) (hb ρ)) fun σ H Q q=>two ho.2 q
theorem mn  (ho:xN c.X (bG op) h) (ha:JB c a ga) (hb:JB c b gb) (hm:gS op b=false:=by first|exact GF _|rfl):JE c (.Compare a [op] [b] pos) (g2 ga gb h):=.of fun ρ=>tJ (PF ho.1 (ha ρ) (hb ρ) hm) fun σ H Q q=>two ho.2 q
def fk (g:az->R D):az->R Bool:=fun ρ=>(g ρ).bind fun d=>match d with
 |.bool b=>.ok b
 |_=>.no
theorem UK       (q:Kz K cls E ρ (fk g ρ) σ H Q):TR K cls E ρ (g ρ) σ H fun x H'=>∃ k,x=.bl k/\Q k H':=by
 obtain ⟨H0,Hs0,la,Hs,f,q⟩:=q;refine CS f q fun d v H1 Hs1 e1 s1 f1 r1=>?_;unfold fk at q;rw [e1,bind_ok] at q;cases r1 with
 |bool b=>exact ⟨b,rfl,q H1 Hs1 s1⟩
 |_=>exact q.elim
theorem dD  (ho:xN c.X (bG op) h) (ha:JB c a ga) (hb:JB c b gb) (hm:gS op b=false:=by first|exact GF _|rfl):JT c (.Compare a [op] [b] pos) (fk (g2 ga gb h)):=.of fun ρ=>W3 (Iy ho.1 (ha ρ) (hb ρ) hm) fun σ H Q q=>two ho.2 (UK q)
theorem dR (h:JE c e g) (he:∀ whole,Ca e c.X.env whole=(do let v <- whole;FU e.pos;holding [v] (truthy v)):=by intro _;rfl):JT c e (fk g):=.of fun ρ=>W3 (Mb (h ρ) he) fun σ H Q q=>UK q
def iZ (g:az->R Bool):az->R Bool:=fun ρ=>(g ρ).bind fun b=>.ok (!b)
def GZ (g h:az->R Bool):az->R Bool:=fun ρ=>(g ρ).bind fun b=>if b then h ρ else .ok false
def G_ (g h:az->R Bool):az->R Bool:=fun ρ=>(g ρ).bind fun b=>if b then .ok true else h ρ
variable {gt gu:az->R Bool}{bB:List bL}
theorem eP (h:JT c e gt):JT c (.UnaryOp .Not e pos) (iZ gt):=.of fun ρ=>W3 (Md (h ρ)) fun σ H Q q=>by
 obtain ⟨H0,Hs0,la,Hs,f,q⟩:=q;refine M_ f q fun d H1 Hs1 e1 s1 f1=>?_;unfold iZ at q;rw [e1,bind_ok] at q;exact q H1 Hs1 s1
theorem CT (h:JT c a gt):JW c (.BoolOp .And [a] pos) gt:=.of fun ρ=>Pt (h ρ)
theorem mq (h:JT c a gt):JW c (.BoolOp .Or [a] pos) gt:=.of fun ρ=>Mc (h ρ)
theorem H9 (h:JT c a gt) (h2:JW c (.BoolOp .And (b::bB) pos) gu):JW c (.BoolOp .And (a::b::bB) pos) (GZ gt gu):=.of fun ρ=>Xt (So (h ρ) (h2 ρ)) fun σ H Q q=>by
 obtain ⟨H0,Hs0,la,Hs,f,q⟩:=q;refine M_ f q fun d H1 Hs1 e1 s1 f1=>?_;unfold GZ at q;rw [e1,bind_ok] at q;cases d with
 |true=>exact DZ ⟨H0,Hs0,la,Hs1,f1,q.on s1 fun b k H2 Hs2 s2=>k H2 Hs2 (s1.trans s2)⟩
 |false=>exact Aw (q H1 Hs1 s1)
theorem rj (h:JT c a gt) (h2:JW c (.BoolOp .Or (b::bB) pos) gu):JW c (.BoolOp .Or (a::b::bB) pos) (G_ gt gu):=.of fun ρ=>Xt (Re (h ρ) (h2 ρ)) fun σ H Q q=>by
 obtain ⟨H0,Hs0,la,Hs,f,q⟩:=q;refine M_ f q fun d H1 Hs1 e1 s1 f1=>?_;unfold G_ at q;rw [e1,bind_ok] at q;cases d with
 |false=>exact Aw ⟨H0,Hs0,la,Hs1,f1,q.on s1 fun b k H2 Hs2 s2=>k H2 Hs2 (s1.trans s2)⟩
 |true=>exact DZ (q H1 Hs1 s1)
theorem JW.t (h:JW c e gt):JT c e gt:=.of fun ρ=>(h ρ).pt
def Bv (g:az->R D):az->R D:=fun ρ=>(fk g ρ).bind fun b=>.ok (.bool (!b))
theorem Ha (h:JE c e g):JE c (.UnaryOp .Not e pos) (Bv g):=.of fun ρ=>tJ (Ss (h ρ)) fun σ H Q q=>by
 refine UK ?_;obtain ⟨H0,Hs0,la,Hs,f,q⟩:=q;refine M_ f q fun d H1 Hs1 e1 s1 f1=>?_;unfold Bv at q;rw [e1,bind_ok] at q;exact q _ H1 Hs1 s1 (.bool _)
def rm (g h:az->R D):az->R D:=fun ρ=>(fk g ρ).bind fun b=>if b then h ρ else .ok (.bool false)
theorem u0 (h:JE c a g):JE c (.BoolOp op [a] pos) g:=.of fun ρ=>Sq (h ρ)
theorem rn (h:JE c a ga) (h2:JE c (.BoolOp .And (b::bB) pos) gb):JE c (.BoolOp .And (a::b::bB) pos) (rm ga gb):=.of fun ρ=>tJ (Sr (h ρ) (h2 ρ)) fun σ H Q q=>by
 refine UK ?_;obtain ⟨H0,Hs0,la,Hs,f,q⟩:=q;refine M_ f q fun d H1 Hs1 e1 s1 f1=>?_;unfold rm at q;rw [e1,bind_ok] at q;cases d with
 |true=>exact DZ ⟨H0,Hs0,la,Hs1,f1,q.on s1 fun b k v H2 Hs2 s2 r2=>k v H2 Hs2 (s1.trans s2) r2⟩
 |false=>exact Aw (q _ H1 Hs1 s1 (.bool _))
def ro (ga gb gc:az->R D) (h h':D->D->R D):az->R D:=fun ρ=>(ga ρ).bind fun x=>(gb ρ).bind fun y=>(h x y).bind fun z=>match z with
 |.bool true=>(gc ρ).bind fun w=>h' y w
 |.bool false=>.ok (.bool false)
 |_=>.no
def a8 (g:az->R D) (gs:az->R (List D)):az->R (List D):=fun ρ=>(g ρ).bind fun d=>(gs ρ).bind fun ds=>.ok (d::ds)
def aE:az->R (List D):=fun _=>.ok []
theorem aF:G5 c [] aE:=.of fun ρ=>W4 eA fun σ H Q h_3=>by obtain ⟨H0,Hs0,la,Hs,f,q⟩:=h_3;exact q [] H Hs (.refl f.st.sub) .nil
theorem bA:Qe c [] aE:=.of fun ρ=>W4 eA fun σ H Q h_4=>by obtain ⟨H0,Hs0,la,Hs,f,q⟩:=h_4;exact q [] H Hs (.refl f.st.sub) .nil
theorem a9 (h:JE c e g) (hr:G5 c es gs) (hs:aw (e::es) c.X.env=(false,cz e c.X.env)::aw es c.X.env:=by rfl):G5 c (e::es) (a8 g gs):=.of fun ρ=>W4 (bT (h ρ) (hr ρ) hs) fun σ H Q h_5=>by
 obtain ⟨H0,Hs0,la,Hs,f,q⟩:=h_5;refine CS f q fun d v H1 Hs1 e1 s1 f1 r1=>?_;unfold a8 at q;rw [e1,bind_ok] at q;refine Em f1 (q.on s1 (q':=fun _=>True) fun _ _=>trivial) fun ds vs H2 Hs2 e2 s2 f2 r2=>?_;rw [e2,bind_ok] at q;exact q _ H2 Hs2 (s1.trans s2) (.cons (r1.same s2.sh) r2)
theorem b6 (h:JB c e g) (hr:Qe c es gs) (hs:aw (e::es) c.X.env=(false,cz e c.X.env)::aw es c.X.env:=by rfl):Qe c (e::es) (a8 g gs):=.of fun ρ=>W4 (bT (h ρ) (hr ρ) hs) fun σ H Q h_6=>by
 obtain ⟨H0,Hs0,la,Hs,f,q⟩:=h_6;refine one f q fun d v H1 Hs1 e1 s1 f1 r1=>?_;unfold a8 at q;rw [e1,bind_ok] at q;refine IM f1 (q.on s1 (q':=fun _=>True) fun _ _=>trivial) fun ds vs H2 Hs2 e2 s2 f2 r2=>?_;rw [e2,bind_ok] at q;exact q _ H2 Hs2 (s1.trans s2) (.cons (r1.step s2) r2)
def fX (gs:az->R (List D)) (k:List D->D):az->R D:=fun ρ=>(gs ρ).bind fun ds=>if ds.length<=1000 then .ok (k ds) else .no
theorem kj {x1} (h:G5 c es gs):JE c (.Tuple es x1 pos) (fX gs .tuple):=.of fun ρ=>tJ (GI (h ρ)) fun σ H Q h_7=>by
 obtain ⟨H0,Hs0,la,Hs,f,q⟩:=h_7;refine Em f q fun ds vs H1 Hs1 e1 s1 f1 r1=>?_;unfold fX at q;rw [e1,bind_ok] at q;by_cases hl:ds.length<=1000
 ·rw [if_pos hl] at q;refine ⟨bh (cf (by rw [r1.length];exact hl)),fun p hp=>q _ _ _ (s1.trans (.new f1.st.sub hp)) (.tuple aT (r1.same (cD.new f1.st.sub hp).sh))⟩
 ·rw [if_neg hl] at q;exact q.elim
theorem og (h:G5 c es gs):JE c (.List es pos) (fX gs .list):=.of fun ρ=>tJ (o0 (h ρ)) fun σ H Q h_8=>by
 obtain ⟨H0,Hs0,la,Hs,f,q⟩:=h_8;refine Em f q fun ds vs H1 Hs1 e1 s1 f1 r1=>?_;unfold fX at q;rw [e1,bind_ok] at q;by_cases hl:ds.length<=1000
 ·rw [if_pos hl] at q;refine ⟨bh (cf (by rw [r1.length];exact hl)),fun p hp=>q _ _ _ (s1.trans (.new f1.st.sub hp)) (.list (.of aT) (r1.same (cD.new f1.st.sub hp).sh))⟩
 ·rw [if_neg hl] at q;exact q.elim
end
end
end J
namespace J
open PySem PySem.Spec PyProof.Rows L2
section
section
def cS:D->D->R D
 |.int i,.int j=>.ok (.int (i+j))
 |.str x,.str y=>if x.length+y.length<=1000 then .ok (.str (x++y)) else .no
 |.tuple xs,.tuple ys=>if xs.length+ys.length<=1000 then .ok (.tuple (xs++ys)) else .no
 |.list xs,.list ys=>if xs.length+ys.length<=1000 then .ok (.list (xs++ys)) else .no
 |_,_=>.no
inductive N0 (K:a7) (x:V) (y:V) (H:Hp) (Q:VK):Prop
 |mk (l b xs zs:_) (h0:x=.ref l) (h1:y=.ref b) (h2:nl K H l xs) (h3:nl K H b zs) (h4:xs.length+zs.length<=sizeLine) (h5:∀ p,H p=none->Q (.ref p) (upd H p (.lst (xs++zs)))):N0 K x y H Q
def UL (K:a7):R2:=N0 K
theorem Qf:pw X (eV .Add) (UL X.K):=by
 intro pins s σ H x y v u Q I rx ry h;obtain ⟨l,b,xs,zs,rfl,rfl,h1,h2,hz,q⟩:=h;cases rx;cases ry;obtain ⟨its,r,⟨o,n,e,c1,c2,c3⟩,z⟩:=I.list h1;obtain ⟨its2,r2,⟨o2,n2,e2,d1,d2,d3⟩,z2⟩:=I.list h2;obtain ⟨k1,k2,k3,k4⟩:=o;obtain ⟨m1,m2,m3,m4⟩:=o2;simp only at c1 c2 c3 d1 d2 d3;subst c1 c2 c3 d1 d2 d3;refine Ah ⟨_,e,rfl⟩ ⟨_,e2,rfl⟩ noFill_list_add seq_list_add PySem.F.slot_list_add PySem.F.entry_list_add (PySem.F.args_list_add_2 _ _) (PyProof.Rows.list_addW l b _ _ n n2 _ _ k4 m4 (by rw [aK,aK,<- r.length,<- r2.length];exact hz)) ⟨e,e2,?_⟩;have ea:its.toArray++its2.toArray=(its++its2).toArray:=by simp
 rw [ea];exact ⟨.ref _,_,I.lnew (t':=s.toks) (r.append r2) (by rw [aL];omega),rfl,q _ I.fresh⟩
inductive N1 (K:a7) (x:V) (y:V) (H:Hp) (Q:VK):Prop
 |mk (a b ys:_) (h0:x=.ref a) (h1:y=.ref b) (h2:lw K H a []) (h3:lw K H b ys) (h4:Q (.ref b) H):N1 K x y H Q
def UM (K:a7):R2:=N1 K
theorem Qg:pw X (eV .Add) (UM X.K):=by
 intro pins s σ H x y v u Q I rx ry h;obtain ⟨a,b,ys,rfl,rfl,h1,h2,q⟩:=h;cases rx;cases ry;obtain ⟨its,r,⟨⟨k1,k2,k3,k4⟩,e,c1,n,c3⟩,z⟩:=I.tuple h1;obtain ⟨its2,r2,⟨⟨m1,m2,m3,m4⟩,e2,d1,n2,d3⟩,z2⟩:=I.tuple h2;simp only at c1 c3 d1 d3;subst c1 c3 d1 d3;cases r;exact Ah ⟨_,e,rfl⟩ ⟨_,e2,rfl⟩ Cc JY pB oH (nY _ _)
  (PyProof.Rows.tuple_addW0 a b _ _ n n2 _ _ k4 m4 rfl) ⟨e,e2,⟨.ref b,H,I,rfl,q⟩⟩
theorem cc:xN X (eV .Add) cS:=by
 refine ⟨fun pins s σ H x y v u Q I rv ru ⟨Hs,dx,dy,sub,rx,ry,d,hd,q⟩=>?_,fun x y c n=>?_⟩
 ·unfold cS at hd;split at hd
  ·cases hd;exact SB pins s σ H x y v u Q I rv ru ⟨_,_,rx.int,ry.int,q _ H Hs (.refl sub) (.int _)⟩
  ·split at hd
   ·rename_i hz
    cases hd;exact GH pins s σ H x y v u Q I rv ru ⟨_,_,rx.str,ry.str,bh (cf hz),q _ H Hs (.refl sub) (.str _)⟩
   ·cases hd
  ·split at hd
   ·rename_i xs ys hz
    cases hd;obtain ⟨a,vs,rfl,qa,ra,_⟩:=rx.tuple sub;obtain ⟨b,ws,rfl,qb,rb,_⟩:=ry.tuple sub;have hz':vs.length+ws.length<=sizeLine:=by rw [ra.length,rb.length];exact bh (cf hz)
    have big:∀ p,H p=none->Q (.ref p) (upd H p (.tup (vs++ws))):=fun p hp=>q _ _ _ (.new sub hp) (.tuple aT ((ra.append rb).same (cD.new sub hp).sh));cases vs with
    |nil =>
     cases ra;refine Qg pins s σ H _ _ v u Q I rv ru ⟨a,b,ws,rfl,rfl,qa,qb,?_⟩;rcases ry with ry|⟨_,_,_,_,_,ow⟩
     ·exact q _ H Hs (.refl sub) (by simpa using ry)
     ·cases ow
    |cons v0 vr =>
     refine PQ pins s σ H _ _ v u Q I rv ru ⟨a,b,_,ws,rfl,rfl,qa,qb,by simp,hz',fun e=>?_,fun _=>big⟩;subst e;cases rb;rcases rx with rx|⟨_,_,_,_,_,ow⟩
     ·exact q _ H Hs (.refl sub) (by simpa using rx)
     ·cases ow
   ·cases hd
  ·split at hd
   ·rename_i xs ys hz
    cases hd;obtain ⟨a,vs,rfl,qa,ra⟩:=rx.list sub;obtain ⟨b,ws,rfl,qb,rb⟩:=ry.list sub;have hz':vs.length+ws.length<=sizeLine:=by rw [ra.length,rb.length];exact bh (cf hz)
    exact Qf pins s σ H _ _ v u Q I rv ru ⟨a,b,vs,ws,rfl,rfl,qa,qb,hz',fun p hp=>q _ _ _ (.new sub hp) (.list (.of aT) ((ra.append rb).same (cD.new sub hp).sh))⟩
   ·cases hd
  ·cases hd
 ·unfold cS;split<;>(try split)<;>exact fun h=>by cases h
def Eo (C:Int->Int->Bool) (k:Int->Int->D):D->D->R D
 |.int i,.int j=>if C i j then .ok (k i j) else .no
 |_,_=>.no
theorem CU {f:ae->ae->Sem ae}{C:Int->Int->Bool}{P:Int->Int->Prop}{k:Int->Int->D}{kv:Int->Int->V} (h:pw X f (rI P kv)) (hC:∀ i j,C i j=true->P i j) (hk:∀ Hs i j,RD X.K Hs (kv i j) (k i j)):xN X f (Eo C k):=by
 refine ⟨fun pins s σ H x y v u Q I rv ru ⟨Hs,dx,dy,sub,rx,ry,d,hd,q⟩=>?_,fun x y c n=>?_⟩
 ·unfold Eo at hd;split at hd
  ·split at hd
   ·rename_i hc
    cases hd;exact h pins s σ H x y v u Q I rv ru ⟨_,_,rx.int,ry.int,hC _ _ hc,q _ H Hs (.refl sub) (hk _ _ _)⟩
   ·cases hd
  ·cases hd
 ·unfold Eo;split<;>(try split)<;>exact fun h=>by cases h
def Bw (i j:Int):Bool:=(decide (-(2 ^ 64)<i)&&decide (i<2 ^ 64))||(decide (-(2 ^ 64)<j)&&decide (j<2 ^ 64))
theorem UN  (h:pw X f (Pw g)):pw X f (rI (fun _ _=>True) g):=fun pins s σ H x y v u Q I rv ru h_0=>by obtain ⟨i,j,a,b,_,q⟩:=h_0;exact h pins s σ H x y v u Q I rv ru ⟨i,j,a,b,q⟩
def N5:=Eo (fun _ _=>true) fun i j=>.int (i-j)
def xO:=Eo Bw fun i j=>.int (i*j)
def KA:=Eo (fun _ j=>decide (0<j)) fun i j=>.int (i % j)
def N6:=Eo (fun _ j=>decide (0<j)&&decide (j<1073741824)) fun i j=>.int (i / j)
theorem N7:xN X (eV .Sub) N5:=CU (UN SC) (fun _ _ _=>trivial) fun _ _ _=>.int _
theorem rq:xN X (eV .Mult) xO:=CU SD (fun i j h=>by
 unfold Bw at h;simp only [ic,aN,decide_eq_true_eq] at h;exact h) fun _ _ _=>.int _
theorem CV:xN X (eV .Mod) KA:=CU SE (fun i j h=>of_decide_eq_true h) fun _ _ _=>.int _
theorem Qh:xN X (eV .FloorDiv) N6:=CU Px (fun i j h=>by
 simp only [aN,decide_eq_true_eq] at h;exact h) fun _ _ _=>.int _
def mX (neg:Bool) (x y:D):R D:=if x.canLay0&&y.canLay0&&decide (min x.depth y.depth<=60) then .ok (.bool (if neg then !bw x y else bw x y)) else .no
mutual
theorem CW:∀ d:D,d.canLay0=true->qC d=true
 |.none,_=>rfl
 |.bool _,_=>rfl
 |.int _,_=>rfl
 |.str _,_=>rfl
 |.list xs,h=>by
  simp only [eG] at h;simp only [qC];exact lays_noD xs h
 |.tuple xs,h=>by
  simp only [eG] at h;simp only [qC];exact lays_noD xs h
 |.dict _,h=>by simp [eG] at h
theorem lays_noD:∀ d:List D,bZ d=true->noDs d=true
 |[],_=>rfl
 |x::r,h=>by
  simp only [bZ,aN] at h;simp only [noDs,aN];exact ⟨CW x h.1,lays_noD r h.2⟩
end
theorem N8  (h:pw X f (T3 X.K neg)):xN X f (mX neg):=by
 refine ⟨fun pins s σ H x y v u Q I rv ru ⟨Hs,dx,dy,sub,rx,ry,d,hd,q⟩=>?_,fun x y c n=>?_⟩
 ·unfold mX at hd;split at hd
  ·rename_i hc
   simp only [aN,decide_eq_true_eq] at hc;cases hd;exact h pins s σ H x y v u Q I rv ru ⟨dx,dy,(rx.full sub).rep (CW _ hc.1.1),(ry.full sub).rep (CW _ hc.1.2),hc.1.1,hc.1.2,hc.2,q _ H Hs (.refl sub) (.bool _)⟩
  ·cases hd
 ·unfold mX;split<;>exact fun h=>by cases h
theorem tK (hu:X.A.units+64<sV):xN X (bG .Eq) (mX false):=N8 (T4 hu)
theorem yY (hu:X.A.units+64<sV):xN X (bG .NotEq) (mX true):=N8 (T5 hu)
def KB (k:Int->Int->Bool) (t:Str->Str->Bool):D->D->R D
 |.int i,.int j=>.ok (.bool (k i j))
 |.str x,.str y=>.ok (.bool (t x y))
 |_,_=>.no
theorem N9   (h1:pw X f (Pw fun i j=>.bl (k i j))) (h2:pw X f (fun x y H Q=>∃ i j,x=.str i/\y=.str j/\Q (.bl (t i j)) H)):xN X f (KB k t):=by
 refine ⟨fun pins s σ H x y v u Q I rv ru ⟨Hs,dx,dy,sub,rx,ry,d,hd,q⟩=>?_,fun x y c n=>?_⟩
 ·unfold KB at hd;split at hd
  ·cases hd;exact h1 pins s σ H x y v u Q I rv ru ⟨_,_,rx.int,ry.int,q _ H Hs (.refl sub) (.bool _)⟩
  ·cases hd;exact h2 pins s σ H x y v u Q I rv ru ⟨_,_,rx.str,ry.str,q _ H Hs (.refl sub) (.bool _)⟩
  ·cases hd
 ·unfold KB;split<;>exact fun h=>by cases h
def Ep:=KB (fun i j=>decide (i<j)) qK
def Rw:=KB (fun i j=>decide (i<=j)) fun x y=>!qK y x
def Qi:D->D->R D
 |.int i,.int j=>.ok (.bool (decide (j<i)))
 |_,_=>.no
theorem yZ:xN X (bG .Lt) Ep:=N9 Uh Kf
theorem Bx:xN X (bG .LtE) Rw:=N9 Ui Ks
theorem Es:xN X (bG .Gt) Qi:=by
 refine ⟨fun pins s σ H x y v u Q I rv ru ⟨Hs,dx,dy,sub,rx,ry,d,hd,q⟩=>?_,fun x y c n=>?_⟩
 ·unfold Qi at hd;split at hd
  ·cases hd;exact Uj pins s σ H x y v u Q I rv ru ⟨_,_,rx.int,ry.int,q _ H Hs (.refl sub) (.bool _)⟩
  ·cases hd
 ·unfold Qi;split<;>exact fun h=>by cases h
def Hb:D->Bool
 |.none=>true
 |_=>false
def DL (neg:Bool):D->D->R D
 |x,.none=>.ok (.bool (if neg then !Hb x else Hb x))
 |_,_=>.no
theorem IN {K:a7}{H Hs:Hp}{v:V}{d:D} (h:RB K H Hs v d):decide (v=.non)=Hb d:=by
 rcases h with h|⟨a,o,rfl,_,_,h⟩
 ·cases h<;>rfl
 ·cases h<;>rfl
theorem UO:xN X (bG .Is) (DL false):=by
 refine ⟨fun pins s σ H x y v u Q I rv ru ⟨Hs,dx,dy,sub,rx,ry,d,hd,q⟩=>?_,fun x y c n=>?_⟩
 ·unfold DL at hd;split at hd
  ·cases hd;exact SJ pins s σ H x y v u Q I rv ru ⟨ry.non,by rw [IN rx];exact q _ H Hs (.refl sub) (.bool _)⟩
  ·cases hd
 ·unfold DL;split<;>exact fun h=>by cases h
theorem Et:xN X (bG .IsNot) (DL true):=by
 refine ⟨fun pins s σ H x y v u Q I rv ru ⟨Hs,dx,dy,sub,rx,ry,d,hd,q⟩=>?_,fun x y c n=>?_⟩
 ·unfold DL at hd;split at hd
  ·cases hd;exact PD pins s σ H x y v u Q I rv ru ⟨ry.non,by rw [IN rx];exact q _ H Hs (.refl sub) (.bool _)⟩
  ·cases hd
 ·unfold DL;split<;>exact fun h=>by cases h
def lE:D->Bool
 |.none=>true
 |.bool _=>true
 |.int _=>true
 |.str _=>true
 |_=>false
def DM (neg:Bool):D->D->R D
 |x,.list ys=>if lE x&&ys.all lE then .ok (.bool (if neg then !(ys.any fun y=>bw y x) else ys.any fun y=>bw y x)) else .no
 |x,.tuple ys=>if lE x&&ys.all lE then .ok (.bool (if neg then !(ys.any fun y=>bw y x) else ys.any fun y=>bw y x)) else .no
 |_,_=>.no
theorem IP {K:a7}{H:Hp}{v:V}{d:D} (h:RD K H v d) (f:lE d=true):qX v=true:=by
 cases h<;>first|rfl|cases f
theorem Eu {K:a7}{H Hs:Hp}{v:V}{d:D} (h:RB K H Hs v d) (f:lE d=true):qX v=true:=by
 rcases h with h|⟨a,o,rfl,_,_,h⟩
 ·exact IP h f
 ·cases h<;>cases f
theorem Ev {K:a7}{H:Hp}{vs:List V}:∀ {ds:List D},RDs K H vs ds->ds.all lE=true->vs.all qX=true:=by
 induction vs with
 |nil=>intro ds _ _;rfl
 |cons x r ih =>
  intro ds h f;cases h with
  |cons h t =>
   rw [uK,aN] at f ⊢;exact ⟨IP h f.1,ih t f.2⟩
theorem Ta {K:a7}{H H2 Hs:Hp}{v u:V}{d e:D} (h:RD K H v d) (h2:RB K H2 Hs u e) (f:lE d=true) (f2:lE e=true):PV v u=bw d e:=by
 have h2':RD K Hs u e:=by
  rcases h2 with h2|⟨a,o,rfl,_,_,h2⟩
  ·exact h2
  ·cases h2<;>cases f2
 cases h with
 |list _ _=>cases f
 |tuple _ _=>cases f
 |dictK _ _=>cases f
 |dictT _ _ _=>cases f
 |dictF _ _ _=>cases f
 |none=>cases h2'<;>first|rfl|cases f2
 |bool b=>cases h2'<;>first|rfl|cases f2
 |int i=>cases h2'<;>first|rfl|cases f2
 |str x=>cases h2'<;>first|rfl|cases f2
theorem Hc {K:a7}{H H2 Hs:Hp}{u:V}{e:D} (h2:RB K H2 Hs u e) (f2:lE e=true):∀ {vs:List V}{ds:List D},RDs K H vs ds->ds.all lE=true->VV u vs=ds.any fun y=>bw y e
 |_,_,.nil,_=>rfl
 |_,_,.cons h t,f=>by
  rw [uK,aN] at f;have:=Hc h2 f2 t f.2;unfold VV at this ⊢;rw [fv,fv,this,Ta h h2 f.1 f2]
theorem Na  (h:pw X f (WI X.K neg)):xN X f (DM neg):=by
 refine ⟨fun pins s σ H x y v u Q I rv ru ⟨Hs,dx,dy,sub,rx,ry,d,hd,q⟩=>?_,fun x y c n=>?_⟩
 ·unfold DM at hd;split at hd
  ·split at hd
   ·rename_i hc
    simp only [aN] at hc;cases hd;obtain ⟨b,ws,rfl,qb,rb⟩:=ry.list sub;refine h pins s σ H _ _ v u Q I rv ru ⟨b,ws,rfl,.inl qb,Eu rx hc.1,Ev rb hc.2,?_⟩;rw [Hc rx hc.1 rb hc.2];exact q _ H Hs (.refl sub) (.bool _)
   ·cases hd
  ·split at hd
   ·rename_i hc
    simp only [aN] at hc;cases hd;obtain ⟨b,ws,rfl,qb,rb,_⟩:=ry.tuple sub;refine h pins s σ H _ _ v u Q I rv ru ⟨b,ws,rfl,.inr qb,Eu rx hc.1,Ev rb hc.2,?_⟩;rw [Hc rx hc.1 rb hc.2];exact q _ H Hs (.refl sub) (.bool _)
   ·cases hd
  ·cases hd
 ·unfold DM;split<;>(try split)<;>exact fun h=>by cases h
theorem Ew:xN X (bG .In) (DM false):=Na Ki
theorem v8:xN X (bG .NotIn) (DM true):=Na Cv
end
end
end J
namespace J
open PySem L2
section
section
variable {c:C}{e a b:bL}{g ga gb:az->R D}{pos:Pos}
def Ex:D->D->R D
 |.list xs,.int i=>match DJ xs i with
  |some d=>.ok d
  |none=>.no
 |.tuple xs,.int i=>match DJ xs i with
  |some d=>.ok d
  |none=>.no
 |.str x,.int i=>if x.length<=1000 then (match DJ x.cps.toList i with
  |some k=>.ok (.str ⟨#[k]⟩)
  |none=>.no) else .no
 |_,_=>.no
theorem IQ    (h:RDs K H vs ds)  (e:DJ ds i=some d):∃ v,DJ vs i=some v/\RD K H v d:=by
 unfold DJ at e ⊢;rw [h.length];cases hx:Rk ds.length i with
 |none=>rw [hx] at e;cases e
 |some j =>
  rw [hx] at e;exact h.get' e
theorem WT:Uq X (rD X.K Ex):=by
 intro va sl pins s σ H x y v u Q I rv ru h;obtain ⟨Hs,dx,dy,sub,rx,ry,d,hd,q⟩:=h;unfold Ex at hd;split at hd
 ·split at hd
  ·rename_i d' he
   cases hd;obtain ⟨p,vs,rfl,qa,ra⟩:=rx.list sub;obtain ⟨w,hw,rw'⟩:=IQ ra he;exact yc va sl pins s σ H _ _ v u Q I rv ru ⟨p,vs,_,w,rfl,ry.int,qa,hw,q _ H Hs (.refl sub) rw'⟩
  ·cases hd
 ·split at hd
  ·rename_i d' he
   cases hd;obtain ⟨p,vs,rfl,qa,ra,_⟩:=rx.tuple sub;obtain ⟨w,hw,rw'⟩:=IQ ra he;exact SQ va sl pins s σ H _ _ v u Q I rv ru ⟨p,vs,_,w,rfl,ry.int,qa,hw,q _ H Hs (.refl sub) rw'⟩
  ·cases hd
 ·split at hd
  ·rename_i hz
   split at hd
   ·rename_i k he
    cases hd;exact SS va sl pins s σ H _ _ v u Q I rv ru ⟨_,_,k,rx.str,ry.int,bh (cf hz),he,q _ H Hs (.refl sub) (.str _)⟩
   ·cases hd
  ·cases hd
 ·cases hd
theorem Tb (x y:D) (c:Str) (n:Option D):Ex x y≠.ex c n:=by
 unfold Ex;split<;>(try split)<;>(try split)<;>exact fun h=>by cases h
theorem UP (ha:JB c a ga) (hb:JB c b gb) (hs:yb b:=by exact fun _ _=>rfl):JE c (.Subscript a b pos) (g2 ga gb Ex):=.of fun ρ=>tJ (Rl WT (ha ρ) (hb ρ) hs) fun σ H Q q=>two Tb q
def AE (ds:List D) (lo hi:Option Int):List D:=(ds.drop (HT.iW ds.length 0 lo)).take (HT.iW ds.length ds.length hi-HT.iW ds.length 0 lo)
theorem IR    (h:RDs K H vs ds) (lo hi:Option Int):RDs K H (DW vs lo hi) (AE ds lo hi):=by
 unfold DW AE;rw [h.length];exact (h.drop _).take _
def G8:D->Option Int->Option Int->R D
 |.list xs,lo,hi=>.ok (.list (AE xs lo hi))
 |.tuple xs,lo,hi=>.ok (.tuple (AE xs lo hi))
 |_,_,_=>.no
inductive Rx (K:a7) (x:V) (lo:Option Int) (hi:Option Int) (H:Hp) (Q:VK):Prop
 |mk (Hs dx:_) (h0:dn Hs H) (h1:RB K H Hs x dx) (h2:∃ d,G8 dx lo hi=.ok d/\∀ v H' Hs',cD H Hs H' Hs'->RD K Hs' v d->Q v H'):Rx K x lo hi H Q
def WU (K:a7):V->Option Int->Option Int->Hp->VK->Prop:=Rx K
theorem WV {X:Cx}:Uo X (WU X.K):=by
 intro pins s σ H x v vl vu lo hi sl Q I rx hs pl pu h;obtain ⟨Hs,dx,sub,rb,d,hd,q⟩:=h;unfold G8 at hd;split at hd
 ·cases hd;obtain ⟨p,vs,rfl,qa,ra⟩:=rb.list sub;exact PU pins s σ H _ v vl vu lo hi sl Q I rx hs pl pu ⟨p,vs,rfl,qa,fun l hl=>q _ _ _ (.new sub hl) (.list (.of aT) ((IR ra lo hi).same (cD.new sub hl).sh))⟩
 ·cases hd;obtain ⟨p,vs,rfl,qa,ra,_⟩:=rb.tuple sub;by_cases hw:HT.iW vs.length 0 lo=0/\HT.iW vs.length vs.length hi=vs.length
  ·refine Qb pins s σ H _ v vl vu lo hi sl Q I rx hs pl pu ⟨p,vs,rfl,qa,hw,?_⟩;rcases rb with rb|⟨_,_,_,_,_,ow⟩
   ·refine q _ H Hs (.refl sub) ?_;unfold AE;rw [<- ra.length,hw.1,hw.2,ra.length];simpa using rb
   ·cases ow
  ·exact SO pins s σ H _ v vl vu lo hi sl Q I rx hs pl pu ⟨p,vs,rfl,qa,hw,fun l hl=>q _ _ _ (.new sub hl) (.tuple aT ((IR ra lo hi).same (cD.new sub hl).sh))⟩
 ·cases hd
inductive UQ (K:a7) (cls:Str->ah) (E:XK) (ρ:az) (r:R (Option Int)) (σ:St) (H:Hp) (Q:Option Int->Hp->Prop):Prop
 |mk (H0 Hs0:Hp) (la:Nat->Option ah) (Hs:Hp) (f:Fr K H0 Hs0 la ρ σ H Hs) (q:Fin K cls E H Hs r fun d=>∀ H' Hs',cD H Hs H' Hs'->Q d H'):UQ K cls E ρ r σ H Q
def WW (K:a7) (cls:Str->ah) (E:XK) (ρ:az) (r:R (Option Int)):TO:=UQ K cls E ρ r
structure JO (c:C) (e:Option bL) (g:az->R (Option Int)):Prop where of ::
 run:∀ ρ,PO c.X e (WW c.X.K c.cls c.E ρ (g ρ))
instance {c:C}{e:Option bL}{g:az->R (Option Int)}:CoeFun (JO c e g) (fun _=>∀ ρ,PO c.X e (WW c.X.K c.cls c.E ρ (g ρ))):=⟨JO.run⟩
theorem Xv {X:Cx}{e:Option bL}{t t':TO} (h:PO X e t) (m:∀ σ H Q,t' σ H Q->t σ H Q):PO X e t':=fun pins s σ H Q I q=>h pins s σ H Q I (m σ H Q q)
def Af:az->R (Option Int):=fun _=>.ok none
def xP (g:az->R D):az->R (Option Int):=fun ρ=>(g ρ).bind fun d=>match d with
 |.int i=>.ok (some i)
 |_=>.no
theorem ji:JO c none Af:=.of fun ρ=>Xv PN fun σ H Q h_0=>by obtain ⟨H0,Hs0,la,Hs,f,q⟩:=h_0;exact q H Hs (.refl f.st.sub)
theorem ig (h:JE c e g):JO c (some e) (xP g):=.of fun ρ=>Xv (PP (h ρ)) fun σ H Q h_1=>by
 obtain ⟨H0,Hs0,la,Hs,f,q⟩:=h_1;refine CS f q fun d v H1 Hs1 e1 s1 f1 r1=>?_;unfold xP at q;rw [e1,bind_ok] at q;cases r1 with
 |int i=>exact ⟨i,rfl,q H1 Hs1 s1⟩
 |_=>exact q.elim
theorem UR {K:a7}{cls:Str->ah}{E:XK}{ρ:az}{r:R (Option Int)}{β:Type}{k:Option Int->R β}{σ:St}{H:Hp}{H0 Hs0 Hs:Hp}{la:Nat->Option ah}{Q:Option Int->Hp->Prop}{q:β->Prop} (f:Fr K H0 Hs0 la ρ σ H Hs)
  (h:Fin K cls E H Hs (r.bind k) q) (m:∀ d H' Hs',r=.ok d->cD H Hs H' Hs'->Fr K H0 Hs0 la ρ σ H' Hs'->Q d H'):WW K cls E ρ r σ H Q:=by
 refine ⟨H0,Hs0,la,Hs,f,?_⟩;cases r with
 |ok d=>exact fun H' Hs' s=>m d H' Hs' rfl s (f.step s)
 |ex c n=>exact h
 |no=>exact h
def yf (g:az->R D) (gl gh:az->R (Option Int)):az->R D:=fun ρ=>(g ρ).bind fun x=>(gl ρ).bind fun l=>(gh ρ).bind fun h=>G8 x l h
theorem gM {lo hi:Option bL}{gl gh:az->R (Option Int)}{p2:Pos} (he:JB c e g) (hl:JO c lo gl) (hh:JO c hi gh):JE c (.Subscript e (.Slice lo hi none p2) pos) (yf g gl gh):=.of fun ρ=>tJ (Mp WV (he ρ) (hl ρ) (hh ρ)) fun σ H Q h_2=>by
 obtain ⟨H0,Hs0,la,Hs,f,q⟩:=h_2;refine one f q fun d v H1 Hs1 e1 s1 f1 r1=>?_;unfold yf at q;rw [e1,bind_ok] at q;refine UR f1 (q.on s1 (q':=fun _=>True) fun _ _=>trivial) fun l H2 Hs2 e2 s2 f2=>?_;rw [e2,bind_ok] at q;refine UR f2 (q.on (s1.trans s2) (q':=fun _=>True) fun _ _=>trivial) fun h H3 Hs3 e3 s3 f3=>?_;rw [e3,bind_ok] at q;cases hr:G8 d l h with
 |ok z=>rw [hr] at q;exact ⟨Hs3,d,f3.st.sub,(r1.step s2).step s3,z,hr,fun w H4 Hs4 s4 r4=>q w H4 Hs4 (s1.trans (s2.trans (s3.trans s4))) r4⟩
 |ex c n=>unfold G8 at hr;split at hr<;>cases hr
 |no=>rw [hr] at q;exact q.elim
inductive Xw (K:a7) (h:List D->R D) (xs:List V) (H:Hp) (Q:VK):Prop
 |mk (Hs ds:_) (h0:dn Hs H) (h1:P5 K H Hs xs ds) (h2:∃ d,h ds=.ok d/\∀ v H' Hs',cD H Hs H' Hs'->RD K Hs' v d->Q v H'):Xw K h xs H Q
def rC (K:a7) (h:List D->R D):List V->Hp->VK->Prop:=Xw K h
def Nb (X:Cx) (f:ae) (h:List D->R D):Prop:=jN X f (rC X.K h)/\∀ x c n,h x≠.ex c n
def bP (gs:az->R (List D)) (h:List D->R D):az->R D:=fun ρ=>(gs ρ).bind h
theorem Ry {K:a7}{cls:Str->ah}{E:XK}{h:List D->R D}{gs:az->R (List D)}{ρ:az}{σ:St}{H:Hp}{Q:VK} (hx:∀ x c n,h x≠.ex c n) (q:TR K cls E ρ (bP gs h ρ) σ H Q):TZ (rC K h) (W2 K cls E ρ (gs ρ)) σ H Q:=by
 obtain ⟨H0,Hs0,la,Hs,f,q⟩:=q;refine IM f q fun ds vs H1 Hs1 e1 s1 f1 r1=>?_;unfold bP at q;rw [e1,bind_ok] at q;cases hr:h ds with
 |ok d =>
  rw [hr] at q;exact ⟨Hs1,ds,f1.st.sub,r1,d,hr,fun w H3 Hs3 s3 r3=>q w H3 Hs3 (s1.trans s3) r3⟩
 |ex c n=>exact (hx ds c n hr).elim
 |no=>rw [hr] at q;exact q.elim
variable {es:List bL}{gs:az->R (List D)}{x:Str}{p:Pos}{id T:String}{h:List D->R D}
theorem bM (hc:Nb c.X (.builtin id) h) (hg:Gl c.X x) (hm:c.X.mg x=none) (hv:iq x=some (.builtin id)) (ha:Qe c (e::es) gs) (hn:x≠"__name__":=by decide) (hdb:(x==("__debug__" : Str))=false:=by decide)
  (he:aw (e::es) c.X.env=(false,cz e c.X.env)::aw es c.X.env:=by rfl) (hpl:(gL pos (aw es c.X.env)).any (·.1)=false:=by rfl):JE c (.Call (.Name x p) (e::es) [] pos) (bP gs h):=.of fun ρ=>tJ (oO hc.1 hg hm hv (ha ρ) hn hdb he hpl) fun σ H Q q=>Ry hc.2 q
theorem dz (hc:Nb c.X (.type T) h) (hg:Gl c.X x) (hm:c.X.mg x=none) (hv:iq x=some (.type T)) (ha:Qe c (e::es) gs) (hn:x≠"__name__":=by decide) (hdb:(x==("__debug__" : Str))=false:=by decide)
  (he:aw (e::es) c.X.env=(false,cz e c.X.env)::aw es c.X.env:=by rfl) (hpl:(gL pos (aw es c.X.env)).any (·.1)=false:=by rfl):JE c (.Call (.Name x p) (e::es) [] pos) (bP gs h):=.of fun ρ=>tJ (wk hc.1 hg hm hv (ha ρ) hn hdb he hpl) fun σ H Q q=>Ry hc.2 q
end
end
section
section
theorem P5.one    (h:P5 K H Hs xs [d]):∃ x,xs=[x]/\RB K H Hs x d:=by
 cases h with|cons a t=>cases t;exact ⟨_,rfl,a⟩
def hJ (h:D->R D):List D->R D
 |[d]=>h d
 |_=>.no
theorem wv  (hx:∀ d c n,h d≠.ex c n)
  (hr:∀ pins s σ H x u Q Hs d d',bx X pins σ H s->cY x u->dn Hs H->RB X.K H Hs x d->h d=.ok d'->(∀ v H' Hs',cD H Hs H' Hs'->RD X.K Hs' v d'->Q v H')->ak (ay X.prog X.w) X.A (call f [u]) (EP X pins σ Q) X.xe s):Nb X f (hJ h):=by
 refine ⟨fun pins s σ H xs us Q I r ⟨Hs,ds,sub,rb,d,hd,q⟩=>?_,fun x c n=>?_⟩
 ·unfold hJ at hd;split at hd
  ·obtain ⟨x,rfl,rx⟩:=rb.one;obtain ⟨u,rfl,ru⟩:=lC r;exact hr pins s σ H x u Q Hs _ _ I ru sub rx hd q
  ·cases hd
 ·unfold hJ;split
  ·exact hx _ _ _
  ·exact fun h=>by cases h
def iJ:D->R D
 |.list xs=>.ok (.int xs.length)
 |.tuple xs=>.ok (.int xs.length)
 |.str x=>if x.length<=1000 then .ok (.int x.length) else .no
 |_=>.no
theorem RDk.length   : ∀ {ds:List (D×D)},RDk K H vs ds->vs.length=ds.length:=by
 induction vs with
 |nil=>intro ds h;cases h;rfl
 |cons x r ih=>intro ds h;cases h with|cons a b=>exact congrArg (· + 1) (ih b)
theorem RB.dict    (sub:dn Hs H) (h:RB K H Hs v (.dict ds)):∃ a,v=.ref a/\((∃ kvs,H a=some (.dK kvs)/\RDk K Hs kvs ds)\/(∃ kvs,H a=some (.dT kvs)/\kvs≠[]/\RDt K Hs kvs ds)\/∃ o kvs es,ds=(.none,.none)::es/\H a=some (.frz o (.dT kvs))/\kvs≠[]/\RDt K Hs kvs es):=by
 rcases h with h|⟨a,o,rfl,h2,h3,h4⟩
 ·cases h with
  |dictK q r=>exact ⟨_,rfl,.inl ⟨_,sub _ _ q,r⟩⟩
  |dictT q n r=>exact ⟨_,rfl,.inr (.inl ⟨_,sub _ _ q,n,r⟩)⟩
  |dictF q n r=>exact ⟨_,rfl,.inr (.inr ⟨_,_,_,rfl,sub _ _ q,n,r⟩)⟩
 ·cases h4 with
  |dK r=>exact ⟨a,rfl,.inl ⟨_,h2,r⟩⟩
  |dT n r=>exact ⟨a,rfl,.inr (.inl ⟨_,h2,n,r⟩)⟩
  |dF n r=>exact ⟨a,rfl,.inr (.inr ⟨_,_,_,rfl,h2,n,r⟩)⟩
theorem fB:Nb X (.builtin "len") (hJ iJ):=by
 refine wv (fun d c n=>?_) fun pins s σ H x u Q Hs d d' I ru sub rx hd q=>?_
 ·unfold iJ;split<;>(try split)<;>exact fun h=>by cases h
 ·unfold iJ at hd;split at hd
  ·cases hd;obtain ⟨a,vs,rfl,qa,ra⟩:=rx.list sub;refine uT pins s σ H _ _ Q I (.cons ru .nil) ⟨a,vs,rfl,.inl qa,?_⟩;rw [ra.length];exact q _ H Hs (.refl sub) (.int _)
  ·cases hd;obtain ⟨a,vs,rfl,qa,ra,_⟩:=rx.tuple sub;refine uT pins s σ H _ _ Q I (.cons ru .nil) ⟨a,vs,rfl,.inr qa,?_⟩;rw [ra.length];exact q _ H Hs (.refl sub) (.int _)
  ·split at hd
   ·rename_i hz
    cases hd;exact Cy pins s σ H _ _ Q I (.cons ru .nil) ⟨_,by rw [rx.str],bh (cf hz),q _ H Hs (.refl sub) (.int _)⟩
   ·cases hd
  ·cases hd
def y_ (T:String) (d:D):Bool:=match T,d with
 | "str",.str _=>true
 | "int",.int _=>true
 | "int",.bool _=>true
 | "bool",.bool _=>true
 | "list",.list _=>true
 | "tuple",.tuple _=>true
 |_,_=>false
def v9 (g:az->R D) (T:String):az->R D:=fun ρ=>(g ρ).bind fun d=>if qC d then .ok (.bool (y_ T d)) else .no
theorem Qj  (T:String) (hT:T="str"\/T="int"\/T="bool"\/T="list"\/T="tuple") (h:qC d=true):db K (.type (WR d)) (.type T)=some (y_ T d):=by
 rcases hT with rfl|rfl|rfl|rfl|rfl<;>cases d<;>first|rfl|simp [qC] at h
theorem mr      (h:JB c e g) (hgi:Gl c.X "isinstance") (hi:c.X.mg "isinstance"=none) (hgT:Gl c.X T) (hT:c.X.mg T=none) (hv:iq T=some (.type Ts))
  (hTs:Ts="str"\/Ts="int"\/Ts="bool"\/Ts="list"\/Ts="tuple")
  (hn:T≠"__name__":=by decide) (hdb:(T==("__debug__" : Str))=false:=by decide)
  (he:aw [e,.Name T p2] c.X.env=(false,cz e c.X.env)::aw [.Name T p2] c.X.env:=by rfl) (hpl:(gL pos (aw [.Name T p2] c.X.env)).any (·.1)=false:=by rfl) :
  JE c (.Call (.Name "isinstance" p) [e,.Name T p2] [] pos) (v9 g Ts):=.of fun ρ=>by
 refine tJ (oO MX hgi hi k7 (bT (h ρ) (bT (Iv hgT hT hv (v:=.ty Ts) rfl hn hdb) eA) he) (by decide) (by decide) he hpl) fun σ H Q h_0=>?_;obtain ⟨H0,Hs0,la,Hs,f,q⟩:=h_0;refine one f q fun d v H1 Hs1 e1 s1 f1 r1=>?_;unfold v9 at q;rw [e1,bind_ok] at q;by_cases hd:qC d=true
 ·rw [if_pos hd] at q;exact ⟨v,d,Ts,_,rfl,(r1.full f1.st.sub).rep hd,Qj Ts hTs hd,q _ H1 Hs1 s1 (.bool _)⟩
 ·rw [if_neg hd] at q;exact q.elim
def nq:List D->Option (List Bool)
 |[]=>some []
 |.bool b::r=>(nq r).map (b::·)
 |_::_=>none
theorem CY:∀ {bs:List Bool},nq ds=some bs->ds=bs.map cG:=by
 induction ds with
 |nil=>intro bs h;cases h;rfl
 |cons d r ih =>
  intro bs h;cases d with
  |bool b =>
   have h:(nq r).map (b::·)=some bs:=h;cases hr:nq r with
   |none=>rw [hr] at h;cases h
   |some z=>rw [hr] at h;cases h;rw [ih hr];rfl
  |_=>cases h
def gF (k:List Bool->Bool):D->R D
 |.list ds=>match nq ds with
  |some bs=>.ok (.bool (k bs))
  |none=>.no
 |_=>.no
theorem Ey {id:String}{k:List Bool->Bool} (h:jN X (.builtin id) (fun xs H Q=>∃ p,∃ bs:List Bool,xs=[.ref p]/\nl X.K H p (bs.map V.bl)/\Q (.bl (k bs)) H)):Nb X (.builtin id) (hJ (gF k)):=by
 refine wv (fun d c n=>?_) fun pins s σ H x u Q Hs d d' I ru sub rx hd q=>?_
 ·unfold gF;split<;>(try split)<;>exact fun h=>by cases h
 ·unfold gF at hd;split at hd
  ·split at hd
   ·rename_i bs hb
    cases hd;obtain ⟨a,vs,rfl,qa,ra⟩:=rx.list sub;rw [CY hb] at ra;rw [AC ra] at qa;exact h pins s σ H _ _ Q I (.cons ru .nil) ⟨a,bs,rfl,qa,q _ H Hs (.refl sub) (.bool _)⟩
   ·cases hd
  ·cases hd
theorem pM (hc:X.calm=true):Nb X (.builtin "all") (hJ (gF fun bs=>bs.all id)):=Ey (yO hc)
theorem He (hc:X.calm=true):Nb X (.builtin "any") (hJ (gF fun bs=>bs.any id)):=Ey (yP hc)
def oh (x:Str):List D:=x.cps.toList.map fun c=>aD ⟨#[c]⟩
theorem KC  (x:Str):RDs K H (yW x) (oh x):=by
 unfold yW oh;induction x.cps.toList with
 |nil=>exact .nil
 |cons a r ih=>exact .cons (.str _) ih
def gW:D->R D
 |.list xs=>.ok (.tuple xs)
 |.tuple xs=>.ok (.tuple xs)
 |.str x=>if x.cps.size<=1000 then .ok (.tuple (oh x)) else .no
 |_=>.no
theorem iB (hc:X.calm=true):Nb X (.type "tuple") (hJ gW):=by
 refine wv (fun d c n=>?_) fun pins s σ H x u Q Hs d d' I ru sub rx hd q=>?_
 ·unfold gW;split<;>(try split)<;>exact fun h=>by cases h
 ·unfold gW at hd;split at hd
  ·cases hd;obtain ⟨a,vs,rfl,qa,ra⟩:=rx.list sub;exact tF pins s σ H _ _ Q I (.cons ru .nil) ⟨a,vs,rfl,.inl ⟨qa,fun l hl=>q _ _ _ (.new sub hl) (.tuple aT (ra.same (cD.new sub hl).sh))⟩⟩
  ·cases hd;obtain ⟨a,vs,rfl,qa,ra,_⟩:=rx.tuple sub;refine tF pins s σ H _ _ Q I (.cons ru .nil) ⟨a,vs,rfl,.inr ⟨qa,?_⟩⟩;rcases rx with rx|⟨_,_,_,_,_,ow⟩
   ·exact q _ H Hs (.refl sub) rx
   ·cases ow
  ·split at hd
   ·rename_i hz
    cases hd;exact xM hc pins s σ H _ _ Q I (.cons ru .nil) ⟨_,by rw [rx.str],bh (cf hz),fun l hl=>q _ _ _ (.new sub hl) (.tuple aT (KC _))⟩
   ·cases hd
  ·cases hd
def By:D->R D
 |.list xs=>.ok (.list xs)
 |.tuple xs=>.ok (.list xs)
 |_=>.no
theorem Qk:Nb X (.type "list") (hJ By):=by
 refine wv (fun d c n=>?_) fun pins s σ H x u Q Hs d d' I ru sub rx hd q=>?_
 ·unfold By;split<;>exact fun h=>by cases h
 ·unfold By at hd;split at hd
  ·cases hd;obtain ⟨a,vs,rfl,qa,ra⟩:=rx.list sub;exact uU pins s σ H _ _ Q I (.cons ru .nil) ⟨a,vs,rfl,.inl qa,fun l hl=>q _ _ _ (.new sub hl) (.list (.of aT) (ra.same (cD.new sub hl).sh))⟩
  ·cases hd;obtain ⟨a,vs,rfl,qa,ra,_⟩:=rx.tuple sub;exact uU pins s σ H _ _ Q I (.cons ru .nil) ⟨a,vs,rfl,.inr qa,fun l hl=>q _ _ _ (.new sub hl) (.list (.of aT) (ra.same (cD.new sub hl).sh))⟩
  ·cases hd
def gG:List D->Option (List Str)
 |[]=>some []
 |.str b::r=>(gG r).map (b::·)
 |_::_=>none
theorem rA:∀ {bs:List Str},gG ds=some bs->ds=bs.map aD:=by
 induction ds with
 |nil=>intro bs h;cases h;rfl
 |cons d r ih =>
  intro bs h;cases d with
  |str b =>
   have h:(gG r).map (b::·)=some bs:=h;cases hr:gG r with
   |none=>rw [hr] at h;cases h
   |some z=>rw [hr] at h;cases h;rw [ih hr];rfl
  |_=>cases h
@[simp] theorem strsOf_map:∀ bs:List Str,gG (bs.map aD)=some bs
 |[]=>rfl
 |b::r=>by show (gG (r.map aD)).map (b::·)=_;rw [strsOf_map r];rfl
def sx:D->R D
 |.list ds=>match gG ds with
  |some ss=>if ss.length<64 then .ok (.list ((jO ss).map .str)) else .no
  |none=>.no
 |_=>.no
theorem KD:Nb X (.builtin "sorted") (hJ sx):=by
 refine wv (fun d c n=>?_) fun pins s σ H x u Q Hs d d' I ru sub rx hd q=>?_
 ·unfold sx;split<;>(try split)<;>(try split)<;>exact fun h=>by cases h
 ·unfold sx at hd;split at hd
  ·split at hd
   ·split at hd
    ·rename_i ss hs hz
     cases hd;obtain ⟨a,vs,rfl,qa,ra⟩:=rx.list sub;rw [rA hs] at ra;rw [pJ ra] at qa;exact wu pins s σ H _ _ Q I (.cons ru .nil) ⟨a,ss,rfl,qa,hz,fun l hl=>q _ _ _ (.new sub hl) (.list (.of aT) (yX _))⟩
    ·cases hd
   ·cases hd
  ·cases hd
end
end
section
inductive US (K:a7) (cls:Str->ah) (n:Nat) (F:List D->R D) (vs:List V) (H:Hp) (Q:VK) (E:XK):Prop
 |mk (Hs ds:_) (h0:dn Hs H) (h1:ds.length=n) (h2:RDs K Hs vs ds) (h3:Fin K cls E H Hs (F ds) fun d=>∀ v H' Hs',cD H Hs H' Hs'->RD K Hs' v d->Q v H'):US K cls n F vs H Q E
def Rz (K:a7) (cls:Str->ah) (n:Nat) (F:List D->R D):Sp:=US K cls n F
structure Fn (P:bd) (w:bv) (K:a7) (mg:Str->Option ae) (base:bt) (cls:Str->ah) (x:Str) (k n:Nat) (F:List D->R D):Prop where
 ex:∃ f fd ps,sZ P w K mg base (ja P w) k f fd ps (Rz K cls n F)/\mg x=some (.ref f)/\dL K (.ref f)=true/\k8 K fd ps []
section
def dE (n:Nat) (F:List D->R D) (gs:az->R (List D)):az->R D:=fun ρ=>(gs ρ).bind fun ds=>if ds.length=n then F ds else .no
theorem Ql  (G:Fn c.X.prog c.X.w c.X.K c.X.mg c.X.base c.cls x k n F) (hr:jY k c.X.A) (hg:Gl c.X x) (hx:o6 (ja c.X.prog c.X.w) c.X c.E) (ha:G5 c (e::es) gs)
  (hdb:(x==("__debug__" : Str))=false:=by decide) (he:aw (e::es) c.X.env=(false,cz e c.X.env)::aw es c.X.env:=by rfl) (hpl:(gL pos (aw es c.X.env)).any (·.1)=false:=by rfl) :
  JE c (.Call (.Name x p) (e::es) [] pos) (dE n F gs):=.of fun ρ=>by
 obtain ⟨f,fd,ps,hf,hm,hk,hb⟩:=G.ex;refine tJ (PK (E:=c.E) hf hr hg hm hk hb .nil hx (ha ρ) hdb he hpl) fun σ H Q h_0=>?_;obtain ⟨H0,Hs0,la,Hs,fr,q⟩:=h_0;refine Em fr q fun ds vs H1 Hs1 e1 s1 f1 r1=>?_;unfold dE at q;rw [e1,bind_ok] at q;by_cases hn:ds.length=n
 ·rw [if_pos hn] at q;show Rz _ _ _ _ (vs++[]) _ _ _;rw [cr];exact ⟨Hs1,ds,f1.st.sub,hn,r1,q.on s1 fun d k v H2 Hs2 s2 r2=>k v H2 Hs2 (s1.trans s2) r2⟩
 ·rw [if_neg hn] at q;exact q.elim
end
inductive Fl where
 |nx (ρ:az)
 |rt (d:D)
 |bk (ρ:az)
 |ct (ρ:az)
def oj (K:a7) (cls:Str->ah) (E:XK) (H0 Hs0:Hp) (la:Nat->Option ah) (D:Ck) (r:R Fl):Prop:=match r with
 |.ok (.nx ρ')=>∀ σ' H' Hs',Fr K H0 Hs0 la ρ' σ' H' Hs'->D.nx σ' H'
 |.ok (.bk ρ')=>∀ σ' H' Hs',Fr K H0 Hs0 la ρ' σ' H' Hs'->D.bk σ' H'
 |.ok (.ct ρ')=>∀ σ' H' Hs',Fr K H0 Hs0 la ρ' σ' H' Hs'->D.ct σ' H'
 |.ok (.rt d)=>∀ v H' Hs',cD H0 Hs0 H' Hs'->RD K Hs' v d->D.rt v H'
 |.ex c n=>∀ H' Hs',cD H0 Hs0 H' Hs'->XW K cls E c n H' Hs'
 |.no=>False
inductive Xx (K:a7) (cls:Str->ah) (E:XK) (ρ:az) (r:R Fl) (D:Ck) (σ:St) (H:Hp):Prop
 |mk (H0 Hs0:Hp) (la:Nat->Option ah) (Hs:Hp) (f:Fr K H0 Hs0 la ρ σ H Hs) (q:oj K cls E H0 Hs0 la D r):Xx K cls E ρ r D σ H
def SR (K:a7) (cls:Str->ah) (E:XK) (ρ:az) (r:R Fl):TS:=Xx K cls E ρ r
structure JS (c:C) (s:cF) (g:az->R Fl):Prop where of ::
 run:∀ ρ,PS c.X s (SR c.X.K c.cls c.E ρ (g ρ))
instance {c:C}{s:cF}{g:az->R Fl}:CoeFun (JS c s g) (fun _=>∀ ρ,PS c.X s (SR c.X.K c.cls c.E ρ (g ρ))):=⟨JS.run⟩
structure Hf (c:C) (s:List cF) (g:az->R Fl):Prop where of ::
 run:∀ ρ,Cm c.X s (SR c.X.K c.cls c.E ρ (g ρ))
instance {c:C}{s:List cF}{g:az->R Fl}:CoeFun (Hf c s g) (fun _=>∀ ρ,Cm c.X s (SR c.X.K c.cls c.E ρ (g ρ))):=⟨Hf.run⟩
theorem Fr.set     (f:Fr K H0 Hs0 la ρ σ H Hs) (i:Nat)  (r:RD K Hs v d):Fr K H0 Hs0 la (ρ.set i (.shr d)) (σ.set i (some v)) H Hs:=by
 have hl:=f.len;have nx:∀ {j:Nat}{s:Sl},(∀ d,s≠.shr d)->(ρ.set i (.shr d))[j]?=some s->ρ[j]?=some s/\i≠j:=fun {j s} hs e=>by
  by_cases hj:i=j
  ·subst hj;by_cases hi:i<ρ.length
   ·rw [aG hi] at e;exact absurd (bD e).symm (hs d)
   ·rw [cp (by simpa using hi)] at e;cases e
  ·rw [aj hj] at e;exact ⟨e,hj⟩
 refine ⟨f.st,by simp [hl],fun j e h=>?_,fun j e h=>?_,fun j e h=>?_,fun j k d1 d2 a h1 h2 h3 h4=>?_,f.lh,fun j e h=>?_,fun j k d1 d2 h1 h2=>?_⟩
 ·by_cases hj:i=j
  ·subst hj;by_cases hi:i<ρ.length
   ·rw [aG hi] at h;cases h;exact ⟨v,aG (by omega),r⟩
   ·rw [cp (by simpa using hi)] at h;cases h
  ·rw [aj hj] at h ⊢;exact f.sh j e h
 ·obtain ⟨h,hj⟩:=nx (fun _ z=>by cases z) h;rw [aj hj];exact f.ow j e h
 ·obtain ⟨h,hj⟩:=nx (fun _ z=>by cases z) h;rw [aj hj];exact f.lk j e h
 ·obtain ⟨h1,n1⟩:=nx (fun _ z=>by cases z) h1;obtain ⟨h2,n2⟩:=nx (fun _ z=>by cases z) h2;rw [aj n1] at h3;rw [aj n2] at h4;exact f.dj j k d1 d2 a h1 h2 h3 h4
 ·obtain ⟨h,hj⟩:=nx (fun _ z=>by cases z) h;obtain ⟨a,as,O⟩:=f.o2 j e h;refine ⟨a,as,by rw [aj hj];exact O.at_,O.ob,O.nd,O.out,fun b hb k e' hk=>?_,O.inn⟩;obtain ⟨hk,nk⟩:=nx (fun _ z=>by cases z) hk;rw [aj nk];exact O.dj b hb k e' hk
 ·exact f.u2 j k d1 d2 (nx (fun _ z=>by cases z) h1).1 (nx (fun _ z=>by cases z) h2).1
theorem Fr.setO     (f:Fr K H0 Hs0 la ρ σ H Hs) (i:Nat)   (n:H a=none) (r:mW K Hs o d):Fr K H0 Hs0 la (ρ.set i (.own d)) (σ.set i (some (.ref a))) (upd H a o) Hs:=by
 have f':=f.step (cD.mine (o:=o) f.st.sub n);have hl:=f.len;have n0:H0 a=none:=f.st.all.free n;have ns:Hs a=none:=f.st.sub.free n;have nx:∀ {j:Nat}{s:Sl},(∀ d,s≠.own d)->(ρ.set i (.own d))[j]?=some s->ρ[j]?=some s/\i≠j:=fun {j s} hs e=>by
  by_cases hj:i=j
  ·subst hj;by_cases hi:i<ρ.length
   ·rw [aG hi] at e;exact absurd (bD e).symm (hs d)
   ·rw [cp (by simpa using hi)] at e;cases e
  ·rw [aj hj] at e;exact ⟨e,hj⟩
 have ne:∀ j e,ρ[j]?=some (Sl.own e)->σ[j]?≠some (some (V.ref a)):=fun j e h z=>by
  obtain ⟨b,o',h1,h2,_⟩:=f.ow j e h;rw [z] at h1;cases h1;rw [n] at h2;cases h2
 refine ⟨f'.st,by simp [hl],fun j e h=>?_,fun j e h=>?_,fun j e h=>?_,fun j k d1 d2 b h1 h2 h3 h4=>?_,f.lh,fun j e h=>?_,fun j k d1 d2 h1 h2=>?_⟩
 ·obtain ⟨h,hj⟩:=nx (fun _ z=>by cases z) h;rw [aj hj];exact f'.sh j e h
 ·by_cases hj:i=j
  ·subst hj;by_cases hi:i<ρ.length
   ·rw [aG hi] at h;cases h;exact ⟨a,o,aG (by omega),aT,ns,n0,r⟩
   ·rw [cp (by simpa using hi)] at h;cases h
  ·rw [aj hj] at h ⊢;exact f'.ow j e h
 ·obtain ⟨h,hj⟩:=nx (fun _ z=>by cases z) h;rw [aj hj];exact f'.lk j e h
 ·by_cases hj:i=j
  ·by_cases hk:i=k
   ·exact hj.symm.trans hk
   ·rw [aj hk] at h2 h4;subst hj;by_cases hi:i<ρ.length
    ·rw [aG (by omega)] at h3;cases h3;exact (ne k d2 h2 h4).elim
    ·rw [cp (by simpa using hi)] at h1;cases h1
  ·rw [aj hj] at h1 h3;by_cases hk:i=k
   ·subst hk;by_cases hi:i<ρ.length
    ·rw [aG (by omega)] at h4;cases h4;exact (ne j d1 h1 h3).elim
    ·rw [cp (by simpa using hi)] at h2;cases h2
   ·rw [aj hk] at h2 h4;exact f.dj j k d1 d2 b h1 h2 h3 h4
 ·obtain ⟨h,hj⟩:=nx (fun _ z=>by cases z) h;obtain ⟨b,as,O⟩:=f.o2 j e h;have nb:∀ c∈b::as,c≠a:=fun c hc z=>by
   subst z;rcases List.mem_cons.mp hc with z|z
   ·have:=O.ob;rw [<- z,n] at this;cases this
   ·obtain ⟨o,ho,_⟩:=O.inn.there z;rw [n] at ho;cases ho
  refine ⟨b,as,by rw [aj hj];exact O.at_,by rw [aO (nb b aq)];exact O.ob,O.nd,O.out,fun c hc k e' hk=>?_,O.inn.upd fun z=>nb a (ao _ z) rfl⟩;by_cases nk:i=k
  ·subst nk;intro z;by_cases hi:i<ρ.length
   ·rw [aG (by omega)] at z;cases z;exact nb _ hc rfl
   ·rw [cp (by simp;omega)] at hk;cases hk
  ·rw [aj nk] at hk ⊢;exact O.dj c hc k e' hk
 ·exact f.u2 j k d1 d2 (nx (fun _ z=>by cases z) h1).1 (nx (fun _ z=>by cases z) h2).1
theorem Fr.write     (f:Fr K H0 Hs0 la ρ σ H Hs) (i:Nat)   (hi:ρ[i]?=some (Sl.own d)) (hs:σ[i]?=some (some (V.ref a))) (r:mW K Hs o d'):Fr K H0 Hs0 la (ρ.set i (.own d')) σ (upd H a o) Hs:=by
 obtain ⟨a',o',h1,h2,h3,h4,h5⟩:=f.ow i d hi;rw [hs] at h1;cases h1;have hl:=f.len;have hil:i<ρ.length:=(List.getElem?_eq_some_iff.mp hi).1;have nx:∀ {j:Nat}{s:Sl},(∀ d,s≠.own d)->(ρ.set i (.own d'))[j]?=some s->ρ[j]?=some s/\i≠j:=fun {j s} hs e=>by
  by_cases hj:i=j
  ·subst hj;rw [aG hil] at e;exact absurd (bD e).symm (hs d')
  ·rw [aj hj] at e;exact ⟨e,hj⟩
 refine ⟨⟨fun b u e=>?_,f.st.sh,fun b u e=>?_,f.st.out⟩,by simp [hl],fun j e h=>?_,fun j e h=>?_,fun j e h=>?_,fun j k d1 d2 b h1 h2 h3 h4=>?_,f.lh,fun j e h=>?_,fun j k d1 d2 h1 h2=>?_⟩
 ·rw [aO (aY e h4)];exact f.st.all b u e
 ·rw [aO (aY e h3)];exact f.st.sub b u e
 ·obtain ⟨h,hj⟩:=nx (fun _ z=>by cases z) h;exact f.sh j e h
 ·by_cases hj:i=j
  ·subst hj;rw [aG hil] at h;cases h;exact ⟨a,o,hs,aT,h3,h4,r⟩
  ·rw [aj hj] at h;obtain ⟨b,u,k1,k2,k3,k4,k5⟩:=f.ow j e h;refine ⟨b,u,k1,?_,k3,k4,k5⟩;rw [aO (fun z=>hj ?_)]
   ·exact k2
   ·subst z;exact f.dj i j d e b hi h hs k1
 ·obtain ⟨h,hj⟩:=nx (fun _ z=>by cases z) h;obtain ⟨b,u,k1,k2,k3,k4,k5,k6⟩:=f.lk j e h;refine ⟨b,u,k1,k2,?_,k4,k5,k6⟩;rw [aO (aY k5 h4)];exact k3
 ·have own:∀ {j:Nat}{e:D},(ρ.set i (.own d'))[j]?=some (Sl.own e)->∃ e',ρ[j]?=some (Sl.own e'):=fun {j e} h=>by
   by_cases hj:i=j
   ·subst hj;exact ⟨d,hi⟩
   ·rw [aj hj] at h;exact ⟨e,h⟩
  obtain ⟨e1,h1⟩:=own h1;obtain ⟨e2,h2⟩:=own h2;exact f.dj j k e1 e2 b h1 h2 h3 h4
 ·obtain ⟨h,hj⟩:=nx (fun _ z=>by cases z) h;obtain ⟨b,as,O⟩:=f.o2 j e h;have nb:∀ c∈b::as,c≠a:=fun c hc z=>by
   subst z;exact O.dj c hc i d hi hs
  refine ⟨b,as,O.at_,by rw [aO (nb b aq)];exact O.ob,O.nd,O.out,fun c hc k e' hk=>?_,O.inn.upd fun z=>nb a (ao _ z) rfl⟩;by_cases nk:i=k
  ·subst nk;exact O.dj c hc i d hi
  ·rw [aj nk] at hk;exact O.dj c hc k e' hk
 ·exact f.u2 j k d1 d2 (nx (fun _ z=>by cases z) h1).1 (nx (fun _ z=>by cases z) h2).1
def fE (ρ:az):az:=ρ.map fun s=>match s with
 |.own d=>.shr d
 |.ow2 dss=>.shr (.list (dss.map .list))
 |s=>s
open Classical in
theorem Fr.share     (f:Fr K H0 Hs0 la ρ σ H Hs):∃ Hs',Fr K H0 Hs0 la (fE ρ) σ H Hs'/\cD H Hs H Hs'\/Fr K H0 Hs0 la (fE ρ) σ H Hs':=by
 let P:ah->Prop:=fun b=>(∃ (i:Nat) (d:D),ρ[i]?=some (Sl.own d)/\σ[i]?=some (some (V.ref b)))\/∃ (i:Nat) (dss:List (List D)) (a:ah) (as:List ah),ρ[i]?=some (Sl.ow2 dss)/\O2 K H0 H Hs ρ σ i dss a as/\b∈a::as
 let Hs':Hp:=fun b=>if P b then H b else Hs b
 have pos:∀ b,P b->Hs' b=H b:=fun b h=>if_pos h;have neg:∀ b,¬ P b->Hs' b=Hs b:=fun b h=>if_neg h;have up:dn Hs Hs':=fun b o e=>by
  by_cases h:P b
  ·rw [pos b h];exact f.st.sub b o e
  ·rw [neg b h];exact e
 have none0:∀ b o,H0 b=some o->¬ P b:=fun b o e hP=>by
  rcases hP with ⟨i,d,h1,h2⟩|⟨i,dss,a,as,h1,O,hb⟩
  ·obtain ⟨a,o',k1,_,_,k4,_⟩:=f.ow i d h1;rw [h2] at k1;cases k1;rw [e] at k4;cases k4
  ·have:=(O.out b hb).2;rw [e] at this;cases this
 have un:∀ {j:Nat}{s:Sl},(fE ρ)[j]?=some s->(∃ d,s=.shr d/\ρ[j]?=some (Sl.own d))\/(∃ dss:List (List D),s=.shr (.list (dss.map .list))/\ρ[j]?=some (Sl.ow2 dss))\/((∀ d,s≠.own d)/\(∀ d,s≠.ow2 d)/\ρ[j]?=some s):=fun {j s} e=>by
  unfold fE at e;rw [aJ] at e;cases h:ρ[j]? with
  |none=>rw [h] at e;cases e
  |some t =>
   rw [h] at e;cases t with
   |own d=>cases e;exact .inl ⟨d,rfl,rfl⟩
   |no=>cases e;exact .inr (.inr ⟨fun _ z=>(by cases z),fun _ z=>(by cases z),rfl⟩)
   |shr d=>cases e;exact .inr (.inr ⟨fun _ z=>(by cases z),fun _ z=>(by cases z),rfl⟩)
   |lck d=>cases e;exact .inr (.inr ⟨fun _ z=>(by cases z),fun _ z=>(by cases z),rfl⟩)
   |ow2 d=>cases e;exact .inr (.inl ⟨d,rfl,rfl⟩)
 refine ⟨Hs',.inr ⟨⟨f.st.all,f.st.sh.trans up,fun b o e=>?_,fun a o e t z=>?_⟩,by simp [fE,f.len],fun j d h=>?_,fun j d h=>?_,fun j d h=>?_,fun j k d1 d2 a h1 h2 _ _=>?_,f.lh,fun j d h=>?_,fun j k d1 d2 h1 h2=>?_⟩⟩
 ·by_cases h:P b
  ·rw [pos b h] at e;exact e
  ·rw [neg b h] at e;exact f.st.sub b o e
 ·rw [neg a (none0 a o e)];exact f.st.out a o e t z
 ·rcases un h with ⟨d',e,h'⟩|⟨dss,e,h'⟩|⟨_,_,h'⟩
  ·cases e;obtain ⟨a,o,k1,k2,k3,k4,k5⟩:=f.ow j d h';refine ⟨_,k1,?_⟩;have hp:Hs' a=some o:=by rw [pos a (.inl ⟨j,d,h',k1⟩)];exact k2
   have e:dn (upd Hs a o) Hs':=fun b u q=>by
    by_cases hb:b=a
    ·subst hb;rw [aT] at q;cases q;exact hp
    ·rw [aO hb] at q;exact up b u q
   exact (k5.share k3).same e
  ·cases e;obtain ⟨a,as,O⟩:=f.o2 j dss h';refine ⟨_,O.at_,?_⟩;have hp:∀ b∈a::as,∀ o,H b=some o->Hs' b=some o:=fun b hb o ho=>by rw [pos b (.inr ⟨j,dss,a,as,h',O,hb⟩)];exact ho
   refine .list (.of (hp a aq _ O.ob)) ?_;have go:∀ {as':List ah}{dss':List (List D)},(∀ b∈as',b∈a::as)->Bu K H Hs as' dss'->RDs K Hs' (as'.map V.ref) (dss'.map .list):=fun {as' dss'} hs hi=>by
    induction hi with
    |nil=>exact .nil
    |cons h1 h2 _ ih=>exact .cons (.list (.of (hp _ (hs _ aq) _ h1)) (h2.same up)) (ih fun b hb=>hs b (ao _ hb))
   exact go (fun b hb=>ao _ hb) O.inn
  ·obtain ⟨v,k1,k2⟩:=f.sh j d h';exact ⟨v,k1,k2.same up⟩
 ·rcases un h with ⟨d',e,h'⟩|⟨d',e,h'⟩|⟨n,_,h'⟩
  ·cases e
  ·cases e
  ·exact (n d rfl).elim
 ·rcases un h with ⟨d',e,h'⟩|⟨d',e,h'⟩|⟨_,_,h'⟩
  ·cases e
  ·cases e
  ·obtain ⟨a,o,k1,k2,k3,k4,k5,k6⟩:=f.lk j d h';exact ⟨a,o,k1,k2,k3,by rw [neg a (none0 a o k5)];exact k4,k5,k6.same up⟩
 ·rcases un h1 with ⟨d',e,h'⟩|⟨d',e,h'⟩|⟨n,_,h'⟩
  ·cases e
  ·cases e
  ·exact (n d1 rfl).elim
 ·rcases un h with ⟨d',e,h'⟩|⟨d',e,h'⟩|⟨_,n,h'⟩
  ·cases e
  ·cases e
  ·exact (n d rfl).elim
 ·rcases un h1 with ⟨d',e,h'⟩|⟨d',e,h'⟩|⟨_,n,h'⟩
  ·cases e
  ·cases e
  ·exact (n d1 rfl).elim
theorem Fr.shared     (f:Fr K H0 Hs0 la ρ σ H Hs):∃ Hs',Fr K H0 Hs0 la (fE ρ) σ H Hs':=by
 obtain ⟨Hs',h|h⟩:=f.share
 ·exact ⟨Hs',h.1⟩
 ·exact ⟨Hs',h⟩
section
variable {c:C}{e a b:bL}{g ga gb:az->R D}{pos:Pos}{x:Str}{st:cF}{bB:List cF}{gs gr:az->R Fl}
def aP (g h:az->R Fl):az->R Fl:=fun ρ=>(g ρ).bind fun fl=>match fl with
 |.nx ρ'=>h ρ'
 |fl=>.ok fl
theorem bY:Hf c [] (fun ρ=>.ok (.nx ρ)):=.of fun ρ=>WS Iw fun D σ H h_1=>by obtain ⟨H0,Hs0,la,Hs,f,q⟩:=h_1;exact q σ H Hs f
theorem aI (h:JS c st gs):Hf c [st] gs:=.of fun ρ=>Co (h ρ)
theorem au (h:JS c st gs) (hr:Hf c bB gr):Hf c (st::bB) (aP gs gr):=.of fun ρ pins s σ H D I h_2=>by
 obtain ⟨H0,Hs0,la,Hs,f,q⟩:=h_2;unfold aP at q;cases hg:gs ρ with
 |no=>rw [hg] at q;exact q.elim
 |ex x n =>
  rw [hg] at q;refine jM (h ρ) (oM (X:=c.X) (sts:=bB)) pins s σ H D I ⟨H0,Hs0,la,Hs,f,?_⟩;rw [hg];exact q
 |ok fl =>
  rw [hg,bind_ok] at q;cases fl with
  |nx ρ' =>
   refine jM (h ρ) (hr ρ') pins s σ H D I ⟨H0,Hs0,la,Hs,f,?_⟩;rw [hg];exact fun σ' H' Hs' f'=>⟨H0,Hs0,la,Hs',f',q⟩
  |rt d =>
   refine jM (h ρ) (oM (X:=c.X) (sts:=bB)) pins s σ H D I ⟨H0,Hs0,la,Hs,f,?_⟩;rw [hg];exact q
  |bk ρ' =>
   refine jM (h ρ) (oM (X:=c.X) (sts:=bB)) pins s σ H D I ⟨H0,Hs0,la,Hs,f,?_⟩;rw [hg];exact q
  |ct ρ' =>
   refine jM (h ρ) (oM (X:=c.X) (sts:=bB)) pins s σ H D I ⟨H0,Hs0,la,Hs,f,?_⟩;rw [hg];exact q
theorem sE            (f:Fr K H0 Hs0 la ρ σ H Hs)
  (h:oj K cls E H0 Hs0 la D' (r.bind k)) (m:∀ d v H' Hs',r=.ok d->cD H Hs H' Hs'->Fr K H0 Hs0 la ρ σ H' Hs'->RD K Hs' v d->Q v H'):TR K cls E ρ r σ H Q:=by
 refine ⟨H0,Hs0,la,Hs,f,?_⟩;cases r with
 |ok d=>exact fun v H' Hs' s r=>m d v H' Hs' rfl s (f.step s) r
 |ex c n=>exact fun H' Hs' s=>h H' Hs' (f.st.trans s)
 |no=>exact h
theorem sT            (f:Fr K H0 Hs0 la ρ σ H Hs)
  (h:oj K cls E H0 Hs0 la D' (r.bind k)) (m:∀ d H' Hs',r=.ok d->cD H Hs H' Hs'->Fr K H0 Hs0 la ρ σ H' Hs'->Q d H'):Kz K cls E ρ r σ H Q:=by
 refine ⟨H0,Hs0,la,Hs,f,?_⟩;cases r with
 |ok d=>exact fun H' Hs' s=>m d H' Hs' rfl s (f.step s)
 |ex c n=>exact fun H' Hs' s=>h H' Hs' (f.st.trans s)
 |no=>exact h
def cq (g:az->R D):az->R Fl:=fun ρ=>(g (fE ρ)).bind fun d=>.ok (.rt d)
theorem bu (h:JE c e g):JS c (.Return (some e) pos) (cq g):=.of fun ρ=>AD (GB (h (fE ρ))) fun D σ H h_3=>by
 obtain ⟨H0,Hs0,la,Hs,f,q⟩:=h_3;obtain ⟨Hs',f'⟩:=f.shared;refine sE f' q fun d v H1 Hs1 e1 s1 f1 r1=>?_;unfold cq at q;rw [e1,bind_ok] at q;exact q v H1 Hs1 f1.st r1
def dI (t:az->R Bool) (g h:az->R Fl):az->R Fl:=fun ρ=>(t ρ).bind fun b=>if b then g ρ else h ρ
theorem e7    (ht:JT c t gt) (hA:Hf c A gA) (hB:Hf c B gB):JS c (.If t A B pos) (dI gt gA gB):=.of fun ρ=>AD (Rf (ht ρ) (hA ρ) (hB ρ)) fun D σ H h_5=>by
 obtain ⟨H0,Hs0,la,Hs,f,q⟩:=h_5;refine sT f q fun d H1 Hs1 e1 s1 f1=>?_;unfold dI at q;rw [e1,bind_ok] at q;cases d with
 |true=>exact DZ ⟨H0,Hs0,la,Hs1,f1,q⟩
 |false=>exact Aw ⟨H0,Hs0,la,Hs1,f1,q⟩
def dG (i:Nat) (g:az->R D):az->R Fl:=fun ρ=>(g ρ).bind fun d=>.ok (.nx (ρ.set i (.shr d)))
theorem cC (i:Nat) (h:JE c e g) (hN:c.X.N.Nodup) (hi:c.X.N[i]?=some x:=by rfl) (hx:Rb c.X.env.scope x:=by first|exact iF rfl|exact fK rfl) (hs:iR e (some (.Name x pos')) pos.line c.X.env=pure false:=by rfl)
  (hf:c.X.fn x=true\/c.X.env.scope.names.lookup x=some .local:=by first|exact .inl rfl|exact .inr rfl|assumption):JS c (.Assign [.Name x pos'] e pos) (dG i g):=.of fun ρ=>AD (Cr hN hi hx (h ρ) hs hf) fun D σ H h_6=>by
 obtain ⟨H0,Hs0,la,Hs,f,q⟩:=h_6;refine sE f q fun d v H1 Hs1 e1 s1 f1 r1=>?_;unfold dG at q;rw [e1,bind_ok] at q;exact q _ H1 Hs1 (f1.set i r1)
def xj (g:az->R D):az->R Fl:=fun ρ=>(g ρ).bind fun _=>.ok (.nx ρ)
theorem vb (h:JE c e g) (hs:iR e none pos.line c.X.env=pure false:=by rfl):JS c (.Expr e pos) (xj g):=.of fun ρ=>AD (uP (h ρ) hs) fun D σ H h_7=>by
 obtain ⟨H0,Hs0,la,Hs,f,q⟩:=h_7;refine sE f q fun d v H1 Hs1 e1 s1 f1 r1=>?_;unfold xj at q;rw [e1,bind_ok] at q;exact q _ H1 Hs1 f1
def Xy (K:a7) (H0 Hs0:Hp) (la:Nat->Option ah) (H Hs:Hp) (Q:St->Hp->Prop) (r:R az):Prop:=match r with
 |.ok ρ'=>∀ σ',Fr K H0 Hs0 la ρ' σ' H Hs->Q σ' H
 |_=>False
inductive UT (K:a7) (ρ:az) (d:D) (r:R az) (v:V) (σ:St) (H:Hp) (Q:St->Hp->Prop):Prop
 |mk (H0 Hs0:Hp) (la:Nat->Option ah) (Hs:Hp) (f:Fr K H0 Hs0 la ρ σ H Hs) (rd:RD K Hs v d) (q:Xy K H0 Hs0 la H Hs Q r):UT K ρ d r v σ H Q
def Tc (K:a7) (ρ:az) (d:D) (r:R az):TG:=UT K ρ d r
inductive RA (K:a7) (ρ:az) (ds:List D) (r:R az) (vs:List V) (σ:St) (H:Hp) (Q:St->Hp->Prop):Prop
 |mk (H0 Hs0:Hp) (la:Nat->Option ah) (Hs:Hp) (f:Fr K H0 Hs0 la ρ σ H Hs) (rd:RDs K Hs vs ds) (q:Xy K H0 Hs0 la H Hs Q r):RA K ρ ds r vs σ H Q
def UU (K:a7) (ρ:az) (ds:List D) (r:R az):Pu:=RA K ρ ds r
structure JG (c:C) (t:bL) (k:D->az->R az):Prop where of ::
 run:∀ ρ d,PG c.X t (Tc c.X.K ρ d (k d ρ))
instance {c:C}{t:bL}{k:D->az->R az}:CoeFun (JG c t k) (fun _=>∀ ρ d,PG c.X t (Tc c.X.K ρ d (k d ρ))):=⟨JG.run⟩
structure U0 (c:C) (t:List bL) (k:List D->az->R az):Prop where of ::
 run:∀ ρ d,Rg c.X t (UU c.X.K ρ d (k d ρ))
instance {c:C}{t:List bL}{k:List D->az->R az}:CoeFun (U0 c t k) (fun _=>∀ ρ d,Rg c.X t (UU c.X.K ρ d (k d ρ))):=⟨U0.run⟩
theorem Xz   (h:PG X e t) (m:∀ v σ H Q,t' v σ H Q->t v σ H Q):PG X e t':=fun pins s σ H v u Q I r q=>h pins s σ H v u Q I r (m v σ H Q q)
theorem WX {X:Cx}{e:List bL}{t t':Pu} (h:Rg X e t) (m:∀ v σ H Q,t' v σ H Q->t v σ H Q):Rg X e t':=fun pins s σ H v u Q I r q=>h pins s σ H v u Q I r (m v σ H Q q)
def bR (i:Nat):D->az->R az:=fun d ρ=>.ok (ρ.set i (.shr d))
theorem cO (i:Nat) (hN:c.X.N.Nodup) (hi:c.X.N[i]?=some x:=by rfl) (hx:Rb c.X.env.scope x:=by first|exact iF rfl|exact fK rfl) (hf:c.X.fn x=true\/c.X.env.scope.names.lookup x=some .local:=by first|exact .inl rfl|exact .inr rfl|assumption) :
  JG c (.Name x pos) (bR i):=.of fun ρ d=>Xz (cR hN hi hx hf) fun v σ H Q h_11=>by obtain ⟨H0,Hs0,la,Hs,f,r,q⟩:=h_11;exact q _ (f.set i r)
def oQ:List D->az->R az:=fun ds ρ=>match ds with
 |[]=>.ok ρ
 |_=>.no
def cE (k:D->az->R az) (ks:List D->az->R az):List D->az->R az:=fun ds ρ=>match ds with
 |d::r=>(k d ρ).bind fun ρ'=>ks r ρ'
 |_=>.no
theorem nu:U0 c [] oQ:=.of fun ρ ds=>WX Cq fun vs σ H Q h_12=>by
 obtain ⟨H0,Hs0,la,Hs,f,r,q⟩:=h_12;cases r with
 |nil=>exact ⟨rfl,q σ f⟩
 |cons _ _=>exact q.elim
theorem df (h:JG c t kt) (hr:U0 c ts kts) (hs:(ir (t::ts) c.X.env).map (·.2)=qL t c.X.env::(ir ts c.X.env).map (·.2):=by rfl):U0 c (t::ts) (cE kt kts):=.of fun ρ ds pins s σ H vs us Q I rv h_13=>by
 obtain ⟨H0,Hs0,la,Hs,f,r,q⟩:=h_13;cases r with
 |nil=>exact q.elim
 | @cons v vr d dr r1 r2 =>
  unfold cE at q;cases hk:kt d ρ with
  |ok ρ' =>
   simp only [hk,bind_ok] at q;refine qV (h ρ d) (hr ρ' dr) hs pins s σ H _ us Q I rv ⟨v,vr,rfl,H0,Hs0,la,Hs,f,r1,?_⟩;rw [hk];exact fun σ' f'=>⟨H0,Hs0,la,Hs,f',r2,q⟩
  |ex x n=>simp only [hk,bind_ex] at q;exact q.elim
  |no=>simp only [hk,bind_no] at q;exact q.elim
def mY (n:Nat) (ks:List D->az->R az):D->az->R az:=fun d ρ=>match d with
 |.tuple ds=>if ds.length=n then ks ds ρ else .no
 |_=>.no
theorem rE (hc:c.X.calm=true) (h:U0 c ts kts) (hn:(ir ts c.X.env).length=n:=by rfl) (hst:(ir ts c.X.env).findIdx? (·.1)=none:=by rfl):JG c (.Tuple ts k pos) (mY n kts):=.of fun ρ d=>by
 cases d with
 |tuple ds =>
  refine Xz (GC hc (h ρ ds) hn hst) fun v σ H Q h_14=>?_;obtain ⟨H0,Hs0,la,Hs,f,r,q⟩:=h_14;cases r with
  | @tuple p xs _ hq rs =>
   unfold mY at q;by_cases hl:ds.length=n
   ·simp only [if_pos hl] at q;exact ⟨p,xs,rfl,(lw.of (f.st.sub _ _ hq)),by rw [rs.length];exact hl,H0,Hs0,la,Hs,f,rs,q⟩
   ·simp only [if_neg hl] at q;exact q.elim
 |_=>exact fun pins s σ H v u Q I rv h_15=>by obtain ⟨H0,Hs0,la,Hs,f,r,q⟩:=h_15;exact q.elim
def AF (g:az->R D) (k:D->az->R az):az->R Fl:=fun ρ=>(g ρ).bind fun d=>match k d ρ with
 |.ok ρ'=>.ok (.nx ρ')
 |_=>.no
theorem z0 (h:JE c e g) (hg:JG c t kt) (hs:xY [t] e pos.line c.X.env=pure false:=by rfl) (hw:xZ [t] e c.X.env=pure none:=by rfl) (h1:(ir [t] c.X.env).map (·.2)=[qL t c.X.env]:=by rfl) :
  JS c (.Assign [t] e pos) (AF g kt):=.of fun ρ=>by
 cases hr:g ρ with
 |ok d =>
  refine AD (Mf (h ρ) (hg ρ d) hs hw h1) fun D σ H h_16=>?_;obtain ⟨H0,Hs0,la,Hs,f,q⟩:=h_16;refine sE (k:=fun d=>match kt d ρ with | .ok ρ'=>.ok (.nx ρ')|_=>.no) f q fun d' v H1 Hs1 e1 s1 f1 r1=>?_;rw [hr] at e1;cases e1;unfold AF at q;rw [hr,bind_ok] at q;refine ⟨H0,Hs0,la,Hs1,f1,r1,?_⟩;cases hk:kt d ρ with
  |ok ρ'=>rw [hk] at q;exact fun σ' f'=>q σ' H1 Hs1 f'
  |ex x n=>rw [hk] at q;exact q.elim
  |no=>rw [hk] at q;exact q.elim
 |ex x n =>
  refine AD (Mf (h ρ) (hg ρ .none) hs hw h1) fun D σ H h_17=>?_;obtain ⟨H0,Hs0,la,Hs,f,q⟩:=h_17;refine sE (k:=fun _=>.no) (D':=D) f (by unfold AF at q;rw [hr] at q ⊢;exact q) fun d' v H1 Hs1 e1 s1 f1 r1=>?_;rw [hr] at e1;cases e1
 |no =>
  refine fun pins s σ H D I h_18=>?_;obtain ⟨H0,Hs0,la,Hs,f,q⟩:=h_18;unfold AF at q;rw [hr] at q;exact q.elim
end
end
section
def Nc (K:a7) (J:It) (ds:List D) (Hn Hs:Hp):Prop:=∀ H2 Hs2,dn Hn H2->dn Hs Hs2->dn Hs2 H2 ->
 (∀ i,i<ds.length->J.go i H2)/\(∀ i,ds.length<=i->J.stop i H2)/\∀ i x H3,i<ds.length->J.yld i H2 x H3->∃ d Hs3,ds[i]?=some d/\cD H2 Hs2 H3 Hs3/\RD K Hs3 x d
theorem CZ     (h:nl K Hn a vs) (r:RDs K Hs vs ds):Nc K (Wq K a) ds Hn Hs:=fun H2 Hs2 e1 e2 e3=>by
 have q:=e1.seq h;refine ⟨fun i hi=>?_,fun i hi=>⟨vs,q,by rw [r.length];exact hi⟩,fun i x H3 hi y=>?_⟩
 ·have hi':i<vs.length:=by rw [r.length];exact hi
  exact ⟨vs,vs[i],q,aX hi'⟩
 ·obtain ⟨rfl,y⟩:=y;obtain ⟨d,k1,k2⟩:=r.get (y vs q);exact ⟨d,Hs2,k1,.refl e3,k2.same e2⟩
theorem Nd     (h:lw K Hn a vs) (r:RDs K Hs vs ds):Nc K (Wr K a) ds Hn Hs:=fun H2 Hs2 e1 e2 e3=>by
 have q:=e1.tup h;refine ⟨fun i hi=>?_,fun i hi=>⟨vs,q,by rw [r.length];exact hi⟩,fun i x H3 hi y=>?_⟩
 ·have hi':i<vs.length:=by rw [r.length];exact hi
  exact ⟨vs,vs[i],q,aX hi'⟩
 ·obtain ⟨rfl,y⟩:=y;obtain ⟨d,k1,k2⟩:=r.get (y vs q);exact ⟨d,Hs2,k1,.refl e3,k2.same e2⟩
theorem Nf  (x:Str):Nc K (Uy x) (oh x) Hn Hs:=fun H2 Hs2 e1 e2 e3=>by
 have hl:(oh x).length=x.cps.size:=by simp [oh]
 refine ⟨fun i hi=>by rw [hl] at hi;exact hi,fun i hi=>by rw [hl] at hi;exact hi,fun i v H3 hi y=>?_⟩;obtain ⟨rfl,c,k1,rfl⟩:=y;refine ⟨.str ⟨#[c]⟩,Hs2,?_,.refl e3,.str _⟩;unfold oh;rw [aJ,d_,k1];rfl
def rF (lo:Int) (n:Nat):List D:=(bg n).map fun (k:Nat)=>cK (lo+k)
theorem Ng  (lo:Int) (n:Nat):Nc K (VU lo n) (rF lo n) Hn Hs:=fun H2 Hs2 e1 e2 e3=>by
 have hl:(rF lo n).length=n:=by simp [rF]
 refine ⟨fun i hi=>by rw [hl] at hi;exact hi,fun i hi=>by rw [hl] at hi;exact hi,fun i v H3 hi y=>?_⟩;obtain ⟨rfl,rfl⟩:=y;refine ⟨.int (lo+i),Hs2,?_,.refl e3,.int _⟩;rw [hl] at hi;unfold rF;rw [aJ,uE hi];rfl
def jb (n:Nat):List D->List D
 |[]=>[]
 |d::r=>.tuple [.int n,d]::jb (n+1) r
theorem ww:∀ (ds:List D) (n i:Nat),(jb n ds)[i]?=(ds[i]?).map fun d=>b_ [.int ((n+i:Nat):Int),d]
 |[],_,_=>by simp [jb]
 |d::r,n,0=>by simp [jb]
 |d::r,n,i+1=>by
  simp only [jb,jK];rw [ww r (n+1) i,show n+1+i=n+(i+1) by omega]
theorem wx:∀ (ds:List D) (n:Nat),(jb n ds).length=ds.length
 |[],_=>rfl
 |d::r,n=>by simp [jb,wx r]
theorem Qm     (h:lw K Hn a vs) (r:RDs K Hs vs ds):Nc K (WN K a) (jb 0 ds) Hn Hs:=fun H2 Hs2 e1 e2 e3=>by
 have q:=e1.tup h;have hl:=wx ds 0;refine ⟨fun i hi=>?_,fun i hi=>⟨vs,q,by rw [r.length];omega⟩,fun i x H3 hi y=>?_⟩
 ·have hi':i<vs.length:=by rw [r.length];omega
  exact ⟨vs,vs[i],q,aX hi'⟩
 ·obtain ⟨p,hp,rfl,y⟩:=y;obtain ⟨x,k0,rfl⟩:=y vs q;obtain ⟨d,k1,k2⟩:=r.get k0;have st:=cD.new (o:=.tup [.int i,x]) e3 hp;refine ⟨.tuple [.int i,d],_,?_,st,.tuple aT (.cons (.int _) (.cons ((k2.same e2).same st.sh) .nil))⟩;rw [ww,k1];simp
def xQ:List D->List D->List D
 |x::xs,y::ys=>.tuple [x,y]::xQ xs ys
 |_,_=>[]
theorem Ez:∀ (xs ys:List D) (i:Nat) (x y:D),xs[i]?=some x->ys[i]?=some y->(xQ xs ys)[i]?=some (.tuple [x,y])
 |x::xs,y::ys,0,_,_,h1,h2=>by simp at h1 h2;subst h1 h2;rfl
 |_::xs,_::ys,i+1,x,y,h1,h2=>by
  simp only [jK] at h1 h2;simp only [xQ,jK];exact Ez xs ys i x y h1 h2
 |[],_,_,_,_,h1,_=>by simp at h1
 |_::_,[],_,_,_,_,h2=>by simp at h2
theorem EA:∀ (xs ys:List D),(xQ xs ys).length=min xs.length ys.length
 |x::xs,y::ys=>by simp [xQ,EA xs ys]
 |[],_=>by simp [xQ]
 |_::_,[]=>by simp [xQ]
theorem Td     (h:lw K Hn a vs) (r:RDs K Hs vs ds) (h':lw K Hn b ws) (r':RDs K Hs ws es):Nc K (WO K a b) (xQ ds es) Hn Hs:=fun H2 Hs2 e1 e2 e3=>by
 have q:=e1.tup h;have q':=e1.tup h';have hl:=EA ds es;refine ⟨fun i hi=>?_,fun i hi=>⟨vs,ws,q,q',by rw [r.length,r'.length];omega⟩,fun i x H3 hi y=>?_⟩
 ·have h1:i<vs.length:=by rw [r.length];omega
  have h2:i<ws.length:=by rw [r'.length];omega
  exact ⟨vs,ws,vs[i],ws[i],q,q',aX h1,aX h2⟩
 ·obtain ⟨p,hp,rfl,y⟩:=y;obtain ⟨x,z,k0,k0',rfl⟩:=y vs ws q q';obtain ⟨d,k1,k2⟩:=r.get k0;obtain ⟨d',k1',k2'⟩:=r'.get k0';have st:=cD.new (o:=.tup [x,z]) e3 hp;exact ⟨.tuple [d,d'],_,Ez ds es i d d' k1 k1',st,.tuple aT (.cons ((k2.same e2).same st.sh) (.cons ((k2'.same e2).same st.sh) .nil))⟩
inductive UV (K:a7) (cls:Str->ah) (E:XK) (ρ:az) (r:R (List D)) (σ:St) (H:Hp) (Q:It->Hp->Prop):Prop
 |mk (H0 Hs0:Hp) (la:Nat->Option ah) (Hs:Hp) (f:Fr K H0 Hs0 la ρ σ H Hs) (q:Fin K cls E H Hs r fun ds=>∀ J H' Hs' Hn,cD H Hs H' Hs'->dn Hn H'->Nc K J ds Hn Hs'->Q J H'):UV K cls E ρ r σ H Q
def W5 (K:a7) (cls:Str->ah) (E:XK) (ρ:az) (r:R (List D)):TI:=UV K cls E ρ r
inductive UW (K:a7) (cls:Str->ah) (E:XK) (ρ:az) (r:R (List D)) (σ:St) (H:Hp) (Q:It->Hp->Prop):Prop
 |mk (H0 Hs0:Hp) (la:Nat->Option ah) (Hs:Hp) (f:Fr K H0 Hs0 la ρ σ H Hs) (q:Fin K cls E H Hs r fun ds=>∀ J H' Hs',cD H Hs H' Hs'->Nc K J ds Hs' Hs'->Q J H'):UW K cls E ρ r σ H Q
def XA (K:a7) (cls:Str->ah) (E:XK) (ρ:az) (r:R (List D)):TI:=UW K cls E ρ r
structure JI (c:C) (tg it:bL) (g:az->R (List D)):Prop where of ::
 run:∀ ρ,PI c.X tg it (W5 c.X.K c.cls c.E ρ (g ρ))
instance {c:C}{tg it:bL}{g:az->R (List D)}:CoeFun (JI c tg it g) (fun _=>∀ ρ,PI c.X tg it (W5 c.X.K c.cls c.E ρ (g ρ))):=⟨JI.run⟩
structure IS (c:C) (tg it:bL) (g:az->R (List D)):Prop where of ::
 run:∀ ρ,PI c.X tg it (XA c.X.K c.cls c.E ρ (g ρ))
instance {c:C}{tg it:bL}{g:az->R (List D)}:CoeFun (IS c tg it g) (fun _=>∀ ρ,PI c.X tg it (XA c.X.K c.cls c.E ρ (g ρ))):=⟨IS.run⟩
theorem IT   (h:PI X tg e t) (m:∀ σ H Q,t' σ H Q->t σ H Q):PI X tg e t':=fun pins s σ H Q I q=>h pins s σ H Q I (m σ H Q q)
section
def z3:D->R (List D)
 |.list ds=>.ok ds
 |.tuple ds=>.ok ds
 |.str x=>.ok (oh x)
 |_=>.no
def lX (g:az->R D):az->R (List D):=fun ρ=>(g ρ).bind z3
theorem fY (h:JB c l g):JI c tg l (lX g):=.of fun ρ=>by
 cases hr:g ρ with
 |no=>exact fun pins s σ H Q I h_0=>by obtain ⟨H0,Hs0,la,Hs,f,q⟩:=h_0;exact by unfold lX at q;rw [hr] at q;exact q.elim
 |ex x n =>
  refine IT (uQ (h ρ)) fun σ H Q h_1=>?_;obtain ⟨H0,Hs0,la,Hs,f,q⟩:=h_1;refine one f q fun d v H1 Hs1 e1 s1 f1 r1=>?_;rw [hr] at e1;cases e1
 |ok d =>
  cases d with
  |list ds =>
   refine IT (uQ (h ρ)) fun σ H Q h_2=>?_;obtain ⟨H0,Hs0,la,Hs,f,q⟩:=h_2;refine one f q fun d v H1 Hs1 e1 s1 f1 r1=>?_;rw [hr] at e1;cases e1;unfold lX at q;rw [hr,bind_ok] at q;obtain ⟨a,vs,rfl,qa,ra⟩:=r1.list f1.st.sub;exact ⟨a,rfl,⟨vs,qa⟩,q _ H1 Hs1 H1 s1 (.refl _) (CZ qa ra)⟩
  |tuple ds =>
   refine IT (Mi (h ρ)) fun σ H Q h_3=>?_;obtain ⟨H0,Hs0,la,Hs,f,q⟩:=h_3;refine one f q fun d v H1 Hs1 e1 s1 f1 r1=>?_;rw [hr] at e1;cases e1;unfold lX at q;rw [hr,bind_ok] at q;obtain ⟨a,vs,rfl,qa,ra,_⟩:=r1.tuple f1.st.sub;exact ⟨a,rfl,⟨vs,qa⟩,q _ H1 Hs1 H1 s1 (.refl _) (Nd qa ra)⟩
  |str x =>
   refine IT (MM (h ρ)) fun σ H Q h_4=>?_;obtain ⟨H0,Hs0,la,Hs,f,q⟩:=h_4;refine one f q fun d v H1 Hs1 e1 s1 f1 r1=>?_;rw [hr] at e1;cases e1;unfold lX at q;rw [hr,bind_ok] at q;exact ⟨x,r1.str,q _ H1 Hs1 H1 s1 (.refl _) (Nf x)⟩
  |none=>exact fun pins s σ H Q I h_5=>by obtain ⟨H0,Hs0,la,Hs,f,q⟩:=h_5;exact by unfold lX at q;rw [hr] at q;exact q.elim
  |bool _=>exact fun pins s σ H Q I h_6=>by obtain ⟨H0,Hs0,la,Hs,f,q⟩:=h_6;exact by unfold lX at q;rw [hr] at q;exact q.elim
  |int _=>exact fun pins s σ H Q I h_7=>by obtain ⟨H0,Hs0,la,Hs,f,q⟩:=h_7;exact by unfold lX at q;rw [hr] at q;exact q.elim
  |dict _=>exact fun pins s σ H Q I h_8=>by obtain ⟨H0,Hs0,la,Hs,f,q⟩:=h_8;exact by unfold lX at q;rw [hr] at q;exact q.elim
theorem IU (h:JE c l g):IS c tg l (lX g):=.of fun ρ=>by
 cases hr:g ρ with
 |no=>exact fun pins s σ H Q I h_9=>by obtain ⟨H0,Hs0,la,Hs,f,q⟩:=h_9;exact by unfold lX at q;rw [hr] at q;exact q.elim
 |ex x n =>
  refine IT (uQ (h ρ)) fun σ H Q h_10=>?_;obtain ⟨H0,Hs0,la,Hs,f,q⟩:=h_10;refine CS f q fun d v H1 Hs1 e1 s1 f1 r1=>?_;rw [hr] at e1;cases e1
 |ok d =>
  cases d with
  |list ds =>
   refine IT (uQ (h ρ)) fun σ H Q h_11=>?_;obtain ⟨H0,Hs0,la,Hs,f,q⟩:=h_11;refine CS f q fun d v H1 Hs1 e1 s1 f1 r1=>?_;rw [hr] at e1;cases e1;unfold lX at q;rw [hr,bind_ok] at q;cases r1 with
   |list qa ra=>exact ⟨_,rfl,⟨_,f1.st.sub.seq qa⟩,q _ H1 Hs1 s1 (CZ qa ra)⟩
  |tuple ds =>
   refine IT (Mi (h ρ)) fun σ H Q h_12=>?_;obtain ⟨H0,Hs0,la,Hs,f,q⟩:=h_12;refine CS f q fun d v H1 Hs1 e1 s1 f1 r1=>?_;rw [hr] at e1;cases e1;unfold lX at q;rw [hr,bind_ok] at q;cases r1 with
   |tuple qa ra=>exact ⟨_,rfl,⟨_,(lw.of (f1.st.sub _ _ qa))⟩,q _ H1 Hs1 s1 (Nd (.of qa) ra)⟩
  |str x =>
   refine IT (MM (h ρ)) fun σ H Q h_13=>?_;obtain ⟨H0,Hs0,la,Hs,f,q⟩:=h_13;refine CS f q fun d v H1 Hs1 e1 s1 f1 r1=>?_;rw [hr] at e1;cases e1;unfold lX at q;rw [hr,bind_ok] at q;cases r1 with
   |str _=>exact ⟨x,rfl,q _ H1 Hs1 s1 (Nf x)⟩
  |none=>exact fun pins s σ H Q I h_14=>by obtain ⟨H0,Hs0,la,Hs,f,q⟩:=h_14;exact by unfold lX at q;rw [hr] at q;exact q.elim
  |bool _=>exact fun pins s σ H Q I h_15=>by obtain ⟨H0,Hs0,la,Hs,f,q⟩:=h_15;exact by unfold lX at q;rw [hr] at q;exact q.elim
  |int _=>exact fun pins s σ H Q I h_16=>by obtain ⟨H0,Hs0,la,Hs,f,q⟩:=h_16;exact by unfold lX at q;rw [hr] at q;exact q.elim
  |dict _=>exact fun pins s σ H Q I h_17=>by obtain ⟨H0,Hs0,la,Hs,f,q⟩:=h_17;exact by unfold lX at q;rw [hr] at q;exact q.elim
theorem IS.i (h:IS c tg l gs):JI c tg l gs:=.of fun ρ=>IT (h ρ) fun σ H Q ⟨H0,Hs0,la,Hs,f,q⟩=>⟨H0,Hs0,la,Hs,f,by
 cases hr:gs ρ with
 |ok ds=>rw [hr] at q;exact fun J H' Hs' s i=>q J H' Hs' Hs' s s.sub i
 |ex x n=>rw [hr] at q;exact q
 |no=>rw [hr] at q;exact q⟩
def Hg:List D->R (List D)
 |[.int j]=>if -(2 ^ 62)<=j/\j<2 ^ 62 then .ok (rF 0 j.toNat) else .no
 |_=>.no
def vc (gs:az->R (List D)):az->R (List D):=fun ρ=>(gs ρ).bind Hg
theorem ms (hg:Gl c.X "range") (hm:c.X.mg "range"=none) (ha:Qe c [a] gs) (hs:aw [a] c.X.env=[(false,cz a c.X.env)]:=by rfl):IS c tg (.Call (.Name "range" p) [a] [] pos) (vc gs):=.of fun ρ=>IT (Kd hg hm (ha ρ) hs) fun σ H Q h_18=>by
 obtain ⟨H0,Hs0,la,Hs,f,q⟩:=h_18;refine IM f q fun ds vs H1 Hs1 e1 s1 f1 r1=>?_;unfold vc at q;rw [e1,bind_ok] at q;unfold Hg at q;split at q
 ·rename_i j
  by_cases hj:-(2 ^ 62)<=j/\j<2 ^ 62
  ·rw [if_pos hj] at q;obtain ⟨x,rfl,rx⟩:=r1.one;exact ⟨j,by rw [rx.int],hj.1,hj.2,q _ H1 Hs1 s1 (Ng 0 _)⟩
  ·rw [if_neg hj] at q;exact q.elim
 ·exact q.elim
def W6:List D->R (List D)
 |[.tuple ds]=>.ok (jb 0 ds)
 |_=>.no
def Hh (gs:az->R (List D)):az->R (List D):=fun ρ=>(gs ρ).bind W6
theorem RDs.one    (h:RDs K H xs [d]):∃ x,xs=[x]/\RD K H x d:=by
 cases h with|cons a t=>cases t;exact ⟨_,rfl,a⟩
theorem RDs.two {K:a7}{H:Hp}{xs:List V}{d e:D} (h:RDs K H xs [d,e]):∃ x y,xs=[x,y]/\RD K H x d/\RD K H y e:=by
 cases h with|cons a t=>cases t with|cons b t=>cases t;exact ⟨_,_,rfl,a,b⟩
theorem zb {x1} (hg:Gl c.X "enumerate") (hm:c.X.mg "enumerate"=none) (ha:G5 c [a] gs) (hs:aw [a] c.X.env=[(false,cz a c.X.env)]:=by rfl):IS c (.Tuple elts x1 tpos) (.Call (.Name "enumerate" p) [a] [] pos) (Hh gs):=.of fun ρ=>IT (Q6 hg hm (ha ρ) hs) fun σ H Q h_20=>by
 obtain ⟨H0,Hs0,la,Hs,f,q⟩:=h_20;refine Em f q fun ds vs H1 Hs1 e1 s1 f1 r1=>?_;unfold Hh at q;rw [e1,bind_ok] at q;unfold W6 at q;split at q
 ·obtain ⟨x,rfl,rx⟩:=r1.one;cases rx with
  |tuple qa ra=>exact ⟨_,_,rfl,(lw.of (f1.st.sub _ _ qa)),q _ H1 Hs1 s1 (Qm (.of qa) ra)⟩
 ·exact q.elim
def zp:List D->R (List D)
 |[.tuple ds,.tuple es]=>.ok (xQ ds es)
 |_=>.no
def Qn (gs:az->R (List D)):az->R (List D):=fun ρ=>(gs ρ).bind zp
theorem Qo {x1} (hg:Gl c.X "zip") (hm:c.X.mg "zip"=none) (ha:G5 c [a,b] gs) (hs:aw [a,b] c.X.env=[(false,cz a c.X.env),(false,cz b c.X.env)]:=by rfl) (hs2:aw [b] c.X.env=[(false,cz b c.X.env)]:=by rfl) :
  IS c (.Tuple elts x1 tpos) (.Call (.Name "zip" p) [a,b] [] pos) (Qn gs):=.of fun ρ=>IT (T2 hg hm (ha ρ) hs hs2) fun σ H Q h_21=>by
 obtain ⟨H0,Hs0,la,Hs,f,q⟩:=h_21;refine Em f q fun ds vs H1 Hs1 e1 s1 f1 r1=>?_;unfold Qn at q;rw [e1,bind_ok] at q;unfold zp at q;split at q
 ·obtain ⟨x,y,rfl,rx,ry⟩:=r1.two;cases rx with
  |tuple qa ra =>
   cases ry with
   |tuple qb rb=>exact ⟨_,_,_,_,rfl,(lw.of (f1.st.sub _ _ qa)),(lw.of (f1.st.sub _ _ qb)),q _ H1 Hs1 s1 (Td (.of qa) ra (.of qb) rb)⟩
 ·exact q.elim
end
end
section
inductive XB (K:a7) (cls:Str->ah) (E:XK) (ρ:az) (r:R D) (σ:St) (H:Hp) (Q:VK):Prop
 |mk (H0 Hs0:Hp) (la:Nat->Option ah) (Hs:Hp) (f:Fr K H0 Hs0 la ρ σ H Hs) (q:Fin K cls E H Hs r fun d=>∀ a o H' Hs',cD H Hs H' Hs'->H' a=none->mW K Hs' o d->Q (.ref a) (upd H' a o)):XB K cls E ρ r σ H Q
def TN (K:a7) (cls:Str->ah) (E:XK) (ρ:az) (r:R D):TE:=XB K cls E ρ r
structure JN (c:C) (e:bL) (g:az->R D):Prop where of ::
 run:∀ ρ,PE c.X e (TN c.X.K c.cls c.E ρ (g ρ))
instance {c:C}{e:bL}{g:az->R D}:CoeFun (JN c e g) (fun _=>∀ ρ,PE c.X e (TN c.X.K c.cls c.E ρ (g ρ))):=⟨JN.run⟩
section
variable {c:C}{e a b l tg:bL}{g ga gb:az->R D}{pos p:Pos}{gs:az->R (List D)}{es:List bL}{x:Str}
theorem WY        (q:TR K cls E ρ r σ H Q):TN K cls E ρ r σ H Q:=by
 obtain ⟨H0,Hs0,la,Hs,f,q⟩:=q;refine ⟨H0,Hs0,la,Hs,f,?_⟩;cases r with
 |ok d=>exact fun a o H' Hs' s n r=>q _ _ _ (s.trans (.new s.sub n)) (r.share (s.sub.free n))
 |ex x n=>exact q
 |no=>exact q
theorem JN.je (h:JN c e g):JE c e g:=.of fun ρ=>tJ (h ρ) fun σ H Q q=>WY q
theorem zc (h:G5 c es gs):JN c (.List es pos) (fX gs .list):=.of fun ρ=>tJ (o0 (h ρ)) fun σ H Q h_0=>by
 obtain ⟨H0,Hs0,la,Hs,f,q⟩:=h_0;refine Em f q fun ds vs H1 Hs1 e1 s1 f1 r1=>?_;unfold fX at q;rw [e1,bind_ok] at q;by_cases hl:ds.length<=1000
 ·rw [if_pos hl] at q;exact ⟨bh (cf (by rw [r1.length];exact hl)),fun p hp=>q p _ H1 Hs1 s1 hp (.lst r1)⟩
 ·rw [if_neg hl] at q;exact q.elim
theorem IV:JN c (.Dict [] [] pos) (fun _=>.ok (.dict [])):=.of fun ρ=>tJ Mz fun σ H Q h_1=>by obtain ⟨H0,Hs0,la,Hs,f,q⟩:=h_1;exact fun p hp=>q p _ H Hs (.refl f.st.sub) hp (.dK .nil)
def iX (i:Nat) (g:az->R D):az->R Fl:=fun ρ=>(g ρ).bind fun d=>.ok (.nx (ρ.set i (.own d)))
theorem sN            (f:Fr K H0 Hs0 la ρ σ H Hs)
  (h:oj K cls E H0 Hs0 la D' (r.bind k)) (m:∀ d a o H' Hs',r=.ok d->Fr K H0 Hs0 la ρ σ H' Hs'->H' a=none->mW K Hs' o d->Q (.ref a) (upd H' a o)):TN K cls E ρ r σ H Q:=by
 refine ⟨H0,Hs0,la,Hs,f,?_⟩;cases r with
 |ok d=>exact fun a o H' Hs' s n r=>m d a o H' Hs' rfl (f.step s) n r
 |ex c n=>exact fun H' Hs' s=>h H' Hs' (f.st.trans s)
 |no=>exact h
theorem nw (i:Nat) (h:JN c e g) (hN:c.X.N.Nodup) (hi:c.X.N[i]?=some x:=by rfl) (hx:Rb c.X.env.scope x:=by first|exact iF rfl|exact fK rfl) (hs:iR e (some (.Name x pos')) pos.line c.X.env=pure false:=by rfl)
  (hf:c.X.fn x=true\/c.X.env.scope.names.lookup x=some .local:=by first|exact .inl rfl|exact .inr rfl|assumption):JS c (.Assign [.Name x pos'] e pos) (iX i g):=.of fun ρ=>AD (Cr hN hi hx (h ρ) hs hf) fun D σ H h_2=>by
 obtain ⟨H0,Hs0,la,Hs,f,q⟩:=h_2;refine sN f q fun d a o H1 Hs1 e1 f1 n1 r1=>?_;unfold iX at q;rw [e1,bind_ok] at q;exact q _ _ Hs1 (f1.setO i n1 r1)
def KG {α:Type}:R α->R α
 |.ex _ _=>.no
 |r=>r
theorem IW {α:Type}{r:R α}{a:α} (h:KG r=.ok a):r=.ok a:=by
 cases r<;>first|exact h|cases h
def hU (f:D->R (Option D)):List D->R (List D)
 |[]=>.ok []
 |d::r=>(f d).bind fun o=>(hU f r).bind fun ys=>.ok (match o with
  |some y=>y::ys
  |none=>ys)
theorem zd   (h:hU f (d::r)=.ok ys):∃ o zs,f d=.ok o/\hU f r=.ok zs/\ys=o.toList++zs:=by
 unfold hU at h;cases hf:f d with
 |ok o =>
  rw [hf,bind_ok] at h;cases hm:hU f r with
  |ok zs =>
   rw [hm,bind_ok] at h;cases h;cases o<;>exact ⟨_,zs,rfl,rfl,rfl⟩
  |ex x n=>rw [hm] at h;cases h
  |no=>rw [hm] at h;cases h
 |ex x n=>rw [hf] at h;cases h
 |no=>rw [hf] at h;cases h
def Qp:Sl->Sl
 |.own d=>.lck d
 |.ow2 _=>.no
 |s=>s
def oR (nt:Nat) (ix:List Nat) (ρ:az):az:=m_ nt Sl.no++ix.map fun i=>Qp ((ρ[i]?).getD .no)
def UX (nt:Nat):D->az->R az:=match nt with
 | 1=>bR 0
 | 2=>mY 2 (cE (bR 0) (cE (bR 1) oQ))
 |_=>fun _ _=>.no
def jd (nt:Nat) (ρ:az) (gt:az->R Bool) (ge:az->R D):D->R (Option D):=fun d=>KG ((UX nt d ρ).bind fun ρ'=>(gt ρ').bind fun b=>if b then (ge ρ').bind fun y=>.ok (some y) else .ok none)
def fg (nt:Nat) (ix:List Nat) (gi:az->R (List D)) (gt:az->R Bool) (ge:az->R D):az->R D:=fun ρ=>(gi ρ).bind fun ds=>if ds.length<=1000 then (hU (jd nt (oR nt ix ρ) gt ge) ds).bind fun ys=>.ok (.list ys) else .no
structure UY (c:C) (ifs:List bL) (g:az->R Bool):Prop where of ::
 run:∀ ρ,P3 c.X ifs (Kz c.X.K c.cls c.E ρ (g ρ))
instance {c:C}{ifs:List bL}{g:az->R Bool}:CoeFun (UY c ifs g) (fun _=>∀ ρ,P3 c.X ifs (Kz c.X.K c.cls c.E ρ (g ρ))):=⟨UY.run⟩
theorem fM:UY c [] (fun _=>.ok true):=.of fun ρ pins s σ H Q I h_3=>by obtain ⟨H0,Hs0,la,Hs,f,q⟩:=h_3;exact Q2 pins s σ H Q I (q H Hs (.refl f.st.sub))
theorem pO (h:JT c e gt):UY c [e] gt:=.of fun ρ=>Q3 (h ρ)
def KH (K:a7) (nt:Nat):TG:=match nt with
 | 1=>xb 0
 |_=>Sv K 2 (L2.a8 (xb 0) (L2.a8 (xb 1) L2.aE))
theorem C_ {K:a7}{nt:Nat} (h:nt=1\/nt=2):Rs nt (KH K nt):=by
 rcases h with rfl|rfl
 ·exact MB (by decide)
 ·exact Q4 (by decide) (by decide)
theorem EB {K:a7}{nt:Nat}{H0 Hs0 H Hs:Hp}{la:Nat->Option ah}{ρ ρ':az}{σ:St}{v:V}{d:D}{Q:St->Hp->Prop} (hnt:nt=1\/nt=2) (f:Fr K H0 Hs0 la ρ σ H Hs) (r:RD K Hs v d) (hb:UX nt d ρ=.ok ρ')
  (q:∀ σ',Fr K H0 Hs0 la ρ' σ' H Hs->Q σ' H):KH K nt v σ H Q:=by
 rcases hnt with rfl|rfl
 ·cases hb;exact q _ (f.set 0 r)
 ·unfold UX mY at hb;simp only at hb;cases r with
  | @tuple p xs ds hq rs =>
   simp only at hb;split at hb
   ·rename_i hl
    cases rs with
    |nil=>cases hl
    |cons r1 rs =>
     cases rs with
     |nil=>cases hl
     |cons r2 rs =>
      cases rs with
      |nil =>
       cases hb;exact ⟨p,_,rfl,(lw.of (f.st.sub _ _ hq)),rfl,_,_,rfl,_,_,rfl,rfl,q _ ((f.set 0 r1).set 1 r2)⟩
      |cons _ _=>simp at hl
   ·cases hb
  |none=>cases hb
  |bool _=>cases hb
  |int _=>cases hb
  |str _=>cases hb
  |list _ _=>cases hb
  |dictK _ _=>cases hb
  |dictT _ _ _=>cases hb
  |dictF _ _ _=>cases hb
theorem Fr.block     (f:Fr K H0 Hs0 la ρ σ H Hs) (nt:Nat) (ix:List Nat):∃ la',Fr K H Hs la' (oR nt ix ρ) (L2.jG nt ix σ) H Hs:=by
 have lk:∀ (j:Nat) (d:D),(oR nt ix ρ)[j]?=some (Sl.lck d)->∃ a o,(L2.jG nt ix σ)[j]?=some (some (V.ref a))/\H a=some o/\Hs a=none/\mW K Hs o d:=fun j d h=>by
  unfold oR at h;by_cases hj:j<nt
  ·rw [bJ (by simpa using hj),bH,if_pos hj] at h;cases h
  ·have hj:nt<=j:=by omega
   rw [bc (by simpa using hj),cQ,aJ] at h;cases hi:ix[j-nt]? with
   |none=>rw [hi] at h;cases h
   |some i =>
    rw [hi] at h;have at_:∀ v,σ[i]?=some (some v)->(L2.jG nt ix σ)[j]?=some (some v):=fun v k1=>by
     unfold L2.jG;rw [bc (by simpa using hj),cQ,aJ,hi];simp [k1]
    cases hr:ρ[i]? with
    |none=>simp only [dq,hr,gQ,Qp] at h;cases h
    |some s =>
     simp only [dq,hr,kG] at h;cases s with
     |own d' =>
      cases h;obtain ⟨a,o,k1,k2,k3,k4,k5⟩:=f.ow i d hr;exact ⟨a,o,at_ _ k1,k2,k3,k5⟩
     |lck d' =>
      cases h;obtain ⟨a,o,k1,k2,k3,k4,k5,k6⟩:=f.lk i d hr;exact ⟨a,o,at_ _ k1,k3,k4,k6⟩
     |no=>cases h
     |shr _=>cases h
     |ow2 _=>cases h
 have no2:∀ (j:Nat) (d:List (List D)),¬ (oR nt ix ρ)[j]?=some (Sl.ow2 d):=fun j d h=>by
  unfold oR at h;by_cases hj:j<nt
  ·rw [bJ (by simpa using hj),bH,if_pos hj] at h;cases h
  ·have hj:nt<=j:=by omega
   rw [bc (by simpa using hj),cQ,aJ] at h;cases hi:ix[j-nt]? with
   |none=>rw [hi] at h;cases h
   |some i =>
    rw [hi] at h;cases hr:ρ[i]? with
    |none=>simp only [dq,hr,gQ,Qp] at h;cases h
    |some s =>
     simp only [dq,hr,kG] at h;cases s<;>cases h
 refine ⟨fun j=>match (oR nt ix ρ)[j]?,(L2.jG nt ix σ)[j]? with
  |some (Sl.lck _),some (some (V.ref a))=>some a
  |_,_=>none,.refl f.st.sub,by simp [oR,L2.jG],fun j d h=>?_,fun j d h=>?_,fun j d h=>?_,fun j k d1 d2 a h1 h2 _ _=>?_,fun j a h=>?_,fun j d h=>(no2 j d h).elim,fun j k d1 d2 h1 _=>(no2 j d1 h1).elim⟩
 case refine_3 =>
  obtain ⟨a,o,k1,k2,k3,k4⟩:=lk j d h;exact ⟨a,o,k1,by rw [h,k1],k2,k3,k2,k4⟩
 case refine_5 =>
  split at h
  ·rename_i d a' h1 h2
   cases h;obtain ⟨a',o,k1,k2,_⟩:=lk j d h1;rw [h2] at k1;cases k1;exact ⟨o,k2⟩
  ·cases h
 all_goals
  unfold oR at *
 ·have h:=h;by_cases hj:j<nt
  ·rw [bJ (by simpa using hj),bH,if_pos hj] at h;cases h
  ·have hj:nt<=j:=by omega
   rw [bc (by simpa using hj),cQ,aJ] at h;cases hi:ix[j-nt]? with
   |none=>rw [hi] at h;cases h
   |some i =>
    rw [hi] at h;cases hr:ρ[i]? with
    |none=>simp only [dq,hr,gQ,Qp] at h;cases h
    |some s =>
     simp only [dq,hr,kG] at h;cases s with
     |shr d' =>
      cases h;obtain ⟨v,k1,k2⟩:=f.sh i d hr;refine ⟨v,?_,k2⟩;unfold L2.jG;rw [bc (by simpa using hj),cQ,aJ,hi];simp [k1]
     |no=>cases h
     |own _=>cases h
     |lck _=>cases h
     |ow2 _=>cases h
 ·have h:=h;by_cases hj:j<nt
  ·rw [bJ (by simpa using hj),bH,if_pos hj] at h;cases h
  ·have hj:nt<=j:=by omega
   rw [bc (by simpa using hj),cQ,aJ] at h;cases hi:ix[j-nt]? with
   |none=>rw [hi] at h;cases h
   |some i =>
    rw [hi] at h;cases hr:ρ[i]? with
    |none=>simp only [dq,hr,gQ,Qp] at h;cases h
    |some s =>
     simp only [dq,hr,kG] at h;cases s<;>cases h
 ·have h1:=h1;by_cases hj:j<nt
  ·rw [bJ (by simpa using hj),bH,if_pos hj] at h1;cases h1
  ·have hj:nt<=j:=by omega
   rw [bc (by simpa using hj),cQ,aJ] at h1;cases hi:ix[j-nt]? with
   |none=>rw [hi] at h1;cases h1
   |some i =>
    rw [hi] at h1;cases hr:ρ[i]? with
    |none=>simp only [dq,hr,gQ,Qp] at h1;cases h1
    |some s =>
     simp only [dq,hr,kG] at h1;cases s<;>cases h1
theorem ze (h:∀ d c n,f d≠.ex c n):∀ (ds:List D) (c:Str) (n:Option D),hU f ds≠.ex c n
 |[],c,n=>fun e=>by cases e
 |d::r,c,n=>fun e=>by
  unfold hU at e;cases hf:f d with
  |ok o =>
   rw [hf,bind_ok] at e;cases hm:hU f r with
   |ok zs=>rw [hm,bind_ok] at e;cases e
   |ex x k=>exact ze h r x k hm
   |no=>rw [hm] at e;cases e
  |ex x k=>exact h d x k hf
  |no=>rw [hf] at e;cases e
theorem EC (nt:Nat) (ρ:az) (gt:az->R Bool) (ge:az->R D) (d:D) (c:Str) (n:Option D):jd nt ρ gt ge d≠.ex c n:=by
 unfold jd KG;split<;>first|exact fun e=>by cases e|skip
 rename_i h
 exact fun e=>h c n e
inductive XC (K:a7) (f:D->R (Option D)) (ds ys:List D) (H1 Hs1:Hp) (i m:Nat) (acc:List V) (H':Hp):Prop
 |mk (done bB zs ya Hs':_) (h0:ds=done++bB) (h1:done.length=i) (h2:bB.length=m) (h3:cD H1 Hs1 H' Hs') (h4:RDs K Hs' acc ya) (h5:ya.length<=i) (h6:hU f bB=.ok zs) (h7:ys=ya++zs):XC K f ds ys H1 Hs1 i m acc H'
theorem IX {K:a7}{cls:Str->ah}{E:XK}{nt:Nat}{ix:List Nat}{gi:az->R (List D)}{gt:az->R Bool}{ge:az->R D}{ρ:az}{σ:St}{H:Hp}{Q:VK} (hnt:nt=1\/nt=2)
  (q:TN K cls E ρ (fg nt ix gi gt ge ρ) σ H Q) :
  MA nt ix (W5 K cls E ρ (gi ρ)) (KH K nt) (fun σ H Q=>∃ ρ',Kz K cls E0 ρ' (gt ρ') σ H Q) (fun σ H Q=>∃ ρ',TR K cls E0 ρ' (ge ρ') σ H Q) σ H Q:=by
 obtain ⟨H0,Hs0,la,Hs,f,q⟩:=q;refine ⟨H0,Hs0,la,Hs,f,?_⟩;unfold fg at q;cases hi:gi ρ with
 |no=>rw [hi] at q;exact q
 |ex x n=>rw [hi] at q;exact q
 |ok ds =>
  rw [hi,bind_ok] at q;intro J H1 Hs1 Hn s1 sn it;by_cases hl:ds.length<=1000
  ·rw [if_pos hl] at q;cases hm:hU (jd nt (oR nt ix ρ) gt ge) ds with
   |no=>rw [hm] at q;exact q.elim
   |ex x n=>exact (ze (EC _ _ _ _) _ _ _ hm).elim
   |ok ys =>
    rw [hm,bind_ok] at q;obtain ⟨lb,fb⟩:=(f.step s1).block nt ix;refine ⟨XC K (jd nt (oR nt ix ρ) gt ge) ds ys H1 Hs1,
     ⟨ds.length,[],ds,ys,[],Hs1,rfl,rfl,rfl,.refl s1.sub,.nil,dW _,hm,rfl⟩,?_⟩
    rintro i m acc H' ⟨done,bB,zs,ya,Hs',hds,hdl,hrl,st,ra,yl,hz,hy⟩;obtain ⟨igo,istop,iyld⟩:=it H' Hs' (sn.trans st.all) st.sh st.sub;cases bB with
    |nil =>
     left;cases hz;rw [cr] at hds hy;subst hy hds;exact ⟨istop i (by omega),fun p hp=>q p _ H' Hs' (s1.trans st) hp (.lst ra)⟩
    |cons d bB =>
     right;have hil:i<ds.length:=by rw [hds,aL,aU];omega
     refine ⟨igo i hil,cf (by rw [ra.length];omega),fun x H2 hyl=>?_⟩;obtain ⟨d',Hs2,hd,s2,r2⟩:=iyld i x H2 hil hyl;have hdd:d'=d:=by
      rw [hds,bc (by omega)] at hd;simp [hdl] at hd;exact hd.symm
     subst hdd;obtain ⟨o,zs',hf,hz',rfl⟩:=zd hz;have hf:=IW hf;cases hb:UX nt d' (oR nt ix ρ) with
     |no=>rw [hb] at hf;cases hf
     |ex x n=>rw [hb] at hf;cases hf
     |ok ρ' =>
      rw [hb,bind_ok] at hf;refine EB hnt ((fb.step st).step s2) r2 hb fun σ2 f2=>⟨ρ',?_⟩;refine ⟨_,_,_,Hs2,f2,?_⟩;cases ht:gt ρ' with
      |no=>rw [ht] at hf;cases hf
      |ex x n=>rw [ht] at hf;cases hf
      |ok b =>
       rw [ht,bind_ok] at hf;intro H3 Hs3 s3;cases b with
       |false =>
        rw [if_neg aH] at hf;cases hf;refine Aw ⟨bB.length,by rw [<- hrl];simp,done++[d'],bB,zs',ya,Hs3,by rw [hds];simp,by simp [hdl],rfl,(st.trans s2).trans s3,ra.same (s2.trans s3).sh,by omega,hz',by simpa using hy⟩
       |true =>
        rw [if_pos rfl] at hf;refine DZ ⟨ρ',_,_,_,Hs3,f2.step s3,?_⟩;cases he:ge ρ' with
        |no=>rw [he] at hf;cases hf
        |ex x n=>rw [he] at hf;cases hf
        |ok y =>
         rw [he,bind_ok] at hf;cases hf;intro v H4 Hs4 s4 r4;exact ⟨bB.length,by rw [<- hrl];simp,done++[d'],bB,zs',ya++[y],Hs4,by rw [hds];simp,by simp [hdl],rfl,((st.trans s2).trans s3).trans s4,(ra.same ((s2.trans s3).trans s4).sh).append (.cons r4 .nil),by simp;omega,hz',by rw [hy];simp⟩
  ·rw [if_neg hl] at q;exact q.elim
def C.comp (c:C) (N':List Str) (scope:gq) (cl:List (Str×ah)) (A:ah) (s₀:ai) (H₀:Hp) (ex:List ah) (pn:List (ah×Obj)):C:=⟨cH c.X N' scope cl A s₀ H₀ ex pn,c.cls,E0⟩
variable {elt iter:bL}{ifs:List bL}{scope:gq}{N':List Str}{nt:Nat}{ix:List Nat}{gi:az->R (List D)}{gt:az->R Bool}{ge:az->R D}
def vd (c:C) (N':List Str) (scope:gq) (nt:Nat) (tg:bL) (ifs:List bL) (elt:bL) (gt:az->R Bool) (ge:az->R D):Prop :=
 ∀ cl A s₀ H₀ ex pn,PG (c.comp N' scope cl A s₀ H₀ ex pn).X tg (KH c.X.K nt)/\UY (c.comp N' scope cl A s₀ H₀ ex pn) ifs gt/\JE (c.comp N' scope cl A s₀ H₀ ex pn) elt ge
theorem vd.at (h:vd c N' scope nt tg ifs elt gt ge):∀ cl A s₀ H₀ ex pn,PG (cH c.X N' scope cl A s₀ H₀ ex pn) tg (KH c.X.K nt)/\P3 (cH c.X N' scope cl A s₀ H₀ ex pn) ifs (fun σ H Q=>∃ ρ',Kz c.X.K c.cls E0 ρ' (gt ρ') σ H Q) /\
  PE (cH c.X N' scope cl A s₀ H₀ ex pn) elt (fun σ H Q=>∃ ρ',TR c.X.K c.cls E0 ρ' (ge ρ') σ H Q):=fun cl A s₀ H₀ ex pn=>by
 obtain ⟨h1,h2,h3⟩:=h cl A s₀ H₀ ex pn;exact ⟨h1,fun pins s σ H Q I h_4=>by obtain ⟨ρ',q⟩:=h_4;exact h2 ρ' pins s σ H Q I q,fun pins s σ H Q I h_5=>by obtain ⟨ρ',q⟩:=h_5;exact h3 ρ' pins s σ H Q I q⟩
theorem fN (nt:Nat) (hnt:nt=1\/nt=2) (hc:c.X.calm=true) (S:o7 c.X scope N' nt ix) (hi:JI c tg iter gi) (hb:vd c N' scope nt tg ifs elt gt ge) (hs:∀ x,dY iter c.X.env x=pure x:=by intro _;rfl) :
  JN c (.ListComp elt [⟨tg,iter,ifs,0⟩] scope pos) (fg nt ix gi gt ge):=.of fun ρ=>tJ (E5 hc S (C_ hnt) (hi ρ) hb.at hs) fun σ H Q q=>IX hnt q
theorem kn (i:Nat) {spos py:Pos} (nt:Nat) (hnt:nt=1\/nt=2) (hN:c.X.N.Nodup) (hc:c.X.calm=true) (S:o7 c.X scope N' nt ix) (hi:JI c tg iter gi) (hb:vd c N' scope nt tg ifs elt gt ge)
  (hiN:c.X.N[i]?=some x:=by rfl) (hy:c.X.env.scope.names.lookup x=some .local:=by rfl)
  (hsw:iR (.ListComp elt [⟨tg,iter,ifs,0⟩] scope pos) (some (.Name x py)) spos.line c.X.env=pure true:=by rfl)
  (hs:∀ x,dY iter c.X.env x=pure x:=by intro _;rfl):JS c (.Assign [.Name x py] (.ListComp elt [⟨tg,iter,ifs,0⟩] scope pos) spos) (iX i (fg nt ix gi gt ge)):=.of fun ρ=>AD (GP hN hiN hy hc S (C_ hnt) (hi ρ) hb.at hsw hs) fun D σ H h_6=>by
 obtain ⟨H0,Hs0,la,Hs,f,q⟩:=h_6;refine IX (Q:=fun x H1=>D.nx (σ.set i (some x)) H1) hnt (sN f q fun d a o H1 Hs1 e1 f1 n1 r1=>?_);unfold iX at q;rw [e1,bind_ok] at q;exact q _ _ Hs1 (f1.setO i n1 r1)
end
end
section
theorem Nh   (h:PS X.nox st t):PS X st t:=fun pins s σ H D I hw =>
 aV (h pins s σ H D (I.wish _) hw) (fun _ _ q=>q.unwish) fun _ _ z=>ed z
def C.nox (c:C):C:=⟨c.X.nox,c.cls,E0⟩
def ii (k:D->az->R az) (b:az->R Fl):List D->az->R Fl
 |[],ρ=>.ok (.nx ρ)
 |d::r,ρ=>match k d ρ with
  |.ok ρ1=>match b ρ1 with
   |.ok (.nx ρ')=>ii k b r ρ'
   |.ok (.ct ρ')=>ii k b r ρ'
   |.ok (.bk ρ')=>.ok (.nx ρ')
   |.ok (.rt d)=>.ok (.rt d)
   |_=>.no
  |_=>.no
def D0 (i:Nat) (ρ:az):az:=match ρ[i]? with
 |some (Sl.own d)=>ρ.set i (.lck d)
 |_=>ρ
def zf (i:Nat) (ρ0 ρ:az):az:=match ρ0[i]?,ρ[i]? with
 |some (Sl.own _),some (Sl.lck d)=>ρ.set i (.own d)
 |_,_=>ρ
def XX (i:Nat) (ρ0:az):R Fl->R Fl
 |.ok (.nx ρ)=>.ok (.nx (zf i ρ0 ρ))
 |.ok (.bk ρ)=>.no
 |.ok (.ct ρ)=>.no
 |r=>r
section
inductive XD (K:a7) (cls:Str->ah) (E:XK) (H0 Hs0:Hp) (la:Nat->Option ah) (D':Ck) (kt:D->az->R az) (gb:az->R Fl) (ds:List D) (i m:Nat) (σ:St) (H:Hp):Prop
 |mk (done bB ρ Hs:_) (h0:ds=done++bB) (h1:done.length=i) (h2:bB.length=m) (h3:Fr K H0 Hs0 la ρ σ H Hs) (h4:oj K cls E H0 Hs0 la D' (ii kt gb bB ρ)):XD K cls E H0 Hs0 la D' kt gb ds i m σ H
theorem Ni
  (it:Nc K J ds Hn Hs0) (hn:dn Hn H0) (f:Fr K H0 Hs0 la ρ σ H Hs)
  (htg:∀ ρ d v σ H Q,Tc K ρ d (kt d ρ) v σ H Q->tg v σ H Q) (htb:∀ ρ D σ H,SR K cls E0 ρ (gb ρ) D σ H->tb D σ H)
  (q:oj K cls E H0 Hs0 la D' (ii kt gb ds ρ)) :
  Wu tg tb D' σ J H:=by
 refine ⟨XD K cls E H0 Hs0 la D' kt gb ds,⟨ds.length,[],ds,ρ,Hs,rfl,rfl,rfl,f,q⟩,?_⟩;rintro i m σ H ⟨done,bB,ρ,Hs,hds,hdl,hrl,f,q⟩;obtain ⟨igo,istop,iyld⟩:=it H Hs (hn.trans f.st.all) f.st.sh f.st.sub;cases bB with
 |nil =>
  rw [cr] at hds;subst hds;exact .inl ⟨istop i (by omega),q σ H Hs f⟩
 |cons d bB =>
  have hil:i<ds.length:=by rw [hds,aL,aU];omega
  refine .inr ⟨igo i hil,fun σ' H'=>∃ ρ' Hs',Fr K H0 Hs0 la ρ' σ' H' Hs'/\oj K cls E H0 Hs0 la D' (ii kt gb bB ρ'),fun σ' H' ⟨ρ',Hs',f',q'⟩=>⟨bB.length,by rw [<- hrl];simp,done++[d],bB,ρ',Hs',by rw [hds];simp,by simp [hdl],rfl,f',q'⟩,fun x H2 hyl=>?_⟩;obtain ⟨d',Hs2,hd,s2,r2⟩:=iyld i x H2 hil hyl;have hdd:d'=d:=by
   rw [hds,bc (by omega)] at hd;simp [hdl] at hd;exact hd.symm
  subst hdd;unfold ii at q;refine htg ρ d' x σ H2 _ ⟨H0,Hs0,la,Hs2,f.step s2,r2,?_⟩;cases hk:kt d' ρ with
  |ex c n=>rw [hk] at q;exact q
  |no=>rw [hk] at q;exact q
  |ok ρ1 =>
   rw [hk] at q;intro σ2 f2;refine htb ρ1 _ σ2 H2 ⟨H0,Hs0,la,Hs2,f2,?_⟩;cases hg:gb ρ1 with
   |no=>simp only [hg] at q;exact q.elim
   |ex c n=>simp only [hg] at q;exact q.elim
   |ok fl =>
    simp only [hg] at q;cases fl with
    |nx ρ'=>exact fun σ' H' Hs' f'=>⟨ρ',Hs',f',q⟩
    |ct ρ'=>exact fun σ' H' Hs' f'=>⟨ρ',Hs',f',q⟩
    |bk ρ'=>exact fun σ' H' Hs' f'=>q σ' H' Hs' f'
    |rt d=>exact q
def t4 (A B:Hp):Hp:=fun b=>match A b with
 |some o=>some o
 |none=>B b
theorem jP:dn A (t4 A B):=fun b o e=>by unfold t4;rw [e]
theorem jx  (h:A b=none):t4 A B b=B b:=by unfold t4;rw [h]
theorem ED (h1:dn A H) (h2:dn B H):dn (t4 A B) H:=fun b o e=>by
 cases h:A b with
 |some u=>unfold t4 at e;rw [h] at e;cases e;exact h1 b o h
 |none=>rw [jx h] at e;exact h2 b o e
theorem Nj (h1:dn A H) (h2:dn B H):dn B (t4 A B):=fun b o e=>by
 cases h:A b with
 |some u =>
  unfold t4;rw [h];have:=h1 b u h;rw [h2 b o e] at this;exact this.symm
 |none=>rw [jx h];exact e
theorem Fr.into    (f:Fr K H0 Hs0 la ρ σ H Hs):Fr K (t4 H0 Hs) Hs la ρ σ H Hs:=by
 have sub:=ED f.st.all f.st.sub;refine ⟨⟨sub,.refl _,f.st.sub,fun a o e _ z=>z⟩,f.len,f.sh,fun i d h=>?_,fun i d h=>?_,f.dj,fun i a e=>let ⟨o,k⟩:=f.lh i a e;⟨o,jP _ _ k⟩,fun i d h=>?_,f.u2⟩
 ·obtain ⟨a,o,h1,h2,h3,h4,h5⟩:=f.ow i d h;exact ⟨a,o,h1,h2,h3,by rw [jx h4];exact h3,h5⟩
 ·obtain ⟨a,o,h1,h2,h3,h4,h5,h6⟩:=f.lk i d h;exact ⟨a,o,h1,h2,h3,h4,jP _ _ h5,h6⟩
 ·obtain ⟨a,as,O⟩:=f.o2 i d h;exact ⟨a,as,O.at_,O.ob,O.nd,fun b hb=>⟨(O.out b hb).1,by rw [jx (O.out b hb).2];exact (O.out b hb).1⟩,O.dj,O.inn⟩
theorem cD.outof (s:cD H0 Hs0 H1 Hs1) (t:cD (t4 H0 Hs1) Hs1 H' Hs'):cD H0 Hs0 H' Hs' :=
 ⟨jP.trans t.all,s.sh.trans t.sh,t.sub,fun a o e n z=>t.out a o (jP _ _ e) n (s.out a o e n z)⟩
theorem Fr.outof    (f1:Fr K H0 Hs0 la ρ1 σ1 H1 Hs1) (f:Fr K (t4 H0 Hs1) Hs1 la ρ σ H' Hs'):Fr K H0 Hs0 la ρ σ H' Hs':=by
 refine ⟨f1.st.outof f.st,f.len,f.sh,fun i d h=>?_,fun i d h=>?_,f.dj,f1.lh,fun i d h=>?_,f.u2⟩
 ·obtain ⟨a,o,h1,h2,h3,h4,h5⟩:=f.ow i d h;exact ⟨a,o,h1,h2,h3,jP.free h4,h5⟩
 ·obtain ⟨a,o,h1,h2,h3,h4,h5,h6⟩:=f.lk i d h;obtain ⟨o',e⟩:=f1.lh i a h2;have e':=jP (B:=Hs1) _ _ e;rw [h5] at e';cases e';exact ⟨a,o,h1,h2,h3,h4,e,h6⟩
 ·obtain ⟨a,as,O⟩:=f.o2 i d h;exact ⟨a,as,O.at_,O.ob,O.nd,fun b hb=>⟨(O.out b hb).1,jP.free (O.out b hb).2⟩,O.dj,O.inn⟩
end
end
section
section
theorem oj.into      (f1:Fr K H0 Hs0 la ρ1 σ1 H1 Hs1) (q:oj K cls E H0 Hs0 la D' r):oj K cls E (t4 H0 Hs1) Hs1 la D' r:=by
 cases r with
 |no=>exact q
 |ex c n=>exact fun H' Hs' s=>q H' Hs' (f1.st.outof s)
 |ok fl =>
  cases fl with
  |nx ρ=>exact fun σ' H' Hs' f=>q σ' H' Hs' (f1.outof f)
  |bk ρ=>exact fun σ' H' Hs' f=>q σ' H' Hs' (f1.outof f)
  |ct ρ=>exact fun σ' H' Hs' f=>q σ' H' Hs' (f1.outof f)
  |rt d=>exact fun v H' Hs' s r=>q v H' Hs' (f1.st.outof s) r
theorem Fr.lock    (f:Fr K H0 Hs0 la ρ σ H Hs)    (hi:ρ[i]?=some (Sl.own d)) (k1:σ[i]?=some (some (V.ref a))) (k2:H a=some o) (k3:Hs a=none) (k4:H0 a=none) (k5:mW K Hs o d) :
  Fr K (t4 H0 (upd Hs a o)) Hs (fun j=>if j=i then some a else la j) (ρ.set i (.lck d)) σ H Hs:=by
 have hil:i<ρ.length:=(List.getElem?_eq_some_iff.mp hi).1;have sub:dn (upd Hs a o) H:=fun b u q=>by
  by_cases hb:b=a
  ·subst hb;rw [aT] at q;cases q;exact k2
  ·rw [aO hb] at q;exact f.st.sub b u q
 have nx:∀ {j:Nat}{s:Sl},(∀ d,s≠.lck d)->(ρ.set i (.lck d))[j]?=some s->ρ[j]?=some s/\i≠j:=fun {j s} hs e=>by
  by_cases hj:i=j
  ·subst hj;rw [aG hil] at e;exact absurd (bD e).symm (hs d)
  ·rw [aj hj] at e;exact ⟨e,hj⟩
 refine ⟨⟨ED f.st.all sub,.refl _,f.st.sub,fun a o e _ z=>z⟩,by simp [f.len],fun j e h=>?_,fun j e h=>?_,fun j e h=>?_,fun j k d1 d2 b h1 h2 h3 h4=>?_,fun j b h=>?_,fun j e h=>?_,fun j k d1 d2 h1 h2=>?_⟩
 ·obtain ⟨h,_⟩:=nx (fun _ z=>by cases z) h;exact f.sh j e h
 ·obtain ⟨h,hj⟩:=nx (fun _ z=>by cases z) h;obtain ⟨b,u,q1,q2,q3,q4,q5⟩:=f.ow j e h;refine ⟨b,u,q1,q2,q3,?_,q5⟩;rw [jx q4,aO (fun z=>hj ?_)]
  ·exact q3
  ·subst z;exact f.dj i j d e b hi h k1 q1
 ·by_cases hj:i=j
  ·subst hj;rw [aG hil] at h;cases h;exact ⟨a,o,k1,if_pos rfl,k2,k3,by rw [jx k4,aT],k5⟩
  ·rw [aj hj] at h;obtain ⟨b,u,q1,q2,q3,q4,q5,q6⟩:=f.lk j e h;exact ⟨b,u,q1,by rw [if_neg (cZ hj)];exact q2,q3,q4,jP _ _ q5,q6⟩
 ·obtain ⟨h1,_⟩:=nx (fun _ z=>by cases z) h1;obtain ⟨h2,_⟩:=nx (fun _ z=>by cases z) h2;exact f.dj j k d1 d2 b h1 h2 h3 h4
 ·by_cases hj:j=i
  ·simp only [if_pos hj] at h;cases h;exact ⟨o,by rw [jx k4,aT]⟩
  ·simp only [if_neg hj] at h;obtain ⟨u,e⟩:=f.lh j b h;exact ⟨u,jP _ _ e⟩
 ·obtain ⟨h,hj⟩:=nx (fun _ z=>by cases z) h;obtain ⟨b,as,O⟩:=f.o2 j e h;refine ⟨b,as,O.at_,O.ob,O.nd,fun c hc=>⟨(O.out c hc).1,?_⟩,fun c hc k e' hk=>O.dj c hc k e' (nx (fun _ z=>by cases z) hk).1,O.inn⟩;rw [jx (O.out c hc).2,aO (fun z=>?_)]
  ·exact (O.out c hc).1
  ·subst z;exact O.dj c hc i d hi k1
 ·exact f.u2 j k d1 d2 (nx (fun _ z=>by cases z) h1).1 (nx (fun _ z=>by cases z) h2).1
theorem cD.unlock   (s:cD H0 Hs0 H Hs) (t:cD (t4 H0 (upd Hs a o)) Hs H' Hs'):cD H0 Hs0 H' Hs' :=
 ⟨jP.trans t.all,s.sh.trans t.sh,t.sub,fun b u e n z=>t.out b u (jP _ _ e) n (s.out b u e n z)⟩
theorem Fr.unlock    (f:Fr K H0 Hs0 la ρ σ H Hs)    (hi:ρ[i]?=some (Sl.own d)) (k4:H0 a=none)
  (f':Fr K (t4 H0 (upd Hs a o)) Hs (fun j=>if j=i then some a else la j) ρ' σ' H' Hs'):Fr K H0 Hs0 la (zf i ρ ρ') σ' H' Hs':=by
 have st:=f.st.unlock f'.st;have own:∀ (j:Nat) (e:D),ρ'[j]?=some (Sl.own e)->∃ b u,σ'[j]?=some (some (V.ref b))/\H' b=some u/\Hs' b=none/\H0 b=none/\mW K Hs' u e/\(t4 H0 (upd Hs a o)) b=none:=fun j e h=>by
  obtain ⟨b,u,q1,q2,q3,q4,q5⟩:=f'.ow j e h;exact ⟨b,u,q1,q2,q3,jP.free q4,q5,q4⟩
 have lck:∀ (j:Nat) (e:D),j≠i->ρ'[j]?=some (Sl.lck e)->∃ b u,σ'[j]?=some (some (V.ref b))/\la j=some b/\H' b=some u/\Hs' b=none/\H0 b=some u/\mW K Hs' u e:=fun j e hj h=>by
  obtain ⟨b,u,q1,q2,q3,q4,q5,q6⟩:=f'.lk j e h;simp only [if_neg hj] at q2;obtain ⟨u',e'⟩:=f.lh j b q2;have:=jP (B:=upd Hs a o) _ _ e';rw [q5] at this;cases this;exact ⟨b,u,q1,q2,q3,q4,e',q6⟩
 have two:∀ (j:Nat) (e:List (List D)),ρ'[j]?=some (Sl.ow2 e)->∃ b as,O2 K H0 H' Hs' ρ' σ' j e b as:=fun j e h=>by
  obtain ⟨b,as,O⟩:=f'.o2 j e h;exact ⟨b,as,O.at_,O.ob,O.nd,fun c hc=>⟨(O.out c hc).1,jP.free (O.out c hc).2⟩,O.dj,O.inn⟩
 unfold zf;cases hl:ρ'[i]? with
 |none =>
  simp only [hi];refine ⟨st,f'.len,f'.sh,fun j e h=>let ⟨b,u,q1,q2,q3,q4,q5,_⟩:=own j e h;⟨b,u,q1,q2,q3,q4,q5⟩,fun j e h=>lck j e (fun z=>by rw [z,hl] at h;cases h) h,f'.dj,f.lh,two,f'.u2⟩
 |some s =>
  cases s with
  |no=>simp only [hi];exact ⟨st,f'.len,f'.sh,fun j e h=>let ⟨b,u,q1,q2,q3,q4,q5,_⟩:=own j e h;⟨b,u,q1,q2,q3,q4,q5⟩,fun j e h=>lck j e (fun z=>by rw [z,hl] at h;cases h) h,f'.dj,f.lh,two,f'.u2⟩
  |shr _=>simp only [hi];exact ⟨st,f'.len,f'.sh,fun j e h=>let ⟨b,u,q1,q2,q3,q4,q5,_⟩:=own j e h;⟨b,u,q1,q2,q3,q4,q5⟩,fun j e h=>lck j e (fun z=>by rw [z,hl] at h;cases h) h,f'.dj,f.lh,two,f'.u2⟩
  |own _=>simp only [hi];exact ⟨st,f'.len,f'.sh,fun j e h=>let ⟨b,u,q1,q2,q3,q4,q5,_⟩:=own j e h;⟨b,u,q1,q2,q3,q4,q5⟩,fun j e h=>lck j e (fun z=>by rw [z,hl] at h;cases h) h,f'.dj,f.lh,two,f'.u2⟩
  |ow2 _=>simp only [hi];exact ⟨st,f'.len,f'.sh,fun j e h=>let ⟨b,u,q1,q2,q3,q4,q5,_⟩:=own j e h;⟨b,u,q1,q2,q3,q4,q5⟩,fun j e h=>lck j e (fun z=>by rw [z,hl] at h;cases h) h,f'.dj,f.lh,two,f'.u2⟩
  |lck d' =>
   simp only [hi];have hil:i<ρ'.length:=(List.getElem?_eq_some_iff.mp hl).1;have nx:∀ {j:Nat}{s:Sl},(∀ d,s≠.own d)->(ρ'.set i (.own d'))[j]?=some s->ρ'[j]?=some s/\i≠j:=fun {j s} hs e=>by
    by_cases hj:i=j
    ·subst hj;rw [aG hil] at e;exact absurd (bD e).symm (hs d')
    ·rw [aj hj] at e;exact ⟨e,hj⟩
   obtain ⟨b,u,q1,q2,q3,q4,q5,q6⟩:=f'.lk i d' hl;simp only [if_pos rfl] at q2;cases q2;have ne:∀ (j:Nat) (e:D),ρ'[j]?=some (Sl.own e)->σ'[j]?≠some (some (V.ref a)):=fun j e h z=>by
    obtain ⟨b,u,p1,_,_,_,_,p6⟩:=own j e h;rw [z] at p1;cases p1;rw [q5] at p6;cases p6
   refine ⟨st,by simp [f'.len],fun j e h=>?_,fun j e h=>?_,fun j e h=>?_,fun j k d1 d2 c h1 h2 h3 h4=>?_,f.lh,fun j e h=>?_,fun j k d1 d2 h1 h2=>?_⟩
   ·obtain ⟨h,_⟩:=nx (fun _ z=>by cases z) h;exact f'.sh j e h
   ·by_cases hj:i=j
    ·subst hj;rw [aG hil] at h;cases h;exact ⟨a,u,q1,q3,q4,k4,q6⟩
    ·rw [aj hj] at h;obtain ⟨b,u,p1,p2,p3,p4,p5,_⟩:=own j e h;exact ⟨b,u,p1,p2,p3,p4,p5⟩
   ·obtain ⟨h,hj⟩:=nx (fun _ z=>by cases z) h;exact lck j e (cZ hj) h
   ·by_cases hj:i=j
    ·by_cases hk:i=k
     ·exact hj.symm.trans hk
     ·rw [aj hk] at h2;subst hj;rw [q1] at h3;cases h3;exact (ne k d2 h2 h4).elim
    ·rw [aj hj] at h1;by_cases hk:i=k
     ·subst hk;rw [q1] at h4;cases h4;exact (ne j d1 h1 h3).elim
     ·rw [aj hk] at h2;exact f'.dj j k d1 d2 c h1 h2 h3 h4
   ·obtain ⟨h,hj⟩:=nx (fun _ z=>by cases z) h;obtain ⟨b,as,O⟩:=two j e h;refine ⟨b,as,O.at_,O.ob,O.nd,O.out,fun c hc k e' hk=>?_,O.inn⟩;by_cases nk:i=k
    ·subst nk;intro z;rw [q1] at z;cases z;obtain ⟨b',as',O'⟩:=f'.o2 j e h;have hh:=O.at_;rw [O'.at_] at hh;cases hh;have hs:as'=as:=by
      have h1:=O.ob;rw [O'.ob] at h1;injection h1 with h1;injection h1 with h1;exact LL (fun x y z=>by cases z;rfl) |>.mp h1
     subst hs;have:=(O'.out _ hc).2;rw [q5] at this;cases this
    ·rw [aj nk] at hk;exact O.dj c hc k e' hk
   ·exact f'.u2 j k d1 d2 (nx (fun _ z=>by cases z) h1).1 (nx (fun _ z=>by cases z) h2).1
end
section
def pP (gi:az->R (List D)) (kt:D->az->R az) (gb:az->R Fl):az->R Fl:=fun ρ=>match gi ρ with
 |.ok ds=>ii kt gb ds ρ
 |_=>.no
theorem mx (hc:c.X.calm=true) (hi:IS c.nox tg iter gi) (hg:JG c.nox tg kt) (hb:Hf c.nox body gbd) (hs:∀ x,dY iter c.X.env x=pure x:=by intro _;rfl):JS c (.For tg iter body [] pos) (pP gi kt gbd):=.of fun ρ=>by
 refine Nh (AD (Mk wc hc (hi ρ) (g:=fun v σ H Q=>∃ ρ d,Tc c.X.K ρ d (kt d ρ) v σ H Q) (tb:=fun D σ H=>∃ ρ,SR c.X.K c.cls E0 ρ (gbd ρ) D σ H) ?_ ?_ hs) fun D σ H ⟨H0,Hs0,la,Hs,f,q⟩=>?_)
 ·exact fun pins s σ H v u Q I r h_0=>by obtain ⟨ρ,d,q⟩:=h_0;exact hg ρ d pins s σ H v u Q I r q
 ·exact fun pins s σ H D I h_1=>by obtain ⟨ρ,q⟩:=h_1;exact hb ρ pins s σ H D I q
 ·refine ⟨H0,Hs0,la,Hs,f,?_⟩;unfold pP at q;cases hr:gi ρ with
  |no=>rw [hr] at q;exact q
  |ex x n=>rw [hr] at q;exact q.elim
  |ok ds =>
   rw [hr] at q;intro J H1 Hs1 s1 it;have f1:=f.step s1;exact Ni (E:=c.E) (cls:=c.cls) (kt:=kt) (gb:=gbd) (tg:=fun v σ H Q=>∃ ρ d,Tc c.X.K ρ d (kt d ρ) v σ H Q) (tb:=fun D σ H=>∃ ρ,SR c.X.K c.cls E0 ρ (gbd ρ) D σ H) it (Nj f1.st.all f1.st.sub) f1.into (fun ρ d v σ H Q h=>⟨ρ,d,h⟩) (fun ρ D σ H h=>⟨ρ,h⟩) (oj.into f1 q)
def zg (i:Nat) (kt:D->az->R az) (gb:az->R Fl):az->R Fl:=fun ρ=>match ρ[i]? with
 |some (Sl.own (.list ds))=>XX i ρ (ii kt gb ds (D0 i ρ))
 |_=>pP (lX fun ρ=>G6 ρ i) kt gb ρ
theorem zh {kt:D->az->R az}{gb:az->R Fl}:∀ (ds:List D) (ρ:az) (fl:Fl),ii kt gb ds ρ=.ok fl->(∃ ρ',fl=.nx ρ')\/∃ d,fl=.rt d
 |[],ρ,fl,h=>by cases h;exact .inl ⟨_,rfl⟩
 |d::r,ρ,fl,h=>by
  unfold ii at h;split at h
  ·split at h
   ·exact zh r _ _ h
   ·exact zh r _ _ h
   ·cases h;exact .inl ⟨_,rfl⟩
   ·cases h;exact .inr ⟨_,rfl⟩
   ·cases h
  ·cases h
theorem D1 {kt:D->az->R az}{gb:az->R Fl}:∀ (ds:List D) (ρ:az) (c:Str) (n:Option D),ii kt gb ds ρ≠.ex c n
 |[],ρ,c,n,h=>by cases h
 |d::r,ρ,c,n,h=>by
  unfold ii at h;split at h
  ·split at h
   ·exact D1 r _ _ _ h
   ·exact D1 r _ _ _ h
   ·cases h
   ·cases h
   ·cases h
  ·cases h
theorem Qq (i:Nat) (hc:c.X.calm=true) (hg:JG c.nox tg kt) (hb:Hf c.nox body gbd) (hN:c.X.N[i]?=some x:=by rfl) (hv:Ps c.X.env.scope x:=by first|exact iF rfl|exact fK (iF rfl)|exact fK (fK rfl)) (hd:(x==("__debug__" : Str))=false:=by decide)
  (hcd:(x==("__classdict__" : Str))=false:=by decide) (hs:∀ y,dY (.Name x p) c.X.env y=pure y:=by intro _;rfl):JS c (.For tg (.Name x p) body [] pos) (zg i kt gbd):=.of fun ρ=>by
 by_cases ho:∃ ds,ρ[i]?=some (Sl.own (.list ds))
 ·obtain ⟨ds,ho⟩:=ho;refine Nh (AD (Mk (tg:=tg) wc hc (uQ (X:=c.nox.X) (pF hN hv hd hcd)) (g:=fun v σ H Q=>∃ ρ d,Tc c.X.K ρ d (kt d ρ) v σ H Q) (tb:=fun D σ H=>∃ ρ,SR c.X.K c.cls E0 ρ (gbd ρ) D σ H) ?_ ?_ hs) fun D σ H ⟨H0,Hs0,la,Hs,f,q⟩=>?_)
  ·exact fun pins s σ H v u Q I r h_2=>by obtain ⟨ρ,d,q⟩:=h_2;exact hg ρ d pins s σ H v u Q I r q
  ·exact fun pins s σ H D I h_3=>by obtain ⟨ρ,q⟩:=h_3;exact hb ρ pins s σ H D I q
  ·obtain ⟨a,o,k1,k2,k3,k4,k5⟩:=f.ow i _ ho;cases k5 with
   | @lst vs _ r =>
    refine ⟨_,k1,a,rfl,⟨_,.of k2⟩,?_⟩;have hn:nl c.X.K (upd Hs a (.lst vs)) a vs:=.of aT;unfold zg at q;simp only [ho] at q;have fl:=f.lock ho k1 k2 k3 k4 (.lst r);have sub:dn (upd Hs a (.lst vs)) H:=fun b u q=>by
     by_cases hb:b=a
     ·subst hb;rw [aT] at q;cases q;exact k2
     ·rw [aO hb] at q;exact f.st.sub b u q
    refine Ni (E:=c.E) (cls:=c.cls) (kt:=kt) (gb:=gbd) (ρ:=D0 i ρ) (Hs:=Hs) (la:=fun i'=>if i'=i then some a else la i') (tg:=fun v σ H Q=>∃ ρ d,Tc c.X.K ρ d (kt d ρ) v σ H Q) (tb:=fun D σ H=>∃ ρ,SR c.X.K c.cls E0 ρ (gbd ρ) D σ H) (CZ hn r) (Nj f.st.all sub) ?_ (fun ρ d v σ H Q h=>⟨ρ,d,h⟩) (fun ρ D σ H h=>⟨ρ,h⟩) ?_
    ·unfold D0;rw [ho];exact fl
    ·cases hr:ii kt gbd ds (D0 i ρ) with
     |no=>rw [hr] at q;exact q
     |ex c n=>exact (D1 _ _ _ _ hr).elim
     |ok fl =>
      rw [hr] at q;rcases zh _ _ _ hr with ⟨ρ',rfl⟩|⟨d,rfl⟩
      ·exact fun σ' H' Hs' f'=>q σ' H' Hs' (f.unlock ho k4 f')
      ·exact fun v H' Hs' s r=>q v H' Hs' (f.st.unlock s) r
 ·have e:zg i kt gbd ρ=pP (lX fun ρ=>G6 ρ i) kt gbd ρ:=by
   unfold zg;split
   ·rename_i ds h;exact (ho ⟨ds,h⟩).elim
   ·rfl
  rw [e];exact mx hc (IU (c:=c.nox) (af (c:=c.nox) i hN hv hd hcd)) hg hb hs ρ
def i_ (t:az->R Bool) (b:az->R Fl):Nat->az->R Fl
 | 0,_=>.no
 |n+1,ρ=>match t ρ with
  |.ok true=>match b ρ with
   |.ok (.nx ρ')=>i_ t b n ρ'
   |.ok (.ct ρ')=>i_ t b n ρ'
   |.ok (.bk ρ')=>.ok (.nx ρ')
   |.ok (.rt d)=>.ok (.rt d)
   |_=>.no
  |.ok false=>.ok (.nx ρ)
  |_=>.no
theorem EE (n:Nat)  (ht:JT c.nox t gt) (hb:Hf c.nox body gbd):JS c (.While t body [] pos) (i_ gt gbd n):=.of fun ρ=>by
 refine Nh (AD (Mh wc (tc:=fun σ H Q=>∃ ρ,Kz c.X.K c.cls E0 ρ (gt ρ) σ H Q) (tb:=fun D σ H=>∃ ρ,SR c.X.K c.cls E0 ρ (gbd ρ) D σ H) ?_ ?_) fun D σ H ⟨H0,Hs0,la,Hs,f,q⟩=>?_)
 ·exact fun pins s σ H Q I h_4=>by obtain ⟨ρ,q⟩:=h_4;exact ht ρ pins s σ H Q I q
 ·exact fun pins s σ H D I h_5=>by obtain ⟨ρ,q⟩:=h_5;exact hb ρ pins s σ H D I q
 ·refine ⟨fun m σ H=>∃ ρ Hs,Fr c.X.K H0 Hs0 la ρ σ H Hs/\oj c.X.K c.cls c.E H0 Hs0 la D (i_ gt gbd m ρ),⟨n,ρ,Hs,f,q⟩,?_⟩;rintro m σ H ⟨ρ,Hs,f,q⟩;cases m with
  |zero=>exact q.elim
  |succ m =>
   unfold i_ at q;refine ⟨ρ,H0,Hs0,la,Hs,f,?_⟩;cases hg:gt ρ with
   |no=>rw [hg] at q;exact q
   |ex x n=>rw [hg] at q;exact q.elim
   |ok b =>
    rw [hg] at q;intro H1 Hs1 s1;cases b with
    |false=>exact Aw (q σ H1 Hs1 (f.step s1))
    |true =>
     refine DZ ⟨fun σ' H'=>∃ ρ' Hs',Fr c.X.K H0 Hs0 la ρ' σ' H' Hs'/\oj c.X.K c.cls c.E H0 Hs0 la D (i_ gt gbd m ρ'),fun σ' H' h=>⟨m,ev _,h⟩,ρ,H0,Hs0,la,Hs1,f.step s1,?_⟩;cases hb':gbd ρ with
     |no=>simp only [hb'] at q;exact q
     |ex x n=>simp only [hb'] at q;exact q.elim
     |ok fl =>
      simp only [hb'] at q;cases fl with
      |nx ρ'=>exact fun σ' H' Hs' f'=>⟨ρ',Hs',f',q⟩
      |ct ρ'=>exact fun σ' H' Hs' f'=>⟨ρ',Hs',f',q⟩
      |bk ρ'=>exact fun σ' H' Hs' f'=>q σ' H' Hs' f'
      |rt d=>exact q
end
end
section
section
def pQ (i:Nat) (g:az->R D):az->R Fl:=fun ρ=>match ρ[i]? with
 |some (Sl.own (.list ds))=>(g ρ).bind fun d=>if ds.length<1000 then .ok (.nx (ρ.set i (.own (.list (ds++[d]))))) else .no
 |_=>.no
theorem oS (i:Nat) (h:JE c e g) (hN:c.X.N[i]?=some x:=by rfl) (hv:Ps c.X.env.scope x:=by first|exact iF rfl|exact fK (iF rfl)|exact fK (fK rfl)) (hd:(x==("__debug__" : Str))=false:=by decide)
  (hcd:(x==("__classdict__" : Str))=false:=by decide)
  (hbase:mQ (.Name x p) "append" c.X.env (cz (.Name x p) c.X.env)=cz (.Name x p) c.X.env:=by rfl)
  (hfew:((gL cpos (aw [e] c.X.env)).all (fun x=>!x.1)&&(backToKw cpos (P7 [] c.X.env)).all (fun x=>x.1.isSome)
   && decide ([e].length+([] : List FV).length+(if ([] : List FV).isEmpty then 0 else 1)<30))=true:=by rfl)
  (hline:(apos.endLine==cpos.line)=true:=by rfl) (hst:aw [e] c.X.env=(false,cz e c.X.env)::aw [] c.X.env:=by rfl) (hplain:(gL cpos (aw [] c.X.env)).any (·.1)=false:=by rfl)
  (hs:iR (.Call (.Attribute (.Name x p) "append" apos) [e] [] cpos) none pos.line c.X.env=pure false:=by rfl) :
  JS c (.Expr (.Call (.Attribute (.Name x p) "append" apos) [e] [] cpos) pos) (pQ i g):=.of fun ρ=>by
 refine AD (uP (Bj eN Ao Ap Bk (pF hN hv hd hcd) (bT (h ρ) eA hst) hbase hfew hline hst hplain) hs) fun D σ H h_0=>?_;obtain ⟨H0,Hs0,la,Hs,f,q⟩:=h_0;replace q:oj c.X.K c.cls c.E H0 Hs0 la D (pQ i g ρ):=q;unfold pQ at q;split at q
 ·rename_i ds ho
  obtain ⟨a,o,k1,k2,k3,k4,k5⟩:=f.ow i _ ho;cases k5 with
  | @lst vs _ r =>
   refine ⟨_,k1,.inl ⟨rfl,_,.of k2⟩,?_⟩;refine sE f q fun d v H1 Hs1 e1 s1 f1 r1=>?_;rw [e1,bind_ok] at q;by_cases hl:ds.length<1000
   ·rw [if_pos hl] at q;have r':=r.same s1.sh;exact ⟨a,vs,v,rfl,rfl,s1.all _ _ k2,cf (by rw [r.length];omega),q _ _ Hs1 (f1.write i ho k1 (.lst (r'.append (.cons r1 .nil))))⟩
   ·rw [if_neg hl] at q;exact q.elim
 ·exact q.elim
def rG:D->Option fS
 |.int i=>some (.inl i)
 |.str x=>some (.inr x)
 |_=>none
theorem zi  (h:rG d=some y):d=kD y:=by
 cases d<;>cases h<;>rfl
def AG (kvs:List (D×D)) (k d:D):List (D×D):=if kvs.any (fun kv=>bw kv.1 k) then kvs.map (fun kv=>if bw kv.1 k then (kv.1,d) else kv) else kvs++[(k,d)]
theorem Hi (a b:fS):bw (kD a) (kD b)=decide (a=b):=by
 cases a<;>cases b<;>simp [kD,bw,sd]
theorem RDk.any   (y:fS):∀ {ds:List (D×D)},RDk K H kvs ds->(ds.any fun kv=>bw kv.1 (kD y))=kvs.any fun kv=>decide (kv.1=y):=by
 induction kvs with
 |nil=>intro ds h;cases h;rfl
 |cons x r ih=>intro ds h;cases h with|cons h t=>rw [fv,fv,ih t,Hi]
theorem RDk.repl  (y:fS)  (rv:RD K H v d):∀ {kvs:List (fS×V)}{ds:List (D×D)},RDk K H kvs ds ->
  RDk K H (kvs.map fun kv=>if kv.1=y then (kv.1,v) else kv) (ds.map fun kv=>if bw kv.1 (kD y) then (kv.1,d) else kv)
 |_,_,.nil=>.nil
 |_,_,.cons (k:=k) h t=>by
  rw [aM,aM];have e:=Hi k y;by_cases hk:k=y
  ·subst hk;rw [show (if k=k then (k,v) else (k,_))=(k,v) from if_pos rfl,show (if bw (kD k) (kD k)=true then (kD k,d) else (kD k,_))=(kD k,d) from if_pos (by rw [e];simp)];exact .cons rv (RDk.repl k rv t)
  ·simp only [e,hk,if_neg,decide_false,bV,not_false_eq_true];exact .cons h (RDk.repl y rv t)
theorem RDk.snoc  (y:fS)  (rv:RD K H v d):∀ {kvs:List (fS×V)}{ds:List (D×D)},RDk K H kvs ds->RDk K H (kvs++[(y,v)]) (ds++[(kD y,d)])
 |_,_,.nil=>.cons rv .nil
 |_,_,.cons h t=>.cons h (RDk.snoc y rv t)
theorem RDk.put    (r:RDk K H kvs ds) (y:fS)  (rv:RD K H v d):RDk K H (qZ kvs y v) (AG ds (kD y) d):=by
 unfold qZ AG;rw [r.any y];split
 ·exact r.repl y rv
 ·exact r.snoc y rv
def hV (kvs:List (D×D)):Bool:=kvs.all fun kv=>(rG kv.1).isSome
def D2 (i:Nat) (gk g:az->R D):az->R Fl:=fun ρ=>match ρ[i]? with
 |some (Sl.own (.dict kvs))=>(g ρ).bind fun d=>(gk ρ).bind fun k=>match rG k with
  |some _=>if kvs.length<1000/\hV kvs=true then .ok (.nx (ρ.set i (.own (.dict (AG kvs k d))))) else .no
  |none=>.no
 |_=>.no
theorem Hj    (h:RD K H v (kD y)):v=kV y:=by
 cases y<;>cases h<;>rfl
theorem RDt.flat    (h:RDt K H kvs ds) (f:hV ds=true):kvs=[]/\ds=[]:=by
 cases h with
 |nil=>exact ⟨rfl,rfl⟩
 |cons h t=>simp [hV,tD,rG] at f
theorem IY (i:Nat) (h:JE c e g) (hk:JE c k gk) (hu:c.X.A.units+1<sV) (hN:c.X.N[i]?=some x:=by rfl) (hv:Ps c.X.env.scope x:=by first|exact iF rfl|exact fK (iF rfl)|exact fK (fK rfl)) (hd:(x==("__debug__" : Str))=false:=by decide)
  (hcd:(x==("__classdict__" : Str))=false:=by decide) (hs:iR e (some (.Subscript (.Name x p) k apos)) pos.line c.X.env=pure false:=by rfl):JS c (.Assign [.Subscript (.Name x p) k apos] e pos) (D2 i gk g):=.of fun ρ=>by
 refine AD (Q1 hu (pF hN hv hd hcd) (hk ρ) (h ρ) hs) fun D σ H h_1=>?_
 obtain ⟨H0,Hs0,la,Hs,f,q⟩:=h_1
 replace q:oj c.X.K c.cls c.E H0 Hs0 la D (D2 i gk g ρ):=q
 unfold D2 at q
 split at q
 ·rename_i kvs ho
  obtain ⟨a,o,k1,k2,k3,k4,k5⟩:=f.ow i _ ho
  have main:∀ {H:Hp}{vs:List (fS×V)},Fr c.X.K H0 Hs0 la ρ σ H Hs->H a=some (.dK vs)->RDk c.X.K Hs vs kvs->Rq (Gz i) (TR c.X.K c.cls c.E ρ (gk ρ)) (TR c.X.K c.cls c.E ρ (g ρ)) D σ H:=fun {H vs} f k2 r=>by
   refine sE f q fun d v H1 Hs1 e1 s1 f1 r1=>?_
   rw [e1,bind_ok] at q
   refine ⟨_,k1,sE f1 q fun y w H2 Hs2 e2 s2 f2 r2=>?_⟩
   rw [e2,bind_ok] at q
   split at q
   ·rename_i ky hy
    obtain rfl:=zi hy
    by_cases hl:kvs.length<1000/\hV kvs=true
    ·rw [if_pos hl] at q
     have ha:=s2.all _ _ (s1.all _ _ k2)
     have r':=(r.same s1.sh).same s2.sh
     rw [Hj r2]
     exact ⟨a,_,rfl,Mw.k ha (cf (by rw [r.length];omega)),q _ _ Hs2 (f2.write i ho k1 (.dK (r'.put ky (r1.same s2.sh))))⟩
    ·rw [if_neg hl] at q;exact q.elim
   ·exact q.elim
  cases k5 with
  |dK r=>exact main f k2 r
  |dT n r =>
   refine sE f q fun d v H1 Hs1 e1 s1 f1 r1=>?_
   rw [e1,bind_ok] at q
   refine ⟨_,k1,sE f1 q fun y w H2 Hs2 e2 s2 f2 r2=>?_⟩
   rw [e2,bind_ok] at q
   split at q
   ·rw [if_neg (fun z=>n (r.flat z.2).1)] at q;exact q.elim
   ·exact q.elim
  |dF n r =>
   refine sE f q fun d v H1 Hs1 e1 s1 f1 r1=>?_
   rw [e1,bind_ok] at q
   refine ⟨_,k1,sE f1 q fun y w H2 Hs2 e2 s2 f2 r2=>?_⟩
   rw [e2,bind_ok] at q
   split at q
   ·rw [if_neg (fun z=>by cases z.2)] at q;exact q.elim
   ·exact q.elim
 ·exact q.elim
def vf (kvs:List (D×D)) (k:D):Option D:=(kvs.find? fun kv=>bw kv.1 k).map (·.2)
theorem RDk.val  : ∀ {kvs:List (fS×V)}{ds:List (D×D)},RDk K H kvs ds->∀ (y:fS),(uV kvs y=none/\vf ds (kD y)=none)\/∃ v d,uV kvs y=some v/\vf ds (kD y)=some d/\RD K H v d
 |_,_,.nil,y=>.inl ⟨rfl,rfl⟩
 |_,_,.cons (k:=k) h t,y=>by
  unfold uV vf;rw [dv,dv,Hi];by_cases hk:k=y
  ·simp only [hk,decide_true,dq];exact .inr ⟨_,_,rfl,rfl,h⟩
  ·simp only [hk,decide_false];exact RDk.val t y
def aZ:D->D->R D
 |.dict kvs,k=>match rG k with
  |some _=>if hV kvs=true then (match vf kvs k with
   |some d=>.ok d
   |none=>.no) else .no
  |none=>.no
 |x,k=>Ex x k
theorem bU (hu:c.X.A.units+1<sV) (ha:JB c a ga) (hb:JB c b gb) (hs:yb b:=by exact fun _ _=>rfl):JE c (.Subscript a b pos) (g2 ga gb aZ):=.of fun ρ=>by
 by_cases hx:∃ kvs,ga ρ=.ok (.dict kvs)
 ·obtain ⟨kvs,hx⟩:=hx;refine tJ (Q0 hu (ha ρ) (hb ρ) hs) fun σ H Q h_2=>?_;obtain ⟨H0,Hs0,la,Hs,f,q⟩:=h_2;refine one f q fun d v H1 Hs1 e1 s1 f1 r1=>?_;rw [hx] at e1;cases e1;unfold g2 at q;rw [hx,bind_ok] at q;refine one f1 (q.on s1 (q':=fun _=>True) fun _ _=>trivial) fun y w H2 Hs2 e2 s2 f2 r2=>?_;rw [e2,bind_ok] at q;unfold aZ at q;simp only at q;split at q
  ·rename_i ky hy
   obtain rfl:=zi hy;by_cases hf:hV kvs=true
   ·rw [if_pos hf] at q;obtain ⟨p,rfl,h⟩:=(r1.step s2).dict f2.st.sub;have rk:w=kV ky:=by
     rcases r2 with r2|⟨_,o,rfl,_,_,ow⟩
     ·exact Hj r2
     ·cases ky<;>cases ow
    subst rk;rcases h with ⟨vs,h1,h2⟩|⟨vs,h1,hn,h2⟩|⟨o,vs,es,rfl,h1,hn,h2⟩
    ·rcases h2.val ky with ⟨_,h3⟩|⟨u,d,h3,h4,h5⟩
     ·rw [h3] at q;exact q.elim
     ·rw [h4] at q;exact ⟨p,u,rfl,by rw [<- h3];exact GN.k h1,q _ H2 Hs2 (s1.trans s2) h5⟩
    ·exact (hn (h2.flat hf).1).elim
    ·cases hf
   ·rw [if_neg hf] at q;exact q.elim
  ·exact q.elim
 ·refine tJ (UP ha hb hs ρ) fun σ H Q q=>?_;have e:g2 ga gb aZ ρ=g2 ga gb Ex ρ:=by
   unfold g2;cases hr:ga ρ with
   |ok d =>
    cases d with
    |dict kvs=>exact (hx ⟨kvs,hr⟩).elim
    |_=>rfl
   |_=>rfl
  rw [e] at q;exact q
def gX:D->R D
 |.dict kvs=>if hV kvs=true then .ok (.list (kvs.map (·.1))) else .no
 |x=>By x
theorem EF  : ∀ {kvs:List (fS×V)}{ds:List (D×D)},RDk K H kvs ds->RDs K H (kvs.map fun p=>kV p.1) (ds.map (·.1))
 |_,_,.nil=>.nil
 |_,_,.cons (k:=k) h t=>.cons (by cases k<;>constructor) (EF t)
theorem oT (hc:X.calm=true):Nb X (.type "list") (hJ gX):=by
 refine wv (fun d c n=>?_) fun pins s σ H x u Q Hs d d' I ru sub rx hd q=>?_
 ·unfold gX By;split<;>(try split)<;>(try split)<;>exact fun h=>by cases h
 ·by_cases hx:∃ kvs,d=.dict kvs
  ·obtain ⟨kvs,rfl⟩:=hx;unfold gX at hd;simp only at hd;split at hd
   ·rename_i hf
    cases hd;obtain ⟨a,rfl,⟨vs,h1,h2⟩|⟨vs,h1,n,h2⟩|⟨o,vs,es,rfl,h1,n,h2⟩⟩:=rx.dict sub
    ·exact yV hc pins s σ H _ _ Q I (.cons ru .nil) ⟨a,vs,rfl,h1,fun l hl=>q _ _ _ (.new sub hl) (.list (.of aT) ((EF h2).same (cD.new sub hl).sh))⟩
    ·exact (n (h2.flat hf).1).elim
    ·cases hf
   ·cases hd
  ·have e:gX d=By d:=by
    cases d with
    |dict kvs=>exact (hx ⟨kvs,rfl⟩).elim
    |_=>rfl
   rw [e] at hd;exact (Qk (X:=X)).1 pins s σ H [x] [u] Q I (.cons ru .nil) ⟨Hs,[d],sub,.cons rx .nil,d',hd,q⟩
end
end
section
open PyProof.Rows (envOfC)
section
variable {c:C}{e a b d:bL}{g ga gb gc:az->R D}{pos p cpos:Pos}{x:Str}
theorem Nk        (hx:∀ x y c n,h x y≠.ex c n) (hx':∀ x y c n,h' x y≠.ex c n) (q:TR K cls E ρ (ro ga gb gc h h' ρ) σ H Q) :
  GG (rD K h) (rD K h') (TB K cls E ρ (ga ρ)) (TB K cls E ρ (gb ρ)) (TB K cls E ρ (gc ρ)) σ H Q:=by
 obtain ⟨H0,Hs0,la,Hs,f,q⟩:=q
 refine one f q fun x v H1 Hs1 e1 s1 f1 r1=>?_
 unfold ro at q
 rw [e1,bind_ok] at q
 refine one f1 (q.on s1 (q':=fun _=>True) fun _ _=>trivial) fun y u H2 Hs2 e2 s2 f2 r2=>?_
 rw [e2,bind_ok] at q
 cases hr:h x y with
 |ex c n=>exact (hx x y c n hr).elim
 |no=>rw [hr] at q;exact q.elim
 |ok z =>
  rw [hr,bind_ok] at q
  refine ⟨Hs2,x,y,f2.st.sub,r1.step s2,r2,z,hr,fun w H3 Hs3 s3 r3=>?_⟩
  cases r3 with
  |bool k =>
   refine ⟨k,rfl,?_⟩
   have f3:=f2.step s3
   cases k with
   |false=>exact Aw (q _ H3 Hs3 (s1.trans (s2.trans s3)) (.bool _))
   |true =>
    refine DZ (one f3 (q.on (s1.trans (s2.trans s3)) (q':=fun _=>True) fun _ _=>trivial) fun t u' H4 Hs4 e4 s4 f4 r4=>?_)
    simp only [e4,bind_ok] at q
    cases hr':h' y t with
    |ex c n=>exact (hx' y t c n hr').elim
    |no=>rw [hr'] at q;exact q.elim
    |ok z' =>
     rw [hr'] at q
     exact ⟨Hs4,y,t,f4.st.sub,(r2.step s3).step s4,r4,z',hr',fun w H5 Hs5 s5 r5=>q w H5 Hs5 (s1.trans (s2.trans (s3.trans (s4.trans s5)))) r5⟩
  |none=>exact q.elim
  |int _=>exact q.elim
  |str _=>exact q.elim
  |list _ _=>exact q.elim
  |tuple _ _=>exact q.elim
  |dictK _ _=>exact q.elim
  |dictT _ _ _=>exact q.elim
  |dictF _ _ _=>exact q.elim
theorem EG  (ho:xN c.X (bG op) h) (ho':xN c.X (bG op') h') (ha:JB c a ga) (hb:JB c b gb) (hc:JB c d gc) (hm:LD [op,op'] [b,d]=false:=by with_unfolding_all rfl):JE c (.Compare a [op,op'] [b,d] pos) (ro ga gb gc h h') :=
 .of fun ρ=>tJ (Ml ho.1 ho'.1 (ha ρ) (hb ρ) (hc ρ) hm) fun σ H Q q=>Nk ho.2 ho'.2 q
theorem Nl  (ho:xN c.X (bG op) h) (ho':xN c.X (bG op') h') (ha:JB c a ga) (hb:JB c b gb) (hc:JB c d gc) (hm:LD [op,op'] [b,d]=false:=by with_unfolding_all rfl):JT c (.Compare a [op,op'] [b,d] pos) (fk (ro ga gb gc h h')) :=
 .of fun ρ=>W3 (Mm ho.1 ho'.1 (ha ρ) (hb ρ) (hc ρ) hm) fun σ H Q q=>Nk ho.2 ho'.2 (UK q)
def Te:D->R D
 |.int i=>.ok (.int (-i))
 |_=>.no
def kU (g:az->R D):az->R D:=fun ρ=>(g ρ).bind Te
theorem my (h:JE c e g):JE c (.UnaryOp .USub e pos) (kU g):=.of fun ρ=>tJ (Ue SG (h ρ)) fun σ H Q h_0=>by
 obtain ⟨H0,Hs0,la,Hs,f,q⟩:=h_0
 refine CS f q fun d v H1 Hs1 e1 s1 f1 r1=>?_
 unfold kU at q
 rw [e1,bind_ok] at q
 cases r1 with
 |int i=>exact ⟨i,rfl,q _ H1 Hs1 s1 (.int _)⟩
 |_=>exact q.elim
inductive UZ (K:a7) (w:bv) (cls:Str->ah) (E:XK) (ρ:az) (r:R (List Str)) (σ:St) (H:Hp) (Q:VK):Prop
 |mk (H0 Hs0:Hp) (la:Nat->Option ah) (Hs:Hp) (f:Fr K H0 Hs0 la ρ σ H Hs) (q:Fin K cls E H Hs r fun ss=>∀ p H' Hs',cD H Hs H' Hs'->H' p=none->Q (.ref p) (upd H' p (lH w p ss))):UZ K w cls E ρ r σ H Q
def W7 (K:a7) (w:bv) (cls:Str->ah) (E:XK) (ρ:az) (r:R (List Str)):TE:=UZ K w cls E ρ r
structure Qr (c:C) (e:bL) (g:az->R (List Str)):Prop where of ::
 run:∀ ρ,PE c.X e (W7 c.X.K c.X.w c.cls c.E ρ (g ρ))
instance {c:C}{e:bL}{g:az->R (List Str)}:CoeFun (Qr c e g) (fun _=>∀ ρ,PE c.X e (W7 c.X.K c.X.w c.cls c.E ρ (g ρ))):=⟨Qr.run⟩
theorem IZ {K:a7}{w:bv}{cls:Str->ah}{E:XK}{ρ:az}{r:R (List Str)}{β:Type}{k:List Str->R β}{σ:St}{H:Hp}{H0 Hs0 Hs:Hp}{la:Nat->Option ah}{Q:V->Hp->Prop}{q:β->Prop} (f:Fr K H0 Hs0 la ρ σ H Hs)
  (h:Fin K cls E H Hs (r.bind k) q) (m:∀ ss p H' Hs',r=.ok ss->cD H Hs H' Hs'->Fr K H0 Hs0 la ρ σ H' Hs'->H' p=none->Q (.ref p) (upd H' p (lH w p ss))):W7 K w cls E ρ r σ H Q:=by
 refine ⟨H0,Hs0,la,Hs,f,?_⟩
 cases r with
 |ok d=>exact fun p H' Hs' s n=>m d p H' Hs' rfl s (f.step s) n
 |ex c n=>exact h
 |no=>exact h
variable {gset:az->R (List Str)}
def u3:D->R (List Str)
 |.list ds=>match gG ds with
  |some ss=>if ss.length<60 then .ok (cX [] ss) else .no
  |none=>.no
 |.tuple ds=>match gG ds with
  |some ss=>if ss.length<60 then .ok (cX [] ss) else .no
  |none=>.no
 |_=>.no
def pR (g:az->R D):az->R (List Str):=fun ρ=>(g ρ).bind u3
theorem D3 (hc:c.X.calm=true) (h:JB c e g) (hg2:Gl c.X "set") (hm2:c.X.mg "set"=none) (he:aw [e] c.X.env=(false,cz e c.X.env)::aw [] c.X.env:=by rfl) :
  Qr c (.Call (.Name "set" p) [e] [] cpos) (pR g):=.of fun ρ=>by
 refine tJ (wk (Ed hc) hg2 hm2 PyProof.Rows.boot_set (bT (h ρ) eA he) (he:=he)) fun σ H Q h_1=>?_
 obtain ⟨H0,Hs0,la,Hs,f,q⟩:=h_1
 refine one f q fun d v H1 Hs1 e1 s1 f1 r1=>?_
 unfold pR at q
 rw [e1,bind_ok] at q
 unfold u3 at q
 split at q
 ·split at q
  ·rename_i ss hs
   by_cases hz:ss.length<60
   ·rw [if_pos hz] at q
    obtain ⟨a,vs,rfl,qa,ra⟩:=r1.list f1.st.sub
    rw [rA hs] at ra
    rw [pJ ra] at qa
    exact ⟨a,ss,rfl,.inl qa,aC (K3 hz 1) (by decide),fun p hp=>q p H1 Hs1 s1 hp⟩
   ·rw [if_neg hz] at q;exact q.elim
  ·exact q.elim
 ·split at q
  ·rename_i ss hs
   by_cases hz:ss.length<60
   ·rw [if_pos hz] at q
    obtain ⟨a,vs,rfl,qa,ra,_⟩:=r1.tuple f1.st.sub
    rw [rA hs] at ra
    rw [pJ ra] at qa
    exact ⟨a,ss,rfl,.inr qa,aC (K3 hz 1) (by decide),fun p hp=>q p H1 Hs1 s1 hp⟩
   ·rw [if_neg hz] at q;exact q.elim
  ·exact q.elim
 ·exact q.elim
def kW (g:az->R (List Str)):az->R D:=fun ρ=>(g ρ).bind fun ss=>if ss.length<64 then .ok (.list ((jO ss).map .str)) else .no
theorem u4 (hc:c.X.calm=true) (h:Qr c e gset) (hg:Gl c.X "sorted") (hm:c.X.mg "sorted"=none) (he:aw [e] c.X.env=(false,cz e c.X.env)::aw [] c.X.env:=by rfl) :
  JE c (.Call (.Name "sorted" p) [e] [] cpos) (kW gset):=.of fun ρ=>by
 refine tJ (oO (xK hc) hg hm wZ (bT (h ρ) eA he) (he:=he)) fun σ H Q h_2=>?_
 obtain ⟨H0,Hs0,la,Hs,f,q⟩:=h_2
 dsimp only [L2.TZ,L2.xc,L2.Kh]
 refine IZ (w:=c.X.w) f q fun ss p H1 Hs1 e1 s1 f1 n1=>?_
 unfold kW at q
 rw [e1,bind_ok] at q
 by_cases hz:ss.length<64
 ·rw [if_pos hz] at q
  have st1:cD H1 Hs1 (upd H1 p (lH c.X.w p ss)) Hs1:=.mine f1.st.sub n1
  exact ⟨p,ss,rfl,aT,hz,fun l hl=>q _ _ _ (s1.trans (st1.trans (.new st1.sub hl))) (.list (.of aT) (yX _))⟩
 ·rw [if_neg hz] at q;exact q.elim
def vg (g:az->R (List Str)):az->R D:=fun ρ=>(g ρ).bind fun ss=>.ok (.int ss.length)
theorem KI (h:Qr c e gset) (hg:Gl c.X "len") (hm:c.X.mg "len"=none) (he:aw [e] c.X.env=(false,cz e c.X.env)::aw [] c.X.env:=by rfl) :
  JE c (.Call (.Name "len" p) [e] [] cpos) (vg gset):=.of fun ρ=>by
 refine tJ (oO AB hg hm bi (bT (h ρ) eA he) (he:=he)) fun σ H Q h_3=>?_
 obtain ⟨H0,Hs0,la,Hs,f,q⟩:=h_3
 dsimp only [L2.TZ,L2.xc,L2.Kh]
 refine IZ (w:=c.X.w) f q fun ss p H1 Hs1 e1 s1 f1 n1=>?_
 unfold vg at q
 rw [e1,bind_ok] at q
 have st1:cD H1 Hs1 (upd H1 p (lH c.X.w p ss)) Hs1:=.mine f1.st.sub n1
 exact ⟨p,ss,rfl,aT,q _ _ _ (s1.trans st1) (.int _)⟩
variable {elt iter tg:bL}{ifs:List bL}{scope:gq}{N':List Str}{nt:Nat}{ix:List Nat}{gi:az->R (List D)}{gt:az->R Bool}{ge:az->R D}
def wy (nt:Nat) (ix:List Nat) (gi:az->R (List D)) (gt:az->R Bool) (ge:az->R D):az->R (List Str):=fun ρ=>(gi ρ).bind fun ds=>if ds.length<=60 then (hU (jd nt (oR nt ix ρ) gt ge) ds).bind fun ys=>match gG ys with
 |some ss=>.ok (cX [] ss)
 |none=>.no else .no
theorem AH  : ∀ {ss:List Str},gG (xs++ys)=some ss->∃ s1 s2,gG xs=some s1/\gG ys=some s2/\ss=s1++s2:=by
 induction xs with
 |nil=>intro ss h;exact ⟨[],ss,rfl,h,rfl⟩
 |cons d r ih =>
  intro ss h
  cases d with
  |str b =>
   have h:(gG (r++ys)).map (b::·)=some ss:=h
   cases hr:gG (r++ys) with
   |none=>rw [hr] at h;cases h
   |some z =>
    rw [hr] at h
    cases h
    obtain ⟨s1,s2,h1,h2,rfl⟩:=ih hr
    exact ⟨b::s1,s2,by show (gG r).map (b::·)=_;rw [h1];rfl,h2,rfl⟩
  |_=>cases h
theorem zj (z:Str):∀ (l acc:List Str),cX acc (l++[z])=if z∈cX acc l then cX acc l else cX acc l++[z]
 |[],acc=>rfl
 |x::l,acc=>by
  show cX _ (l++[z])=_
  rw [zj z l]
  rfl
inductive XE (f:D->R (Option D)) (ds:List D) (ss:List Str) (H1 Hs1:Hp) (i m:Nat) (acc:List Str) (H':Hp):Prop
 |mk (done bB zs sa sz Hs':_) (h0:ds=done++bB) (h1:done.length=i) (h2:bB.length=m) (h3:cD H1 Hs1 H' Hs') (h4:acc=cX [] sa) (h5:sa.length<=i) (h6:hU f bB=.ok zs) (h7:gG zs=some sz) (h8:ss=sa++sz):XE f ds ss H1 Hs1 i m acc H'
theorem Qs        (hnt:nt=1\/nt=2)
  (q:W7 K w cls E ρ (wy nt ix gi gt ge ρ) σ H Q) :
  MZ w nt ix (W5 K cls E ρ (gi ρ)) (KH K nt) (fun σ H Q=>∃ ρ',Kz K cls E0 ρ' (gt ρ') σ H Q) (fun σ H Q=>∃ ρ',TR K cls E0 ρ' (ge ρ') σ H Q) σ H Q:=by
 obtain ⟨H0,Hs0,la,Hs,f,q⟩:=q
 refine ⟨H0,Hs0,la,Hs,f,?_⟩
 unfold wy at q
 cases hi:gi ρ with
 |no=>rw [hi] at q;exact q
 |ex x n=>rw [hi] at q;exact q
 |ok ds =>
  rw [hi,bind_ok] at q
  intro J H1 Hs1 Hn s1 sn it
  by_cases hl:ds.length<=60
  ·rw [if_pos hl] at q
   cases hm:hU (jd nt (oR nt ix ρ) gt ge) ds with
   |no=>rw [hm] at q;exact q.elim
   |ex x n=>exact (ze (EC _ _ _ _) _ _ _ hm).elim
   |ok ys =>
    rw [hm,bind_ok] at q
    cases hs:gG ys with
    |none=>rw [hs] at q;exact q.elim
    |some ss =>
     rw [hs] at q
     obtain ⟨lb,fb⟩:=(f.step s1).block nt ix
     refine ⟨XE (jd nt (oR nt ix ρ) gt ge) ds ss H1 Hs1,
      ⟨ds.length,[],ds,ys,[],ss,Hs1,rfl,rfl,rfl,.refl s1.sub,rfl,dW _,hm,hs,rfl⟩,?_⟩
     rintro i m acc H' ⟨done,bB,zs,sa,sz,Hs',hds,hdl,hrl,st,rfl,yl,hz,hzs,hy⟩
     obtain ⟨igo,istop,iyld⟩:=it H' Hs' (sn.trans st.all) st.sh st.sub
     cases bB with
     |nil =>
      left
      cases hz
      cases hzs
      rw [cr] at hds hy
      subst hy hds
      exact ⟨istop i (by omega),fun p hp=>q p H' Hs' (s1.trans st) hp⟩
     |cons d bB =>
      right
      have hil:i<ds.length:=by rw [hds,aL,aU];omega
      have hol:=gd sa []
      simp at hol
      refine ⟨igo i hil,jJ (show (cX [] sa).length+1<=61 by omega) (by decide),fun x H2 hyl=>?_⟩
      obtain ⟨d',Hs2,hd,s2,r2⟩:=iyld i x H2 hil hyl
      have hdd:d'=d:=by
       rw [hds,bc (by omega)] at hd
       simp [hdl] at hd
       exact hd.symm
      subst hdd
      obtain ⟨o,zs',hf,hz',rfl⟩:=zd hz
      have hf:=IW hf
      obtain ⟨so,sz',hso,hsz,rfl⟩:=AH hzs
      cases hb:UX nt d' (oR nt ix ρ) with
      |no=>rw [hb] at hf;cases hf
      |ex x n=>rw [hb] at hf;cases hf
      |ok ρ' =>
       rw [hb,bind_ok] at hf
       refine EB hnt ((fb.step st).step s2) r2 hb fun σ2 f2=>⟨ρ',?_⟩
       refine ⟨_,_,_,Hs2,f2,?_⟩
       cases ht:gt ρ' with
       |no=>rw [ht] at hf;cases hf
       |ex x n=>rw [ht] at hf;cases hf
       |ok b =>
        rw [ht,bind_ok] at hf
        intro H3 Hs3 s3
        cases b with
        |false =>
         rw [if_neg aH] at hf
         cases hf
         cases hso
         refine Aw ⟨bB.length,by rw [<- hrl];simp,done++[d'],bB,zs',sa,sz',Hs3,by rw [hds];simp,by simp [hdl],rfl,(st.trans s2).trans s3,rfl,by omega,hz',hsz,by simpa using hy⟩
        |true =>
         rw [if_pos rfl] at hf
         refine DZ ⟨ρ',_,_,_,Hs3,f2.step s3,?_⟩
         cases he:ge ρ' with
         |no=>rw [he] at hf;cases hf
         |ex x n=>rw [he] at hf;cases hf
         |ok y =>
          rw [he,bind_ok] at hf
          cases hf
          intro v H4 Hs4 s4 r4
          cases r4 with
          |str z =>
           cases hso
           exact ⟨z,bB.length,rfl,by rw [<- hrl];simp,done++[d'],bB,zs',sa++[z],sz',Hs4,by rw [hds];simp,by simp [hdl],rfl,((st.trans s2).trans s3).trans s4,(zj z sa []).symm,by simp;omega,hz',hsz,by rw [hy];simp⟩
          |none=>cases hso
          |bool _=>cases hso
          |int _=>cases hso
          |list _ _=>cases hso
          |tuple _ _=>cases hso
          |dictK _ _=>cases hso
          |dictT _ _ _=>cases hso
          |dictF _ _ _=>cases hso
  ·rw [if_neg hl] at q;exact q.elim
theorem Nm (nt:Nat) (hnt:nt=1\/nt=2) (hc:c.X.calm=true) (S:o7 c.X scope N' nt ix) (hi:JI c tg iter gi) (hb:vd c N' scope nt tg ifs elt gt ge) (hs:∀ x,dY iter c.X.env x=pure x:=by intro _;rfl) :
  Qr c (.SetComp elt [⟨tg,iter,ifs,0⟩] scope pos) (wy nt ix gi gt ge):=.of fun ρ=>tJ (GY hc S (C_ hnt) (hi ρ) hb.at hs) fun σ H Q q=>Qs hnt q
end
def bI (n:Nat) (ds:List D):az:=ds.map Sl.shr++m_ (n-ds.length) Sl.no
def eL (n:Nat) (g:az->R Fl):List D->R D:=fun ds=>match g (bI n ds) with
 |.ok (.nx _)=>.ok .none
 |.ok (.rt d)=>.ok d
 |.ex c m=>.ex c m
 |_=>.no
theorem zk {n:Nat}{ds:List D}{i:Nat}{s:Sl} (h:(bI n ds)[i]?=some s):(∃ d,ds[i]?=some d/\s=.shr d)\/s=.no:=by
 unfold bI at h
 by_cases hi:i<ds.length
 ·rw [bJ (by simpa using hi),aJ] at h
  cases hd:ds[i]? with
  |none=>rw [hd] at h;cases h
  |some z=>rw [hd] at h;cases h;exact .inl ⟨z,rfl,rfl⟩
 ·rw [bc (by simp;omega),bH] at h
  split at h<;>cases h
  exact .inr rfl
theorem KJ {N:List Str}{vs:List V}{i:Nat}{v:V} (h:vs[i]?=some v):(L2.start N vs)[i]?=some (some v):=by
 unfold L2.start
 have hi:i<vs.length:=(List.getElem?_eq_some_iff.mp h).1
 rw [bJ (by simpa using hi),aJ,h]
 rfl
theorem Fr.start {K : a7} {H Hs : Hp} {N : List Str} {vs : List V} {ds : List D} (sub : dn Hs H) (r : RDs K Hs vs ds) : Fr K H Hs (fun _ => none) (bI N.length ds) (L2.start N vs) H Hs := by
  have hl := r.length
  refine ⟨.refl sub, by simp [bI, L2.start, hl], fun i d h => ?_, fun i d h => ?_, fun i d h => ?_, fun i j d e a h _ _ _ => ?_, fun i a h => (nomatch h), fun i d h => ?_, fun i j d e h _ => ?_⟩
  · rcases zk h with ⟨z, hz, e⟩ | e
    · cases e
      obtain ⟨v, k1, k2⟩ := r.get' hz
      exact ⟨v, KJ k1, k2⟩
    · cases e
  all_goals (rcases zk h with ⟨z, _, e⟩ | e <;> cases e)
theorem RC             (F:G4 K x qual st f fd) (S:bn N ps (av st))
  (h:∀ (cdv:ae) (A:bO) (outer:List Env) (s:ai) (H:Hp) (E:XK),jY k (A.deeper (jH qual (av st) s.heap.objs.size f cdv))->Hf ⟨eK (ja P w) P w K mg base N qual (av st) f cdv A outer s H E,cls,E⟩ (gU st) g) :
  sZ P w K mg base (ja P w) (k+1) f fd ps (Rz K cls ps.length (eL N.length g)):=by
 obtain ⟨oc,od,kV,doc,pm,an,cdv,ct,osl,rfl,lk,hcd⟩:=F.ex
 refine Ul lk hcd S (fun vs H Q E h_4=>by obtain ⟨Hs,ds,sub,hn,r,q⟩:=h_4;exact by rw [r.length];exact hn) fun A outer s H vs Q E hr hsp=>?_
 obtain ⟨Hs,ds,sub,hn,r,q⟩:=hsp
 refine ⟨_,h cdv A outer s H E hr (bI N.length ds),H,Hs,_,Hs,Fr.start sub r,?_⟩
 unfold eL at q
 cases hg:g (bI N.length ds) with
 |no=>rw [hg] at q;exact q
 |ex c n=>rw [hg] at q;exact q
 |ok fl =>
  rw [hg] at q
  cases fl with
  |nx ρ'=>exact fun σ' H' Hs' f'=>q .non H' Hs' f'.st .none
  |rt d=>exact fun v H' Hs' s r=>q v H' Hs' s r
  |bk ρ'=>exact q.elim
  |ct ρ'=>exact q.elim
theorem U_             (F:G4 K x qual st f fd) (S:bn N ps (av st)) (hm:mg x=some (.ref f)) (hb:k8 K fd ps [])
  (h:∀ (cdv:ae) (A:bO) (outer:List Env) (s:ai) (H:Hp) (E:XK),jY k (A.deeper (jH qual (av st) s.heap.objs.size f cdv))->Hf ⟨eK (ja P w) P w K mg base N qual (av st) f cdv A outer s H E,cls,E⟩ (gU st) g) :
  Fn P w K mg base cls x (k+1) ps.length (eL N.length g):=⟨f,fd,ps,RC F S h,hm,F.kp,hb⟩
theorem dS:o6 (ja X.prog X.w) X E0:=fun _ _ _ _ _ _ _ h=>by
 obtain ⟨_,_,_,_,_,_,_,_,_,_,_,q⟩:=h
 exact q.elim
end
section
def clear2 (ρ:az):az:=ρ.map fun s=>match s with
 |.ow2 _=>.no
 |s=>s
section
theorem Fr.clear2    (f:Fr K H0 Hs0 la ρ σ H Hs):Fr K H0 Hs0 la (clear2 ρ) σ H Hs/\∀ (j:Nat) (d:List (List D)),¬ (J.clear2 ρ)[j]?=some (Sl.ow2 d):=by
 have un:∀ {j:Nat}{s:Sl},(J.clear2 ρ)[j]?=some s->(∀ d,s≠.ow2 d)/\(ρ[j]?=some s\/s=.no):=fun {j s} e=>by
  unfold J.clear2 at e;rw [aJ] at e;cases h:ρ[j]? with
  |none=>rw [h] at e;cases e
  |some t =>
   rw [h] at e;cases t with
   |ow2 d=>cases e;exact ⟨fun _ z=>(by cases z),.inr rfl⟩
   |no=>cases e;exact ⟨fun _ z=>(by cases z),.inl rfl⟩
   |shr d=>cases e;exact ⟨fun _ z=>(by cases z),.inl rfl⟩
   |lck d=>cases e;exact ⟨fun _ z=>(by cases z),.inl rfl⟩
   |own d=>cases e;exact ⟨fun _ z=>(by cases z),.inl rfl⟩
 have is:∀ {j:Nat}{s:Sl},s≠.no->(J.clear2 ρ)[j]?=some s->ρ[j]?=some s:=fun {j s} n e=>(un e).2.resolve_right n;have no2:∀ (j:Nat) (d:List (List D)),¬ (J.clear2 ρ)[j]?=some (Sl.ow2 d):=fun j d e=>(un e).1 d rfl;exact ⟨⟨f.st,by simp [J.clear2,f.len],fun j d h=>f.sh j d (is (fun z=>by cases z) h),fun j d h=>f.ow j d (is (fun z=>by cases z) h),fun j d h=>f.lk j d (is (fun z=>by cases z) h),fun j k d e a h1 h2=>f.dj j k d e a (is (fun z=>by cases z) h1) (is (fun z=>by cases z) h2),f.lh,fun j d h=>(no2 j d h).elim,fun j k d e h _=>(no2 j d h).elim⟩,no2⟩
end
def rH:List ah->Hp->Hp
 |[],H=>H
 |a::as,H=>rH as (upd H a (.lst []))
section
theorem zm:∀ (as:List ah) (H:Hp),(∀ a∈as,H a=none)->as.Nodup->dn H (rH as H)
 |[],H,_,_=>.refl H
 |a::as,H,h,nd=>by
  obtain ⟨n1,n2⟩:=List.nodup_cons.mp nd;refine (iA (h a aq)).trans (zm as _ (fun b hb=>?_) n2);rw [aO (fun (z:b=a)=>n1 (z ▸ hb))];exact h b (ao _ hb)
theorem EH:∀ (as:List ah) (H:Hp),as.Nodup->∀ a∈as,rH as H a=some (.lst [])
 |a::as,H,nd,b,hb=>by
  obtain ⟨n1,n2⟩:=List.nodup_cons.mp nd;show rH as (upd H a (.lst [])) b=_;by_cases hm:b∈as
  ·exact EH as _ n2 b hm
  ·have e:b=a:=(List.mem_cons.mp hb).resolve_right hm;subst e;have:∀ (as:List ah) (H:Hp),b∉as->rH as H b=H b:=by
    intro as;induction as with
    |nil=>intro H _;rfl
    |cons c as ih =>
     intro H h;show rH as (upd H c (.lst [])) b=_;rw [ih _ (fun z=>h (ao _ z)),aO (fun (z:b=c)=>h (by rw [z];exact aq))]
   rw [this as _ hm,aT]
theorem mz:∀ (as:List ah) (H:Hp) (b:ah),rH as H b=none->H b=none/\b∉as
 |[],H,b,h=>⟨h,by simp⟩
 |a::as,H,b,h=>by
  obtain ⟨h1,h2⟩:=mz as (upd H a (.lst [])) b h;by_cases hb:b=a
  ·subst hb;rw [aT] at h1;cases h1
  ·rw [aO hb] at h1;exact ⟨h1,fun z=>(List.mem_cons.mp z).elim hb h2⟩
def Qt (i:Nat):az->R Fl:=fun ρ=>.ok (.nx ((clear2 ρ).set i (.ow2 [[],[],[],[]])))
theorem Tf (i:Nat)  (hN:c.X.N.Nodup) (hi:c.X.N[i]?=some x:=by rfl) (hx:Rb c.X.env.scope x:=by first|exact iF rfl|exact fK rfl)
  (hs:iR (.List [.List [] p1,.List [] p2,.List [] p3,.List [] p4] p) (some (.Name x pos')) spos.line c.X.env=pure false:=by rfl)
  (hf:c.X.fn x=true\/c.X.env.scope.names.lookup x=some .local:=by first|exact .inl rfl|exact .inr rfl|assumption)
  (h1:aw [.List [] p1,.List [] p2,.List [] p3,.List [] p4] c.X.env=(false,cz (.List [] p1) c.X.env)::aw [.List [] p2,.List [] p3,.List [] p4] c.X.env:=by rfl)
  (h2:aw [.List [] p2,.List [] p3,.List [] p4] c.X.env=(false,cz (.List [] p2) c.X.env)::aw [.List [] p3,.List [] p4] c.X.env:=by rfl)
  (h3:aw [.List [] p3,.List [] p4] c.X.env=(false,cz (.List [] p3) c.X.env)::aw [.List [] p4] c.X.env:=by rfl)
  (h4:aw [.List [] p4] c.X.env=(false,cz (.List [] p4) c.X.env)::aw [] c.X.env:=by rfl) :
  JS c (.Assign [.Name x pos'] (.List [.List [] p1,.List [] p2,.List [] p3,.List [] p4] p) spos) (Qt i):=.of fun ρ=>by
 refine AD (Cr hN hi hx (o0 (bT (o0 eA) (bT (o0 eA) (bT (o0 eA) (bT (o0 eA) eA h4) h3) h2) h1)) hs hf) fun D σ H h_0=>?_;obtain ⟨H0,Hs0,la,Hs,f,q⟩:=h_0;replace q:oj c.X.K c.cls c.E H0 Hs0 la D (Qt i ρ):=q;obtain ⟨f,no2⟩:=f.clear2;refine ⟨dW _,fun a1 n1=>⟨dW _,fun a2 n2=>⟨dW _,fun a3 n3=>⟨dW _,fun a4 n4=>⟨bh (cf (show 4<=1000 by decide)),fun a n=>?_⟩⟩⟩⟩⟩;have N:=mz [a1,a2,a3,a4] H a n;have N4:=mz [a1,a2,a3] H a4 n4;have N3:=mz [a1,a2] H a3 n3;have N2:=mz [a1] H a2 n2;simp only [a_,aQ,or_false,not_or] at N N4 N3 N2;have nd:[a1,a2,a3,a4].Nodup:=by
  simp only [List.nodup_cons,a_,aQ,or_false,not_or,iV,and_true,not_false_eq_true];exact ⟨⟨cZ N2.2,cZ N3.2.1,cZ N4.2.1⟩,⟨cZ N3.2.2,cZ N4.2.2.1⟩,cZ N4.2.2.2⟩
 have free:∀ b∈[a1,a2,a3,a4],H b=none:=fun b hb=>by
  simp only [a_,aQ,or_false] at hb;rcases hb with rfl|rfl|rfl|rfl
  ·exact n1
  ·exact N2.1
  ·exact N3.1
  ·exact N4.1
 have nd5:(a::[a1,a2,a3,a4]).Nodup:=List.nodup_cons.mpr ⟨by simp only [a_,aQ,or_false,not_or];exact N.2,nd⟩;have sm:dn H (rH [a1,a2,a3,a4] H):=zm _ _ free nd;have all:dn H (upd (rH [a1,a2,a3,a4] H) a (.lst [.ref a1,.ref a2,.ref a3,.ref a4])):=sm.trans (iA n);have free5:∀ b∈a::[a1,a2,a3,a4],H b=none:=fun b hb=>(List.mem_cons.mp hb).elim (fun z=>z ▸ N.1) (free b);have st:cD H Hs (upd (rH [a1,a2,a3,a4] H) a (.lst [.ref a1,.ref a2,.ref a3,.ref a4])) Hs:=⟨all,.refl _,f.st.sub.trans all,fun _ _ _ _ z=>z⟩;have f':=f.step st;have hl:i<σ.length\/¬ i<σ.length:=Decidable.em _;have nx:∀ {j:Nat}{s:Sl},(∀ d,s≠.ow2 d)->((clear2 ρ).set i (.ow2 [[],[],[],[]]))[j]?=some s->(clear2 ρ)[j]?=some s/\i≠j:=fun {j s} hs e=>by
  by_cases hj:i=j
  ·subst hj;by_cases hi:i<(clear2 ρ).length
   ·rw [aG hi] at e;exact absurd (bD e).symm (hs _)
   ·rw [cp (by simpa using hi)] at e;cases e
  ·rw [aj hj] at e;exact ⟨e,hj⟩
 refine q _ _ Hs ⟨f'.st,by simp [f'.len],fun j d h=>?_,fun j d h=>?_,fun j d h=>?_,fun j k d d' b h1 h2 h3 h4=>?_,f'.lh,fun j d h=>?_,fun j k d d' h1 h2=>?_⟩
 ·obtain ⟨h,hj⟩:=nx (fun _ z=>by cases z) h;rw [aj hj];exact f'.sh j d h
 ·obtain ⟨h,hj⟩:=nx (fun _ z=>by cases z) h;rw [aj hj];exact f'.ow j d h
 ·obtain ⟨h,hj⟩:=nx (fun _ z=>by cases z) h;rw [aj hj];exact f'.lk j d h
 ·obtain ⟨h1,hj⟩:=nx (fun _ z=>by cases z) h1;obtain ⟨h2,hk⟩:=nx (fun _ z=>by cases z) h2;rw [aj hj] at h3;rw [aj hk] at h4;exact f'.dj j k d d' b h1 h2 h3 h4
 ·by_cases hj:i=j
  ·subst hj;by_cases hi:i<(clear2 ρ).length
   ·rw [aG hi] at h;cases h;have at4:=EH [a1,a2,a3,a4] H nd;have ne:∀ b∈[a1,a2,a3,a4],b≠a:=fun b hb z=>(List.nodup_cons.mp nd5).1 (z ▸ hb);have go:∀ b∈[a1,a2,a3,a4],upd (rH [a1,a2,a3,a4] H) a (.lst [.ref a1,.ref a2,.ref a3,.ref a4]) b=some (.lst []):=fun b hb=>by rw [aO (ne b hb)];exact at4 b hb
    refine ⟨a,[a1,a2,a3,a4],aG (by rw [<- f'.len];exact hi),aT,nd5,fun b hb=>⟨f.st.sub.free (free5 b hb),f.st.all.free (free5 b hb)⟩,fun b hb k e hk=>?_,.cons (go _ (by simp)) .nil (.cons (go _ (by simp)) .nil (.cons (go _ (by simp)) .nil (.cons (go _ (by simp)) .nil .nil)))⟩;obtain ⟨hk,nk⟩:=nx (fun _ z=>by cases z) hk;rw [aj nk];intro z;obtain ⟨b',o,k1,k2,_⟩:=f.ow k e hk;rw [z] at k1;cases k1;rw [free5 b hb] at k2;cases k2
   ·rw [cp (by simpa using hi)] at h;cases h
  ·rw [aj hj] at h;exact (no2 j d h).elim
 ·by_cases hj:i=j
  ·by_cases hk:i=k
   ·exact hj.symm.trans hk
   ·rw [aj hk] at h2;exact (no2 k d' h2).elim
  ·rw [aj hj] at h1;exact (no2 j d h1).elim
theorem No  (h:JS c st gs):JS c st (fun ρ=>gs (fE ρ)):=.of fun ρ=>AD (h (fE ρ)) fun D σ H h_1=>by
 obtain ⟨H0,Hs0,la,Hs,f,q⟩:=h_1;obtain ⟨Hs',f'⟩:=f.shared;exact ⟨H0,Hs0,la,Hs',f',q⟩
def shareAt (i:Nat) (ρ:az):az:=match ρ[i]? with
 |some (Sl.own d)=>ρ.set i (.shr d)
 |_=>ρ
theorem Fr.shareAt     (f:Fr K H0 Hs0 la ρ σ H Hs) (i:Nat):∃ Hs',Fr K H0 Hs0 la (J.shareAt i ρ) σ H Hs':=by
 unfold J.shareAt;split
 ·rename_i d ho
  obtain ⟨a,o,k1,k2,k3,k4,k5⟩:=f.ow i d ho;have hil:i<ρ.length:=(List.getElem?_eq_some_iff.mp ho).1;have up:dn Hs (upd Hs a o):=iA k3;have nx:∀ {j:Nat}{s:Sl},(∀ d,s≠.shr d)->(ρ.set i (.shr d))[j]?=some s->ρ[j]?=some s/\i≠j:=fun {j s} hs e=>by
   by_cases hj:i=j
   ·subst hj;rw [aG hil] at e;exact absurd (bD e).symm (hs d)
   ·rw [aj hj] at e;exact ⟨e,hj⟩
  have ne:∀ (j:Nat) (e:D) (b:ah),i≠j->ρ[j]?=some (Sl.own e)->σ[j]?=some (some (V.ref b))->b≠a:=fun j e b hj h hb z=>by
   subst z;exact hj (f.dj i j d e b ho h k1 hb)
  refine ⟨upd Hs a o,⟨f.st.all,f.st.sh.trans up,fun b u e=>?_,fun b u e t z=>?_⟩,by simp [f.len],fun j e h=>?_,fun j e h=>?_,fun j e h=>?_,fun j k d1 d2 b h1 h2 h3 h4=>?_,f.lh,fun j e h=>?_,fun j k d1 d2 h1 h2=>?_⟩
  ·by_cases hb:b=a
   ·subst hb;rw [aT] at e;cases e;exact k2
   ·rw [aO hb] at e;exact f.st.sub b u e
  ·rw [aO (aY e k4)];exact f.st.out b u e t z
  ·by_cases hj:i=j
   ·subst hj;rw [aG hil] at h;cases h;exact ⟨_,k1,k5.share k3⟩
   ·rw [aj hj] at h;obtain ⟨v,q1,q2⟩:=f.sh j e h;exact ⟨v,q1,q2.same up⟩
  ·obtain ⟨h,hj⟩:=nx (fun _ z=>by cases z) h;obtain ⟨b,u,q1,q2,q3,q4,q5⟩:=f.ow j e h;exact ⟨b,u,q1,q2,by rw [aO (ne j e b hj h q1)];exact q3,q4,q5.same up⟩
  ·obtain ⟨h,hj⟩:=nx (fun _ z=>by cases z) h;obtain ⟨b,u,q1,q2,q3,q4,q5,q6⟩:=f.lk j e h;exact ⟨b,u,q1,q2,q3,by rw [aO (aY q5 k4)];exact q4,q5,q6.same up⟩
  ·exact f.dj j k d1 d2 b (nx (fun _ z=>by cases z) h1).1 (nx (fun _ z=>by cases z) h2).1 h3 h4
  ·obtain ⟨h,hj⟩:=nx (fun _ z=>by cases z) h;obtain ⟨b,as,O⟩:=f.o2 j e h;refine ⟨b,as,O.at_,O.ob,O.nd,fun c hc=>⟨?_,(O.out c hc).2⟩,fun c hc k e' hk=>O.dj c hc k e' (nx (fun _ z=>by cases z) hk).1,O.inn.step (.refl _) up⟩;rw [aO (fun z=>O.dj c hc i d ho (by rw [z];exact k1))];exact (O.out c hc).1
  ·exact f.u2 j k d1 d2 (nx (fun _ z=>by cases z) h1).1 (nx (fun _ z=>by cases z) h2).1
 ·exact ⟨Hs,f⟩
theorem Hk (i:Nat)  (h:JS c st gs):JS c st (fun ρ=>gs (shareAt i ρ)):=.of fun ρ=>AD (h (shareAt i ρ)) fun D σ H h_2=>by
 obtain ⟨H0,Hs0,la,Hs,f,q⟩:=h_2;obtain ⟨Hs',f'⟩:=f.shareAt i;exact ⟨H0,Hs0,la,Hs',f',q⟩
theorem Bu.get    (h:Bu K H Hs as dss):∀ {j:Nat}{ds:List D},dss[j]?=some ds->∃ b vs,as[j]?=some b/\H b=some (.lst vs)/\RDs K Hs vs ds:=by
 induction h with
 |nil=>intro j ds e;cases e
 |cons h r t ih =>
  intro j ds e;cases j with
  |zero=>cases e;exact ⟨_,_,rfl,h,r⟩
  |succ j=>have q:=ih (j:=j) e;exact q
theorem Bu.set    (r':RDs K Hs vs' ds'):∀ {as:List ah}{dss:List (List D)}{j:Nat}{b:ah},Bu K H Hs as dss->as[j]?=some b->as.Nodup->Bu K (L2.upd H b (.lst vs')) Hs as (dss.set j ds')
 |_,_,_,_,.nil,h,_=>by simp at h
 |_,_,0,b,.cons h r t,e,nd=>by
  simp at e;subst e;exact .cons aT r' (t.upd (List.nodup_cons.mp nd).1)
 |_,_,j+1,b,.cons (a:=a) h r t,e,nd=>by
  have e':_:=e;simp only [jK] at e';obtain ⟨n1,n2⟩:=List.nodup_cons.mp nd;have hb:b∈_:=eM e';exact .cons (by rw [aO (fun z=>n1 (by rw [z];exact hb))];exact h) r (Bu.set r' t e' n2)
def oU (i:Nat) (gi g:az->R D):az->R Fl:=fun ρ=>match ρ[i]? with
 |some (Sl.ow2 dss)=>(gi ρ).bind fun k=>match k with
  |.int j=>if 0<=j then (match dss[j.toNat]? with
   |some ds=>(g ρ).bind fun d=>if ds.length<1000 then .ok (.nx (ρ.set i (.ow2 (dss.set j.toNat (ds++[d]))))) else .no
   |none=>.no) else .no
  |_=>.no
 |_=>.no
theorem zo (i:Nat) (hie:JE c ie gi) (h:JE c e g) (hN:c.X.N[i]?=some x:=by rfl) (hv:Ps c.X.env.scope x:=by first|exact iF rfl|exact fK (iF rfl)|exact fK (fK rfl)) (hd:(x==("__debug__" : Str))=false:=by decide)
  (hcd:(x==("__classdict__" : Str))=false:=by decide) (hpx:yb ie:=by exact fun _ _=>rfl)
  (hbase:mQ (.Subscript (.Name x p) ie p3) "append" c.X.env (cz (.Subscript (.Name x p) ie p3) c.X.env)=cz (.Subscript (.Name x p) ie p3) c.X.env:=by rfl)
  (hfew:((gL cpos (aw [e] c.X.env)).all (fun x=>!x.1)&&(backToKw cpos (P7 [] c.X.env)).all (fun x=>x.1.isSome)
   && decide ([e].length+([] : List FV).length+(if ([] : List FV).isEmpty then 0 else 1)<30))=true:=by rfl)
  (hline:(apos.endLine==cpos.line)=true:=by rfl) (hst:aw [e] c.X.env=(false,cz e c.X.env)::aw [] c.X.env:=by rfl) (hplain:(gL cpos (aw [] c.X.env)).any (·.1)=false:=by rfl)
  (hs:iR (.Call (.Attribute (.Subscript (.Name x p) ie p3) "append" apos) [e] [] cpos) none pos.line c.X.env=pure false:=by rfl) :
  JS c (.Expr (.Call (.Attribute (.Subscript (.Name x p) ie p3) "append" apos) [e] [] cpos) pos) (oU i gi g):=.of fun ρ=>by
 refine AD (uP (Bj eN Ao Ap Bk (Rl yc (pF hN hv hd hcd) (hie ρ) hpx) (bT (h ρ) eA hst) hbase hfew hline hst hplain) hs) fun D σ H h_3=>?_;obtain ⟨H0,Hs0,la,Hs,f,q⟩:=h_3;replace q:oj c.X.K c.cls c.E H0 Hs0 la D (oU i gi g ρ):=q;unfold oU at q;split at q
 ·rename_i dss ho
  obtain ⟨a,as,O⟩:=f.o2 i dss ho;refine ⟨_,O.at_,?_⟩;refine sE f q fun k v H1 Hs1 e1 s1 f1 r1=>?_;rw [e1,bind_ok] at q;cases r1 with
  |int j =>
   simp only at q;by_cases hj:0<=j
   ·rw [if_pos hj] at q;split at q
    ·rename_i ds hds
     obtain ⟨b,vs,hb,hH,rv⟩:=O.inn.get hds;have hix:DJ (as.map V.ref) j=some (.ref b):=by
      have:=si (xs:=as.map V.ref) (j:=j.toNat) (v:=V.ref b) (by rw [aJ,hb];rfl)
      rwa [dU hj] at this
     refine ⟨a,_,j,_,rfl,rfl,.of (s1.all _ _ O.ob),hix,.inl ⟨rfl,_,.of (s1.all _ _ hH)⟩,?_⟩;refine sE f1 q fun d w H2 Hs2 e2 s2 f2 r2=>?_;rw [e2,bind_ok] at q;by_cases hl:ds.length<1000
     ·rw [if_pos hl] at q;have st:=s1.trans s2;refine ⟨b,vs,w,rfl,rfl,st.all _ _ hH,cf (by rw [rv.length];omega),?_⟩;have hil:i<ρ.length:=(List.getElem?_eq_some_iff.mp ho).1;obtain ⟨a',as',O2'⟩:=f2.o2 i dss ho;have ea:a'=a:=by
       have:=O2'.at_;rw [O.at_] at this;cases this;rfl
      subst ea;have eas:as'=as:=by
       have h1:=O2'.ob;rw [st.all _ _ O.ob] at h1;injection h1 with h1;injection h1 with h1;exact (LL (fun x y z=>by cases z;rfl) |>.mp h1).symm
      subst eas;have hbm:b∈a'::as':=ao _ (eM hb);have nb:b≠a':=fun z=>(List.nodup_cons.mp O.nd).1 (z ▸ eM hb);obtain ⟨bs,b0⟩:=O2'.out b hbm;have nx:∀ {j':Nat}{s:Sl},(∀ d,s≠.ow2 d)->(ρ.set i (.ow2 (dss.set j.toNat (ds++[d]))))[j']?=some s->ρ[j']?=some s/\i≠j':=fun {j' s} hs e=>by
       by_cases hj:i=j'
       ·subst hj;rw [aG hil] at e;exact absurd (bD e).symm (hs _)
       ·rw [aj hj] at e;exact ⟨e,hj⟩
      refine q _ _ Hs2 ⟨⟨fun c u e=>?_,f2.st.sh,fun c u e=>?_,f2.st.out⟩,by simp [f2.len],fun j' d' h=>f2.sh j' d' (nx (fun _ z=>by cases z) h).1,fun j' d' h=>?_,fun j' d' h=>?_,fun j' k' d' e' a h1 h2=>f2.dj j' k' d' e' a (nx (fun _ z=>by cases z) h1).1 (nx (fun _ z=>by cases z) h2).1,f2.lh,fun j' d' h=>?_,fun j' k' d' e' h1 h2=>?_⟩
      ·rw [aO (aY e b0)];exact f2.st.all c u e
      ·rw [aO (aY e bs)];exact f2.st.sub c u e
      ·obtain ⟨h,_⟩:=nx (fun _ z=>by cases z) h;obtain ⟨c',u,k1,k2,k3,k4,k5⟩:=f2.ow j' d' h;refine ⟨c',u,k1,?_,k3,k4,k5⟩;rw [aO (fun z=>O2'.dj b hbm j' d' h (by rw [<- z];exact k1))];exact k2
      ·obtain ⟨h,_⟩:=nx (fun _ z=>by cases z) h;obtain ⟨c',u,k1,k2,k3,k4,k5,k6⟩:=f2.lk j' d' h;refine ⟨c',u,k1,k2,?_,k4,k5,k6⟩;rw [aO (aY k5 b0)];exact k3
      ·by_cases hj':i=j'
       ·subst hj';rw [aG hil] at h;cases h;refine ⟨a',as',O2'.at_,by rw [aO (cZ nb)];exact O2'.ob,O2'.nd,O2'.out,fun c hc k e' hk=>O2'.dj c hc k e' (nx (fun _ z=>by cases z) hk).1,?_⟩;exact Bu.set ((rv.same st.sh).append (.cons r2 .nil)) O2'.inn hb (List.nodup_cons.mp O2'.nd).2
       ·rw [aj hj'] at h;exact (hj' (f2.u2 i j' _ _ ho h)).elim
      ·by_cases hj':i=j'
       ·by_cases hk':i=k'
        ·exact hj'.symm.trans hk'
        ·rw [aj hk'] at h2;exact (hk' (f2.u2 i k' _ _ ho h2)).elim
       ·rw [aj hj'] at h1;exact (hj' (f2.u2 i j' _ _ ho h1)).elim
     ·rw [if_neg hl] at q;exact q.elim
    ·exact q.elim
   ·rw [if_neg hj] at q;exact q.elim
  |none=>exact q.elim
  |bool _=>exact q.elim
  |str _=>exact q.elim
  |list _ _=>exact q.elim
  |tuple _ _=>exact q.elim
  |dictK _ _=>exact q.elim
  |dictT _ _ _=>exact q.elim
  |dictF _ _ _=>exact q.elim
 ·exact q.elim
end
end
section
open PyProof.Rows (OwnCls)
section
end
section
end
structure Er (mg:Str->Option ae) (base:bt) (cls:Str->ah) (x:Str):Prop where
 ex:∃ bmB newId initId Bn,OwnCls x (cls x) bmB newId mg base/\tU Bn newId initId bmB
def wz (x:Str) (gs:az->R (List D)):az->R Fl:=fun ρ=>(gs ρ).bind fun ds=>if ds.length<=1000 then .ex x none else .no
section
theorem zq {x:Str}{np cpos pos:Pos}{e0:bL}{bB:List bL}{gs:az->R (List D)} (R0:Er mg base cls x)
  (hg:Gl (eK (ja P w) P w K mg base N qual scope f cd A outer s H E) x) (ha:G5 ⟨eK (ja P w) P w K mg base N qual scope f cd A outer s H E,cls,E⟩ (e0::bB) gs)
  (he:aw (e0::bB) (eK (ja P w) P w K mg base N qual scope f cd A outer s H E).env=(false,cz e0 (eK (ja P w) P w K mg base N qual scope f cd A outer s H E).env)::aw bB (eK (ja P w) P w K mg base N qual scope f cd A outer s H E).env:=by rfl)
  (hdb:(x==("__debug__" : Str))=false:=by decide) (hpl:(gL cpos (aw bB (eK (ja P w) P w K mg base N qual scope f cd A outer s H E).env)).any (·.1)=false:=by rfl) :
  JS ⟨eK (ja P w) P w K mg base N qual scope f cd A outer s H E,cls,E⟩ (.Raise (some (.Call (.Name x np) (e0::bB) [] cpos)) none pos) (wz x gs):=.of fun ρ=>by
 obtain ⟨bmB,newId,initId,Bn,O,FB⟩:=R0.ex;refine AD (MT O FB hg (ha ρ) he hdb hpl) fun D σ H1 h_1=>?_;obtain ⟨H0,Hs0,la,Hs,f,q⟩:=h_1;replace q:oj K cls E H0 Hs0 la D (wz x gs ρ):=q;refine ⟨H0,Hs0,la,Hs,f,?_⟩;unfold wz at q;cases hr:gs ρ with
 |no=>rw [hr] at q;exact q
 |ex y n=>rw [hr] at q;exact fun H' Hs' s=>q H' Hs' (f.st.trans s)
 |ok ds =>
  rw [hr,bind_ok] at q;intro vs H2 Hs2 s2 r2;by_cases hl:ds.length<=1000
  ·rw [if_pos hl] at q;exact ⟨bh (cf (by rw [r2.length];exact hl)),q H2 Hs2 (f.st.trans s2)⟩
  ·rw [if_neg hl] at q;exact q.elim
end
end
section
structure Bi (mg:Str->Option ae):Prop where
 len:mg "len"=none
 isinstance:mg "isinstance"=none
 all:mg "all"=none
 any:mg "any"=none
 zip:mg "zip"=none
 tuple:mg "tuple"=none
 list:mg "list"=none
 sorted:mg "sorted"=none
 set:mg "set"=none
 range:mg "range"=none
 enumerate:mg "enumerate"=none
 dict:mg "dict"=none
 sum:mg "sum"=none
 max:mg "max"=none
 min:mg "min"=none
 reversed:mg "reversed"=none
 str:mg "str"=none
 int:mg "int"=none
 bool:mg "bool"=none
end
section
structure Xf (K:a7) (base:bt) (cls:Str->ah) (names:List Str) (C:ah) (j:Nat):Prop where
 ek:Ei K C
 is:∀ i n,names[i]?=some n->db K (.ref C) (.ref (cls n))=some (decide (i=j))
 ve:db K (.ref C) (.type "ValueError")=some true
 ox:∃ bm,CO base C bm/\bm.contains (.ref (cls "PlanError"))=true
 lt:j<11
inductive RE (K:a7) (base:bt) (cls:Str->ah) (names:List Str) (vs:List V) (H:Hp) (Q:VK) (z_3:XK):Prop
 |mk (ea C j:_) (h0:vs=[.ref ea]) (h1:(∃ dx,H ea=some (v7 dx ea C))) (h2:Xf K base cls names C j) (h3:∀ t H',dn H H'->H t=none->H' t=some (.tup [.str "refused",.int (j:Nat)])->Q (.ref t) H'):RE K base cls names vs H Q z_3
def Tg (K:a7) (base:bt) (cls:Str->ah) (names:List Str):Sp:=RE K base cls names
def bits (j:Nat):List Bool:=[decide (0=j),decide (1=j),decide (2=j),decide (3=j),decide (4=j),decide (5=j),decide (6=j),decide (7=j),decide (8=j),decide (9=j),decide (10=j)]
theorem Hl:∀ j,j<11->(bits j).countP id=1:=by
 intro j h
 have:∀ k:_root_.Fin 11,(bits k.val).countP id=1:=by decide
 exact this ⟨j,h⟩
theorem Qu:∀ j,j<11->(bits j)[j]?=some true/\∀ m,m<j->(bits j)[m]?=some false:=by
 intro j h
 have:∀ k:_root_.Fin 11,(bits k.val)[k.val]?=some true/\∀ m:_root_.Fin 11,m.val<k.val->(bits k.val)[m.val]?=some false:=by decide
 exact ⟨(this ⟨j,h⟩).1,fun m hm=>(this ⟨j,h⟩).2 ⟨m,by omega⟩ hm⟩
section
variable {X:Cx}{cls:Str->ah}{names:List Str}{base:bt}
theorem mB   (h0:PE X e0 (Gz 0)) (hg:Gl X "isinstance") (hm:X.mg "isinstance"=none) (hgn:Gl X n) (hmn:X.mg n=some (.ref (cls n))) (hdb:(n==("__debug__" : Str))=false:=by decide)
  (he:aw [e0,.Name n p2] X.env=(false,cz e0 X.env)::aw [.Name n p2] X.env:=by rfl) (hpl:(gL pos (aw [.Name n p2] X.env)).any (·.1)=false:=by rfl) :
  PE X (.Call (.Name "isinstance" p) [e0,.Name n p2] [] pos) (fun σ H Q=>∃ ea C j i,σ[0]?=some (some (V.ref ea))/\(∃ dx,H ea=some (v7 dx ea C))/\Xf X.K base cls names C j/\names[i]?=some n/\Q (.bl (decide (i=j))) H) :=
 tJ (oO xi hg hm k7 (bT h0 (bT (Iu hgn hmn (v:=.ref (cls n)) rfl hdb) eA) he) (by decide) (by decide) he hpl) fun σ H Q ⟨ea,C,j,i,h1,⟨dx,h2⟩,x,h3,q⟩ =>
  ⟨_,h1,.ref ea,.ref (cls n),.ref (cls n),_,rfl,.inr ⟨_,rfl,rfl⟩,.inr ⟨dx,ea,C,rfl,h2,x.ek,x.is i n h3⟩,q⟩
theorem Qv  (h0:PE X e0 (Gz 0)) (hg:Gl X "isinstance") (hm:X.mg "isinstance"=none) (hgn:Gl X "ValueError") (hmn:X.mg "ValueError"=none)
  (he:aw [e0,.Name "ValueError" p2] X.env=(false,cz e0 X.env)::aw [.Name "ValueError" p2] X.env:=by rfl) (hpl:(gL pos (aw [.Name "ValueError" p2] X.env)).any (·.1)=false:=by rfl) :
  PE X (.Call (.Name "isinstance" p) [e0,.Name "ValueError" p2] [] pos) (fun σ H Q=>∃ ea C j,σ[0]?=some (some (V.ref ea))/\(∃ dx,H ea=some (v7 dx ea C))/\Xf X.K base cls names C j/\Q (.bl true) H) :=
 tJ (oO xi hg hm k7 (bT h0 (bT (Iv hgn hmn (u:=.type "ValueError") (v:=.ty "ValueError") rfl rfl) eA) he) (by decide) (by decide) he hpl) fun σ H Q ⟨ea,C,j,h1,⟨dx,h2⟩,x,q⟩ =>
  ⟨_,h1,.ref ea,.ty "ValueError",.type "ValueError",_,rfl,.inl ⟨_,rfl,rfl⟩,.inr ⟨dx,ea,C,rfl,h2,x.ek,x.ve⟩,q⟩
end
end
end J
section
namespace J
open PySem L2
structure Wh (P:bd) (w:bv) (K:a7) (mg:Str->Option ae) (base:bt) (cls:Str->ah) (x:Str) (names:List Str) (wh:Str->Option Nat):Prop where
 fn:∃ f fd ps,Ej P w K mg base 1 f fd ps (Tg K base cls names)/\mg x=some (.ref f)/\dL K (.ref f)=true/\k8 K fd ps []
 pe:mg "PlanError"=some (.ref (cls "PlanError"))
 ox:∃ bp,CO base (cls "PlanError") bp
 xf:∀ y j,wh y=some j->Xf K base cls names (cls y) j
section
variable {c:C}{body:List cF}{x n:Str}{np np2 np3 hpos cpos rpos pos:Pos}{gb:az->R Fl}{names:List Str}{wh:Str->Option Nat}
end
end J
namespace L2
open PySem
theorem mj.mono1  (r:mj k A) (h:1<=k:=by decide):mj 1 A:=⟨by have:=r.dp;omega,by have:=r.un;omega⟩
end L2
end
namespace J
open PySem L2
section
open PyProof.Rows (OwnCls)
abbrev Qw:List ae:=[.type "ValueError",.type "Exception",.type "BaseException",.type "object"]
theorem Hm {K:a7}{h:bt}{mg:Str->Option ae}{x:Str}{C:ah}{bmB:List ae}{newId:String} (X:K.In h) (G:h.Ns bq mg) (e:g9 K bq x=some (some (.ref C))) (q:Aq K C bmB newId=true) (m1:cb K C (.type "BaseException")=some true) :
  OwnCls x C bmB newId mg h/\∃ bm,CO h C bm/\∀ v,(v==bj C)=false->cb K C v=some true->bm.contains v=true:=by
 have hmg:=i3 X G e
 unfold Aq at q
 split at q
 ·rename_i dd cd sl look
  split at q
  ·rename_i C' bm k0 k1 k2 k3 n k5 hmro hslots
   simp only [aN,beq_iff_eq,M0] at q
   obtain ⟨⟨⟨⟨⟨rfl,rfl⟩,nodel⟩,tl⟩,nsok⟩,noinit⟩:=q
   have slots:sl=#[k0,k1,k2,k3,some (.builtin n),k5]:=by
    cases sl with|mk l=>simp only at hslots;rw [hslots]
   have inMro:∀ v,cb K C' v=some true->cd.mro.contains v=true:=fun v hv=>by
    unfold cb gE at hv
    rw [look] at hv
    simp only [w_] at hv
    split at hv
    ·cases hv
    ·exact bD hv
   have bB:∀ v,(v==bj C')=false->cb K C' v=some true->bm.contains v=true:=fun v nv hv=>by
    have:=inMro v hv
    rw [hmro,i4,nv,uM] at this
    exact this
   obtain ⟨nm,bs,mro,ns,qn,hd,sn,sub,ab,col,del⟩:=cd
   dsimp only at hmro nodel nsok noinit
   subst hmro nodel slots
   have at_:=X _ _ look
   exact ⟨⟨hmg,bm,ns,nm,qn,bs,hd,sn,sub,ab,col,dd,k0,k1,k2,k3,k5,_,at_,.of_isNs (m9 X nsok),eh X nsok noinit,PySem.W.tail_of_in X tl⟩,
    bm,⟨⟨nm,qn,ns,bs,hd,sn,sub,ab,col,dd,k0,k1,k2,k3,k5,n,at_⟩,bB _ rfl m1⟩,bB⟩
  ·cases q
 ·cases q
structure TopC (K:a7) (x:Str) (C:ah):Prop where
 ns:g9 K bq x=some (some (.ref C))
 ex:Aq K C Qw "ValueError.__new__"=true
 mb:cb K C (.type "BaseException")=some true
theorem TopC.er {K:a7}{h:bt}{mg:Str->Option ae}{cls:Str->ah}{x:Str}{C:ah} (T:TopC K x C) (X:K.In h) (G:h.Ns bq mg) (hc:cls x=C):Er mg h cls x:=by
 subst hc
 exact ⟨_,_,_,_,(Hm X G T.ns T.ex T.mb).1,md⟩
theorem Qx {K:a7}{t C:ah}{cd:ClassData}{b:Bool} (h1:gE K C=some cd) (h2:yy K (.ref C)=some (.type "type")) (h3:nZ K (.ref t) (.ref C)=some b) (hn:b=false->t≠C):db K (.ref t) (.ref C)=some b:=by
 unfold db
 split
 ·rename_i he
  have e:t=C:=by have:=eq_of_beq he;cases this;rfl
  cases b with
  |true=>rfl
  |false=>exact (hn rfl e).elim
 ·unfold M1
  simp only [h1,h2,mR,beq_self_eq_true,lu,if_true]
  exact h3
theorem Th  (h3:nZ K (.ref t) (.type "ValueError")=some true):db K (.ref t) (.type "ValueError")=some true:=by
 unfold db
 split
 ·rename_i he
  cases (eq_of_beq he)
 ·unfold M1
  show (if PySem.W.kitMeta "ValueError"=true then _ else none)=some true
  rw [if_pos (by decide +kernel)]
  exact h3
inductive V0 (K:a7) (F:List D->R D) (vs:List V) (H:Hp) (Q:VK) (z_3:XK):Prop
 |mk (Hs ds d:_) (h0:dn Hs H) (h1:ds.length=1) (h2:RDs K Hs vs ds) (h3:F ds=.ok d) (h4:∀ v H' Hs',cD H Hs H' Hs'->RD K Hs' v d->Q v H'):V0 K F vs H Q z_3
def V1 (K:a7) (F:List D->R D):Sp:=V0 K F
theorem Ti   : ∀ vs H Q E,V1 K F vs H Q E->Rz K cls 1 F vs H Q E:=fun vs H Q E ⟨Hs,ds,d,s,l,r,e,q⟩=>⟨Hs,ds,s,l,r,by rw [e];exact q⟩
def V2 (l:List (Str×ah)):Str->ah:=fun x=>(l.lookup x).getD 0
theorem Tj {K:a7}{F:List D->R D}{H:Hp}{a:ah}{ns:List Int} (hF:F [.list (ns.map .int)]=.ok (.bool true)) (h:nl K H a (ns.map V.int)):V1 K F [.ref a] H (fun v _=>v=.bl true) fun _ _ _=>False:=by
 have ri:∀ ns:List Int,RDs K H (ns.map V.int) (ns.map .int):=fun ns=>by
  induction ns with
  |nil=>exact .nil
  |cons x r ih=>exact .cons (.int x) ih
 refine ⟨H,[.list (ns.map .int)],.bool true,.refl H,rfl,.cons (.list h (ri ns)) .nil,hF,?_⟩
 intro v H' Hs' _ r
 cases r
 rfl
theorem Tk      (h:ja P w [] H s (fun _ _ _=>False) e s'):False:=by
 obtain ⟨_,_,_,_,_,_,_,_,_,_,_,q⟩:=h
 exact q
theorem walkF {l:xC}{k:Nat}{q:bd}{loose:List Str}{XP:(Str->Option ae)->bt->Prop}{YP:bv->bt->Prop}{d:DefRec}{K:Params->a7}{x:Str}{F0:List D->R D}
  (hn:l.most=some 63) (hdf:d.params.defaults=[]) (hr:jY k wX) (hY:∀ (w:bv) (h:bt),YP w h->(K w.params).In h)
  (F:∀ (w:bv) (mg:Str->Option ae) (fa:ah) (h:bt),(K w.params).In h->h.Ns bq mg->mg d.name=some (.ref fa) ->
   ∃ fd:eI,(∀ (s:ai) (u:ae),wW s fd ⟨[u],[]⟩ [(x,u)])/\∀ base:bt,(K w.params).In base->base.Ns bq mg->sZ l.prog w (K w.params) mg base (ja l.prog w) k fa fd [x] (V1 (K w.params) F0))
  (hF:∀ ns:List Int,ns.length<=63->F0 [.list (ns.map .int)]=.ok (.bool true)) :
  O_ q loose XP YP l.row.toRowW d [] (fun f vs=>K0 f vs) :=
 L2.PZ (n:=63) (k:=k) (x:=x) (CX:=fun w=>ja l.prog w) (sp:=fun w=>V1 (K w.params) F0) hn (by decide) hdf hr hY F (fun w H a ns hl _ hS=>Tj (hF ns hl) hS) fun _ _ _ _ _ h=>Tk h
def W8 (i:Nat) (g:az->R Fl):az->R Fl:=fun ρ=>g (shareAt i ρ)
theorem Np (i:Nat)  (h:JS c st gs):JS c st (W8 i gs):=Hk i h
end
section
section
theorem D4 {α β:Type} (a:α) (f:α->R β):(R.ok a).bind f=f a:=id rfl
theorem V3 {α β:Type} (c:Str) (n:Option D) (f:α->R β):(R.ex c n:R α).bind f=.ex c n:=id rfl
def KL (h:az->R Fl):Fl->R Fl:=fun fl=>match fl with
 |.nx ρ'=>h ρ'
 |fl=>.ok fl
theorem zr (g h:az->R Fl):aP g h (s::ρ)=(g (s::ρ)).bind (KL h):=id rfl
theorem vh (h:az->R Fl) (ρ:az):KL h (.nx ρ)=h ρ:=id rfl
theorem EI (h:az->R Fl) (d:D):KL h (.rt d)=.ok (.rt d):=id rfl
def WZ (g h:az->R Fl) (ρ:az):Bool->R Fl:=fun b=>bif b then g ρ else h ρ
theorem V4 (t:az->R Bool) (g h:az->R Fl):dI t g h (s::ρ)=(t (s::ρ)).bind (WZ g h (s::ρ)):=by
 show (t (s::ρ)).bind _=_;congr 1;funext b;cases b<;>rfl
theorem Nq (g h:az->R Fl) (ρ:az):WZ g h ρ false=h ρ:=id rfl
theorem Nr (g h:az->R Fl) (ρ:az) (b:Bool):WZ g h ρ b=bif b then g ρ else h ρ:=id rfl
def XF:D->R Fl:=fun d=>.ok (.rt d)
theorem RF (g:az->R D):cq g (s::ρ)=(g (fE (s::ρ))).bind XF:=id rfl
theorem V5 (d:D):XF d=.ok (.rt d):=id rfl
def zt:Sl->Sl
 |.own d=>.shr d
 |.ow2 dss=>.shr (.list (dss.map .list))
 |s=>s
theorem I_:fE (s::ρ)=zt s::fE ρ:=by cases s<;>rfl
theorem EJ:fE []=[]:=id rfl
theorem J4:zt .no=.no:=id rfl
theorem EK (d:D):zt (.shr d)=.shr d:=id rfl
theorem EL (d:D):zt (.own d)=.shr d:=id rfl
theorem EM (d:List (List D)):zt (.ow2 d)=.shr (.list (d.map .list)):=id rfl
def V6 (i:Nat) (ρ:az):D->R Fl:=fun d=>.ok (.nx (ρ.set i (.shr d)))
theorem Nt (i:Nat) (g:az->R D):dG i g (s::ρ)=(g (s::ρ)).bind (V6 i (s::ρ)):=id rfl
theorem Nu (i:Nat) (ρ:az) (d:D):V6 i ρ d=.ok (.nx (ρ.set i (.shr d))):=id rfl
def RG (i:Nat) (ρ:az):D->R Fl:=fun d=>.ok (.nx (ρ.set i (.own d)))
theorem Nv (i:Nat) (g:az->R D):iX i g (s::ρ)=(g (s::ρ)).bind (RG i (s::ρ)):=id rfl
theorem J5 (i:Nat) (ρ:az) (d:D):RG i ρ d=.ok (.nx (ρ.set i (.own d))):=id rfl
def Mv (ρ:az):D->R Fl:=fun _=>.ok (.nx ρ)
theorem Nw (g:az->R D):xj g (s::ρ)=(g (s::ρ)).bind (J.Mv (s::ρ)):=id rfl
theorem J6 (ρ:az) (d:D):J.Mv ρ d=.ok (.nx ρ):=id rfl
def XG (gb:az->R D) (h:D->D->R D) (ρ:az):D->R D:=fun x=>(gb ρ).bind (h x)
theorem V7 (ga gb:az->R D) (h:D->D->R D):g2 ga gb h (s::ρ)=(ga (s::ρ)).bind (XG gb h (s::ρ)):=id rfl
theorem RH (gb:az->R D) (h:D->D->R D) (ρ:az) (x:D):XG gb h ρ x=(gb ρ).bind (h x):=id rfl
def Qy:D->R Bool:=fun d=>match d with
 |.bool b=>.ok b
 |_=>.no
theorem RI (g:az->R D):fk g (s::ρ)=(g (s::ρ)).bind Qy:=id rfl
theorem Nx (b:Bool):Qy (.bool b)=.ok b:=id rfl
def V8:Bool->R Bool:=fun b=>.ok (!b)
theorem RJ (g:az->R Bool):iZ g (s::ρ)=(g (s::ρ)).bind V8:=id rfl
theorem Ny (b:Bool):V8 b=.ok (!b):=id rfl
def V9 (h:az->R Bool) (ρ:az):Bool->R Bool:=fun b=>bif b then h ρ else .ok false
def XH (h:az->R Bool) (ρ:az):Bool->R Bool:=fun b=>bif b then .ok true else h ρ
theorem RK (g h:az->R Bool):GZ g h (s::ρ)=(g (s::ρ)).bind (V9 h (s::ρ)):=by
 show (g (s::ρ)).bind _=_;congr 1;funext b;cases b<;>rfl
theorem Va (g h:az->R Bool):G_ g h (s::ρ)=(g (s::ρ)).bind (XH h (s::ρ)):=by
 show (g (s::ρ)).bind _=_;congr 1;funext b;cases b<;>rfl
theorem Nz (h:az->R Bool) (ρ:az) (b:Bool):V9 h ρ b=bif b then h ρ else .ok false:=id rfl
theorem RL (h:az->R Bool) (ρ:az) (b:Bool):XH h ρ b=bif b then .ok true else h ρ:=id rfl
def RM:Bool->R D:=fun b=>.ok (.bool (!b))
theorem NA (g:az->R D):Bv g (s::ρ)=((g (s::ρ)).bind Qy).bind RM:=id rfl
theorem J7 (b:Bool):RM b=.ok (.bool (!b)):=id rfl
def RN (h:az->R D) (ρ:az):Bool->R D:=fun b=>bif b then h ρ else .ok (.bool false)
theorem NB (g h:az->R D):rm g h (s::ρ)=((g (s::ρ)).bind Qy).bind (RN h (s::ρ)):=by
 show (fk g (s::ρ)).bind _=(fk g (s::ρ)).bind _;congr 1;funext b;cases b<;>rfl
theorem J8 (h:az->R D) (ρ:az) (b:Bool):RN h ρ b=bif b then h ρ else .ok (.bool false):=id rfl
def Vb (gb gc:az->R D) (h h':D->D->R D) (ρ:az):D->R D:=fun x=>(gb ρ).bind fun y=>(h x y).bind fun z=>match z with
 |.bool true=>(gc ρ).bind fun w=>h' y w
 |.bool false=>.ok (.bool false)
 |_=>.no
def Vc (gc:az->R D) (h h':D->D->R D) (ρ:az) (x:D):D->R D:=fun y=>(h x y).bind fun z=>match z with
 |.bool true=>(gc ρ).bind fun w=>h' y w
 |.bool false=>.ok (.bool false)
 |_=>.no
def Vd (gc:az->R D) (h':D->D->R D) (ρ:az) (y:D):D->R D:=fun z=>match z with
 |.bool true=>(gc ρ).bind (h' y)
 |.bool false=>.ok (.bool false)
 |_=>.no
theorem J9 (ga gb gc:az->R D) (h h':D->D->R D):ro ga gb gc h h' (s::ρ)=(ga (s::ρ)).bind (Vb gb gc h h' (s::ρ)):=id rfl
theorem NC (gb gc:az->R D) (h h':D->D->R D) (ρ:az) (x:D):Vb gb gc h h' ρ x=(gb ρ).bind (Vc gc h h' ρ x):=id rfl
theorem ND (gc:az->R D) (h h':D->D->R D) (ρ:az) (x y:D):Vc gc h h' ρ x y=(h x y).bind (Vd gc h' ρ y):=id rfl
theorem NE (gc:az->R D) (h':D->D->R D) (ρ:az) (y:D) (b:Bool):Vd gc h' ρ y (.bool b)=bif b then (gc ρ).bind (h' y) else .ok (.bool false):=by cases b<;>rfl
def NF (gs:az->R (List D)) (ρ:az):D->R (List D):=fun d=>(gs ρ).bind fun ds=>.ok (d::ds)
def NG (d:D):List D->R (List D):=fun ds=>.ok (d::ds)
theorem NH (g:az->R D) (gs:az->R (List D)):J.a8 g gs (s::ρ)=(g (s::ρ)).bind (NF gs (s::ρ)):=id rfl
theorem EN (gs:az->R (List D)) (ρ:az) (d:D):NF gs ρ d=(gs ρ).bind (NG d):=id rfl
theorem EO (d:D) (ds:List D):NG d ds=.ok (d::ds):=id rfl
theorem RO (ρ:az):J.aE ρ=.ok []:=id rfl
def RP (k:List D->D):List D->R D:=fun ds=>if ds.length<=1000 then .ok (k ds) else .no
theorem NI (gs:az->R (List D)) (k:List D->D):fX gs k (s::ρ)=(gs (s::ρ)).bind (RP k):=id rfl
theorem Ja (k:List D->D) (ds:List D):RP k ds=if ds.length<=1000 then .ok (k ds) else .no:=id rfl
theorem NJ (gs:az->R (List D)) (h:List D->R D):bP gs h (s::ρ)=(gs (s::ρ)).bind h:=id rfl
def XI (n:Nat) (F:List D->R D):List D->R D:=fun ds=>if ds.length=n then F ds else .no
theorem Ve (n:Nat) (F:List D->R D) (gs:az->R (List D)):dE n F gs (s::ρ)=(gs (s::ρ)).bind (XI n F):=id rfl
theorem RQ (n:Nat) (F:List D->R D) (ds:List D):XI n F ds=if ds.length=n then F ds else .no:=id rfl
theorem RS (h:D->R D) (d:D):hJ h [d]=h d:=id rfl
theorem NK (d:D) (ρ:az):G6 (.shr d::ρ) 0=.ok d:=id rfl
theorem RT (s:Sl) (ρ:az) (n:Nat):G6 (s::ρ) (n+1)=G6 ρ n:=by simp [G6]
theorem NL (d:D) (ρ:az):G7 (.shr d::ρ) 0=.ok d:=id rfl
theorem NN (d:D) (ρ:az):G7 (.own d::ρ) 0=.ok d:=id rfl
theorem RU (s:Sl) (ρ:az) (n:Nat):G7 (s::ρ) (n+1)=G7 ρ n:=by simp [G7]
def Vf (T:String):D->R D:=fun d=>if qC d then .ok (.bool (y_ T d)) else .no
theorem RV (g:az->R D) (T:String):v9 g T (s::ρ)=(g (s::ρ)).bind (Vf T):=id rfl
theorem NO (T:String) (d:D):Vf T d=if qC d then .ok (.bool (y_ T d)) else .no:=id rfl
def Vg (gl gh:az->R (Option Int)) (ρ:az):D->R D:=fun x=>(gl ρ).bind fun l=>(gh ρ).bind fun h=>G8 x l h
def Vh (gh:az->R (Option Int)) (ρ:az) (x:D):Option Int->R D:=fun l=>(gh ρ).bind fun h=>G8 x l h
theorem Vi (g:az->R D) (gl gh:az->R (Option Int)):yf g gl gh (s::ρ)=(g (s::ρ)).bind (Vg gl gh (s::ρ)):=id rfl
theorem NQ (gl gh:az->R (Option Int)) (ρ:az) (x:D):Vg gl gh ρ x=(gl ρ).bind (Vh gh ρ x):=id rfl
theorem NS (gh:az->R (Option Int)) (ρ:az) (x:D) (l:Option Int):Vh gh ρ x l=(gh ρ).bind (G8 x l):=id rfl
theorem RW (ρ:az):Af ρ=.ok none:=id rfl
def Vj:D->R (Option Int):=fun d=>match d with
 |.int i=>.ok (some i)
 |_=>.no
theorem RX (g:az->R D):xP g (s::ρ)=(g (s::ρ)).bind Vj:=id rfl
theorem NT (i:Int):Vj (.int i)=.ok (some i):=id rfl
theorem Tl (g:az->R D):lX g (s::ρ)=(g (s::ρ)).bind z3:=id rfl
theorem NU (gs:az->R (List D)):vc gs (s::ρ)=(gs (s::ρ)).bind Hg:=id rfl
theorem RY (gs:az->R (List D)):Hh gs (s::ρ)=(gs (s::ρ)).bind W6:=id rfl
theorem RZ (gs:az->R (List D)):Qn gs (s::ρ)=(gs (s::ρ)).bind zp:=id rfl
def R_ (nt:Nat) (ix:List Nat) (gt:az->R Bool) (ge:az->R D) (ρ:az):List D->R D:=fun ds=>if ds.length<=1000 then (hU (jd nt (oR nt ix ρ) gt ge) ds).bind fun ys=>.ok (.list ys) else .no
def S0:List D->R D:=fun ys=>.ok (.list ys)
theorem NV (nt:Nat) (ix:List Nat) (gi:az->R (List D)) (gt:az->R Bool) (ge:az->R D):fg nt ix gi gt ge (s::ρ)=(gi (s::ρ)).bind (R_ nt ix gt ge (s::ρ)):=id rfl
theorem Jb (nt:Nat) (ix:List Nat) (gt:az->R Bool) (ge:az->R D) (ρ:az) (ds:List D):R_ nt ix gt ge ρ ds=if ds.length<=1000 then (hU (jd nt (oR nt ix ρ) gt ge) ds).bind S0 else .no:=id rfl
theorem Jc (ys:List D):S0 ys=.ok (.list ys):=id rfl
theorem rJ (gi:az->R (List D)) (kt:D->az->R az) (gb:az->R Fl) (ds:List D) (h:gi (s::ρ)=.ok ds):pP gi kt gb (s::ρ)=ii kt gb ds (s::ρ):=by unfold pP;rw [h]
def NW (k:D->az->R az) (ρ:az):D->R Fl:=fun d=>match k d ρ with
 |.ok ρ'=>.ok (.nx ρ')
 |_=>.no
theorem S1 (g:az->R D) (k:D->az->R az):AF g k (s::ρ)=(g (s::ρ)).bind (NW k (s::ρ)):=id rfl
theorem Bz (ds:List D):z3 (.list ds)=.ok ds:=id rfl
theorem BA (ds:List D):z3 (.tuple ds)=.ok ds:=id rfl
theorem BB (x:Str):z3 (.str x)=.ok (oh x):=id rfl
theorem NX (ds:List D):W6 [.tuple ds]=.ok (jb 0 ds):=id rfl
theorem Vk (ds es:List D):zp [.tuple ds,.tuple es]=.ok (xQ ds es):=id rfl
def BC (ρ:az) (i:Nat):Sl:=Qp ((ρ[i]?).getD .no)
def NY (ix:List Nat) (ρ:az):az:=ix.map (BC ρ)
theorem NZ (ix:List Nat) (ρ:az):oR 1 ix ρ=.no::NY ix ρ:=id rfl
theorem N_ (ix:List Nat) (ρ:az):oR 2 ix ρ=.no::.no::NY ix ρ:=id rfl
theorem O0 (ρ:az):NY [] ρ=[]:=id rfl
theorem O1 (i:Nat) (ix:List Nat) (ρ:az):NY (i::ix) ρ=BC ρ i::NY ix ρ:=id rfl
theorem O3 (s:Sl) (ρ:az):BC (s::ρ) 0=Qp s:=id rfl
theorem O4 (s:Sl) (ρ:az) (n:Nat):BC (s::ρ) (n+1)=BC ρ n:=by simp [BC]
theorem BE (d:D):Qp (.shr d)=.shr d:=id rfl
theorem O5   (h:ρ[i]?=some (Sl.own d)):shareAt i ρ=ρ.set i (.shr d):=by unfold shareAt;rw [h]
theorem dA {α:Type} (f:D->R (Option D)) (c:α->D) (h:α->D):∀ (xs:List α),(∀ x∈xs,f (c x)=.ok (some (h x)))->hU f (xs.map c)=.ok (xs.map h)
 |[],_=>rfl
 |x::r,e=>by
  rw [aM,aM];unfold hU;rw [e x aq,bind_ok,dA f c h r fun y hy=>e y (ao _ hy),bind_ok]
theorem iK {α:Type} (f:D->R (Option D)) (c:α->D) (h:α->D) (p:α->Bool):∀ (xs:List α),(∀ x∈xs,f (c x)=.ok (if p x then some (h x) else none))->hU f (xs.map c)=.ok ((xs.filter p).map h)
 |[],_=>rfl
 |x::r,e=>by
  rw [aM];unfold hU;rw [e x aq,bind_ok,iK f c h p r fun y hy=>e y (ao _ hy),bind_ok];cases hp:p x<;>simp [hp]
theorem S2    : jd 1 ρ gt ge d=KG (((gt (ρ.set 0 (.shr d)))).bind fun b=>if b then (ge (ρ.set 0 (.shr d))).bind fun y=>.ok (some y) else .ok none):=id rfl
theorem fO    (h1:gt (ρ.set 0 (.shr d))=.ok true) (h2:ge (ρ.set 0 (.shr d))=.ok y):jd 1 ρ gt ge d=.ok (some y):=by
 rw [S2,h1,bind_ok,if_pos rfl,h2];rfl
theorem vi     (h1:gt (ρ.set 0 (.shr d))=.ok b) (h2:b=true->ge (ρ.set 0 (.shr d))=.ok y):jd 1 ρ gt ge d=.ok (if b then some y else none):=by
 rw [S2,h1,bind_ok];cases b with
 |true=>rw [if_pos rfl,h2 rfl];rfl
 |false=>rfl
theorem Qz (h1:-(2 ^ 62)<=j) (h2:j<2 ^ 62):Hg [.int j]=.ok (rF 0 j.toNat):=by
 have h:-(2 ^ 62)<=j/\j<2 ^ 62:=⟨h1,h2⟩;unfold Hg;split
 ·rename_i j' e
  have e':j=j':=by injection e with e;injection e
  subst e';rw [if_pos h]
 ·rename_i hn
  exact (hn j rfl).elim
end
end
end J
section
namespace L2
open PySem PySem.Spec PyProof.Rows
end L2
namespace J
open PySem L2
open PyProof.Rows (envOfC)
section
variable {c:C}{e a b:bL}{g ga gb:az->R D}{pos rpos:Pos}{es:List bL}{gs:az->R (List D)}{x y:Str}{p q:Pos}
end
section
variable {c:C}{body:List cF}{x n:Str}{np np2 np3 hpos cpos rpos pos:Pos}{gb:az->R Fl}{names:List Str}{wh:Str->Option Nat}
end
theorem XY {α:Type}{us:List α} (h:us.length=1):∃ a,us=[a]:=by
 rcases us with _|⟨a0,_|⟨z,r⟩⟩
 ·simp at h
 ·exact ⟨_,rfl⟩
 ·simp at h
theorem XZ {α:Type}{us:List α} (h:us.length=2):∃ a b,us=[a,b]:=by
 rcases us with _|⟨a0,_|⟨a0,_|⟨z,r⟩⟩⟩
 ·simp at h
 ·simp at h
 ·exact ⟨_,_,rfl⟩
 ·simp at h
theorem X_ {α:Type}{us:List α} (h:us.length=3):∃ a b c,us=[a,b,c]:=by
 rcases us with _|⟨a0,_|⟨a0,_|⟨a0,_|⟨z,r⟩⟩⟩⟩
 ·simp at h
 ·simp at h
 ·simp at h
 ·exact ⟨_,_,_,rfl⟩
 ·simp at h
theorem Y0 {α:Type}{us:List α} (h:us.length=4):∃ a b c d,us=[a,b,c,d]:=by
 rcases us with _|⟨a0,_|⟨a0,_|⟨a0,_|⟨a0,_|⟨z,r⟩⟩⟩⟩⟩
 ·simp at h
 ·simp at h
 ·simp at h
 ·simp at h
 ·exact ⟨_,_,_,_,rfl⟩
 ·simp at h
theorem Y1 {α:Type}{us:List α} (h:us.length=5):∃ a b c d e,us=[a,b,c,d,e]:=by
 rcases us with _|⟨a0,_|⟨a0,_|⟨a0,_|⟨a0,_|⟨a0,_|⟨z,r⟩⟩⟩⟩⟩⟩
 ·simp at h
 ·simp at h
 ·simp at h
 ·simp at h
 ·simp at h
 ·exact ⟨_,_,_,_,_,rfl⟩
 ·simp at h
end J
end
namespace J
open PySem L2
section
section
end
end
end J
section
namespace HT
open PySem PyProof.Rows
section
open PySem.SeqAt
open PySem.AutoSeq1 (wpAny_loadPart')
open PySem.MeetsSeq PySem.MeetsSeq2 PySem.MeetsSeq3
end
end HT
namespace L2
open PySem PySem.Spec PyProof.Rows
section
variable {X:Cx}{e st:bL}{te ts:TE}{pos p2:Pos}
end
end L2
namespace J
open PySem L2
section
variable {c:C}{e:bL}{g:az->R D}{pos p2 p3 p4:Pos}
end
end J
end
section
namespace L2
open PySem
def LO (mask:Nat):Nat->Nat×Nat->Nat×Nat
 | 0,x=>x
 |n+1,x=>LO mask n (SetTable.leap mask x.1 x.2)
theorem Jd (mask:Nat):∀ (n m:Nat) (x:Nat×Nat),LO mask (n+m) x=LO mask m (LO mask n x)
 | 0,m,x=>by rw [Gu];rfl
 |n+1,m,x=>by
  rw [Nat.succ_add];exact Jd mask n m _
theorem Je (mask:Nat):∀ (n:Nat) (x:Nat×Nat),(LO mask n x).2=x.2 / 32 ^ n
 | 0,x=>by simp [LO]
 |n+1,x=>by
  show (LO mask n _).2=_;rw [Je mask n];show x.2 / 32 / 32 ^ n=_;rw [Nat.div_div_eq_div_mul,Nat.pow_succ,Nat.mul_comm]
theorem Jf (mask:Nat):∀ (n:Nat) (x:Nat×Nat),x.1<=mask->(LO mask n x).1<=mask
 | 0,x,h=>h
 |n+1,x,h=>Jf mask n _ (by
  show (x.1*5+1+x.2 / 32) % (mask+1)<=mask;exact xF (Ce _ (Gv _)))
theorem BF  : ∀ (fuel i p:Nat),dm mask owner fuel i p=none->∀ n,n<fuel->(owner.getD (LO mask n (i,p)).1 (some 0)).isSome=true
 | 0,_,_,_,n,h=>absurd h (mf n)
 |fuel+1,i,p,e,n,h=>by
  unfold dm at e;split at e
  ·cases e
  ·rename_i hf
   cases n with
   |zero =>
    have h0:=List.find?_eq_none.mp hf 0 (List.mem_range.mpr (by unfold SetTable.runEnd;split<;>omega));simp only [Nat.add_zero] at h0;show (owner.getD i (some 0)).isSome=true;cases q:owner.getD i (some 0) with
    |none=>rw [q] at h0;exact absurd rfl h0
    |some _=>rfl
   |succ n=>exact BF fuel _ _ e n (Gw h)
theorem BG  : ∀ (fuel i p k:Nat),dm mask owner fuel i p=some k->owner.getD k (some 0)=none
 | 0,_,_,_,e=>nomatch e
 |fuel+1,i,p,k,e=>by
  unfold dm at e;split at e
  ·rename_i k' hf
   cases e;have:=List.find?_some hf;cases q:owner.getD (i+k') (some 0) with
   |none=>rfl
   |some _=>rw [q] at this;cases this
  ·exact BG fuel _ _ k e
def LP (mask:Nat):Prop:=mask=7\/mask=15\/mask=31
def Vl (mask:Nat):Bool:=(bg (mask+1)).all fun i=>(bg (mask+1)).all fun j=>(bg (mask+1)).any fun n=>decide ((LO mask n (i,0)).1=j)
theorem QA (h:LP mask):Vl mask=true:=by
 rcases h with h|h|h<;>subst h<;>decide +kernel
theorem getD_none {owner:Array (Option Nat)}{k:Nat} (h:owner.getD k (some 0)=none):owner.toList[k]?=some none:=by
 by_cases hk:k<owner.size
 ·rw [ip,g6 hk] at h;rw [d_,g6 hk];simpa using h
 ·rw [ip,Array.getElem?_eq_none (by omega)] at h;cases h
theorem KM {mask:Nat} (hm:LP mask) {owner:Array (Option Nat)}{j:Nat} (hj:j<=mask) (hn:owner.toList[j]?=some none) {i p:Nat} (hi:i<=mask) (hp:p<2 ^ 64) :
  ∃ k,dm mask owner (qI mask) i p=some k/\owner.toList[k]?=some none:=by
 cases e:dm mask owner (qI mask) i p with
 |some k=>exact ⟨k,rfl,getD_none (BG _ _ _ _ e)⟩
 |none =>
  exfalso;have hz:(LO mask 13 (i,p)).2=0:=by
   rw [Je];exact Nat.div_eq_of_lt (aC hp (by decide))
  have h1:=Jf mask 13 (i,p) hi;have g:=QA hm;unfold Vl at g;rw [cJ] at g;have g:=g _ (List.mem_range.mpr (kf h1));rw [cJ] at g;have g:=g j (List.mem_range.mpr (kf hj));rw [l5] at g;obtain ⟨n,hn1,hn2⟩:=g;have hn1:=List.mem_range.mp hn1;have hn2:=of_decide_eq_true hn2;have hs:(LO mask (13+n) (i,p)).1=j:=by
   rw [Jd,<- hn2,<- hz]
  have:=BF _ _ _ e (13+n) (by unfold qI;omega);rw [hs] at this;have hq:owner.getD j (some 0)=none:=by
   rw [d_] at hn;rw [ip,hn];rfl
  rw [hq] at this;cases this
theorem QB (h:Int):nh h<2 ^ 64:=by
 unfold nh;have:=n_ h (show (0:Int)<2 ^ 64 by decide);have:=se h (show (2 ^ 64:Int)≠0 by decide);omega
theorem EQ:∀ {l:List (Option Nat)}{j:Nat},l[j]?=some none->((l.set j (some k)).filterMap id).Perm (k::l.filterMap id)
 |[],_,h=>nomatch h
 |x::r,0,h=>by
  cases h;exact .refl _
 |x::r,j+1,h=>by
  have ih:=EQ (k:=k) (l:=r) (j:=j) h;cases x with
  |none=>exact ih
  |some y=>exact (ih.cons y).trans (.swap k y _)
theorem ES:∀ {l:List (Option Nat)},(l.filterMap id).length<l.length->∃ j,j<l.length/\l[j]?=some none
 |[],h=>absurd h (bN 0)
 |none::r,_=>⟨0,Gv _,rfl⟩
 |some y::r,h=>by
  obtain ⟨j,h1,h2⟩:=ES (l:=r) (Gw h);exact ⟨j+1,Nat.succ_lt_succ h1,h2⟩
def Jg (mask:Nat) (acc:Option (Array (Option Nat)×Nat)) (h:Int):Option (Array (Option Nat)×Nat):=acc.bind fun x=>(dm mask x.1 (qI mask) (nh h % (mask+1)) (nh h)).bind fun j=>some (x.1.setIfInBounds j (some x.2),x.2+1)
theorem ET (mask:Nat) (hs:Array Int):uA mask hs=(hs.toList.foldl (Jg mask) (some (yz (mask+1) none,0))).map (·.1):=by
 rw [Array.foldl_toList];rfl
theorem Jh (hm:LP mask):∀ (l:List Int) (owner:Array (Option Nat)) (k:Nat),owner.size=mask+1->(owner.toList.filterMap id).Perm (bg k)->k+l.length<=mask ->
  ∃ o',l.foldl (Jg mask) (some (owner,k))=some (o',k+l.length)/\o'.size=mask+1/\(o'.toList.filterMap id).Perm (bg (k+l.length))
 |[],owner,k,h1,h2,_=>⟨owner,rfl,h1,h2⟩
 |h::r,owner,k,h1,h2,h3=>by
  simp only [aU] at h3 ⊢;obtain ⟨j,j1,j2⟩:=ES (l:=owner.toList) (by rw [h2.length_eq,dO,ap,h1];omega);rw [ap,h1] at j1;obtain ⟨m,m1,m2⟩:=KM hm (xF j1) j2 (i:=nh h % (mask+1)) (xF (Ce _ (Gv _))) (QB h);have e:Jg mask (some (owner,k)) h=some (owner.setIfInBounds m (some k),k+1):=by
   unfold Jg;simp only [w_,m1]
  rw [qS,e];obtain ⟨o',a1,a2,a3⟩:=Jh hm r (owner.setIfInBounds m (some k)) (k+1) (by rw [Array.size_setIfInBounds];exact h1) (by
   rw [Array.toList_setIfInBounds];refine (EQ m2).trans ?_;rw [List.range_succ];exact ((h2.cons k).trans (List.perm_append_singleton k _).symm)) (by omega)
  rw [show k+1+r.length=k+(r.length+1) by omega] at a1 a3;exact ⟨o',a1,a2,a3⟩
theorem Ji {n:Nat}{o:Array (Option Nat)} (h:o.size=n):(bg n).filterMap (fun j=>o.getD j none)=o.toList.filterMap id:=by
 have e:(bg n).map (fun j=>o.getD j none)=o.toList:=by
  refine x_ (by simp [h]) fun i h1 h2=>?_;simp only [ar,dO] at h1;rw [y7,LM,ip,g6 (by omega)];simp
 rw [<- e,n5];rfl
theorem Jj {mask finger moves:Nat}{led plain:Bool}{hs:Array Int} (hm:LP mask) (hl:hs.size<=mask):∃ place order,Ac mask finger moves led plain hs=some ({ mask,place,dummies:=#[],finger,led,moves,plain },order)/\place.size=hs.size/\order.toList.Perm (bg hs.size):=by
 obtain ⟨o,h1,h2,h3⟩:=Jh hm hs.toList (yz (mask+1) none) 0 (by simp) (by
  have:(yz (mask+1) (none:Option Nat)).toList.filterMap id=[]:=by
   rw [Array.toList_replicate,List.filterMap_eq_nil_iff];intro x hx;rw [(List.mem_replicate.mp hx).2];rfl
  rw [this];exact .refl _) (by rw [ap];omega)
 have hc:uA mask hs=some o:=by
  rw [ET,h1];rfl
 rw [Gu,ap] at h3;refine ⟨_,_,by unfold Ac;rw [hc];rfl,?_,?_⟩
 ·have e:=congrArg tm (Ji h2);rw [h3.length_eq,dO] at e;rw [aK,ar,<- e];rw [xG,xG];congr 1;funext j;cases o.getD j none<;>rfl
 ·rw [List.map_filterMap];refine .trans (.of_eq ?_) h3;rw [<- Ji h2];show List.filterMap _ _=List.filterMap _ _;congr 1;funext j;cases o.getD j none<;>rfl
end L2
namespace L2
open PySem
section
theorem O6:∀ n:_root_.Fin 31,n.val<c8 n.val/\(c8 n.val=8\/c8 n.val=16\/c8 n.val=32):=by decide +kernel
theorem O7 (h:n<=30):n<=c8 n-1/\LP (c8 n-1)/\c8 n<=32:=by
 obtain ⟨h1,h2⟩:=O6 ⟨n,by omega⟩;simp only at h1 h2;unfold LP;omega
theorem zu {es:Array (Int×ae)}{order:Array Nat} (h:order.toList.Perm (bg es.size)):(order.filterMap (es[·]?)).toList.Perm es.toList:=by
 rw [Array.toList_filterMap];refine (h.filterMap _).trans (.of_eq ?_);have e:(bg es.size).map (fun i=>es[i]?)=es.toList.map some:=by
  refine x_ (by simp) fun i h1 h2=>?_;simp only [ar,dO] at h1;rw [y7,LM,y7,Array.getElem_toList];exact g6 h1
 have e2:(bg es.size).filterMap (fun i=>es[i]?)=((bg es.size).map (fun i=>es[i]?)).filterMap id:=by rw [n5];rfl
 rw [e2,e,n5];simp
theorem cL.of     (I:cL w h a es ep t) (p:es'.toList.Perm es.toList) (f:t'.fits es'.size=true) (l:t'.led=t.led) (pl:t'.plain=t.plain):cL w (h.update a (qO es' t')) a es' (ep+1) t':=by
 have sz:es'.size=es.size:=by rw [<- ap,p.length_eq,ap]
 refine ⟨sk I,fun e he=>I.txt e (p.mem_iff.mp he),(p.map jZ).nodup_iff.mpr I.nd,by rw [sz];exact I.few,f,l.trans I.led,?_⟩;rw [sz,pl];exact I.pl
theorem zv {t:ll}{n:Nat} (h:t.fits n=true):t.place.size=n/\t.fill<=t.mask:=by
 unfold nc at h;rw [aN] at h;exact ⟨eq_of_beq h.1,of_decide_eq_true h.2⟩
theorem Jk {mask finger moves:Nat}{led plain:Bool}{place:Array Nat}{n:Nat} (h:place.size=n) (hm:n<=mask):nc { mask,place,dummies:=#[],finger,led,moves,plain } n=true:=by
 unfold nc M2;subst h;simp only [beq_self_eq_true,uO,decide_eq_true_eq];exact hm
theorem Ho {a:ah}{es:Array (Int×ae)}{ep:Nat}{t:ll}{wanted:Nat}{Q:Unit->ai->Prop} (I:cL w s.heap a es ep t) (hw:wanted<=30) (hz:es.size<=wanted)
  (h:∀ h' es' ep' t',bE a s.heap h'->cL w h' a es' ep' t'->es'.toList.Perm es.toList->LP t'.mask->wanted<=t'.mask->Q () { s with heap:=h' }):ak (ay P w) A (setRelay a wanted) Q E s:=by
 obtain ⟨w1,w2,w3⟩:=O7 hw;obtain ⟨place,order,e,hp,ho⟩:=Jj (finger:=t.finger) (moves:=t.movedTo (c8 wanted-1)) (led:=t.led) (plain:=t.plain) (hs:=es.map (·.1)) w2 (by rw [sX];omega);rw [sX] at hp ho;have pm:=zu ho;have sz:(order.filterMap (es[·]?)).size=es.size:=by rw [<- ap,pm.length_eq,ap]
 unfold setRelay;refine a6 (br I.at_ rfl I.fits ?_);show ak _ _ (if c8 wanted > sizeLine then _ else _) _ _ s;have h32:(32:Nat)<=sizeLine:=by decide
 rw [if_neg (by omega)];refine a6 ?_;unfold K2;rw [e];show ak _ _ (if ((order.filterMap (es[·]?)).size != es.size)=true then _ else pure (order.filterMap (es[·]?),_)) _ _ s;rw [if_neg (by rw [sz];simp)];refine ac ?_;have fit:nc { mask:=c8 wanted-1,place,dummies:=#[],finger:=t.finger,led:=t.led,moves:=t.movedTo (c8 wanted-1),plain:=t.plain } (order.filterMap (es[·]?)).size=true:=Jk (by rw [sz];exact hp) (by rw [sz];omega);refine j5 I.at_ rfl ?_ (by rw [sz];exact fm I.few);exact h _ _ _ _ (bQ s.heap a _) (I.of pm fit rfl rfl) pm w2 w1
theorem D5 {a:ah}{es:Array (Int×ae)}{ep:Nat}{t:ll}{more:Nat}{Q:Unit->ai->Prop} (I:cL w s.heap a es ep t) (hz:es.size+more<=15) (hm:es.size≠0\/LP t.mask)
  (h:∀ h' es' ep' t',bE a s.heap h'->cL w h' a es' ep' t'->es'.toList.Perm es.toList->(es.size≠0\/LP t'.mask)->more<=t'.mask->Q () { s with heap:=h' }):ak (ay P w) A (setRoomFor a more) Q E s:=by
 obtain ⟨f1,f2⟩:=zv I.fits;unfold setRoomFor;refine a6 (br I.at_ rfl I.fits ?_);dsimp only;unfold SetTable.roomFor;by_cases hc:(t.fill+more)*5 ≥ t.mask*3
 ·rw [if_pos hc];refine Ho I (by rw [f1];omega) (by rw [f1];omega) fun h' es' ep' t' a1 a2 a3 a4 a5=>?_;exact h h' es' ep' t' a1 a2 a3 (.inr a4) (by rw [f1] at a5;omega)
 ·rw [if_neg hc];exact ac (h s.heap es ep t (.refl ..) I (.refl _) hm (by omega))
end
end L2
namespace L2
open PySem
theorem yg {α σ:Type}{M:Gc}{A:bO}{E:ae->ai->Prop}{Q:σ->ai->Prop}{f:α->σ->Sem (ForInStep σ)}{b:σ} (I:List α->ai->Prop)
  (step:∀ x r s,I (x::r) s->ak M A (f x b) (fun st s'=>st=.yield b/\I r s') E s) (fin:∀ s,I [] s->Q b s):∀ (l:List α) (s:ai),I l s->ak M A (forIn l b f) Q E s
 |[],s,h=>by rw [tu];exact ac (fin s h)
 |x::r,s,h=>by
  rw [lV];refine a6 (aV (step x r s h) (fun st s' q=>?_) fun _ _ e=>e);obtain ⟨rfl,q⟩:=q;exact yg I step fin r s' q
section
theorem EU  (h:∀ a∈l,∃ es ep t,cL w s.heap a es ep t) (q:Q true s):ak (ay P w) A (setsQuiet l) Q E s:=by
 unfold setsQuiet;refine a6 (yg (fun r s'=>s'=s/\∀ a∈r,∃ es ep t,cL w s.heap a es ep t) (fun a r s' hI=>?_) (fun s' hI=>?_) l s ⟨rfl,h⟩)
 ·obtain ⟨rfl,hI⟩:=hI;obtain ⟨es,ep,t,I⟩:=hI a aq;unfold setEntries;refine a6 (a6 (br I.at_ rfl I.fits (ac ?_)));dsimp only;rw [<- K4];refine a6 (yg (fun r2 s2=>s2=s'/\∀ e∈r2,tX w e) (fun e r2 s2 h2=>?_) (fun s2 h2=>?_) es.toList s' ⟨rfl,I.txt⟩)
  ·obtain ⟨rfl,h2⟩:=h2;obtain ⟨x,tk,rfl⟩:=h2 e aq;exact ac ⟨rfl,rfl,fun e he=>h2 e (ao _ he)⟩
  ·obtain ⟨rfl,_⟩:=h2;exact ac ⟨rfl,rfl,fun b hb=>hI b (ao _ hb)⟩
 ·obtain ⟨rfl,_⟩:=hI;exact ac q
theorem KN     (I:cL w s.heap o es ep t) (hb:w.params.followText "set-order"=true\/t.plain=true\/es.size<=1)
  (q:∀ es',es'.toList.Perm es.toList->Q es' s):ak (ay P w) A (setWalk o) Q E s:=by
 unfold setWalk;refine a6 (br I.at_ rfl I.fits (a6 (fe ?_)));cases hw:w.params.followText "set-order" with
 |true =>
  simp only [if_true];exact a6 (i7 (ac (q _ (wl _ _))))
 |false =>
  simp only [bV,if_false];have hd:(!t.plain&&decide (es.size > 1))=false:=by
   rcases hb with h|h|h
   ·rw [hw] at h;cases h
   ·rw [h];rfl
   ·rw [decide_eq_false (by omega),n6]
  have hl:t.led=true:=by rw [I.led,hw];rfl
  show ak _ _ (if (!t.plain&&decide (es.size > 1))=true then _ else _) _ _ s;rw [hd,if_neg aH];refine a6 ?_;show ak _ _ (if (!t.led&&decide (es.size > 1))=true then _ else pure ()) _ _ s;rw [hl,if_neg (by simp)];exact ac (ac (q _ (.refl _)))
theorem xR     (I:cL w s.heap o eo epo to) (J:cL w s.heap a es ep t)
  (q:∀ h' es' ep' t',bE a s.heap h'->cL w h' a es ep' t'->es'.toList.Perm eo.toList->Q es' { s with heap:=h' }):ak (ay P w) A (setWalkUnseen o [a] (some a)) Q E s:=by
 unfold setWalkUnseen;refine a6 (br I.at_ rfl I.fits (a6 (fe ?_)));cases hc:(w.params.followText "set-order" || to.led&&to.plain||decide (eo.size<=1)) with
 |true =>
  rw [if_pos rfl];refine KN I ?_ fun es' p=>q s.heap es' ep t (.refl ..) J p;rw [ic,ic,aN,decide_eq_true_eq] at hc;rcases hc with (h|h)|h
  ·exact .inl h
  ·exact .inr (.inl h.2)
  ·exact .inr (.inr h)
 |false =>
  rw [if_neg aH];rw [Ir,Ir,decide_eq_false_iff_not] at hc;obtain ⟨⟨c1,_⟩,c3⟩:=hc;refine a6 (EU (fun b hb=>?_) ?_)
  ·rcases List.mem_cons.mp hb with h|h
   ·rw [h];exact ⟨_,_,_,I⟩
   ·rw [List.mem_singleton.mp h];exact ⟨_,_,_,J⟩
  rw [if_neg (by simp)];refine a6 (gy ?_);dsimp only;refine a6 (br J.at_ rfl J.fits ?_);dsimp only;have hpl:to.plain=false:=I.pl.resolve_left (by omega);have hled:(t.led&&to.led)=t.led:=by rw [I.led,J.led,lu]
  split
  ·refine a6 (j5 J.at_ rfl ?_ (fm J.few));refine ac (q _ _ _ _ (bQ s.heap a _) (⟨sk J,J.txt,J.nd,J.few,?_,?_,?_⟩:cL w _ a es (ep+1) _) (.refl _))
   ·exact J.fits
   ·exact hled.trans J.led
   ·exact .inr (by show (t.plain&&to.plain)=false;rw [hpl,n6])
  ·exact ac (q s.heap eo ep t (.refl ..) J (.refl _))
end
end L2
namespace L2
open PySem
section
theorem cL.but     (I:cL w h o eo epo to) (ne:a≠o) (sb:bE a h h'):cL w h' o eo epo to:=I.keep fun _ e=>(sb.2 o (cZ ne)).trans e
theorem zw {a o:ah}{es eo:Array (Int×ae)}{ep epo:Nat}{t to:ll}{each:Sem Unit}{Q:Unit->ai->Prop} (ne:a≠o) (J:cL w s.heap a es ep t) (I:cL w s.heap o eo epo to)
  (hz:es.size+eo.size<=15) (hm:es.size≠0\/LP t.mask) (he:∀ (s':ai) (Q':Unit->ai->Prop),cL w s'.heap o eo epo to->Q' () s'->ak (ay P w) A each Q' E s')
  (q:∀ h' tk' es' ep' t',bE a s.heap h'->cL w h' a es' ep' t'->(∀ x,x∈es'.toList.map jZ↔x∈es.toList.map jZ\/x∈eo.toList.map jZ)->(es'.size≠0\/LP t'.mask)->Q () { s with heap:=h',toks:=tk' }) :
  ak (ay P w) A (setMerge a o each) Q E s:=by
 unfold setMerge;rw [if_neg (by simpa using ne)];refine a6 (br I.at_ rfl I.fits ?_);dsimp only;by_cases h0:eo.size=0
 ·rw [if_pos (by simpa [Array.isEmpty] using h0)];have e0:eo=#[]:=kQ h0;exact ac (q s.heap s.toks es ep t (.refl ..) J (fun x=>by rw [e0];simp) hm)
 rw [if_neg (by simpa [Array.isEmpty] using h0)];refine a6 (D5 J hz hm fun h1 es1 ep1 t1 sb1 J1 p1 m1 r1=>?_);have I1:=I.but ne sb1;have sz1:es1.size=es.size:=by rw [<- ap,p1.length_eq,ap]
 refine a6 (br (s:={ s with heap:=h1 }) J1.at_ rfl J1.fits ?_);dsimp only;obtain ⟨f1,f2⟩:=zv J1.fits;have hpl:to.plain=false:=I.pl.resolve_left h0;have hled:(t1.led&&to.led)=t1.led:=by rw [I.led,J1.led,lu]
 have kp:∀ x,x∈es1.toList.map jZ↔x∈es.toList.map jZ:=fun x=>(p1.map jZ).mem_iff;by_cases hf:t1.fill=0
 ·have e1:es.size=0:=by
   unfold M2 at hf;omega
  have mk:LP t1.mask:=m1.resolve_left (by omega);have ee:es=#[]:=kQ e1;unfold M3;rw [if_neg (by rw [hf];decide)];split
  ·refine j5 (s:={ s with heap:=h1 }) J1.at_ rfl ?_ (fm I.few);refine q _ s.toks _ _ _ (sb1.trans (bQ h1 a _)) (⟨sk J1,I.txt,I.nd,I.few,?_,?_,?_⟩:cL w _ a eo (ep1+1) _) (fun x=>by rw [ee];simp) (.inl h0)
   ·exact I.fits
   ·exact hled.trans J1.led
   ·exact .inr (by show (t1.plain&&to.plain)=false;rw [hpl,n6])
  ·obtain ⟨place,order,e,hp,ho⟩:=Jj (finger:=t1.finger) (moves:=t1.moves) (led:=t1.led&&to.led) (plain:=t1.plain&&to.plain) (hs:=eo.map (·.1)) mk (by rw [sX];exact r1);rw [sX] at hp ho;have pm:=zu ho;have sz:(order.filterMap (eo[·]?)).size=eo.size:=by rw [<- ap,pm.length_eq,ap]
   refine a6 ?_;rw [e];show ak _ _ (if ((order.filterMap (eo[·]?)).size != eo.size)=true then _ else pure (order.filterMap (eo[·]?),_)) _ _ _;rw [if_neg (by rw [sz];simp)];refine ac ?_;refine j5 (s:={ s with heap:=h1 }) J1.at_ rfl ?_ (by rw [sz];exact fm I.few);refine q _ s.toks _ _ _ (sb1.trans (bQ h1 a _)) (⟨sk J1,fun x hx=>I.txt x (pm.mem_iff.mp hx),(pm.map jZ).nodup_iff.mpr I.nd,by rw [sz];exact I.few,Jk (by rw [sz];exact hp) (by rw [sz];exact r1),hled.trans J1.led,.inr ?_⟩:cL w _ a (order.filterMap (eo[·]?)) (ep1+1) _) (fun x=>?_) (.inl (by rw [sz];exact h0))
   ·show (t1.plain&&to.plain)=false;rw [hpl,n6]
   ·rw [(pm.map jZ).mem_iff,ee];simp
  ·rename_i hq
   split at hq<;>cases hq
 ·unfold M3;rw [if_pos (by simpa using hf)];dsimp only;refine a6 (xR (s:={ s with heap:=h1 }) I1 J1 fun h2 es2 ep2 t2 sb2 J2 p2=>?_);rw [<- K4];have hl:es2.toList.length=eo.size:=by rw [p2.length_eq,ap]
  refine a6 (yg (fun r s'=>∃ h' tk' e' p' t',s'={ s with heap:=h',toks:=tk' }/\bE a s.heap h'/\cL w h' a e' p' t'/\e'.size+r.length<=15/\(∀ e∈r,tX w e)/\∀ x,(x∈e'.toList.map jZ\/x∈r.map jZ)↔x∈es.toList.map jZ\/x∈eo.toList.map jZ) ?_ ?_ es2.toList _ ⟨h2,s.toks,es1,ep2,t2,rfl,sb1.trans sb2,J2,by omega,fun e he=>I.txt e (p2.mem_iff.mp he),fun x=>by rw [kp,(p2.map jZ).mem_iff]⟩)
  ·rintro e r s' ⟨h',tk',e',p',t',rfl,sb',J',z',tx',k'⟩;obtain ⟨x,tk,rfl⟩:=tx' e aq;simp only [aU] at z';dsimp only;refine a6 (bS (Bp (s:={ s with heap:=h',toks:=tk' }) (⟨e',p',t',J',.refl _⟩:lz w h' a (e'.toList.map jZ)) (by rw [ar,ap];exact aC (show e'.size+1<100 by omega) (by decide)) fun h'' tk'' sb'' S''=>?_));obtain ⟨e'',p'',t'',J'',pm''⟩:=S'';have sb3:=sb'.trans sb'';have I3:=I.but ne sb3;refine a6 (he _ _ I3 ?_);refine a6 (br (s:={ s with heap:=h'',toks:=tk'' }) I3.at_ rfl I3.fits ?_);dsimp only;rw [if_neg (by simp)];refine ac ⟨rfl,h'',tk'',e'',p'',t'',rfl,sb3,J'',?_,fun e he=>tx' e (ao _ he),fun y=>?_⟩
   ·have:=pm''.length_eq;rw [ar,ap] at this;have l2:(if x∈e'.toList.map jZ then e'.toList.map jZ else e'.toList.map jZ++[x]).length<=e'.size+1:=by
     split<;>simp
    omega
   ·rw [<- k' y,pm''.mem_iff];have ek:jZ (hashStr w x,iY x tk)=x:=rfl;rw [aM,a_,ek];split
    ·rename_i hx
     constructor
     ·rintro (h|h)
      ·exact .inl h
      ·exact .inr (.inr h)
     ·rintro (h|h|h)
      ·exact .inl h
      ·rw [h];exact .inl hx
      ·exact .inr h
    ·rw [qP,cg];constructor
     ·rintro ((h|h)|h)
      ·exact .inl h
      ·exact .inr (.inl h)
      ·exact .inr (.inr h)
     ·rintro (h|h|h)
      ·exact .inl (.inl h)
      ·exact .inl (.inr h)
      ·exact .inr h
  ·rintro s' ⟨h',tk',e',p',t',rfl,sb',J',z',tx',k'⟩;refine ac (q h' tk' e' p' t' sb' J' (fun x=>?_) (.inl ?_))
   ·rw [<- k' x];simp
   ·intro e0;obtain ⟨e,hh⟩:∃ e,e∈eo.toList:=by
     cases hq:eo.toList with
     |nil=>rw [<- ap,hq] at h0;exact absurd rfl h0
     |cons e r=>exact ⟨e,aq⟩
    have:=(k' (jZ e)).mpr (.inr (mh hh));rw [kQ e0] at this;simp at this
end
end L2
namespace L2
open PySem PyProof.Rows
theorem D6:Gm table "set.__or__"=some fW.«frozenset.__or__»:=Gn (id':="frozenset.__or__") (by kernel_rfl) rfl (by decide +kernel) (by kernel_rfl)
section
variable {P:bd}{w:bv}{A:bO}{E:ae->ai->Prop}{s:ai}
theorem cL.ty    (I:cL w s.heap a es ep t):s.TypeIs (.ref a) "set":=⟨_,I.at_,rfl⟩
theorem u5     (I:cL w s.heap a es ep t) (q:Q true s):ak (ay P w) A (sY (.ref a)) Q E s:=by
 unfold sY;refine a6 (jF I.ty LX ?_);exact ac q
theorem O8  (e:h.get? a=some (eY w)):cL w h a #[] 0 (.fresh 0 0 (!w.params.followText "set-order")) :=
 ⟨e,(fun _ h=>nomatch h),iV,by decide,rfl,rfl,.inl rfl⟩
theorem QC   (ha:lz w s.heap a xs) (hb:lz w s.heap b ys) (ne:a≠b) (hz:xs.length+ys.length<=15)
  (q:∀ h' tk',bE s.heap.objs.size (s.heap.push (eY w)) h'->lz w h' s.heap.objs.size (cX xs ys)->Q (.ref s.heap.objs.size) { s with heap:=h',toks:=tk' }) :
  ak (ay P w) A (eV .BitOr (.ref a) (.ref b)) Q E s:=by
 obtain ⟨ea,pa,ta,Ia,ma⟩:=ha;obtain ⟨eb,pb,tb,Ib,mb⟩:=hb;have sa:ea.size=xs.length:=by rw [<- ma.length_eq,ar,ap]
 have sb:eb.size=ys.length:=by rw [<- mb.length_eq,ar,ap]
 refine wpAny_binaryOp_same Ia.ty Ib.ty F.fills_set_or F.slot_set_or (cA F.slot_set_or Ia.ty D6 ?_ (F.args_set_or_2 _ _));have lt1:a<s.heap.objs.size:=al Ia.at_;have lt2:b<s.heap.objs.size:=al Ib.at_;show ak _ _ (Pj "__or__" ⟨[.ref a,.ref b],[]⟩ >>= _) _ _ s;refine a6 (a6 (ac (ac ?_)));dsimp only;refine a6 (a6 (u5 Ia (u5 Ib ?_)));rw [if_neg (by simp)];refine a6 (ac (a6 ?_));show ak _ _ (tV a >>= _) _ _ s;refine a6 ?_;unfold tV Pk;refine a6 (a6 (jF Ia.ty LX (ac ?_)));rw [if_pos rfl];refine a6 (tH ?_);have g0:(s.heap.push (eY w)).get? s.heap.objs.size=some (eY w):=aB _ rfl;have J0:=O8 g0;have Ia1:cL w (s.heap.push (eY w)) a ea pa ta:=Ia.keep fun _ e=>aa _ e;have Ib1:cL w (s.heap.push (eY w)) b eb pb tb:=Ib.keep fun _ e=>aa _ e;have na:s.heap.objs.size≠a:=cZ (aA lt1);have nb:s.heap.objs.size≠b:=cZ (aA lt2);refine a6 (ac (a6 (zw (s:={ s with heap:=s.heap.push (eY w) }) na J0 Ia1 (by show 0+ea.size<=15;omega) (.inr (.inl rfl)) (fun _ _ _ q=>ac q) fun h1 tk1 e1 p1 t1 sb1 J1 k1 m1=>ac ?_)));have Ib2:=Ib1.but nb sb1;have n1:(e1.toList.map jZ).length<=ea.size:=by
  have:=(ni J1.nd Ia.nd).mpr fun x=>by rw [k1];simp
  rw [this.length_eq,ar,ap];exact am _
 rw [ar,ap] at n1;show ak _ _ (if (bj b != bj a)=true then _ else _) _ _ _;rw [if_pos (by simp;exact cZ ne)];refine a6 (ac (a6 (bS ?_)));show ak _ _ (jE _ s.heap.objs.size (bj b)) _ _ _;unfold jE;refine a6 (u5 (s:={ s with heap:=h1,toks:=tk1 }) Ib2 ?_);rw [if_pos rfl];refine a6 (ac ?_);unfold Pl setEpoch;refine a6 (a6 (br (s:={ s with heap:=h1,toks:=tk1 }) Ib2.at_ rfl Ib2.fits (ac ?_)));refine zw (s:={ s with heap:=h1,toks:=tk1 }) nb J1 Ib2 (by omega) m1 (fun s' Q' I' q'=>?_) fun h2 tk2 e2 p2 t2 sb2 J2 k2 m2=>?_
 ·unfold Pm setEpoch;refine a6 (a6 (br I'.at_ rfl I'.fits (ac ?_)));dsimp only;rw [if_neg (by simp)];exact ac q'
 ·refine ac (ac ⟨_,rfl,(fun z=>nomatch z),q h2 tk2 (sb1.trans sb2) ⟨e2,p2,t2,J2,?_⟩⟩);refine (ni J2.nd (iz _ _ (ma.nodup_iff.mp Ia.nd))).mpr fun x=>?_;rw [k2,iI,k1,ma.mem_iff,mb.mem_iff];simp
end
end L2
namespace L2
open PySem PyProof.Rows
theorem Tn:pw X (eV .BitOr) (fun x y H Q=>∃ a b xs ys,x=.ref a/\y=.ref b/\a≠b/\H a=some (lH X.w a xs)/\H b=some (lH X.w b ys)/\xs.length+ys.length<=15/\∀ p,H p=none->Q (.ref p) (upd H p (lH X.w p (cX xs ys)))):=by
 intro pins s σ H x y v u Q I rx ry h;obtain ⟨a,b,xs,ys,rfl,rfl,ne,ha,hb,hz,q⟩:=h;cases rx;cases ry;have Sa:=(show cU X.prog X.w H s.heap a (lH X.w a xs) from I.hok a _ ha).1;have Sb:=(show cU X.prog X.w H s.heap b (lH X.w b ys) from I.hok b _ hb).1;refine QC Sa Sb ne hz fun h' tk' sb S=>?_;refine ⟨.ref s.heap.objs.size,_,I.laid (t':=tk') (fun b o e=>?_) (am _) (CJ S),rfl,q _ (I.hok.fresh (am _))⟩;exact (sb.2 b (aA (al e))).trans (aa _ e)
end L2
namespace J
open PySem L2
section
def To (xs ys:List Str):R (List Str):=if xs.length+ys.length<=15 then .ok (cX xs ys) else .no
def O9 (ga gb:az->R (List Str)):az->R (List Str):=fun ρ=>(ga ρ).bind fun xs=>(gb ρ).bind (J.To xs)
theorem Tp (ha:Qr c a ga) (hb:Qr c b gb):Qr c (.BinOp a .BitOr b pos) (O9 ga gb):=.of fun ρ=>tJ (Ri Tn (ha ρ) (hb ρ)) fun σ H Q h_0=>by
 obtain ⟨H0,Hs0,la,Hs,f,q⟩:=h_0;refine IZ (w:=c.X.w) f q fun xs p H1 Hs1 e1 s1 f1 n1=>?_;unfold O9 at q;rw [e1,bind_ok] at q;have s2:cD H1 Hs1 (upd H1 p (lH c.X.w p xs)) Hs1:=.mine f1.st.sub n1;refine IZ (w:=c.X.w) (f1.step s2) (q.on (s1.trans s2) (q':=fun _=>True) fun _ _=>trivial) fun ys p2 H2 Hs2 e2 s3 f2 n2=>?_;rw [e2,bind_ok] at q;unfold J.To at q;by_cases hz:xs.length+ys.length<=15
 ·rw [if_pos hz] at q;have k1:H2 p=some (lH c.X.w p xs):=s3.all p _ aT;have ne:p≠p2:=fun z=>by rw [z,n2] at k1;cases k1
  have s4:cD H2 Hs2 (upd H2 p2 (lH c.X.w p2 ys)) Hs2:=.mine f2.st.sub n2;exact ⟨p,p2,xs,ys,rfl,rfl,ne,by rw [aO ne];exact k1,aT,hz,fun l hl=>q l _ _ (s1.trans (s2.trans (s3.trans s4))) hl⟩
 ·rw [if_neg hz] at q;exact q.elim
end
end J
namespace J
open PySem L2
section
def W_ (i j:Nat) (ρ:az):List D->R Fl
 |[d,e]=>.ok (.nx ((ρ.set i (.shr d)).set j (.shr e)))
 |_=>.no
def Oa (i j:Nat) (gs:az->R (List D)):az->R Fl:=fun ρ=>(gs ρ).bind (W_ i j ρ)
theorem Tq (i j:Nat) (hc:c.X.calm=true) (hN:c.X.N.Nodup) (ha:G5 c [a,b] gs) (hi:c.X.N[i]?=some x:=by rfl) (hj:c.X.N[j]?=some y:=by rfl) (hij:i≠j:=by decide)
  (hx:c.X.env.scope.names.lookup x=some .local:=by rfl) (hy:c.X.env.scope.names.lookup y=some .local:=by rfl) (hw:xZ [.Tuple [.Name x px,.Name y py] kt pt] (.Tuple [a,b] k2 pt2) c.X.env=pure (some [x,y]):=by rfl)
  (hs:xY [.Tuple [.Name x px,.Name y py] kt pt] (.Tuple [a,b] k2 pt2) pos.line c.X.env=pure false:=by rfl):JS c (.Assign [.Tuple [.Name x px,.Name y py] kt pt] (.Tuple [a,b] k2 pt2) pos) (Oa i j gs):=.of fun ρ=>AD (Sw hc hN hi hj hij hx hy (ha ρ) hw hs) fun D σ H h_0=>by
 obtain ⟨H0,Hs0,la,Hs,f,q⟩:=h_0;refine ⟨H0,Hs0,la,Hs,f,?_⟩;unfold Oa at q;cases hr:gs ρ with
 |ok ds =>
  rw [hr,bind_ok] at q;intro vs H' Hs' s r
  match ds,r,q with
  |[],_,q=>exact q.elim
  |[_],_,q=>exact q.elim
  |[d,e],.cons r1 (.cons r2 .nil),q=>exact ⟨_,_,rfl,q _ _ Hs' (((f.step s).set i r1).set j r2)⟩
  |_::_::_::_,_,q=>exact q.elim
 |ex z n =>
  rw [hr] at q;exact fun H' Hs' s=>q H' Hs' (f.st.trans s)
 |no=>rw [hr] at q;exact q.elim
end
end J
namespace J
open PySem L2
end J
end
section
namespace L2
open PySem PySem.Spec PyProof.Rows
theorem D7:fu (.type "list") "keys"=pure none:=by rw [uC,lW];kernel_rfl
theorem BH:Gm table "dict.update.loop"=some fW.«dict.update.loop»:=entryFor_of_tree (by kernel_rfl)
theorem sy:plainId "dict.update.loop"=true:=by decide +kernel
section
theorem zx
  (hx:s.heap.get? a=some o) (hc:o.cls=.type "list") (hdat:o.data=.seq xs k) (hd:o.dict=none) (hA:A.handled=none)
  (h:∀ h' tk,(∀ b o,s.heap.get? b=some o->h'.get? b=some o)->Q none { s with heap:=h',toks:=tk }) :
  ak (ay prog w) A (Pg (.ref a) "keys") Q E s:=by
 obtain ⟨c,dct,dat,sl⟩:=o;simp only at hc hdat hd;subst hc hdat hd;obtain ⟨hp,g,d,tk,os⟩:=s;have hT:∀ tk',(⟨hp,g,d,tk',os⟩:ai).TypeIs (.ref a) "list":=fun _=>⟨_,hx,rfl⟩;have f1:=sub_AttributeError;have f3:=F.slot_list_getattribute.lookup;have f4:=F.slot_list_getattribute.bind (.ref a);have f5:=am_list_getattr_none;have hname:(["__module__","__name__","__qualname__","__doc__","__annotations__"] : List Str).contains "keys"=false:=by decide +kernel
 unfold Pg getAttrBy? getAttrBy;repeat (any_goals (first|assumption|exact hT _|((with_reducible show ak _ _ (call (Value.builtin "list.__getattribute__") _ _) _ _ _);refine yt F.slot_list_getattribute (hT _) am_entry_list_getattribute (F.args_list_getattribute_2 _ _) (meets_getattribute_miss_list a xs k sl "keys" _ D7 hname (by size_fits)) ⟨hx,hA,fun h' tk' e hx'=>?_⟩)|wp_step))
 have ha:=hx'.of;obtain ⟨ob,vs,he,hc,_⟩:=ha.there;have hTe:(⟨h',g,d,tk',os⟩:ai).TypeIs (.ref e) "AttributeError":=⟨_,he,hc⟩;show ak _ _ (getattributeRaised _ _ _ _ _ _ _) _ _ _;unfold getattributeRaised;repeat (any_goals (first|assumption|wp_step))
 exact h _ _ ha.keeps
end
end L2
namespace L2
open PySem PySem.Spec PyProof.Rows
def Jl (acc:List (fS×ae)) (l:List (fS×ae×ae)):List (fS×ae):=l.foldl (fun a t=>Gj a t.1 t.2.2) acc
theorem Hq (kvs:List (fS×ae)) (k:fS) (v:ae):(Gj kvs k v).length<=kvs.length+1:=by
 unfold Gj;split<;>simp
section
theorem AI {I:ah}{fp wr:List ah}{n:Nat}{Pv:Nat->ae->Prop}{St:Nat->bt->Prop} (W:LH prog w A.in1 I fp wr n Pv St) (D:ah) (hD:D∉fp) (xs:List (fS×ae×ae)) (pa:List ah) (hx:xs.length=n)
  (hv:∀ i v,Pv i v->∃ p x,pa[i]?=some p/\xs[i]?=some x/\v=.ref p) (hk:∀ x∈xs,(dC prog w).is x.1 x.2.1=true) (hp:∀ p∈pa,p∉D::wr) (hb:n<=1000) :
  ∀ (k i:Nat) (s:ai) (acc:List (fS×ae)) (j:Int),n-i=k->i<=n->acc.length<=i->St i s.heap->s.heap.DictOf (dC prog w) D acc->(∀ (i:Nat) (p:ah) (x:fS×ae×ae),pa[i]?=some p->xs[i]?=some x->Ga s.heap p #[x.2.1,x.2.2]) ->
   (∀ h' tk,(∀ b o,b∉D::wr->s.heap.get? b=some o->h'.get? b=some o)->h'.DictOf (dC prog w) D (Jl acc (xs.drop i))->R (.ok (.ret .none)) { s with heap:=h',toks:=tk }) ->
   h_ (ay prog w) A (.builtin "dict.update.loop" ⟨[.ref D,.ref I,c9 j,.none],[]⟩) R s:=by
 have hDw:D∉wr:=fun z=>hD (W.sub _ z);intro k;induction k with
 |zero =>
  intro i s acc j hk' hi hl st hS hT hR;obtain rfl:i=n:=by omega
  refine fz BH ?_;rw [eF sy _];show ak _ A.in1 (nX (.ref I) >>= _) _ _ s;refine a6 (W.done s _ _ st fun h' tk kp=>?_);show ak _ _ (Builtin.Dict.addKeywords D [] >>= _) _ _ _;refine a6 (ac (ac (hR h' tk (fun b o hb e=>kp b o (fun z=>hb (ao _ z)) e) ?_)));rw [FY (by omega)];obtain ⟨o,es,ep,e,r⟩:=hS;exact ⟨o,es,ep,kp D o hDw e,r⟩
 |succ k ih =>
  intro i s acc j hk' hi hl st hS hT hR;have hlt:i<n:=by omega
  refine fz BH ?_;rw [eF sy _];show ak _ A.in1 (nX (.ref I) >>= _) _ _ s;refine a6 (W.item i s _ _ hlt st fun v h' tk hP st' kp=>?_);obtain ⟨p,x,hpi,hxi,rfl⟩:=hv i v hP;have hpm:=hp p (eM hpi);have hS':h'.DictOf (dC prog w) D acc:=by
   obtain ⟨o,es,ep,e,r⟩:=hS;exact ⟨o,es,ep,kp D o hDw e,r⟩
  obtain ⟨ot,et,ct,nt,dt⟩:=hT i p x hpi hxi;have et':h'.get? p=some ot:=kp p ot (fun z=>hpm (ao _ z)) et;have hkx:=hk x (eM hxi);refine a6 (bS (a6 (wpAny_tryCatch ?_)));unfold Builtin.Dict.pairItems;refine a6 (jD (T:="tuple") (s:={ s with heap:=h',toks:=tk }) ⟨_,et',ct⟩ ?_);rw [if_pos (by decide)];refine a6 (dZ (s:={ s with heap:=h',toks:=tk }) et' dt (ac ?_));show ak _ _ (holding [x.2.1,x.2.2] (dictSet D x.2.1 x.2.2)) _ _ _;refine bS ?_;unfold dictSet;refine bS (a6 ((dC prog w).pyHash (k:=x.1) hkx ?_));refine wpAny_dictSetHashed_pairs (s:={ s with heap:=h',toks:=tk+1 }) hkx hS' (fun h2 hS2 sb=>?_) (bK hl (bK hi (bK hb (bh (cf (am _))))));refine ac ⟨mS sy _,ih (i+1) _ (Gj acc x.1 x.2.2) _ (by omega) hlt ?_ (W.frame _ _ _ st' fun b hb o e=>?_) hS2 (fun i2 p2 x2 e1 e2=>?_) fun h3 tk3 k3 hS3=>?_⟩
  ·have:=Hq acc x.1 x.2.2;omega
  ·rw [sb.2 b fun z=>hD (z ▸ hb)];exact e
  ·obtain ⟨o2,g2,r2⟩:=hT i2 p2 x2 e1 e2;have hm:=hp p2 (eM e1);exact ⟨o2,(sb.2 p2 fun z=>hm (by rw [z];exact aq)).trans (kp p2 o2 (fun z=>hm (ao _ z)) g2),r2⟩
  ·refine hR h3 tk3 (fun b o hb e=>k3 b o hb ?_) ?_
   ·show h2.get? b=_;rw [sb.2 b fun z=>hb (by rw [z];exact aq)];exact kp b o (fun z=>hb (ao _ z)) e
   ·have hd:xs.drop i=x::xs.drop (i+1):=by
     obtain ⟨h1,h2⟩:=List.getElem?_eq_some_iff.mp hxi;rw [Cd h1,h2]
    rw [hd];exact hS3
theorem AJ {l:ah}{ol:Obj}{its:List ae}{n:Nat}{xs:List (fS×ae×ae)}{pa:List ah}{Q:ae->ai->Prop} (hh:A.handled=none)
  (hol:s.heap.get? l=some ol) (hc:ol.cls=.type "list") (hdd:ol.dict=none) (hdt:ol.data=.seq its.toArray n) (hi:∀ (i:Nat) (v:ae),its[i]?=some v->∃ p x,pa[i]?=some p/\xs[i]?=some x/\v=.ref p) (hx:xs.length=its.length) (hk:∀ x∈xs,(dC prog w).is x.1 x.2.1=true) (hb:its.length<=1000)
  (hT:∀ (i:Nat) (p:ah) (x:fS×ae×ae),pa[i]?=some p->xs[i]?=some x->Ga s.heap p #[x.2.1,x.2.2]) (hpa:∀ p∈pa,p<s.heap.objs.size)
  (h:∀ (h':bt) (tk:Nat),h'.DictOf (dC prog w) s.heap.objs.size (Jl [] xs)->(∀ b o,s.heap.get? b=some o->h'.get? b=some o)->Q (.ref s.heap.objs.size) { s with heap:=h',toks:=tk }) :
  ak (ay prog w) A (call (.type "dict") [.ref l]) Q E s:=by
 refine callType_codes (Q₁:=fun obj s₁=>obj=.ref s.heap.objs.size/\s₁={ s with heap:=s.heap.push { cls:=.type "dict",data:=.dict #[] } }) F.kt_called_dict (F.kt_typeCall_dict_1 _) F.entry_dict_init (kt_code_dict_new _ ⟨rfl,rfl⟩) ?_;rintro obj s₁ ⟨rfl,rfl⟩;have hnew:(s.heap.push { cls:=.type "dict",data:=.dict #[] }).DictOf (dC prog w) s.heap.objs.size []:=FW s.heap;have hol':(s.heap.push { cls:=.type "dict",data:=.dict #[] }).get? l=some ol:=aa _ hol;have hlS:l<s.heap.objs.size:=al hol;refine ⟨hnew.typeIs,F.args_dict_init_2 _ _,?_⟩;unfold fW.«dict.__init__»;refine a6 ?_;unfold Builtin.Dict.selfAndRest;refine a6 (wpAny_notOrdered_dict hnew.typeIs ?_);show ak _ _ (pure (s.heap.objs.size,[bj l])) _ _ _;refine ac ?_;show ak _ _ (xH "dict.__init__" s.heap.objs.size (.ref l) [] .none) _ _ _;unfold xH;refine a6 (jD (T:="list") ⟨_,hol',hc⟩ ?_);rw [if_pos (by decide)];refine a6 (zx (s:={ s with heap:=s.heap.push { cls:=.type "dict",data:=.dict #[] } }) hol' hc hdt hdd (by simpa using hh) fun h1 tk1 k1=>?_);rw [if_pos (by rfl)];refine a6 (gy ?_);have hol1:=k1 l ol hol';refine a6 (l9 (s:={ s with heap:=h1,toks:=tk1 }) ⟨_,hol1,hc,⟨_,hdt⟩⟩ ?_);have hD1:∃ o,h1.get? s.heap.objs.size=some o:=by
  obtain ⟨o,es,ep,e,_⟩:=hnew;exact ⟨o,k1 _ _ e⟩
 obtain ⟨oD,eD⟩:=hD1;have lD:=al eD;have W:=Aj (prog:=prog) (w:=w) (A:=A.in1.in1) (by simpa using hh) h1.objs.size l (aA (al hol1)) its.toArray;have k2:∀ b o,h1.get? b=some o->(h1.push { cls:=.type "list_iterator",data:=.fields #[.ref l,.int 0 0] }).get? b=some o:=fun b o e=>aa _ e;have hD2:(h1.push { cls:=.type "list_iterator",data:=.fields #[.ref l,.int 0 0] }).DictOf (dC prog w) s.heap.objs.size []:=by
  obtain ⟨o,es,ep,e,r⟩:=hnew;exact ⟨o,es,ep,k2 _ _ (k1 _ _ e),r⟩
 refine ac ⟨mS sy _,AI (A:=A.in1) W s.heap.objs.size ?_ xs pa (by rw [hx,aK]) (fun i v e=>hi i v (by simpa using e)) hk (fun p hp=>?_) (by rw [aK];exact hb) its.length 0 _ [] 0 (by rw [aK];omega) (dW _) (am _) ⟨⟨_,aB _ rfl,rfl,rfl⟩,⟨_,k2 _ _ hol1,hc,⟨_,hdt⟩⟩⟩ hD2 (fun i p x e1 e2=>?_) fun h' tk kp hS'=>?_⟩
 ·simp only [a_,aQ,or_false,not_or];exact ⟨aA lD,dQ hlS⟩
 ·have:=hpa p hp;simp only [a_,aQ,or_false,not_or];exact ⟨aA this,aA (xD this lD)⟩
 ·obtain ⟨o,g,r⟩:=hT i p x e1 e2;exact ⟨o,k2 _ _ (k1 _ _ (aa _ g)),r⟩
 ·refine ⟨rfl,h h' tk hS' fun b o e=>kp b o ?_ (k2 _ _ (k1 _ _ (aa _ e)))⟩;have:=al e;simp only [a_,aQ,or_false,not_or];exact ⟨aA this,aA (xD this lD)⟩
end
end L2
namespace L2
open PySem PySem.Spec PyProof.Rows
theorem EV    (ok:qA P w H h):∀ (pa:List ah) (kvs:List (fS×V)),kvs.length=pa.length->(∀ (i:Nat) (a:ah) (kv:fS×V),pa[i]?=some a->kvs[i]?=some kv->H a=some (.tup [kV kv.1,kv.2])) ->
  ∃ xs:List (fS×ae×ae),xs.length=pa.length/\(∀ (i:Nat) (p:ah) (x:fS×ae×ae),pa[i]?=some p->xs[i]?=some x->Ga h p #[x.2.1,x.2.2])/\(∀ x∈xs,(dC P w).is x.1 x.2.1=true)/\KV kvs (xs.map fun x=>(x.1,x.2.2))
 |[],[],_,_=>⟨[],rfl,fun i p x e=>by simp at e,fun _ e=>by simp at e,.nil⟩
 |a::pa,kv::kvs,hl,hH=>by
  obtain ⟨xs,h1,h2,h3,h4⟩:=EV ok pa kvs (Nat.succ.inj hl) fun i b x e1 e2=>hH (i+1) b x e1 e2;have h0:=hH 0 a kv rfl rfl;obtain ⟨_,its,r,it⟩:=(show cU P w H h a (.tup [kV kv.1,kv.2]) from ok a _ h0);cases r with
  |cons r1 r2 =>
   cases r2 with
   |cons r3 r4 =>
    cases r4;rename_i u1 u2
    refine ⟨(kv.1,u1,u2)::xs,by simp [h1],fun i p x e1 e2=>?_,fun x hx=>?_,.cons ⟨rfl,r3⟩ h4⟩
    ·cases i with
     |zero=>cases e1;cases e2;exact it
     |succ i=>exact h2 i p x e1 e2
    ·rcases List.mem_cons.mp hx with z|z
     ·rw [z];exact E2 r1
     ·exact h3 x z
 |[],_::_,hl,_=>by simp at hl
 |_::_,[],hl,_=>by simp at hl
theorem BI:∀ {pa:List ah}{us:List ae},de (pa.map V.ref) us->us=pa.map bj
 |[],us,h=>by cases h;rfl
 |a::pa,us,h=>by
  cases h with
  |cons r t=>rw [BI t,show _=bj a from r];rfl
theorem D8 {X:Cx} (hc:X.calm=true):jN X (.type "dict") (fun xs H Q=>∃ (l:ah) (pa:List ah) (kvs:List (fS×V)),xs=[.ref l]/\nl X.K H l (pa.map V.ref)/\kvs.length=pa.length/\pa.length<=1000/\(∀ (i:Nat) (a:ah) (kv:fS×V),pa[i]?=some a->kvs[i]?=some kv->H a=some (.tup [kV kv.1,kv.2]))/\∀ d,H d=none->Q (.ref d) (upd H d (.dK (yK [] kvs)))):=by
 intro pins s σ H xs us Q I r h;obtain ⟨l,pa,kvs,rfl,hq,hl,hz,hH,q⟩:=h;obtain ⟨u,rfl,rx⟩:=lC r;cases rx;have hh:=I.ok.hd hc;obtain ⟨its,r',⟨o,n,ho,h1,h2,h3⟩,_⟩:=I.list hq;obtain rfl:=BI r';obtain ⟨ys,y1,y2,y3,y4⟩:=EV I.hok pa kvs hl hH;refine AJ (by simpa using hh) ho h1 h2 h3 (xs:=ys) (pa:=pa) (fun i v e=>?_) (by rw [y1,ar]) y3 (by rw [ar];exact hz) y2 (fun p hp=>?_) fun h' tk dd kp=>?_
 ·rw [aJ] at e;cases hp:pa[i]? with
  |none=>rw [hp] at e;cases e
  |some p =>
   rw [hp] at e;cases e;have hi:i<ys.length:=by rw [y1];exact (List.getElem?_eq_some_iff.mp hp).1
   exact ⟨p,ys[i],rfl,aX hi,rfl⟩
 ·obtain ⟨i,hi,e⟩:=jh hp;have hk:i<kvs.length:=by rw [hl];exact hi
  have:=hH i p kvs[i] (by rw [<- e];exact aX hi) (aX hk);obtain ⟨_,_,_,_,g,_⟩:=(show cU X.prog X.w H s.heap p (.tup _) from I.hok p _ this);exact al g
 ·have e:Jl [] ys=merged [] (ys.map fun x=>(x.1,x.2.2)):=by unfold Jl merged;rw [tE]
  rw [e] at dd;have rel:=KV.merge y4 (Paired.nil:KV (κ:=fS) [] []);have ln:=tG kvs [];simp only [bz] at ln;refine ⟨.ref s.heap.objs.size,_,I.laid (t':=tk) kp (am _) (Mx (bK ln (by rw [Gu,hl];exact bh (cf hz))) ?_ rel dd),rfl,q _ (I.hok.fresh (am _))⟩;have:=I.big;exact beq_false_of_ne (dQ this)
end L2
namespace J
open PySem L2
def ny:List D->Option (List (fS×D))
 |[]=>some []
 |.tuple [k,v]::r=>(rG k).bind fun y=>(ny r).map ((y,v)::·)
 |_::_=>none
def vj:D->R D
 |.list ds=>if ds.length<=1000 then (match ny ds with
  |some ps=>.ok (.dict (ps.foldl (fun a p=>AG a (kD p.1) p.2) []))
  |none=>.no) else .no
 |_=>.no
theorem BJ  : ∀ {ds:List D}{vs:List V}{ps:List (fS×D)},RDs K H vs ds->ny ds=some ps ->
  ∃ (pa:List ah) (kvs:List (fS×V)),vs=pa.map V.ref/\kvs.length=pa.length/\(∀ (i:Nat) (a:ah) (kv:fS×V),pa[i]?=some a->kvs[i]?=some kv->H a=some (.tup [kV kv.1,kv.2]))/\RDk K H kvs (ps.map fun p=>(kD p.1,p.2))
 |[],vs,ps,r,e=>by
  cases r;cases e;exact ⟨[],[],rfl,rfl,fun i a kv e=>by simp at e,.nil⟩
 |d::ds,vs,ps,r,e=>by
  unfold ny at e;split at e
  ·rename_i h;cases h
  ·rename_i k v r0 h
   cases h;cases r with
   |cons r1 r2 =>
    rename_i x0 xs0
    cases hk:rG k with
    |none=>rw [hk] at e;cases e
    |some y =>
     rw [hk] at e;cases hr:ny ds with
     |none=>rw [hr] at e;cases e
     |some qs =>
      rw [hr] at e;cases e;obtain ⟨pa,kvs,h1,h2,h3,h4⟩:=BJ r2 hr;obtain ⟨a,vs0,rfl,ha,ra⟩:∃ a vs0,x0=V.ref a/\H a=some (.tup vs0)/\RDs K H vs0 [k,v]:=by
       cases r1 with
       |tuple ha ra=>exact ⟨_,_,rfl,ha,ra⟩
      ·obtain ⟨x1,x2,rfl,q1,q2⟩:=ra.two;have ek:=zi hk;subst ek;have:=Hj q1;subst this;refine ⟨a::pa,(y,x2)::kvs,by rw [h1];rfl,by simp [h2],fun i b kv e1 e2=>?_,.cons q2 h4⟩;cases i with
       |zero=>cases e1;cases e2;exact ha
       |succ i=>exact h3 i b kv e1 e2
  ·cases e
theorem EW  : ∀ {kvs:List (fS×V)}{es:List (D×D)}{acc:List (fS×V)}{ds:List (D×D)},RDk K H kvs es->RDk K H acc ds->RDk K H (yK acc kvs) (es.foldl (fun a p=>AG a p.1 p.2) ds)
 |[],es,acc,ds,r,r0=>by
  cases r;exact r0
 |kv::kvs,es,acc,ds,r,r0=>by
  cases r with
  |cons h t =>
   rename_i k0 x0 d0 ds0
   have:=EW (kvs:=kvs) t (r0.put k0 h);exact this
section
def yh (g:az->R D):az->R D:=fun ρ=>(g ρ).bind vj
theorem KO (hc:c.X.calm=true) (h:JE c e g) (hg2:Gl c.X "dict") (hm2:c.X.mg "dict"=none) (he:aw [e] c.X.env=(false,cz e c.X.env)::aw [] c.X.env:=by rfl) :
  JN c (.Call (.Name "dict" p) [e] [] cpos) (yh g):=.of fun ρ=>by
 refine tJ (wk (D8 hc) hg2 hm2 PyProof.Rows.boot_dict (bT (h ρ) eA he) (he:=he)) fun σ H Q h_1=>?_;obtain ⟨H0,Hs0,la,Hs,f,q⟩:=h_1;dsimp only [L2.TZ,L2.xc,L2.Kh];refine CS f q fun d v H1 Hs1 e1 s1 f1 r1=>?_;unfold yh at q;rw [e1,bind_ok] at q;unfold vj at q;split at q
 ·rename_i ds
  by_cases hz:ds.length<=1000
  ·rw [if_pos hz] at q;split at q
   ·rename_i ps hs
    obtain ⟨a,vs0,rfl,qa,ra⟩:∃ a vs0,v=V.ref a/\nl c.X.K Hs1 a vs0/\RDs c.X.K Hs1 vs0 ds:=by
     cases r1 with
     |list qa ra=>exact ⟨_,_,rfl,qa,ra⟩
    ·obtain ⟨pa,kvs,rfl,h2,h3,h4⟩:=BJ ra hs;have h5:=EW h4 (RDk.nil (K:=c.X.K) (H:=Hs1));rw [tE] at h5;refine ⟨a,pa,kvs,rfl,?_,h2,?_,fun i b kv e1 e2=>f1.st.sub _ _ (h3 i b kv e1 e2),fun l hl=>q l _ H1 Hs1 s1 hl (.dK h5)⟩
     ·exact dn.seq f1.st.sub qa
     ·have:=ra.length;rw [ar] at this;omega
   ·exact q.elim
  ·rw [if_neg hz] at q;exact q.elim
 ·exact q.elim
end
end J
namespace L2
open PySem PySem.Spec PyProof.Rows
def Tr (K:a7) (a:ah):It :=
 ⟨fun i H=>∃ xs x,nl K H a xs/\xs[i]?=some x,fun i H v H'=>∃ p,H p=none/\v=.ref p/\∀ xs,nl K H a xs->∃ x,xs[i]?=some x/\H'=upd H p (.tup [.int i,x]),fun i H=>∃ xs,nl K H a xs/\xs.length<=i⟩
theorem Hr {P:bd}{w:bv}{K:a7}{elts:List bL}{x1}{pos:Pos} (a e it:ah) (hei:e≠it):yF P w K (.Tuple elts x1 pos) (Tr K a) [e,it] e (fun i h=>(∃ old,IsEnum h e it i old)/\h.IsListIter it a i) where
 mem:=by simp
 obj:=fun i h st b hb=>by
  simp only [a_,aQ,or_false] at hb;rcases hb with rfl|rfl
  ·obtain ⟨⟨old,q⟩,_⟩:=st;exact ⟨_,q,fun v z=>by cases z⟩
  ·obtain ⟨_,o,q,_,d⟩:=st;exact ⟨o,q,fun v z=>by rw [d] at z;cases z⟩
 keep:=fun i h h' st k=>⟨let ⟨old,q⟩:=st.1;⟨old,k e (by simp) _ q⟩,let ⟨o,q,r⟩:=st.2;⟨o,k it (by simp) o q,r⟩⟩
 item:=by
  intro X hP hw hK hc i pins s σ H E I hf st hg;subst hP hw hK;obtain ⟨xs,x,hq,hx⟩:=hg;obtain ⟨its,rv,p,hz⟩:=I.list hq;obtain ⟨u,hu,ru⟩:=rv.get hx;obtain ⟨⟨old,he⟩,hit⟩:=st;have hit0:=hit;obtain ⟨oi,ei,_⟩:=hit0;have he0:=al he;refine wpAny_pyNext_enum_item he hit p.isList (by simpa using hu) hei ?_;intro h1 eo st1 tup sz k1;refine ⟨_,rfl,Gr eo fun h2 e2 sb2=>?_⟩;have szn:s.heap.objs.size≠e:=dQ he0;have I2:bx X pins σ H { s with heap:=h2,toks:=s.toks+1 }:=I.turnedL (ch:=[e,it]) (fun b o hb q=>by
   simp only [a_,aQ,or_false,not_or] at hb;exact (sb2.2 b hb.1).trans (k1 b o hb.1 hb.2 q)) hf
  have fT:=I.fpOk (H':=H) (am _) (I.hok.fresh (am _));have tup2:h2.get? s.heap.objs.size=some { cls:=.type "tuple",data:=.seq #[.int i s.toks,u] }:=(sb2.2 _ szn).trans tup;have I3:=I2.track (ho:=.tup [.int i,x]) fT ⟨by show 2<=sizeLine;decide,[.int i s.toks,u],.cons ⟨s.toks,rfl⟩ (.cons ru .nil),⟨_,tup2,rfl,0,rfl⟩⟩;refine ⟨.ref s.heap.objs.size,_,I3,rfl,⟨_,fT.1,rfl,fun ys hy=>?_⟩,⟨⟨u,?_⟩,?_⟩,fun b hb=>?_⟩
  ·rw [I.list_inj hy hq];exact ⟨x,hx,rfl⟩
  ·have:(((i+1:Nat):Int))=(i:Int)+1:=by omega
   rw [this];exact e2
  ·obtain ⟨o,q,r⟩:=st1;exact ⟨o,(sb2.2 it (cZ hei)).trans q,r⟩
  ·rw [aO]
   ·exact (hf b hb).1
   ·simp only [a_,aQ,or_false] at hb;rcases hb with z|z
    ·rw [z];exact aA he0
    ·rw [z];exact aA (al ei)
 done:=by
  intro X hP hw hK hc i pins s σ H E I hf st hg;subst hP hw hK;obtain ⟨xs,hq,hx⟩:=hg;obtain ⟨its,rv,p,hz⟩:=I.list hq;obtain ⟨⟨old,he⟩,hit⟩:=st;have hl:=rv.length;refine wpAny_pyNext_enum_end (by simpa using I.ok.hd hc) he hit p.isList (by simp;omega) fun h' eb=>?_;exact ⟨rfl,I.turnedL (t':=s.toks) (ch:=[e,it]) (fun b o hb q=>eb b o (by
   simp only [a_,aQ,or_false,not_or] at hb;exact hb.2) q) hf⟩
 self:=fun _ _ _ _ _ st h=>let ⟨⟨_,q⟩,_⟩:=st;qH q h
def Tt (K:a7) (ta:TA):TI:=fun σ H R=>ta σ H fun vs H1=>∃ a xs,vs=[.ref a]/\nl K H1 a xs/\R (Tr K a) H1
theorem Ob {X:Cx}{elts:List bL}{x1}{tpos p pos:Pos}{a:bL}{ta:TA} (hg:Gl X "enumerate") (hm:X.mg "enumerate"=none) (ha:PA X [a] ta) (hs:aw [a] X.env=[(false,cz a X.env)]:=by rfl) :
  PI X (.Tuple elts x1 tpos) (.Call (.Name "enumerate" p) [a] [] pos) (Tt X.K ta):=by
 intro pins s σ H R I h;refine Call_ (qU I hg hm boot_enumerate (dh (fL (ha pos pins s σ H _ I h) fun us s1 h1=>?_) hs rfl));obtain ⟨vs,H1,I1,r1,q1⟩:=h1;obtain ⟨ad,xs,rfl,hq,q⟩:=q1;obtain ⟨u,rfl,rx⟩:=lC r1;cases rx;obtain ⟨its,rv,tp,hz⟩:=I1.list hq;refine call_enumerate_list tp.isList fun h' e1 t1 sz kp=>?_;refine qH e1 ?_;have I2:bx X pins σ H1 { s1 with heap:=h' }:=I1.kept (t':=s1.toks) kp;refine ⟨s1.heap.objs.size+1,[s1.heap.objs.size+1,s1.heap.objs.size],_,_,H1,rfl,I2,Hr ad _ _ (dQ (ev _)),⟨⟨.none,e1⟩,t1⟩,fun b hb=>?_,q⟩;simp only [a_,aQ,or_false] at hb;rcases hb with z|z
 ·rw [z];exact I1.fpOk (i0 _) (I1.hok.fresh (i0 _))
 ·rw [z];exact I1.fpOk (am _) (I1.hok.fresh (am _))
end L2
namespace J
open PySem L2
theorem Oc     (h:nl K Hn a vs) (r:RDs K Hs vs ds):Nc K (Tr K a) (jb 0 ds) Hn Hs:=fun H2 Hs2 e1 e2 e3=>by
 have q:=e1.seq h;have hl:=wx ds 0;refine ⟨fun i hi=>?_,fun i hi=>⟨vs,q,by rw [r.length];omega⟩,fun i x H3 hi y=>?_⟩
 ·have hi':i<vs.length:=by rw [r.length];omega
  exact ⟨vs,vs[i],q,aX hi'⟩
 ·obtain ⟨p,hp,rfl,y⟩:=y;obtain ⟨x,k0,rfl⟩:=y vs q;obtain ⟨d,k1,k2⟩:=r.get k0;have st:=cD.new (o:=.tup [.int i,x]) e3 hp;refine ⟨.tuple [.int i,d],_,?_,st,.tuple aT (.cons (.int _) (.cons ((k2.same e2).same st.sh) .nil))⟩;rw [ww,k1];simp
section
def QD:List D->R (List D)
 |[.list ds]=>.ok (jb 0 ds)
 |_=>.no
def Jm (gs:az->R (List D)):az->R (List D):=fun ρ=>(gs ρ).bind QD
theorem KP {x1} (hg:Gl c.X "enumerate") (hm:c.X.mg "enumerate"=none) (ha:G5 c [a] gs) (hs:aw [a] c.X.env=[(false,cz a c.X.env)]:=by rfl):IS c (.Tuple elts x1 tpos) (.Call (.Name "enumerate" p) [a] [] pos) (Jm gs):=.of fun ρ=>IT (Ob hg hm (ha ρ) hs) fun σ H Q h_20=>by
 obtain ⟨H0,Hs0,la,Hs,f,q⟩:=h_20;refine Em f q fun ds vs H1 Hs1 e1 s1 f1 r1=>?_;unfold Jm at q;rw [e1,bind_ok] at q;unfold QD at q;split at q
 ·obtain ⟨x,rfl,rx⟩:=r1.one;cases rx with
  |list qa ra=>exact ⟨_,_,rfl,dn.seq f1.st.sub qa,q _ H1 Hs1 s1 (Oc qa ra)⟩
 ·exact q.elim
end
end J
namespace L2
open PySem PySem.Spec PyProof.Rows
end L2
namespace J
open PySem L2
section
end
end J
namespace J
open PySem L2
end J
end
namespace J
open PySem L2 PyProof.Rows
section
structure En where
 P:bd
 w:bv
 K:a7
 mg:Str->Option ae
 base:bt
 cls:Str->ah
abbrev FN (e:En):=Fn e.P e.w e.K e.mg e.base e.cls
abbrev ER (e:En):=Er e.mg e.base e.cls
abbrev Cn (mg:Str->Option ae) (x:Str) (n:Int):Prop:=∃ t,mg x=some (.int n t)
structure gK (K:a7) (mg:Str->Option ae) (x:Str) (st:cF):Prop where
 ex:∃ f fd,G4 K x x st f fd/\mg x=some (.ref f)
section
variable {K:a7}{h:bt}{mg:Str->Option ae}{x:Str}
theorem d_in {st:cF}{A:ah}{od an:Option ah}{sl:Array (Option ae)}{oc kV dc pm cv ct:ae} (X:K.In h) (G:h.Ns bq mg) (a:g9 K bq x=some (some (.ref A)))
  (l:K.lookup A=some ⟨oc,od,.func (ef x x (kH st) (gU st) (av st) .none kV dc pm an cv ct),sl⟩) (c:jI K cv x=true) (k:dL K (.ref A)=true):gK K mg x st :=
 ⟨_,_,Mu l c k,i3 X G a⟩
theorem cn_in  (X:K.In h) (G:h.Ns bq mg) (t:g9 K bq x=some (some (.int n tk))):Cn mg x n:=⟨_,i3 X G t⟩
inductive Zs (K:a7):List Str->Prop
 |nil:Zs K []
 |cons {x:Str}{r:List Str}:g9 K bq x=some none->Zs K r->Zs K (x::r)
theorem Zs.get (z:Zs K r):∀ x∈r,g9 K bq x=some none:=by
 induction z with
 |nil=>exact fun _ h=>nomatch h
 |cons a _ ih =>
  intro y hy
  rcases List.mem_cons.mp hy with e|e
  ·rw [e];exact a
  ·exact ih y e
abbrev zn:List Str:=["len","isinstance","all","any","zip","tuple","list","sorted","set","range","enumerate","dict","sum","max","min","reversed","str","int","bool","ValueError"]
theorem Vm (X:K.In h) (G:h.Ns bq mg) (z:Zs K zn):Bi mg:=by
 have q:∀ x∈zn,mg x=none:=fun x hx=>Gx X G (z.get x hx)
 exact ⟨q _ (by decide),q _ (by decide),q _ (by decide),q _ (by decide),q _ (by decide),q _ (by decide),q _ (by decide),q _ (by decide),q _ (by decide),q _ (by decide),q _ (by decide),q _ (by decide),q _ (by decide),q _ (by decide),q _ (by decide),q _ (by decide),q _ (by decide),q _ (by decide),q _ (by decide)⟩
theorem Vn (X:K.In h) (G:h.Ns bq mg) (z:Zs K zn):mg "ValueError"=none:=Gx X G (z.get _ (by decide))
end
section
variable {P:bd}{w:bv}{K:a7}{mg:Str->Option ae}{base:bt}{N:List Str}{qual:Str}{scope:gq}{f:ah}{cd:ae}{A:bO}{outer:List Env}{s:ai}{H:Hp}{E:XK}
theorem px:o6 (ja P w) (eK (ja P w) P w K mg base N qual scope f cd A outer s H E) E:=Eh fun _ _ _ h=>h
end
section
variable {c:C}{x y:Str}{e:bL}{es:List bL}{gs:az->R (List D)}{p q pos:Pos}
theorem jc  (G:Fn c.X.prog c.X.w c.X.K c.X.mg c.X.base c.cls x k n F) (hr:jY j c.X.A) (hx:o6 (ja c.X.prog c.X.w) c.X c.E) (ha:G5 c (e::es) gs)
  (hk:k<=j:=by decide) (hg:Gl c.X x:=by exact rfl) (hdb:(x==("__debug__" : Str))=false:=by decide) (he:aw (e::es) c.X.env=(false,cz e c.X.env)::aw es c.X.env:=by rfl) (hpl:(gL pos (aw es c.X.env)).any (·.1)=false:=by rfl) :
  JE c (.Call (.Name x p) (e::es) [] pos) (dE n F gs):=Ql G (hr.mono hk) hg hx ha hdb he hpl
end
abbrev Bq (x:Str) (st:cF) (us:List ae) (r:List (Str×ae)):Prop:=∀ (kV doc pm:ae) (an:Option ah) (cdv ct:ae),P6 (ef x x (kH st) (gU st) (av st) .none kV doc pm an cdv ct) ⟨us,[]⟩=pure r
section
variable {K:a7}{x:Str}{st:cF}{f:ah}{fd:eI}
theorem b1 (F:G4 K x x st f fd) (h:∀ u,Bq x st [u] [(a,u)]:=by exact fun _ _ _ _ _ _ _=>rfl):k8 K fd [a] []:=F.binds fun _ _ _ _ _ _ us hl=>by obtain ⟨_,rfl⟩:=XY hl;exact h ..
theorem b2 (F:G4 K x x st f fd) (h:∀ u v,Bq x st [u,v] [(a,u),(b,v)]:=by exact fun _ _ _ _ _ _ _ _=>rfl):k8 K fd [a,b] []:=F.binds fun _ _ _ _ _ _ us hl=>by obtain ⟨_,_,rfl⟩:=XZ hl;exact h ..
theorem b3 (F:G4 K x x st f fd) (h:∀ u v w,Bq x st [u,v,w] [(a,u),(b,v),(c,w)]:=by exact fun _ _ _ _ _ _ _ _ _=>rfl):k8 K fd [a,b,c] []:=F.binds fun _ _ _ _ _ _ us hl=>by obtain ⟨_,_,_,rfl⟩:=X_ hl;exact h ..
theorem b4 (F:G4 K x x st f fd) (h:∀ u v w z,Bq x st [u,v,w,z] [(a,u),(b,v),(c,w),(d,z)]:=by exact fun _ _ _ _ _ _ _ _ _ _=>rfl):k8 K fd [a,b,c,d] []:=F.binds fun _ _ _ _ _ _ us hl=>by obtain ⟨_,_,_,_,rfl⟩:=Y0 hl;exact h ..
theorem b5 (F:G4 K x x st f fd) (h:∀ u v w z y,Bq x st [u,v,w,z,y] [(a,u),(b,v),(c,w),(d,z),(e,y)]:=by exact fun _ _ _ _ _ _ _ _ _ _ _=>rfl):k8 K fd [a,b,c,d,e] []:=F.binds fun _ _ _ _ _ _ us hl=>by obtain ⟨_,_,_,_,_,rfl⟩:=Y1 hl;exact h ..
end
theorem oV {e:En}{x:Str}{st:cF}{N ps:List Str}{k:Nat}{g:az->R Fl} (D:gK e.K e.mg x st) (S:bn N ps (av st)) (b:∀ {f:ah}{fd:eI},G4 e.K x x st f fd->k8 e.K fd ps [])
  (h:∀ (f:ah) (cdv:ae) (A:bO) (outer:List Env) (s:ai) (H:Hp) (E:XK),jY k (A.deeper (jH x (av st) s.heap.objs.size f cdv))->Hf ⟨eK (ja e.P e.w) e.P e.w e.K e.mg e.base N x (av st) f cdv A outer s H E,e.cls,E⟩ (gU st) g) :
  FN e x (k+1) ps.length (eL N.length g):=by
 obtain ⟨f,fd,F,hm⟩:=D.ex
 exact U_ F S hm (b F) (h f)
def XJ (N P:List Str) (sc:gq):Bool:=decide (sc.kind=.function) && !sc.isCoroutine && !sc.isGenerator&&decide N.Nodup&&decide (N.take P.length=P)&&P.all (fun x=>decide (sc.names.lookup x=some .local)||decide (sc.names.lookup x=some .cell))&&sc.names.all fun y=>decide (y.2≠.free)
theorem dg  (h:XJ N P sc=true):bn N P sc:=by
 unfold XJ at h
 simp only [aN,decide_eq_true_eq,M0,cJ,ic] at h
 obtain ⟨⟨⟨⟨⟨⟨a,b⟩,c⟩,d⟩,e⟩,f⟩,g⟩:=h
 exact ⟨a,b,c,d,e,f,g⟩
structure Cw (K:a7) (x:Str) (C:ah):Prop where
 ns:g9 K bq x=some (some (.ref C))
 cl:∃ cd,gE K C=some cd
 ty:yy K (.ref C)=some (.type "type")
theorem cw_in {K:a7}{x:Str}{C:ah}{cd:ClassData} (a:g9 K bq x=some (some (.ref C))) (i:gE K C=some cd) (y:yy K (.ref C)=some (.type "type")):Cw K x C:=⟨a,⟨_,i⟩,y⟩
inductive QE (K:a7):List Str->List ah->Prop
 |nil:QE K [] []
 |cons {x:Str}{C:ah}{ns:List Str}{Cs:List ah}:Cw K x C->QE K ns Cs->QE K (x::ns) (C::Cs)
inductive Sb (K:a7) (C:ah):List (ah×Bool)->Prop
 |nil:Sb K C []
 |cons {D:ah}{b:Bool}{l:List (ah×Bool)}:nZ K (.ref C) (.ref D)=some b->(b=false->C≠D)->Sb K C l->Sb K C ((D,b)::l)
structure Wy (K:a7) (C CP:ah) (l:List (ah×Bool)):Prop where
 x1:ft K (.ref C) "__getattribute__"=some (some (.builtin "BaseException.__getattribute__"))
 x2:ft K (.ref C) "__getattr__"=some none
 x3:ft K (.ref C) "__class__"=some (some (.builtin "object.__class__"))
 x4:uG K (.builtin "object.__class__") "__get__"=some (some (.builtin "getset_descriptor.__get__"))
 x5:xB K (.builtin "object.__class__")=some true
 x6:cb K C (.type "object")=some true
 x7:cb K C (.ref CP)=some true
 x8:nZ K (.ref C) (.type "ValueError")=some true
 x9:(bj CP==bj C)=false
 sb:Sb K C l
theorem QE.at {K:a7}{ns:List Str}{Cs:List ah} (N:QE K ns Cs):∀ (i:Nat) (n:Str),ns[i]?=some n->∃ C,Cs[i]?=some C/\Cw K n C:=by
 induction N with
 |nil=>intro i n h;simp at h
 |cons a _ ih =>
  intro i n h
  cases i with
  |zero=>cases h;exact ⟨_,rfl,a⟩
  |succ i=>exact ih i n h
theorem Sb.at {K:a7}{C:ah}{l:List (ah×Bool)} (N:Sb K C l):∀ (i:Nat) (D:ah) (b:Bool),l[i]?=some (D,b)->nZ K (.ref C) (.ref D)=some b/\(b=false->C≠D):=by
 induction N with
 |nil=>intro i D b h;simp at h
 |cons a c _ ih =>
  intro i D b h
  cases i with
  |zero=>cases h;exact ⟨a,c⟩
  |succ i=>exact ih i D b h
theorem Vo {K:a7}{h:bt}{mg:Str->Option ae}{cls:Str->ah}{ns:List Str}{Cs:List ah} (X:K.In h) (G:h.Ns bq mg) (N:QE K ns Cs) (hn:ns.map cls=Cs):∀ n∈ns,mg n=some (.ref (cls n)):=by
 intro n hm
 obtain ⟨i,hi,e⟩:=jh hm
 have e1:ns[i]?=some n:=by rw [aX hi,e]
 obtain ⟨C,h1,h2⟩:=N.at i n e1
 rw [<- hn,aJ,e1] at h1
 cases h1
 exact i3 X G h2.ns
theorem Jn {K:a7}{base:bt}{cls:Str->ah}{x:Str}{C CP:ah}{ns:List Str}{Cs:List ah}{l:List (ah×Bool)}{j:Nat} (mb:cb K C (.type "BaseException")=some true) (Q:∃ bm,CO base C bm/\∀ v,(v==bj C)=false->cb K C v=some true->bm.contains v=true) (W:Wy K C CP l) (N:QE K ns Cs)
  (hc:cls x=C) (hp:cls "PlanError"=CP) (hn:ns.map cls=Cs) (hl:l.map (·.1)=Cs) (hb:l.map (·.2)=bits j) (hj:j<11) (hx:x∈ns):Xf K base cls ns (cls x) j:=by
 obtain ⟨bm,o,mm⟩:=Q
 subst hc hp
 have hcl:(gE K (cls x)).isSome=true:=by
  obtain ⟨i,hi,e⟩:=jh hx
  have e1:ns[i]?=some x:=by rw [aX hi,e]
  obtain ⟨C,h1,h2⟩:=N.at i x e1
  rw [<- hn,aJ,e1] at h1
  cases h1
  obtain ⟨cd,h3⟩:=h2.cl
  rw [h3];rfl
 refine ⟨⟨W.x1,W.x2,W.x3,W.x4,W.x5,W.x6,mb,hcl⟩,fun i n e=>?_,Th W.x8,⟨bm,o,mm _ W.x9 W.x7⟩,hj⟩
 obtain ⟨D,h1,h2⟩:=N.at i n e
 have h3:Cs[i]?=some (cls n):=by rw [<- hn,aJ,e];rfl
 rw [h1] at h3
 cases h3
 obtain ⟨cd,h4⟩:=h2.cl
 have hi:l[i]?≠none:=fun z=>by
  rw [<- hl,aJ,z] at h1
  cases h1
 cases hq:l[i]? with
 |none=>exact (hi hq).elim
 |some q =>
  obtain ⟨D,b⟩:=q
  have e1:D=cls n:=by rw [<- hl,aJ,hq] at h1;cases h1;rfl
  have e2:(bits j)[i]?=some b:=by rw [<- hb,aJ,hq];rfl
  subst e1
  obtain ⟨s1,s2⟩:=W.sb.at i _ b hq
  have e3:b=decide (i=j):=by
   unfold bits at e2
   match i,e2 with
   | 0,e|1,e|2,e|3,e|4,e|5,e|6,e|7,e|8,e|9,e|10,e=>simpa using e.symm
   |(i+11),e=>simp at e
  rw [<- e3]
  exact Qx h4 h2.ty s1 s2
theorem Od {K:a7}{base:bt}{mg:Str->Option ae}{cls:Str->ah}{x:Str}{C CP:ah}{ns:List Str}{Cs:List ah}{l:List (ah×Bool)}{j:Nat} (X:K.In base) (G:base.Ns bq mg) (T:TopC K x C) (W:Wy K C CP l) (N:QE K ns Cs)
  (hc:cls x=C) (hp:cls "PlanError"=CP) (hn:ns.map cls=Cs) (hl:l.map (·.1)=Cs) (hb:l.map (·.2)=bits j) (hj:j<11) (hx:x∈ns):Xf K base cls ns (cls x) j:=Jn T.mb (Hm X G T.ns T.ex T.mb).2 W N hc hp hn hl hb hj hx
end
end J
section
namespace L2
open PySem PySem.Spec PyProof.Rows
section
end
end L2
namespace J
open PySem L2
def keysOf:List D->Option (List fS)
 |[]=>some []
 |d::r=>(rG d).bind fun k=>(keysOf r).map (k::·)
def S3:D->Option (List fS)
 |.tuple ds=>keysOf ds
 |_=>none
def X1:List (D×D)->List (D×D)
 |(.none,_)::r=>r
 |l=>l
def QF (ds:List (D×D)):Bool:=!ds.isEmpty&&ds.all fun kv=>(S3 kv.1).isSome
section
variable {c:C}{a b e k:bL}{ga gb g gk:az->R D}{pos p apos:Pos}{x:Str}
def inT (neg:Bool):D->D->R D
 |k,.dict ds=>match S3 k with
  |some _=>if QF (X1 ds)=true then .ok (.bool (if neg then !(vf (X1 ds) k).isSome else (vf (X1 ds) k).isSome)) else .no
  |none=>.no
 |_,_=>.no
end
end J
namespace J
open PySem L2
section
end
end J
namespace L2
open PySem PySem.Spec PyProof.Rows
end L2
namespace J
open PySem L2
end J
namespace J
open PySem L2
end J
namespace J
open PySem L2
end J
namespace J
open PySem L2
def rS (i:Nat) (ρ:az):R D:=G6 ρ i
def rB (i:Nat) (ρ:az):R D:=G7 ρ i
def kI (n:Int) (_:az):R D:=.ok (.int n)
def kB (b:Bool) (_:az):R D:=.ok (.bool b)
def kN (_:az):R D:=.ok .none
def kT (_:az):R Bool:=.ok true
theorem Vp (i:Nat) (ρ:az):rS i ρ=G6 ρ i:=id rfl
theorem Tu (i:Nat) (ρ:az):rB i ρ=G7 ρ i:=id rfl
theorem Vq (n:Int) (ρ:az):kI n ρ=.ok (.int n):=id rfl
theorem Vr (b:Bool) (ρ:az):kB b ρ=.ok (.bool b):=id rfl
theorem Vs (ρ:az):kN ρ=.ok .none:=id rfl
end J
end
section
namespace L2
open PySem PySem.Spec PyProof.Rows
section
def W9 (lo:Int) (n:Nat):It:=⟨fun i _=>i<n,fun i H x H'=>H'=H/\x=.int (lo-i),fun i _=>n<=i⟩
theorem KQ {P:bd}{w:bv}{K:a7}{tg:bL} (it:ah) (lo:Int) (n:Nat):yF P w K tg (W9 lo n) [it] it (fun i h=>DF h it (lo+(i:Nat)*(-1)) ((n:Int)-(i:Nat)) (-1)) where
 mem:=by simp
 obj:=fun i h st b hb=>by
  have e:b=it:=by simpa using hb
  subst e;exact ⟨_,st,fun v z=>by
   have z':Data.fields _=Data.cell v:=z;cases z'⟩
 keep:=fun i h h' st k=>k it (by simp) _ st
 item:=by
  intro X hP hw hK hc i pins s σ H E I hf st hg;subst hP hw hK;obtain ⟨f0,f1,f2,f3,f4,f5⟩:=hf it (by simp);have W:=Walks.range (prog:=X.prog) (w:=X.w) (I.ok.hd hc) it lo (-1) n;refine W.item i s _ _ hg st fun v h' tk hv st' kk=>?_;obtain ⟨t,rfl⟩:=hv;have I1:bx X pins σ H { s with heap:=h',toks:=tk }:=I.turned (fun b o hb e=>kk b o (by simpa using hb) e) f0 f1 f3 f4 f5;refine ⟨_,rfl,Ix (s:={ s with heap:=h',toks:=tk }) (n:="range_iterator") st' rfl rfl (by decide) ⟨.int (lo-i),H,I1,⟨t,?_⟩,⟨rfl,rfl⟩,st',fun b hb=>(hf b hb).1⟩⟩;rw [show lo+(i:Int)*(-1)=lo-i by omega]
 done:=by
  intro X hP hw hK hc i pins s σ H E I hf st hg;subst hP hw hK;obtain ⟨f0,f1,f2,f3,f4,f5⟩:=hf it (by simp);exact LR (I.ok.hd hc) st (by have:n<=i:=hg;omega) fun h' eb=>⟨rfl,I.turned (t':=s.toks) (fun b o hb e=>eb b o hb e) f0 f1 f3 f4 f5⟩
 self:=fun _ _ _ _ _ st h=>LS st h
theorem BK (a b:Int):iS a b (-1)=if a > b then a-b else 0:=by
 unfold iS;simp only [show ¬ ((-1:Int) > 0) by decide,if_false,show -(-1:Int)=1 by decide,Int.ediv_one];split<;>omega
theorem Oe {pins:List (ah×Obj)}{σ:St}{H:Hp}{s:ai}{R:It->Hp->Prop}{E:ae->ai->Prop}{lo hi:Int}{t u v:Tok}{tk:Nat} (I:bx X pins σ H s) (h1:-1000<=lo) (h2:lo<=1000) (h3:-1000<=hi) (h4:hi<=1000)
  (q:R (W9 lo (lo-hi).toNat) H):ak (ay X.prog X.w) X.A (yp (.ref s.heap.objs.size)) (VT X pins σ tg R) E { s with heap:=s.heap.push { cls:=.type "range",data:=.fields #[.int lo t,.int hi u,.int (-1) v] },toks:=tk }:=by
 have sm:Ad lo hi (-1)=true:=by
  unfold Ad;rw [BK];simp only [Builtin.Range.rangeFitsLong,aN,ic,decide_eq_true_eq,beq_iff_eq,show ¬ ((-1:Int) > 0) by decide,if_false];split<;>omega
 refine wpAny_pyIter_range (IsRange.new ..) sm ?_;have I1:bx X pins σ H { s with heap:=s.heap.push { cls:=.type "range",data:=.fields #[.int lo t,.int hi u,.int (-1) v] },toks:=tk }:=I.kept fun b o e=>aa _ e;refine ⟨(s.heap.push { cls:=.type "range",data:=.fields #[.int lo t,.int hi u,.int (-1) v] }).objs.size,[(s.heap.push { cls:=.type "range",data:=.fields #[.int lo t,.int hi u,.int (-1) v] }).objs.size],_,_,H,rfl,
  I1.kept (t':=tk) fun b o e=>aa _ e,KQ _ lo (lo-hi).toNat,?_,fun b hb=>?_,q⟩
 ·have e1:lo+((0:Nat):Int)*(-1)=lo:=by simp
  have e2:(((lo-hi).toNat:Nat):Int)-((0:Nat):Int)=iS lo hi (-1):=by rw [BK];split<;>omega
  show DF _ _ (lo+((0:Nat):Int)*(-1)) ((((lo-hi).toNat:Nat):Int)-((0:Nat):Int)) (-1);rw [e1,e2];exact aB _ rfl
 ·have e:b=(s.heap.push { cls:=.type "range",data:=.fields #[.int lo t,.int hi u,.int (-1) v] }).objs.size:=by simpa using hb
  subst e;exact I1.fpOk (am _) (I1.hok.fresh (am _))
def Vt (ta:TA):TI:=fun σ H R=>ta σ H fun vs H1=>∃ i j:Int,vs=[.int i,.int j,.int (-1)]/\(-1000<=i/\i<=1000/\-1000<=j/\j<=1000)/\R (W9 i (i-j).toNat) H1
theorem KR   (hg:Gl X "range") (hm:X.mg "range"=none) (ha:PA X [a,b,c] ta) (hs:aw [a,b,c] X.env=(false,cz a X.env)::aw [b,c] X.env:=by rfl) (hs2:aw [b,c] X.env=[(false,cz b X.env),(false,cz c X.env)]:=by rfl) :
  PI X tg (.Call (.Name "range" p) [a,b,c] [] pos) (Vt ta):=by
 intro pins s σ H R I h;refine Call_ (qU I hg hm boot_range (dh (fL (ha pos pins s σ H _ I h) fun us s1 ⟨vs,H1,I1,r1,q1⟩=>?_) hs (by rw [hs2];rfl)));obtain ⟨i,j,e,⟨q1,q2,q3,q4⟩,q⟩:=q1;subst e;cases r1 with
 |cons r rr =>
  cases rr with
  |cons r' rr =>
   cases rr with
   |cons r'' rr =>
    cases rr;obtain ⟨t,rfl⟩:=r;obtain ⟨t',rfl⟩:=r';obtain ⟨t'',rfl⟩:=r'';exact call_range_3 (by decide) (Oe I1 q1 q2 q3 q4 q) (.inl (Cb (by omega)))
end
end L2
namespace J
open PySem L2
section
def lF (lo:Int) (n:Nat):List D:=(bg n).map fun (k:Nat)=>cK (lo-k)
theorem QG  (lo:Int) (n:Nat):Nc K (W9 lo n) (lF lo n) Hn Hs:=fun H2 Hs2 e1 e2 e3=>by
 have hl:(lF lo n).length=n:=by simp [lF]
 refine ⟨fun i hi=>by rw [hl] at hi;exact hi,fun i hi=>by rw [hl] at hi;exact hi,fun i v H3 hi y=>?_⟩;obtain ⟨rfl,rfl⟩:=y;refine ⟨.int (lo-i),Hs2,?_,.refl e3,.int _⟩;rw [hl] at hi;unfold lF;rw [aJ,uE hi];rfl
theorem P5.three {K:a7}{H Hs:Hp}{xs:List V}{d e f:D} (h:P5 K H Hs xs [d,e,f]):∃ x y z,xs=[x,y,z]/\RB K H Hs x d/\RB K H Hs y e/\RB K H Hs z f:=by
 cases h with|cons a t=>cases t with|cons b t=>cases t with|cons c t=>cases t;exact ⟨_,_,_,rfl,a,b,c⟩
def Of:List D->R (List D)
 |[.int i,.int j,.int k]=>if k=-1/\-1000<=i/\i<=1000/\-1000<=j/\j<=1000 then .ok (lF i (i-j).toNat) else .no
 |_=>.no
def BL (gs:az->R (List D)):az->R (List D):=fun ρ=>(gs ρ).bind Of
theorem zy (hg:Gl c.X "range") (hm:c.X.mg "range"=none) (ha:Qe c [a,b,d] gs) (hs:aw [a,b,d] c.X.env=(false,cz a c.X.env)::aw [b,d] c.X.env:=by rfl) (hs2:aw [b,d] c.X.env=[(false,cz b c.X.env),(false,cz d c.X.env)]:=by rfl) :
  IS c tg (.Call (.Name "range" p) [a,b,d] [] pos) (BL gs):=.of fun ρ=>IT (KR hg hm (ha ρ) hs hs2) fun σ H Q hh=>by
 obtain ⟨H0,Hs0,la,Hs,f,q⟩:=hh;refine IM f q fun ds vs H1 Hs1 e1 s1 f1 r1=>?_;unfold BL at q;rw [e1,bind_ok] at q;unfold Of at q;split at q
 ·rename_i i j k
  by_cases hj:k=-1/\-1000<=i/\i<=1000/\-1000<=j/\j<=1000
  ·rw [if_pos hj] at q;obtain ⟨x,y,z,rfl,rx,ry,rz⟩:=r1.three;exact ⟨i,j,by rw [rx.int,ry.int,rz.int,hj.1],hj.2,q _ H1 Hs1 s1 (QG i _)⟩
  ·rw [if_neg hj] at q;exact q.elim
 ·exact q.elim
theorem Og (gs:az->R (List D)) (s:Sl) (ρ:az):BL gs (s::ρ)=(gs (s::ρ)).bind Of:=id rfl
end
end J
end
namespace L2
open PySem PySem.Spec PyProof.Rows
section
open Builtin Builtin.ObjectAttr
inductive jy (h:bt) (bmB:List ae) (nms:List Str):List ae->Prop
 |base:jy h bmB nms bmB
 |own {A:ah}{c0:ae}{dd:Option ah}{cd:ClassData}{sl:Array (Option ae)}{mA:Str->Option ae}{tl:List ae} :
   h.get? A=some { cls:=c0,dict:=dd,data:=.cls cd,slots:=sl }->h.Ns cd.ns mA->(∀ n∈nms,mA n=none)->jy h bmB nms tl->jy h bmB nms (.ref A::tl)
theorem jy.ownTail   (hi:("__init__" : Str)∈nms) (T:jy h bmB nms tl):OwnTail h bmB tl:=by
 induction T with
 |base=>exact .base
 |own a b c _ ih=>exact .own a b (c _ hi) ih
theorem jy.keeps   (T:jy h bmB nms tl) (hk:∀ b o,h.get? b=some o->h'.get? b=some o):jy h' bmB nms tl:=by
 induction T with
 |base=>exact .base
 |own a b c _ ih=>exact .own (hk _ _ a) (b.keeps hk) c ih
theorem jy.hasType   (T:jy h bmB nms tl)  (hb:bmB.contains (.type X)=b):tl.contains (.type X)=b:=by
 induction T with
 |base=>exact hb
 |own _ _ _ _ ih=>rw [i4,ih];rfl
theorem jy.refuse     (T:jy h bmB nms tl) (hp:refuseLoop self what bmB=pure ()):refuseLoop self what tl=pure ():=by
 induction T with
 |base=>exact hp
 |own _ _ _ _ ih=>rw [refuseLoop_ref];exact ih
section
variable {M:Gc}{A:bO}{E:ae->ai->Prop}{h:bt}{g:Array Gb}{d:LC}{t:Nat}{os:OsState}
theorem vk     (hm:name∈nms) (T:jy h bmB nms tl) (hrest:Pn bmB name=pure y) (hq:Q y ⟨h,g,d,t,os⟩) :
  ak M A (Pn tl name) Q E ⟨h,g,d,t,os⟩:=by
 induction T with
 |base=>rw [hrest];exact ac hq
 |own hA hN hni _ ih =>
  rw [lookupAlong_cons];refine a6 (wpAny_classOwn_cls hA hN ?_);rw [hni _ hm];exact ih
variable {nm q:Str}{C N x:ah}{bs bm bmB:List ae}{hdct:Bool}{sn:List Str}{sub:List ae}{ab:Bool}{col:Option Bool}{dd:Option ah}{k0 k1 k2 k3 k5:Option ae}{B newId initId sa owner:String}{nms:List Str}{name:Str}{v:ae}{mN:Str->Option ae}
theorem oW
  (hC:h.get? C=some (eX nm q C N bs bm hdct sn sub ab col dd k0 k1 k2 k3 k5 newId)) (hn:h.Ns N mN) (hm:name∈nms) (T:jy h bmB nms bm) (hbm:mroOf (.type B)=pure bmB) (hB:fu (.type B) name=pure y)
  (hq:Q (match mN name with|some v=>some v|none=>y) ⟨h,g,d,t,os⟩):ak M A (fu (.ref C) name) Q E ⟨h,g,d,t,os⟩:=by
 have hrest:Pn bmB name=pure y:=by rw [typeLookup_eq,hbm] at hB;exact hB
 rw [typeLookup_eq];refine a6 (wpAny_mroOf_exc hC ?_);rw [lookupAlong_cons];refine a6 (wpAny_classOwn_exc hC hn ?_);cases hv:mN name with
 |some v=>rw [hv] at hq;exact ac hq
 |none=>rw [hv] at hq;exact vk hm T hrest hq
theorem KS   (SF:yA B bmB sa owner) (T:jy h bmB nms bm)
  (hC:h.get? C=some (eX nm q C N bs bm hdct sn sub ab col dd k0 k1 k2 k3 k5 newId)) (hx:h.get? x=some o) (hc:o.cls=.ref C) (hq:Q () ⟨h,g,d,t,os⟩) :
  ak M A (m7 sa ⟨[.ref x,nameV,v],[]⟩) Q E ⟨h,g,d,t,os⟩:=by
 have hcB:(bj C::bm).contains (.type owner)=true:=by rw [i4,T.hasType SF.hasOwner,G1]
 have ha:=SF.args (.ref x) nameV v;simp only [m7,SF.kind,SF.split];refine a6 ?_
 ·unfold pC;repeat (first|(with_reducible refine dw hx ?_;rw [hc])|(with_reducible refine jL hC ?_;rw [hcB])|wp_step)
  cases hsig:Manifest.signature? sa with
  |none=>exact ac hq
  |some sig =>
   simp only [Gp,hsig] at ha;have h2:Bind.checkArgs sa sig ⟨[.ref x,nameV,v],[]⟩=pure ():=ha;show ak M A (Bind.checkArgs sa sig ⟨[.ref x,nameV,v],[]⟩) Q E _;rw [h2];exact ac hq
end
section
variable {prog:bd}{w:bv}{A:bO}{E:ae->ai->Prop}{h:bt}{g:Array Gb}{d:LC}{t:Nat}{os:OsState}
variable {nm q:Str}{C N x:ah}{bs bm bmB:List ae}{sn:List Str}{sub:List ae}{ab:Bool}{col:Option Bool}{dd:Option ah}{k0 k1 k2 k3 k5:Option ae}{B newId initId sa owner:String}{nms:List Str}{name:Str}{v:ae}{mN:Str->Option ae}
theorem D9   (SF:yA B bmB sa owner) (T:jy h bmB nms bm)
  (hC:h.get? C=some (eX nm q C N bs bm true sn sub ab col dd k0 k1 k2 k3 k5 newId)) (hn:h.Ns N mN) (hm:name∈nms) (hna:mN name=none)
  (hB:fu (.type B) name=pure none) (hx:h.get? x=some o) (hc:o.cls=.ref C) (hnc:∀ c,o.data≠.cls c) (hdn:o.dict=none)
  (hq:∀ h' tk',h'.get? x=some { cls:=o.cls,dict:=some h.objs.size,data:=o.data,slots:=o.slots }->(∀ b ob,b≠x->h.get? b=some ob->h'.get? b=some ob)->h'.Ns1 h.objs.size (fun y=>if y=name then some v else none)->Q (.done (.ret .none)) ⟨h',g,d,tk',os⟩) :
  ak (ay prog w) A (fW.«object.__setattr__» ⟨[.ref x,.str name tk,v],[]⟩) Q E ⟨h,g,d,t,os⟩:=by
 have hpass:=T.refuse (SF.passes (.ref x));unfold fW.«object.__setattr__»;repeat (first|rw [refuse_eq]|(rw [refuseLoop_ref,hpass])|(with_reducible refine dw hx ?_;rw [hc])|with_reducible refine wpAny_mroOf_exc hC ?_|(with_reducible refine oW hC hn hm T SF.mro hB ?_;rw [hna])|wp_step)
 rw [hdn,if_neg (by simp [typeHasDict])];split
 ·rename_i hcd
  cases hcd
 split
 ·rename_i c hcd
  exact absurd hcd (hnc c)
 ·have hx₁:(h.push { cls:=.type "dict",data:=.dict #[] }).get? x=some o:=aa _ hx;have hxs:x≠h.objs.size:=aA (al hx);refine a6 (wpAny_alloc' ?_);refine a6 (wpAny_update' hx₁ ?_);refine ac ?_;have hgd:((h.push { cls:=.type "dict",data:=.dict #[] }).update x fun o=>{ cls:=o.cls,dict:=some h.objs.size,data:=o.data,slots:=o.slots }).get? h.objs.size
    = some { cls:=.type "dict",data:=.dict #[] } :=
   (K5 _ _ _ _ hxs.symm).trans (M4 rfl rfl)
  have hnd:((h.push { cls:=.type "dict",data:=.dict #[] }).update x fun o=>{ cls:=o.cls,dict:=some h.objs.size,data:=o.data,slots:=o.slots }).Ns h.objs.size (fun _=>none) :=
   ⟨_,#[],_,hgd,rfl,fun e he=>absurd he (by simp),fun _=>rfl⟩
  show ak _ _ (storeInDict h.objs.size (.str name tk) name v) _ _ _;unfold storeInDict newKeyGuard;refine a6 (ac (a6 (wpAny_nsSet1 (Heap.Ns1.of_empty hnd) fun h' hn' hs=>?_)));obtain ⟨oD,esD,epD,hoD,hdD,hcD⟩:=hn'.count (Within.cons name v Within.nil);refine a6 (wpAny_lookBehind hoD (by rw [hdD];exact pastItsLine_dict (bK hcD (by rw [aU,bz,vW];omega))) ?_);wp_walk;refine hq h' _ ?_ (fun b ob hbx hb=>?_) hn'
  ·refine (hs.2 x hxs).trans (fV _ hx₁ ?_);have hfr:=(Heap.get?_some_iff.mp hx).2;obtain ⟨oc,od,odt,osl⟩:=o;cases odt<;>first|rfl|exact hfr
  ·exact (hs.2 b (aA (al hb))).trans ((K5 _ _ _ _ hbx).trans (aa _ hb))
theorem xk  (SF:yA B bmB sa owner) (T:jy h bmB nms bm)
  (hC:h.get? C=some (eX nm q C N bs bm true sn sub ab col dd k0 k1 k2 k3 k5 newId)) (hn:h.Ns N mN) (hs:("__setattr__" : Str)∈nms) (hns:mN "__setattr__"=none) (hm:name∈nms) (hna:mN name=none)
  (hB:fu (.type B) name=pure none) (hx:h.get? x=some o) (hc:o.cls=.ref C) (hnc:∀ c,o.data≠.cls c) (hdn:o.dict=none)
  (hq:∀ h' tk',h'.get? x=some { cls:=o.cls,dict:=some h.objs.size,data:=o.data,slots:=o.slots }->(∀ b ob,b≠x->h.get? b=some ob->h'.get? b=some ob)->h'.Ns1 h.objs.size (fun y=>if y=name then some v else none)->Q () ⟨h',g,d,tk',os⟩) :
  ak (ay prog w) A (setAttr (.ref x) name v) Q E ⟨h,g,d,t,os⟩:=by
 have f3:=SF.slot.bind (.ref x);unfold setAttr callSpecial? specialOf;repeat (any_goals (first|assumption|(with_reducible refine dw hx ?_;rw [hc])|(with_reducible refine oW hC hn hs T SF.mro SF.slot.lookup ?_;rw [hns])|wp_step))
 refine jn SF.slot.plain SF.entry (KS SF T hC hx hc (D9 SF T hC hn hm hna hB hx hc hnc hdn fun h' tk' a1 a2 a3=>?_));repeat (any_goals (first|assumption|wp_step))
 exact hq h' tk' a1 a2 a3
end
end
section
section
variable {prog:bd}{w:bv}{A:bO}{E:ae->ai->Prop}{h:bt}{g:Array Gb}{d:LC}{t:Nat}{os:OsState}
variable {nm q:Str}{C N:ah}{bs bm bmB:List ae}{hdct:Bool}{sn:List Str}{sub:List ae}{ab:Bool}{col:Option Bool}{dd:Option ah}{k0 k1 k2 k3 k5:Option ae}{B newId initId:String}
theorem xS (F:tU B newId initId bmB) (T:OwnTail h bmB bm) {mN:Str->Option ae}{bB:List ae}{fI:ah}{oI:Obj}{Q:Fin->ai->Prop}
  (hC:h.get? C=some (eX nm q C N bs bm hdct sn sub ab col dd k0 k1 k2 k3 k5 newId)) (hn:h.Ns N mN) (hi:mN "__init__"=some (.ref fI))
  (hfI:h.get? fI=some oI) (hfc:oI.cls=.type "function")
  (hq:∀ h' e,tx h h' e (.ref C) bB ->
   ak (ay prog w) A (call (.ref fI) (.ref e::bB)) (fun r s'=>r=.none/\Q (.done (.ret (.ref e))) s') E ⟨h',g,d,t,os⟩) (hrest:bB.length<=sizeLine:=by size_fits) :
  ak (ay prog w) A (fW.«type.__call__» ⟨.ref C::bB,[]⟩) Q E ⟨h,g,d,t,os⟩:=by
 repeat (first|with_reducible refine dw hC ?_|with_reducible refine wpAny_madeBy_exc hC ?_|wp_step)
 refine codeAny_call_builtin_code (n8 _ F.quiet) (wpAny_check_new_subT F T hC ?_);refine codeAny_exc_new_subT F T hC ?_ hrest;show ak _ _ _ _ _ _;have hC₁:=aa { cls:=.ref C,data:=.fields #[.ref h.objs.size,.none,.none,.none,.bool false,.none] }
  (aa { cls:=.type "tuple",data:=.seq bB.toArray } hC)
 have hfI₁:=aa { cls:=.ref C,data:=.fields #[.ref h.objs.size,.none,.none,.none,.bool false,.none] }
  (aa { cls:=.type "tuple",data:=.seq bB.toArray } hfI)
 have hn₁:((h.push { cls:=.type "tuple",data:=.seq bB.toArray }).push { cls:=.ref C,data:=.fields #[.ref h.objs.size,.none,.none,.none,.bool false,.none] }).Ns N mN :=
  let ⟨o,es,ep,e,r⟩:=hn;⟨o,es,ep,aa _ (aa _ e),r⟩
 have hget:((h.push { cls:=.type "tuple",data:=.seq bB.toArray }).push
   { cls:=.ref C,data:=.fields #[.ref h.objs.size,.none,.none,.none,.bool false,.none] }).get? (h.objs.size+1)=some
   { cls:=.ref C,data:=.fields #[.ref h.objs.size,.none,.none,.none,.bool false,.none] }:=by heap_get
 have hcC:(bj C::bm).contains (.ref C)=true:=by simp
 have T₁:=T.keeps (h':=(h.push { cls:=.type "tuple",data:=.seq bB.toArray }).push { cls:=.ref C,data:=.fields #[.ref h.objs.size,.none,.none,.none,.bool false,.none] })
  fun b o e=>aa _ (aa _ e)
 unfold pC;repeat (first|with_reducible refine dw hget ?_|(with_reducible refine jL hC₁ ?_;rw [hcC])|wp_step)
 show ak _ _ (fu (.ref C) _) _ _ _;refine wpAny_typeLookup_tail hC₁ hn₁ T₁ F.mroIs F.init.lookup ?_;rw [hi];refine bS (a6 ?_);unfold bindSpecial;refine a6 (jD (T:="function") ⟨_,hfI₁,hfc⟩ ?_);rw [if_pos (by decide)];refine ac (a6 (aV (hq _ (h.objs.size+1) ⟨fun b o hb=>aa _ (aa _ hb),tj (i0 _),h.objs.size,hget,tj (am _),?_⟩) (fun r s' hr=>?_) fun _ _ x=>x))
 ·exact aa _ (M4 rfl rfl)
 ·obtain ⟨rfl,hQ⟩:=hr;wp_walk;exact hQ
theorem Ht (F:tU B newId initId bmB) (T:OwnTail h bmB bm) {mN:Str->Option ae}{bB:List ae}{fI:ah}{oI:Obj}{Q:ae->ai->Prop}
  (hC:h.get? C=some (eX nm q C N bs bm hdct sn sub ab col dd k0 k1 k2 k3 k5 newId)) (hn:h.Ns N mN) (hi:mN "__init__"=some (.ref fI))
  (hfI:h.get? fI=some oI) (hfc:oI.cls=.type "function")
  (hq:∀ h' e,tx h h' e (.ref C) bB ->
   ak (ay prog w) (A.under (.builtin "type.__call__" ⟨.ref C::bB,[]⟩)) (call (.ref fI) (.ref e::bB)) (fun r s'=>r=.none/\Q (.ref e) s') E ⟨h',g,d,t,os⟩) (hrest:bB.length<=sizeLine:=by size_fits) :
  ak (ay prog w) A (call (.ref C) bB) Q E ⟨h,g,d,t,os⟩:=by
 have f1:=tc_lookup;have f2:=tc_bind (.ref C);have hT:(⟨h,g,d,t,os⟩:ai).TypeIs (.ref C) "type":=⟨_,hC,rfl⟩;refine kc (uB ?_);show ak _ _ (callAny (.ref C) _) _ _ _;repeat (any_goals (first|assumption|with_reducible refine dw hC ?_|wp_step))
 refine ⟨rfl,?_⟩;refine codeAny_call_builtin_at (n8 _ (by decide +kernel)) entry_typeCall (wpAny_check_type_call_sub hC (xS (hrest:=hrest) F T hC hn hi hfI hfc fun h' e hm=>?_));exact hq h' e hm
end
section
theorem om   (hbase:bm.contains (.type "BaseException")=true) (hh:A.handled=none)
  (h:ak M A x (fun v s₁=>∃ e dx tt sl,v=.ref e/\s₁.heap.get? C=some (eX nm q C N bs bm hdct sn sub ab col dd k0 k1 k2 k3 k5 newId) /\
   s₁.heap.get? e=some { cls:=.ref C,dict:=dx,data:=.fields #[.ref tt,.none,.none,.none,.bool false,.none],slots:=sl }/\E (.ref e) s₁) E s) :
  ak M A (raiseStmt env (some x) none) Q E s:=by
 have hcB:(bj C::bm).contains (.type "BaseException")=true:=by rw [i4,hbase,G1]
 unfold raiseStmt;refine a6 (aV h (fun v s₁ h₁=>?_) fun _ _ x=>x);obtain ⟨e,dx,vs,sl,rfl,hC,he,hE⟩:=h₁;obtain ⟨hp,g,d,tk,os⟩:=s₁;repeat (first|with_reducible refine dw he ?_|with_reducible refine dw hC ?_|(with_reducible refine jL hC ?_;rw [hcB])|wp_step)
 exact wpAny_raiseNew_none hh hE
end
section
theorem xl (F:tU B newId initId bmB)
  (hbase:bm.contains (.type "BaseException")=true) (hh:A.handled=none) (hplain:(gL cpos (aw args env)).any (·.1)=false) (hi:mN "__init__"=some (.ref fI)) (hfc:oI.cls=.type "function")
  (h:ak (ay prog w) A (cz (.Name x np) env) (fun f s₁=>f=.ref C/\ak (ay prog w) A (evalArgs (.ref C) true (gL cpos (aw args env)) [])
   (fun a s₂=>a.kw=[]/\a.pos.length<=sizeLine/\s₂.heap.get? C=some (eX nm q C N bs bm hdct sn sub ab col dd k0 k1 k2 k3 k5 newId)/\s₂.heap.Ns N mN/\OwnTail s₂.heap bmB bm/\s₂.heap.get? fI=some oI /\
    ∀ h' e,tx s₂.heap h' e (.ref C) a.pos->ak (ay prog w) (A.under (.builtin "type.__call__" ⟨.ref C::a.pos,[]⟩)) (call (.ref fI) (.ref e::a.pos)) (fun r s'=>r=.none/\s'.heap.get? C=some (eX nm q C N bs bm hdct sn sub ab col dd k0 k1 k2 k3 k5 newId)/\(∃ dx tt sl,s'.heap.get? e=some { cls:=.ref C,dict:=dx,data:=.fields #[.ref tt,.none,.none,.none,.bool false,.none],slots:=sl })/\E (.ref e) s') E { s₂ with heap:=h' }) E s₁) E s) :
  ak (ay prog w) A (exec (.Raise (some (.Call (.Name x np) args [] cpos)) none pos) env) Q E s:=by
 rw [arm_exec_Raise];first
  |refine a6 (c_ (om (C:=C) (nm:=nm) (q:=q) (N:=N) (bs:=bs) (bm:=bm) (hdct:=hdct) (sn:=sn) (sub:=sub) (ab:=ab) (col:=col) (dd:=dd) (k0:=k0) (k1:=k1) (k2:=k2) (k3:=k3) (k5:=k5) (newId:=newId) hbase hh (a6 (aV (Ar (aV h (fun f s₁ h₁=>?_) fun _ _ x=>x)) (fun v s₃ h₃=>a6 (c_ (ac h₃))) fun _ _ x=>x))))
  |(simp only [evalOpt,Option.map];refine a6 (c_ (om (C:=C) (nm:=nm) (q:=q) (N:=N) (bs:=bs) (bm:=bm) (hdct:=hdct) (sn:=sn) (sub:=sub) (ab:=ab) (col:=col) (dd:=dd) (k0:=k0) (k1:=k1) (k2:=k2) (k3:=k3) (k5:=k5) (newId:=newId) hbase hh (a6 (aV (Ar (aV h (fun f s₁ h₁=>?_) fun _ _ x=>x)) (fun v s₃ h₃=>a6 (c_ (ac h₃))) fun _ _ x=>x)))))
  |(refine a6 (c_ (om (C:=C) (nm:=nm) (q:=q) (N:=N) (bs:=bs) (bm:=bm) (hdct:=hdct) (sn:=sn) (sub:=sub) (ab:=ab) (col:=col) (dd:=dd) (k0:=k0) (k1:=k1) (k2:=k2) (k3:=k3) (k5:=k5) (newId:=newId) hbase hh ?_));refine a6 (aV (Ar (aV h (fun f s₁ h₁=>?_) fun _ _ x=>x)) (fun v s₃ h₃=>a6 (c_ (ac h₃))) fun _ _ x=>x))
 obtain ⟨rfl,h₁⟩:=h₁;unfold callWith;refine a6 (bS (aV h₁ (fun a s₂ h₂=>a6 (c_ ?_)) fun _ _ x=>x));obtain ⟨apos,akw⟩:=a;obtain ⟨hkw,hlen,hC,hn,T,hfI,h₂⟩:=h₂;obtain rfl:akw=[]:=hkw;obtain ⟨hp,g,d,tk,os⟩:=s₂;simp only [hplain];refine a6 (wpAny_keeperOf_exc hC ?_);refine a6 (Ht (hrest:=hlen) F T hC hn hi hfI hfc fun h' e hm=>aV (h₂ h' e hm) (fun r s' hr=>?_) fun _ _ x=>x);obtain ⟨rfl,hC',⟨dx,vs,sl,he⟩,hE⟩:=hr;refine ⟨rfl,a6 (bS (wpAny_point (ac ?_)))⟩;exact ⟨e,dx,vs,sl,rfl,hC',he,hE⟩
end
end
section
structure Hu (h:bt) (fI:ah):Prop where
 ex:∃ (oI:Obj) (fd:eI) (p1 p2 p3 p4:Pos),h.get? fI=some oI/\oI.cls=.type "function"/\oI.data=.func fd/\h.CodeRec fd.code fd.qualname/\fd.scope.isCoroutine=false/\fd.scope.isGenerator=false/\fd.scope.kind=.function /\
  fd.scope.names=[(("self" : Str),qJ),(("number" : Str),qJ)]/\fd.body=.stmts [.Assign [.Attribute (.Name "self" p1) "number" p2] (.Name "number" p3) p4]/\∀ (s:ai) (e v:ae),(∀ b o,h.get? b=some o->s.heap.get? b=some o)->wW s fd ⟨[e,v],[]⟩ [("self",e),("number",v)]
section
variable {prog:bd}{w:bv}{A:bO}{E:ae->ai->Prop}{s:ai}
variable {nm q:Str}{C N e fI:ah}{bs bm bmB:List ae}{sn:List Str}{sub:List ae}{ab:Bool}{col:Option Bool}{dd:Option ah}{k0 k1 k2 k3 k5:Option ae}{B newId initId sa owner:String}{nms:List Str}{v:ae}{mN:Str->Option ae}
theorem KU   (I:Hu base fI) (kb:∀ b o,base.get? b=some o->s.heap.get? b=some o) (hroom:A.depth<gD) (hlim:s.heap.NoLimit) (SF:yA B bmB sa owner) (T:jy s.heap bmB nms bm)
  (hC:s.heap.get? C=some (eX nm q C N bs bm true sn sub ab col dd k0 k1 k2 k3 k5 newId)) (hn:s.heap.Ns N mN) (hs:("__setattr__" : Str)∈nms) (hns:mN "__setattr__"=none) (hm:("number" : Str)∈nms) (hna:mN "number"=none)
  (hB:fu (.type B) "number"=pure none) (hx:s.heap.get? e=some oe) (hc:oe.cls=.ref C) (hnc:∀ c,oe.data≠.cls c) (hdn:oe.dict=none)
  (hq:∀ h' tk' D,h'.get? e=some { cls:=oe.cls,dict:=some D,data:=oe.data,slots:=oe.slots }->(∀ b ob,b≠e->s.heap.get? b=some ob->h'.get? b=some ob)->Q .none { s with heap:=h',toks:=tk' }) :
  ak (ay prog w) A (call (.ref fI) [.ref e,v]) Q E s:=by
 obtain ⟨oI,fd,p1,p2,p3,p4,ho,_,hd,hcd,hco,hgen,hk,hsc,hbody,hbind⟩:=I.ex
 have cd':s.heap.CodeRec fd.code fd.qualname:=by
  obtain ⟨c,oc,vs,tq,a1,a2,a3⟩:=hcd
  exact ⟨c,oc,vs,tq,a1,kb _ _ a2,a3⟩
 refine kc (codeAny_call_def hroom (kb _ _ ho) hd hlim cd' hbody (hbind s (.ref e) v kb) (by rw [hsc];decide) (by
  intro y hy
  rw [hsc]
  rcases List.mem_cons.mp hy with z|z
  ·rw [z];rfl
  ·rw [List.mem_singleton.mp z];rfl) (fun h₀ hns₀ keep=>?_) hco hgen hk)
 have l1:(callEnv fd s.heap.objs.size fI).kindOf "number"=some .local:=show fd.scope.names.lookup ("number" : Str)=_ by rw [hsc];rfl
 have l2:(callEnv fd s.heap.objs.size fI).kindOf "self"=some .local:=show fd.scope.names.lookup ("self" : Str)=_ by rw [hsc];rfl
 refine sU (B9 (pz (jm hk l1 hns₀ (v:=v) rfl (pz (jm hk l2 hns₀ (v:=.ref e) rfl ?_)))))
 refine xk SF (T.keeps keep) (keep _ _ hC) (hn.keeps keep) hs hns hm hna hB (keep _ _ hx) hc hnc hdn fun h' tk' a1 a2 _=>?_
 exact iG (hq h' tk' _ a1 fun b ob hb eb=>a2 b ob hb (keep b ob eb))
theorem Hv   (I:Hu base fI) (kb:∀ b o,base.get? b=some o->s.heap.get? b=some o) (hroom:A.depth<gD) (hlim:s.heap.NoLimit) (SF:yA B bmB sa owner) (T:jy s.heap bmB nms bm)
  (hC:s.heap.get? C=some (eX nm q C N bs bm true sn sub ab col dd k0 k1 k2 k3 k5 newId)) (hn:s.heap.Ns N mN) (hs:("__setattr__" : Str)∈nms) (hns:mN "__setattr__"=none) (hm:("number" : Str)∈nms) (hna:mN "number"=none)
  (hB:fu (.type B) "number"=pure none) (hx:s.heap.get? e=some oe) (hc:oe.cls=.ref C) (hnc:∀ c,oe.data≠.cls c) (hdn:oe.dict=none)
  (hq:∀ h' tk' D,h'.get? e=some { cls:=oe.cls,dict:=some D,data:=oe.data,slots:=oe.slots }->(∀ b ob,b≠e->s.heap.get? b=some ob->h'.get? b=some ob)->s.heap.objs.size<=D->h'.Ns1 D (fun y=>if y="number" then some v else none)->Q .none { s with heap:=h',toks:=tk' }) :
  ak (ay prog w) A (call (.ref fI) [.ref e,v]) Q E s:=by
 obtain ⟨oI,fd,p1,p2,p3,p4,ho,_,hd,hcd,hco,hgen,hk,hsc,hbody,hbind⟩:=I.ex
 have cd':s.heap.CodeRec fd.code fd.qualname:=by
  obtain ⟨c,oc,vs,tq,a1,a2,a3⟩:=hcd
  exact ⟨c,oc,vs,tq,a1,kb _ _ a2,a3⟩
 refine kc (codeAny_call_def hroom (kb _ _ ho) hd hlim cd' hbody (hbind s (.ref e) v kb) (by rw [hsc];decide) (by
  intro y hy
  rw [hsc]
  rcases List.mem_cons.mp hy with z|z
  ·rw [z];rfl
  ·rw [List.mem_singleton.mp z];rfl) (fun h₀ hns₀ keep=>?_) hco hgen hk)
 have l1:(callEnv fd s.heap.objs.size fI).kindOf "number"=some .local:=show fd.scope.names.lookup ("number" : Str)=_ by rw [hsc];rfl
 have l2:(callEnv fd s.heap.objs.size fI).kindOf "self"=some .local:=show fd.scope.names.lookup ("self" : Str)=_ by rw [hsc];rfl
 refine sU (B9 (pz (jm hk l1 hns₀ (v:=v) rfl (pz (jm hk l2 hns₀ (v:=.ref e) rfl ?_)))))
 refine xk SF (T.keeps keep) (keep _ _ hC) (hn.keeps keep) hs hns hm hna hB (keep _ _ hx) hc hnc hdn fun h' tk' a1 a2 a3=>?_
 exact iG (hq h' tk' _ a1 (fun b ob hb eb=>a2 b ob hb (keep b ob eb)) (bh hns₀.lt) a3)
end
section
variable {M:Gc}{A:bO}{E:ae->ai->Prop}{s:ai}
theorem zz
  (hfr:A.frames=some (env::outer)) (hf:env.frame=some L) (hkb:base.StaysIn h) (hl:h.FunFrames base (env::outer)) (kp:∀ b o,h.get? b=some o->s.heap.get? b=some o) (new:h.get? e=none) (he:s.heap.get? e=some { cls:=C,dict:=dx,data:=.fields #[.ref t,.none,.none,.none,.bool false,.none],slots:=sl })
  (hQ:∀ h',j_ base outer e C (.ref t) h'->s.heap.UpToSlots h'->Q () { s with heap:=h' }):ak M A (Ag env (.ref e)) Q E s:=by
 have fresh:∀ b,h.get? b=none->base.get? b=none:=fun b hb=>by
  cases hq:base.get? b with
  |none=>rfl
  |some o'=>have:=hkb b o' hq;rw [hb] at this;cases this
 refine wpAny_leaving_firstW (a0:=.ref t) hfr (hl.of_keeps fun b o hb _=>⟨o,kp b o hb,rfl⟩) hf he (fun b o hb=>kp b o (hkb b o hb)) (fresh e new) rfl rfl rfl fun h' hL=>?_
 obtain ⟨k1,⟨_,_,k2⟩,k3,k4⟩:=hL
 exact hQ h' ⟨k1,fresh e new,k2,k3⟩ k4
end
end
section
structure Hw (x:Str) (C:ah) (mg:Str->Option ae) (base:bt):Prop where
 bound:mg x=some (.ref C)
 obj:∃ nm q N bs bm sn sub ab col dd k0 k1 k2 k3 k5 mN fI,base.get? C=some (eX nm q C N bs bm true sn sub ab col dd k0 k1 k2 k3 k5 "ValueError.__new__")/\base.Ns N mN/\mN "__init__"=some (.ref fI)/\mN "__setattr__"=none/\mN "number"=none /\
  jy base [.type "ValueError",.type "Exception",.type "BaseException",.type "object"] ["__init__","__setattr__","number"] bm/\Hu base fI
section
variable {P:bd}{w:bv}{K:a7}{mg:Str->Option ae}{base:bt}{N:List Str}{qual:Str}{scope:gq}{f:ah}{cd:ae}{A:bO}{outer:List Env}{s:ai}{H:Hp}{E:XK}
theorem AK         (I:bx (eK (ja P w) P w K mg base N qual scope f cd A outer s H E) pins σ H1 s1)
  (kp:∀ b o,s1.heap.get? b=some o->h'.get? b=some o) (new:s1.heap.get? ea=none) (he:h'.get? ea=some { cls:=.ref C,dict:=dx,data:=.fields #[.ref t,.none,.none,.none,.bool false,.none],slots:=sl }) (q:E (.ref C) none H1):(eK (ja P w) P w K mg base N qual scope f cd A outer s H E).xe (.ref ea) { s1 with heap:=h',toks:=tk' }:=by
 let X:=eK (ja P w) P w K mg base N qual scope f cd A outer s H E
 let B:=l8 s1.heap (lv X.stack)
 have hin:∀ env∈X.stack,∀ a,env.frame=some a->a∈lv X.stack:=fun env he a hf=>ye he hf
 have stB:B.StaysIn s1.heap:=fun b o e=>jl _ e
 have nS:∀ b,b∉lv X.stack->∀ o,s1.heap.get? b=some o->B.get? b=some o:=fun b n o e=>eS _ e n
 show ak _ X.A (Ag X.env (.ref ea)) _ _ _
 refine zz (s:={ s1 with heap:=h',toks:=tk' }) (base:=B) (outer:=outer) (L:=X.env.locals) I.ok.frames rfl stB (pE I.stack hin) kp new he fun h2 fl up=>?_
 have st2:=fl.1
 have bl:∀ b o,s.heap.get? b=some o->b∉lv outer->b∉lv X.stack:=fun b o e n z=>by
  rcases List.mem_cons.mp (I.stkSub b z) with y|y
  ·exact absurd (al e) (by rw [y];exact Nat.not_lt.mpr I.ok.above)
  ·exact n y
 have noex:∀ b:ah,b∉X.ex:=fun b z=>absurd (show b∈([] : List ah) from z) (by simp)
 have cov:∀ b u,H1 b=some u->∃ o,B.get? b=some o:=fun b u e=>by
  have hb:b∉lv X.stack:=fun z=>by have:=I.stkFree b z;rw [e] at this;cases this
  obtain ⟨o,k⟩:=rf I.hok e
  exact ⟨o,nS b hb o k⟩
 refine ⟨ea,C,t,H1,B,none,rfl,I.os,I.bare,⟨fl,cov,fun b o e n hb=>?_,fun b o e hb=>?_,⟨fun b o e n hb hx'=>?_,fun b o e n hb hx'=>?_,fun b o e n _=>I.base.free b o e n (noex b),fun b o e _=>?_,I.base.tups,I.base.frzs,I.base.tbls⟩,fun b u e=>?_⟩,Lk.no _ _,q⟩
 ·exact nS b (bl b o e hb) o (I.base.keep b o e n hb (noex b))
 ·obtain ⟨o',k⟩:=I.base.there b o e (noex b)
  exact ⟨o',nS b (bl b o e hb) o' k⟩
 ·exact st2 b o (nS b (bl b o e hb) o (I.base.keep b o e n hb (noex b)))
 ·obtain ⟨sl,k⟩:=I.base.slot b o e n hb (noex b)
  obtain ⟨_,o',k1,k2⟩:=bW I.funs hb
  rw [k] at k1;cases k1
  obtain ⟨sl',k3⟩:=up b _ (kp _ _ k) k2
  exact ⟨sl',k3⟩
 ·obtain ⟨o',k⟩:=I.base.there b o e (noex b)
  by_cases hb:b∈lv outer
  ·obtain ⟨_,o2,k1,_⟩:=bW fl.2.2.1 hb
   exact ⟨o2,k1⟩
  ·exact ⟨o',st2 b o' (nS b (bl b o e hb) o' k)⟩
 ·refine (I.hok b u e).stay (fun c o hc k=>?_) (fun _ q=>q) fun _ _ q=>q
  have hcs:c∉lv X.stack:=fun z=>by
   have:=I.stkFree c z
   rcases hc with y|y
   ·rw [y,e] at this;cases this
   ·rw [y] at this;cases this
  exact st2 c o (nS c hcs o k)
theorem AL (I:bx (eK (ja P w) P w K mg base N qual scope f cd A outer s H E) pins σ H1 s1)
  (kp:∀ b o,s1.heap.get? b=some o->h'.get? b=some o) (new:s1.heap.get? ea=none) (he:h'.get? ea=some { cls:=.ref C,dict:=some D,data:=.fields #[.ref t,.none,.none,.none,.bool false,.none],slots:=sl })
  (nD:s1.heap.get? D=none) (ns:h'.Ns1 D mA) (rl:∀ y,wf (([("number",v)] : List (Str×V)).lookup y) (mA y)) (q:E (.ref C) (some D) (upd H1 D (.xd [("number",v)]))):(eK (ja P w) P w K mg base N qual scope f cd A outer s H E).xe (.ref ea) { s1 with heap:=h',toks:=tk' }:=by
 let X:=eK (ja P w) P w K mg base N qual scope f cd A outer s H E
 obtain ⟨oD,esD,epD,hoD,hdD⟩:=id ns
 have nea:D≠ea:=fun z=>by
  rw [z,he] at hoD;cases hoD
  cases hdD.1
 let hx:=l8 h' [ea]
 let B:=l8 hx (lv X.stack)
 have hin:∀ env∈X.stack,∀ a,env.frame=some a->a∈lv X.stack:=fun env he a hf=>ye he hf
 have stB:B.StaysIn hx:=fun b o e=>jl _ e
 have kx:∀ b o,s1.heap.get? b=some o->hx.get? b=some o:=fun b o e=>eS _ (kp b o e) fun z=>by rw [cg.1 z,new] at e;cases e
 have nS:∀ b,b∉lv X.stack->∀ o,s1.heap.get? b=some o->B.get? b=some o:=fun b n o e=>eS _ (kx b o e) n
 have fD:D∉lv X.stack:=fun z=>by
  obtain ⟨_,o',k1,_⟩:=bW I.stack z
  rw [nD] at k1;cases k1
 have BD:B.get? D=some oD:=eS _ (eS _ hoD fun z=>nea (cg.1 z)) fD
 have hD1:H1 D=none:=by
  cases z:H1 D with
  |none=>rfl
  |some u=>obtain ⟨o,k⟩:=rf I.hok z;rw [nD] at k;cases k
 show ak _ X.A (Ag X.env (.ref ea)) _ _ _
 refine aV (r9 (yT _ _) (zz (s:={ s1 with heap:=h',toks:=tk' }) (base:=B) (outer:=outer) (L:=X.env.locals) (h:=hx) (Q:=fun _ s2=>∃ h2,s2={ s1 with heap:=h2,toks:=tk' }/\j_ B outer ea (.ref C) (.ref t) h2/\h'.UpToSlots h2) (E:=fun _ _=>False) I.ok.frames rfl stB
  (pE (I.stack.of_keeps fun b o e _=>⟨o,kx b o e,rfl⟩) hin) (fun b o e=>jl _ e) (DO _ (cg.2 rfl)) he fun h2 fl up=>⟨h2,rfl,fl,up⟩)) (fun _ s2 h2=>?_) fun _ _ z=>z.1.elim
 obtain ⟨⟨h2,rfl,fl,up⟩,dk⟩:=h2
 have st2:=fl.1
 have bl:∀ b o,s.heap.get? b=some o->b∉lv outer->b∉lv X.stack:=fun b o e n z=>by
  rcases List.mem_cons.mp (I.stkSub b z) with y|y
  ·exact absurd (al e) (by rw [y];exact Nat.not_lt.mpr I.ok.above)
  ·exact n y
 have noex:∀ b:ah,b∉X.ex:=fun b z=>absurd (show b∈([] : List ah) from z) (by simp)
 have nDs:∀ b o,s.heap.get? b=some o->b≠D:=fun b o e z=>by
  obtain ⟨o',k⟩:=I.base.there b o e (noex b)
  rw [z,nD] at k;cases k
 have cov:∀ b u,upd H1 D (.xd [("number",v)]) b=some u->∃ o,B.get? b=some o:=fun b u e=>by
  by_cases z:b=D
  ·rw [z];exact ⟨_,BD⟩
  ·rw [aO z] at e
   have hb:b∉lv X.stack:=fun z=>by have:=I.stkFree b z;rw [e] at this;cases this
   obtain ⟨o,k⟩:=rf I.hok e
   exact ⟨o,nS b hb o k⟩
 refine ⟨ea,C,t,upd H1 D (.xd [("number",v)]),B,some D,rfl,I.os,I.bare,⟨fl,cov,fun b o e n hb=>?_,fun b o e hb=>?_,⟨fun b o e n hb hx'=>?_,fun b o e n hb hx'=>?_,fun b o e n _=>?_,fun b o e _=>?_,fun b xs e=>?_,fun b o xs e=>?_,fun b ps e=>?_⟩,fun b u e=>?_⟩,?_,q⟩
 ·exact nS b (bl b o e hb) o (I.base.keep b o e n hb (noex b))
 ·obtain ⟨o',k⟩:=I.base.there b o e (noex b)
  exact ⟨o',nS b (bl b o e hb) o' k⟩
 ·exact st2 b o (nS b (bl b o e hb) o (I.base.keep b o e n hb (noex b)))
 ·obtain ⟨sl,k⟩:=I.base.slot b o e n hb (noex b)
  obtain ⟨_,o',k1,k2⟩:=bW I.funs hb
  rw [k] at k1;cases k1
  obtain ⟨sl',k3⟩:=up b _ (kp _ _ k) k2
  exact ⟨sl',k3⟩
 ·rw [aO (nDs b o e)];exact I.base.free b o e n (noex b)
 ·obtain ⟨o',k⟩:=I.base.there b o e (noex b)
  by_cases hb:b∈lv outer
  ·obtain ⟨_,o2,k1,_⟩:=bW fl.2.2.1 hb
   exact ⟨o2,k1⟩
  ·exact ⟨o',st2 b o' (nS b (bl b o e hb) o' k)⟩
 ·have z:=I.base.tups b xs e;rw [aO (aY z hD1)];exact z
 ·have z:=I.base.frzs b o xs e;rw [aO (aY z hD1)];exact z
 ·obtain ⟨m,z⟩:=I.base.tbls b ps e
  exact ⟨m,by rw [aO (aY z hD1)];exact z⟩
 ·by_cases z:b=D
  ·subst z
   rw [aT] at e;cases e
   exact ⟨mA,⟨oD,esD,epD,st2 _ _ BD,hdD⟩,rl⟩
  ·rw [aO z] at e
   refine (I.hok b u e).stay (fun c o hc k=>?_) (fun c q=>by rw [aO (aY q hD1)];exact q) fun c xs q=>by rw [aO (aY q hD1)];exact q
   have hcs:c∉lv X.stack:=fun z=>by
    have:=I.stkFree c z
    rcases hc with y|y
    ·rw [y,e] at this;cases this
    ·rw [y] at this;cases this
   exact st2 c o (nS c hcs o k)
 ·intro d z
  cases z
  obtain ⟨oe,k,_⟩:=fl.there
  exact ⟨oe,k,dk.at he k⟩
theorem BM:fu (.type "ValueError") "number"=pure none:=by rw [uC,lW];kernel_rfl
theorem U1     (O:Hw x C mg base) (hr:(eK (ja P w) P w K mg base N qual scope f cd A outer s H E).A.depth+5<gD)
  (hg:Gl (eK (ja P w) P w K mg base N qual scope f cd A outer s H E) x) (ha:PA (eK (ja P w) P w K mg base N qual scope f cd A outer s H E) [e0] ta)
  (he:aw [e0] (eK (ja P w) P w K mg base N qual scope f cd A outer s H E).env=[(false,cz e0 (eK (ja P w) P w K mg base N qual scope f cd A outer s H E).env)]:=by rfl)
  (hdb:(x==("__debug__" : Str))=false:=by decide) :
  PS (eK (ja P w) P w K mg base N qual scope f cd A outer s H E) (.Raise (some (.Call (.Name x np) [e0] [] cpos)) none pos) (fun D σ H1=>ta σ H1 fun vs H2=>vs.length=1/\E (.ref C) none H2):=by
 intro pins s1 σ H1 D I h
 obtain ⟨nm,q,Nn,bs,bm,sn,sub,ab,col,dd,k0,k1,k2,k3,k5,mN,fI,hC,hN,hi,hsa,hnu,T,IF⟩:=O.obj
 obtain ⟨oI,_,_,_,_,_,hoI,hfc,_⟩:=id IF.ex
 refine xl (C:=C) (nm:=nm) (q:=q) (N:=Nn) (bs:=bs) (bm:=bm) (hdct:=true) (sn:=sn) (sub:=sub) (ab:=ab) (col:=col) (dd:=dd) (k0:=k0) (k1:=k1) (k2:=k2) (k3:=k3) (k5:=k5) (fI:=fI) (oI:=oI)
  md (mN:=mN) (T.hasType PySem.F.excBase_ValueError.hasBase) (I.ok.hd rfl) (by rw [he];rfl) hi hfc (sg I hg O.bound ⟨rfl,?_⟩ hdb)
 have hx:=ha cpos pins s1 σ H1 _ I h
 rw [he] at hx ⊢
 refine li (fL hx fun us s2 ⟨vs,H2,I2,r2,z,qE⟩=>?_)
 have kb:∀ b o,base.get? b=some o->s2.heap.get? b=some o:=I2.bk
 have hl:=r2.length
 rw [z] at hl
 match us,hl with
 |[u],_ =>
  refine ⟨rfl,by show 1<=sizeLine;rw [vW];omega,kb _ _ hC,hN.keeps kb,(T.ownTail (by simp)).keeps kb,kb _ _ hoI,fun h' ea hm=>?_⟩
  obtain ⟨t,ht,_,_⟩:=hm.there
  have kh:∀ b o,base.get? b=some o->h'.get? b=some o:=fun b o e=>hm.keeps b o (kb b o e)
  refine KU (s:={ s2 with heap:=h' }) IF kh ?_ (I2.nolimit.keeps hm.keeps) As (T.keeps kh) (kh _ _ hC) (hN.keeps kh) (by simp) hsa (by simp) hnu BM ht rfl (fun c z=>nomatch z) rfl fun h2 tk2 Dx e1 e2=>?_
  ·have hw:∀ r,oK (.builtin "type.__call__" ⟨.ref C::r,[]⟩)<=5:=fun r=>by
    have e:oK (.builtin "type.__call__" ⟨.ref C::r,[]⟩)=oK (.builtin "type.__call__" ⟨[.ref 0],[]⟩):=rfl
    rw [e]
    decide +kernel
   exact jJ (uL (hw [u]) _) hr
  ·have kp:∀ b o,s2.heap.get? b=some o->h2.get? b=some o:=fun b o e=>e2 b o (fun z=>by rw [z,hm.new] at e;cases e) (hm.keeps b o e)
   exact ⟨rfl,kp _ _ (kb _ _ hC),⟨some Dx,t,#[],e1⟩,AK (s1:=s2) (tk':=tk2) I2 kp hm.new e1 qE⟩
theorem KW     (O:Hw x C mg base) (hr:(eK (ja P w) P w K mg base N qual scope f cd A outer s H E).A.depth+5<gD)
  (hg:Gl (eK (ja P w) P w K mg base N qual scope f cd A outer s H E) x) (ha:PA (eK (ja P w) P w K mg base N qual scope f cd A outer s H E) [e0] ta)
  (he:aw [e0] (eK (ja P w) P w K mg base N qual scope f cd A outer s H E).env=[(false,cz e0 (eK (ja P w) P w K mg base N qual scope f cd A outer s H E).env)]:=by rfl)
  (hdb:(x==("__debug__" : Str))=false:=by decide) :
  PS (eK (ja P w) P w K mg base N qual scope f cd A outer s H E) (.Raise (some (.Call (.Name x np) [e0] [] cpos)) none pos) (fun D σ H1=>ta σ H1 fun vs H2=>∃ v,vs=[v]/\∀ dx,H2 dx=none->E (.ref C) (some dx) (upd H2 dx (.xd [("number",v)]))):=by
 intro pins s1 σ H1 D I h
 obtain ⟨nm,q,Nn,bs,bm,sn,sub,ab,col,dd,k0,k1,k2,k3,k5,mN,fI,hC,hN,hi,hsa,hnu,T,IF⟩:=O.obj
 obtain ⟨oI,_,_,_,_,_,hoI,hfc,_⟩:=id IF.ex
 refine xl (C:=C) (nm:=nm) (q:=q) (N:=Nn) (bs:=bs) (bm:=bm) (hdct:=true) (sn:=sn) (sub:=sub) (ab:=ab) (col:=col) (dd:=dd) (k0:=k0) (k1:=k1) (k2:=k2) (k3:=k3) (k5:=k5) (fI:=fI) (oI:=oI)
  md (mN:=mN) (T.hasType PySem.F.excBase_ValueError.hasBase) (I.ok.hd rfl) (by rw [he];rfl) hi hfc (sg I hg O.bound ⟨rfl,?_⟩ hdb)
 have hx:=ha cpos pins s1 σ H1 _ I h
 rw [he] at hx ⊢
 refine li (fL hx fun us s2 ⟨vs,H2,I2,r2,v,z,qE⟩=>?_)
 have kb:∀ b o,base.get? b=some o->s2.heap.get? b=some o:=I2.bk
 subst z
 obtain ⟨u,rfl,ru⟩:=r2.one
 ·refine ⟨rfl,by show 1<=sizeLine;rw [vW];omega,kb _ _ hC,hN.keeps kb,(T.ownTail (by simp)).keeps kb,kb _ _ hoI,fun h' ea hm=>?_⟩
  obtain ⟨t,ht,_,_⟩:=hm.there
  have kh:∀ b o,base.get? b=some o->h'.get? b=some o:=fun b o e=>hm.keeps b o (kb b o e)
  refine Hv (s:={ s2 with heap:=h' }) IF kh ?_ (I2.nolimit.keeps hm.keeps) As (T.keeps kh) (kh _ _ hC) (hN.keeps kh) (by simp) hsa (by simp) hnu BM ht rfl (fun c z=>nomatch z) rfl fun h2 tk2 Dx e1 e2 e3 e4=>?_
  ·have hw:∀ r,oK (.builtin "type.__call__" ⟨.ref C::r,[]⟩)<=5:=fun r=>by
    have e:oK (.builtin "type.__call__" ⟨.ref C::r,[]⟩)=oK (.builtin "type.__call__" ⟨[.ref 0],[]⟩):=rfl
    rw [e]
    decide +kernel
   exact jJ (uL (hw [u]) _) hr
  ·have kp:∀ b o,s2.heap.get? b=some o->h2.get? b=some o:=fun b o e=>e2 b o (fun z=>by rw [z,hm.new] at e;cases e) (hm.keeps b o e)
   have nD:s2.heap.get? Dx=none:=by
    cases z:s2.heap.get? Dx with
    |none=>rfl
    |some o=>exact absurd (al (hm.keeps _ _ z)) (Nat.not_lt.2 e3)
   have hD:H2 Dx=none:=by
    cases z:H2 Dx with
    |none=>rfl
    |some o=>obtain ⟨o',k⟩:=rf I2.hok z;rw [nD] at k;cases k
   refine ⟨rfl,kp _ _ (kb _ _ hC),⟨some Dx,t,#[],e1⟩,AL (s1:=s2) (tk':=tk2) I2 kp hm.new e1 nD e4 (fun y=>?_) (qE Dx hD)⟩
   by_cases hy:y="number"
   ·subst hy;exact ru
   ·have:(([("number",v)] : List (Str×V)).lookup y)=none:=by rw [cw,beq_eq_false_iff_ne.mpr hy];rfl
    rw [this,if_neg hy];exact trivial
end
end
end L2
namespace J
open PySem L2
section
open PySem.W (nsIn nsOkIn codeIn fnOf)
def Vu:cF->Nat->cF
 |.ClassDef (body:=b) ..,j=>b.getD j (.Pass ⟨0,0,0,0⟩)
 |_,_=>.Pass ⟨0,0,0,0⟩
theorem Vv      (X:K.In h) (G:h.Ns N mg) (e:nsIn K N n=some (some v)):mg n=some v:=by
 obtain ⟨o,es,ep,ho,hd,_,hf⟩:=G
 unfold g9 at e
 split at e
 ·rename_i c d es' n' sl q
  have:=X _ _ q
  rw [ho] at this
  cases this
  cases hd
  split at e
  ·rename_i he
   rw [<- hf]
   unfold nsFind findBy
   rw [<- JU,he]
   cases e
   rfl
  ·split at e<;>cases e
 ·cases e
structure Vw (K:a7) (x:Str) (C:ah) (st:cF):Prop where
 ns:nsIn K bq x=some (some (.ref C))
 own:∀ {h:bt}{mg:Str->Option ae},K.In h->h.Ns bq mg->Hw x C mg h
 mb:cb K C (.type "BaseException")=some true
 ox:∀ {h:bt},K.In h->∃ bm,CO h C bm/\∀ v,(v==bj C)=false->cb K C v=some true->bm.contains v=true
theorem topN {K:a7}{x:Str}{C CP fI T0 Nn NP:ah}{st:cF}{nm qn nmP qnP fq:Str}{bs bsP mroP subP sub:List ae}{sn snP:List Str}{ab abP hdP delP:Bool}{col colP:Option Bool}{dd dP od dT an:Option ah}{k0 k1 k2 k3 k5:Option ae}{c0 kV doc pm cdv ct cT:ae}{slP slF slT:Array (Option ae)}{nT:Nat}{p1 p2 p3 p4:Pos}{cN cM:ae}{dN dM:Option ah}{esN esM:Array DictEntry}{epN epM:Nat}{slN slM:Array (Option ae)}
  (a1:nsIn K bq x=some (some (.ref C))) (a4:cb K C (.type "BaseException")=some true)
  (a2:K.lookup C=some ⟨.type "type",dd,.cls ⟨nm,bs,[.ref C,.ref CP,.type "ValueError",.type "Exception",.type "BaseException",.type "object"],Nn,qn,true,sn,sub,ab,col,false⟩,#[k0,k1,k2,k3,some (.builtin "ValueError.__new__"),k5]⟩)
  (a3:K.lookup CP=some ⟨c0,dP,.cls ⟨nmP,bsP,mroP,NP,qnP,hdP,snP,subP,abP,colP,delP⟩,slP⟩)
  (b1:nsIn K Nn "__init__"=some (some (.ref fI))) (b2:nsIn K Nn "__setattr__"=some none) (b3:nsIn K Nn "number"=some none)
  (c1:nsIn K NP "__init__"=some none) (c2:nsIn K NP "__setattr__"=some none) (c3:nsIn K NP "number"=some none)
  (d1:K.lookup fI=some ⟨.type "function",od,.func (fnOf "__init__" fq (kH st) (gU st) (av st) (.ref T0) kV doc pm an cdv ct),slF⟩)
  (d2:K.lookup T0=some ⟨cT,dT,.seq #[.none] nT,slT⟩) (d3:codeIn K cdv fq=true)
  (g1:K.lookup Nn=some ⟨cN,dN,.dict esN epN,slN⟩) (g2:K.lookup NP=some ⟨cM,dM,.dict esM epM,slM⟩) (g3:(esN.toList.all fun e=>match e.key with | .str _ _=>true|_=>false)=true) (g4:(esM.toList.all fun e=>match e.key with | .str _ _=>true|_=>false)=true)
  (f1:gU st=[.Assign [.Attribute (.Name "self" p1) "number" p2] (.Name "number" p3) p4]) (f2:(av st).names=[(("self" : Str),qJ),(("number" : Str),qJ)])
  (f3:(av st).isCoroutine=false) (f4:(av st).isGenerator=false) (f5:(av st).kind=.function)
  (f6:∀ e v,∃ k,P6 (fnOf "__init__" fq (kH st) (gU st) (av st) (.ref T0) kV doc pm an cdv ct) ⟨[e,v],[]⟩=LJ (.ref T0) >>= k/\k (some #[.none])=pure [(("self" : Str),e),(("number" : Str),v)]):Vw K x C st:=by
 have e1:nsOkIn K Nn=true:=by unfold M5;rw [g1];show esN.all _=true;rw [<- xI];exact g3
 have e2:nsOkIn K NP=true:=by unfold M5;rw [g2];show esM.all _=true;rw [<- xI];exact g4
 refine ⟨a1,fun {h mg} X G=>⟨i3 X G a1,nm,qn,Nn,bs,_,sn,sub,ab,col,dd,k0,k1,k2,k3,k5,h.nsMap Nn,fI,X _ _ a2,.of_isNs (m9 X e1),?_,eh X e1 b2,eh X e1 b3,?_,⟨_,_,p1,p2,p3,p4,X _ _ d1,rfl,rfl,tR X d3,f3,f4,f5,f2,congrArg FuncBody.stmts f1,fun s e v kb=>?_⟩⟩,a4,fun {h} X=>⟨_,⟨⟨nm,qn,Nn,bs,true,sn,sub,ab,col,dd,k0,k1,k2,k3,k5,_,X _ _ a2⟩,rfl⟩,fun v nv hv=>?_⟩⟩
 ·exact Vv X (.of_isNs (m9 X e1)) b1
 ·refine .own (X _ _ a3) (.of_isNs (m9 X e2)) (fun n hn=>?_) .base
  rcases List.mem_cons.mp hn with z|hn
  ·rw [z];exact eh X e2 c1
  rcases List.mem_cons.mp hn with z|hn
  ·rw [z];exact eh X e2 c2
  ·rw [List.mem_singleton.mp hn];exact eh X e2 c3
 ·obtain ⟨k,k1,k2⟩:=f6 e v
  exact BindsTo.of_defaults rfl (kb _ _ (X _ _ d2)) rfl k1 k2
 ·unfold cb gE at hv
  rw [a2] at hv
  have:(bj C::[bj CP,.type "ValueError",.type "Exception",.type "BaseException",.type "object"]).contains v=true:=by simpa using hv
  rw [i4,nv,uM] at this
  exact this
def vm (x:Str) (gs:az->R (List D)):az->R Fl:=fun ρ=>(gs ρ).bind fun ds=>match ds with
 |[d]=>.ex x (some d)
 |_=>.no
theorem XM  (hr:jY k A):A.depth+5<gD:=by have:=hr.dp;omega
section
variable {P:bd}{w:bv}{K:a7}{mg:Str->Option ae}{base:bt}{N:List Str}{qual:Str}{scope:gq}{f:ah}{cd:ae}{A:bO}{outer:List Env}{s:ai}{H:Hp}{E:XK}{cls:Str->ah}
theorem BN    (R0:Hw x (cls x) mg base) (hr:(eK (ja P w) P w K mg base N qual scope f cd A outer s H E).A.depth+5<gD)
  (hg:Gl (eK (ja P w) P w K mg base N qual scope f cd A outer s H E) x) (ha:G5 ⟨eK (ja P w) P w K mg base N qual scope f cd A outer s H E,cls,E⟩ [e0] gs)
  (he:aw [e0] (eK (ja P w) P w K mg base N qual scope f cd A outer s H E).env=[(false,cz e0 (eK (ja P w) P w K mg base N qual scope f cd A outer s H E).env)]:=by rfl)
  (hdb:(x==("__debug__" : Str))=false:=by decide) :
  JS ⟨eK (ja P w) P w K mg base N qual scope f cd A outer s H E,cls,E⟩ (.Raise (some (.Call (.Name x np) [e0] [] cpos)) none pos) (vm x gs):=.of fun ρ=>by
 refine AD (KW R0 hr hg (ha ρ) he hdb) fun D σ H1 h_1=>?_
 obtain ⟨H0,Hs0,la,Hs,f,q⟩:=h_1
 replace q:oj K cls E H0 Hs0 la D (vm x gs ρ):=q
 refine ⟨H0,Hs0,la,Hs,f,?_⟩
 unfold vm at q
 cases hr:gs ρ with
 |no=>rw [hr] at q;exact q
 |ex y n=>rw [hr] at q;exact fun H' Hs' s=>q H' Hs' (f.st.trans s)
 |ok ds =>
  rw [hr,bind_ok] at q
  intro vs H2 Hs2 s2 r2
  rcases ds with _|⟨d,_|⟨d2,r⟩⟩
  ·exact q.elim
  ·cases r2 with
   |cons r2 z =>
    cases z
    exact ⟨_,rfl,fun dx hdx=>q _ _ ((f.st.trans s2).trans (.new s2.sub hdx)) dx _ aT (r2.same (iA (s2.sub.free hdx)))⟩
  ·exact q.elim
end
end
section
section
end
end
end J
section
namespace L2
open PySem PySem.Spec PyProof.Rows
end L2
namespace L2
open PySem PySem.Spec PyProof.Rows
end L2
namespace J
open PySem L2
end J
end
namespace J
open PySem L2
section
end
end J
namespace L2
open PySem PySem.Spec PyProof.Rows
section
section
end
end
end L2
namespace J
open PySem L2
section
section
variable {c:C}{pos:Pos}{x:Str}{kx vx iter tg:bL}{ifs:List bL}{scope:gq}{N':List Str}{nt:Nat}{ix:List Nat}{gi:az->R (List D)}{gt:az->R Bool}{gk gv:az->R D}
end
end
end J
section
namespace L2
open PySem PySem.Spec PyProof.Rows
end L2
namespace J
open PySem L2
section
end
end J
end
namespace J
open PySem L2
section
end
section
end
section
def X2 (p:HO->Bool) (H Hs:Hp):Hp:=fun b=>match Hs b,H b with
 |some o,_=>some o
 |none,some o=>if p o then some o else none
 |none,none=>none
def Y2 (p:HO->Bool) (H Hs Hs1:Hp):Hp:=fun b=>match Hs b,H b with
 |none,some o=>if p o then none else Hs1 b
 |_,_=>Hs1 b
section
end
inductive Vx (p:HO->Bool) (K:a7) (cls:Str->ah) (E:XK) (ρ:az) (r:R (List D)) (σ:St) (H:Hp) (Q:List V->Hp->Prop):Prop
 |mk (H0 Hs0:Hp) (la:Nat->Option ah) (Hs:Hp) (f:Fr K H0 Hs0 la ρ σ H Hs) (q:Fin K cls E H Hs r fun d=>∀ v H' Hs',cD H Hs H' Hs'->RDs K (X2 p H' Hs') v d->Q v H'):Vx p K cls E ρ r σ H Q
structure JL (p:HO->Bool) (c:C) (es:List bL) (g:az->R (List D)):Prop where of ::
 run:∀ ρ,PA c.X es (Vx p c.X.K c.cls c.E ρ (g ρ))
section
end
end
section
section
end
end
end J
section
namespace L2
open PySem PySem.Spec PyProof.Rows
end L2
namespace J
open PySem L2
end J
end
namespace J
open PySem L2
section
section
end
end
end J
section
namespace L2
open PySem PySem.Spec PyProof.Rows
inductive Vy (X:Cx) (CX:LN) (E:XK) (t:TA) (σ:St) (Q:VK) (v:V) (H1:Hp):Prop
 |mk (k:Nat) (f:ah) (fd:eI) (ps:List Str) (sp:Sp) (h0:v=.ref f) (F:sZ X.prog X.w X.K X.mg X.base CX k f fd ps sp) (hr:jY k X.A) (hk:dL X.K (.ref f)=true) (hb:k8 X.K fd ps []) (q:Iz sp [] E t σ H1 Q):Vy X CX E t σ Q v H1
end L2
namespace J
open PySem L2
inductive EX (c:C) (n j:Nat):List bL->List (List D->R D)->List ah->Prop
 |nil:EX c n j [] [] []
 |cons {x:Str}{p:Pos}{F:List D->R D}{k:Nat}{f:ah}{fd:eI}{ps:List Str}{es:List bL}{Fs:List (List D->R D)}{as:List ah} (hf:sZ c.X.prog c.X.w c.X.K c.X.mg c.X.base (ja c.X.prog c.X.w) k f fd ps (Rz c.X.K c.cls n F)) (hm:c.X.mg x=some (.ref f)) (hk:dL c.X.K (.ref f)=true) (hb:k8 c.X.K fd ps []) (hj:k<=j) (hg:Gl c.X x) (hdb:(x==("__debug__" : Str))=false) (r:EX c n j es Fs as):EX c n j (.Name x p::es) (F::Fs) (f::as)
section
inductive Oh (c:C) (n j:Nat) (F:List D->R D) (f:ah):Prop
 |mk (k:Nat) (fd:eI) (ps:List Str) (hf:sZ c.X.prog c.X.w c.X.K c.X.mg c.X.base (ja c.X.prog c.X.w) k f fd ps (Rz c.X.K c.cls n F)) (hk:dL c.X.K (.ref f)=true) (hb:k8 c.X.K fd ps []) (hj:k<=j):Oh c n j F f
theorem KY (h:EX c n j es Fs as):∀ {i:Nat}{F:List D->R D},Fs[i]?=some F->∃ f,as[i]?=some f/\Oh c n j F f:=by
 induction h with
 |nil=>intro i F e;simp at e
 | @cons x p F k f fd ps es Fs as hf hm hk hb hj hg hdb r ih =>
  intro i F e;cases i with
  |zero=>cases e;exact ⟨f,rfl,k,fd,ps,hf,hk,hb,hj⟩
  |succ i=>have q:=ih (i:=i) e;exact q
def S4 (Fs:List (List D->R D)) (n:Nat) (gi:az->R D) (gs:az->R (List D)) (ρ:az):R Fl:=(gi ρ).bind fun d=>match d with
 |.int k=>if 0<=k then (match Fs[k.toNat]? with
  |some F=>(gs ρ).bind fun ds=>if ds.length=n then (F ds).bind fun d=>.ok (.rt d) else .no
  |none=>.no) else .no
 |_=>.no
theorem CC       (P:EX c n j es Fs as) (hr:jY j c.X.A) (f:Fr c.X.K H0 Hs0 la ρ σ H Hs) (ha:H a=some (.lst (as.map V.ref))) (q:oj c.X.K c.cls c.E H0 Hs0 la D' (S4 Fs n gi gs ρ)) :
  TR c.X.K c.cls c.E ρ (gi ρ) σ H fun y H2=>Ur c.X.K (.ref a) y H2 (Vy c.X (ja c.X.prog c.X.w) c.E (W0 c.X.K c.cls c.E ρ (gs ρ)) σ D'.rt):=by
 refine sE f q fun d v H2 Hs2 e1 s1 f2 r1=>?_;unfold S4 at q;rw [e1,bind_ok] at q;cases r1 with
 |int k =>
  simp only at q;by_cases hk:0<=k
  ·rw [if_pos hk] at q;split at q
   ·rename_i F hF
    obtain ⟨g,h1,k',fd,ps,hf,hkp,hb,hj⟩:=KY P hF;have hix:DJ (as.map V.ref) k=some (.ref g):=by
     have:=si (xs:=as.map V.ref) (j:=k.toNat) (v:=V.ref g) (by rw [aJ,h1];rfl)
     rwa [dU hk] at this
    refine ⟨a,as.map V.ref,k,.ref g,rfl,rfl,.of (s1.all _ _ ha),hix,k',g,fd,ps,_,rfl,hf,hr.mono hj,hkp,hb,H0,Hs0,la,Hs2,f2,?_⟩;cases hg:gs ρ with
    |no=>rw [hg] at q;exact q.elim
    |ex y m=>rw [hg] at q;exact fun H3 Hs3 s3=>q H3 Hs3 (f2.st.trans s3)
    |ok ds =>
     rw [hg,bind_ok] at q;intro vs H3 Hs3 s3 r3;have f3:=f2.step s3;by_cases hn:ds.length=n
     ·rw [if_pos hn] at q;show Rz _ _ _ _ (vs++[]) _ _ _;rw [cr];refine ⟨Hs3,ds,f3.st.sub,hn,r3,?_⟩;cases hFd:F ds with
      |no=>rw [hFd] at q;exact q.elim
      |ex y m=>rw [hFd] at q;exact fun H4 Hs4 s4=>q H4 Hs4 (f3.st.trans s4)
      |ok d=>rw [hFd] at q;exact fun v H4 Hs4 s4 r4=>q v H4 Hs4 (f3.st.trans s4) r4
     ·rw [if_neg hn] at q;exact q.elim
   ·exact q.elim
  ·rw [if_neg hk] at q;exact q.elim
 |list _ _=>exact q.elim
 |none=>exact q.elim
 |bool _=>exact q.elim
 |str _=>exact q.elim
 |tuple _ _=>exact q.elim
 |dictK _ _=>exact q.elim
 |dictT _ _ _=>exact q.elim
 |dictF _ _ _=>exact q.elim
end
end J
namespace J
open PySem L2
end J
end
namespace TS
open PySem PyProof.Rows
section
section
variable {prog:bd}{w:bv}{A:bO}{E:ae->ai->Prop}{s:ai}{kd:we}{rk:ae->Nat}{L:List jX}
def Cp (prog:bd) (w:bv) (A:bO) (s:ai) (kd:we) (rk:ae->Nat) (L:List jX):Prop :=
 ∀ x∈L,∀ y∈L,∀ (Q:Bool->ai->Prop) (E:ae->ai->Prop),Q (decide (rk x.1<rk y.1)) s->ak (ay prog w) A (keyLt' kd x.1 y.1) Q E s
variable {l:Bool}{k:jX}{a:Array jX}{b n h i:Nat}{g:Nat->Nat}{st:M6}
end
end
section
structure Mg {α:Type} (lt:α->α->Prop) (T out ra rb:List α):Prop where
 perm:(out++ra++rb).Perm T
 so:out.Pairwise lt
 sa:ra.Pairwise lt
 sb:rb.Pairwise lt
 oa:∀ x∈out,∀ y∈ra,lt x y
 ob:∀ x∈out,∀ y∈rb,lt x y
section
variable {α:Type}{lt:α->α->Prop}{T out ra rb p:List α}
end
section
variable {a:Array jX}{i k:Nat}{x:jX}
end
section
variable {rk:ae->Nat}{a:Array jX}{L:List jX}
end
end
section
section
variable {prog:bd}{w:bv}{A:bO}{E:ae->ai->Prop}{s:ai}{kd:we}{rk:ae->Nat}{L:List jX}{st st':M6}
def XN (rk:ae->Nat) (x y:jX):Prop:=rk x.1<rk y.1
def V (rk:ae->Nat) (a b out:Array jX) (ia ib:Nat):Prop:=Mg (XN rk) (a.toList++b.toList) out.toList (a.toList.drop ia) (b.toList.drop ib)
variable {a b out:Array jX}{ia ib k:Nat}{p q:jX}
end
end
section
section
variable {prog:bd}{w:bv}{A:bO}{E:ae->ai->Prop}{s:ai}{kd:we}{rk:ae->Nat}{L:List jX}{st st':M6}
def W (rk:ae->Nat) (a b out:Array jX) (na nb:Nat):Prop:=Mg (fun x y=>XN rk y x) (a.toList++b.toList) out.toList (a.toList.take na).reverse (b.toList.take nb).reverse
variable {a b out:Array jX}{n m k:Nat}{p q:jX}
end
end
section
section
variable {prog:bd}{w:bv}{A:bO}{E:ae->ai->Prop}{s:ai}{kd:we}{rk:ae->Nat}{L:List jX}{st:M6}{a:Array jX}
end
end
section
section
variable {prog:bd}{w:bv}{A:bO}{E:ae->ai->Prop}{s:ai}{kd:we}{rk:ae->Nat}{L:List jX}{st:M6}{a:Array jX}
end
end
section
section
variable {prog:bd}{w:bv}{A:bO}{E:ae->ai->Prop}{s:ai}{kd:we}{rk:ae->Nat}{L:List jX}{st:M6}{a:Array jX}
end
end
end TS
namespace TS
open PySem PyProof.Rows PySem.W
section
def tl:List Str->List Str->Bool
 |[],[]=>false
 |[],_::_=>true
 |_::_,[]=>false
 |x::xs,y::ys=>if x=y then tl xs ys else decide (x.cps.toList<y.cps.toList)
section
variable {prog:bd}{w:bv}{A:bO}{E:ae->ai->Prop}{s:ai}
end
end
section
section
end
end
section
section
end
end
end TS
namespace L2
open PySem PySem.Spec PyProof.Rows PySem.W
section
section
end
end
section
section
end
section
end
end
end L2
namespace J
open PySem L2
section
end
end J
section
namespace L2
open PySem PySem.Spec PyProof.Rows PySem.W
end L2
namespace J
open PySem L2
end J
end
namespace J
open PySem PySem.Spec PyProof.Rows L2
section
section
end
end
end J
section
namespace L2
open PySem PySem.Spec PyProof.Rows
end L2
namespace J
open PySem L2
end J
end
namespace L2
open PySem PySem.Spec PyProof.Rows
section
theorem vn {b:Bool} (kb:∀ b o,base.get? b=some o->s.heap.get? b=some o) (x:CO base C bm) (y:CO base Cp bp)
  (hm:(bj C::bm).contains (.ref Cp)=b) (he:s.heap.get? ea=some oe) (hcls:oe.cls=.ref C) (h:Q b s):ak M A (excMatches (.ref ea) (.ref Cp)) Q E s:=by
 obtain ⟨⟨nm,q,Nn,bs,hdct,sn,sub,ab,col,dd,k0,k1,k2,k3,k5,newId,o1⟩,x2⟩:=x
 obtain ⟨⟨nm',q',Nn',bs',hdct',sn',sub',ab',col',dd',k0',k1',k2',k3',k5',newId',o2⟩,y2⟩:=y
 have hC:=kb _ _ o1
 have hP:=kb _ _ o2
 have c2:(bj Cp::bp).contains (.type "BaseException")=true:=by rw [i4,y2,G1]
 have f:=tc_notTuple
 obtain ⟨hp,g,d,tk,os⟩:=s
 unfold excMatches
 cases b
 all_goals
  repeat (first
   |(with_reducible refine dw he ?_;rw [hcls])
   |with_reducible refine dw hP ?_
   |(with_reducible refine jL hC ?_;rw [hm])
   |(with_reducible refine jL hP ?_;rw [c2])
   |wp_step)
  exact h
structure Hd where
 x:Str
 np:Pos
 n:Str
 i:Nat
 Cp:ah
 b0:cF
 suite:List cF
 hpos:Pos
 ts:TS
def Hd.h (d:Hd):ExceptHandler:=.ExceptHandler (some (.Name d.x d.np)) (some d.n) (d.b0::d.suite) d.hpos
structure X3 (X:Cx) (d:Hd):Prop where
 hg:Gl X d.x
 hm:X.mg d.x=some (.ref d.Cp)
 y:∃ bp,CO X.base d.Cp bp
 hi:X.N[d.i]?=some d.n
 hn:X.env.scope.names.lookup d.n=some .local
 hs:∀ ea,Cm (Q9 X ea) (d.b0::d.suite) d.ts
 hdb:(d.x==("__debug__" : Str))=false
def Oi (X:Cx) (D:Ck):List Hd->XK
 |[],_,_,_=>False
 |d::r,c,dx,H'=>∃ C bm,c=.ref C/\CO X.base C bm/\(((bj C::bm).contains (.ref d.Cp)=true/\∀ ea,H' ea=none->d.ts { nx:=fun _ H=>D.nx (xL X) H,rt:=D.rt } ((xL X).set d.i (some (.ref ea))) (upd H' ea (v7 dx ea C))) \/
  ((bj C::bm).contains (.ref d.Cp)=false/\Oi X D r c dx H'))
theorem QH {X:Cx}{body:List cF}{tb:XK->TS}{pos:Pos} (d0:Hd) (hs:List Hd) (hok:∀ d∈d0::hs,X3 X d) (hN:X.N.Nodup) (hst:∃ l,X.stack=X.env::l/\X.env.frame=some X.env.locals) (hex:X.ex=[])
  (hb:∀ (E:XK) (xe:ae->ai->Prop) (pn:List (ah×Obj)),o6 (ja X.prog X.w) (T8 X xe pn) E->Cm (T8 X xe pn) body (tb E)) :
  PS X (.Try body (d0.h::hs.map Hd.h) [] [] pos) (fun D σ H=>tb (Oi X D (d0::hs)) D σ H):=by
 intro pins s σ H D I h0
 obtain ⟨l,hl,hfr⟩:=hst
 have ok:=I.ok
 refine wpAny_Try_except ?_
 let xe:ae->ai->Prop:=fun e s₁=>ak (ay X.prog X.w) X.A (sW e X.env) (fun _ s₂=>ak (ay X.prog X.w) X.A (setFlight e none) (fun _ s₃ =>
  ak (ay X.prog X.w) X.A (handleBy e X.env ((d0::hs).map Hd.h)) (SP X pins D) X.xe s₃) X.xe s₂) X.xe s₁
 have hp:o6 (ja X.prog X.w) (T8 X xe (X.pn++pins)) (Oi X D (d0::hs)):=by
  intro pins' σ' H1 s1 e s' I' hx
  have I1:bx X pins σ' H1 s1:=I'.outT ok
  have hp':=iT
  obtain ⟨ea,C,t,H',B,dx,rfl,os,bare,air,lk,wish⟩:=hx
  have air:Ru X.prog X.w X.stack H1 H' s1.heap s'.heap B ea C t:=air
  have land:∀ h2,Ru X.prog X.w X.stack H1 H' s1.heap h2 B ea C t->bx X pins σ' H' { s' with heap:=h2 }:=fun h2 a =>
   I1.call' (s':={ s' with heap:=h2 }) (ch:=[]) os a.un a.hok bare (fun b z=>absurd z (by simp))
  have fly:=air.fly
  rw [hl] at fly
  show ak _ X.A (sW (.ref ea) X.env) _ _ s'
  refine aV (r9 (IJ _ _) (wpAny_looks_onW (base:=B) (outer:=l) (L:=X.env.locals) (Q:=fun _ s2=>∃ h2,s2={ s' with heap:=h2 }/\Heap.HeldW B (X.env::l) ea (.ref C) (.ref t) X.env.locals h2/\s'.heap.UpToSlots h2) (E:=fun _ _=>False) (by rw [ok.frames,hl]) hfr fly fun h2 hd2 up2=>⟨h2,rfl,hd2,up2⟩)) (fun _ s2 h2=>?_) fun _ _ z=>z.1.elim
  obtain ⟨⟨h2,rfl,hd2,up2⟩,dk2⟩:=h2
  refine aV (r9 (pI _ _) (wpAny_landsW (s:={ s' with heap:=h2 }) (Q:=fun _ s3=>∃ h3,s3={ s' with heap:=h3 }/\j_ B (X.env::l) ea (.ref C) (.ref t) h3/\h2.UpToSlots h3) (E:=fun _ _=>False) hd2 fun h3 fl3 up3=>⟨h3,rfl,fl3,up3⟩)) (fun _ s3 h3=>?_) fun _ _ z=>z.1.elim
  obtain ⟨⟨h3,rfl,fl3,up3⟩,dk3⟩:=h3
  have up3':=up2.trans up3
  have a3:=air.on (by rw [hl];exact fl3) up3'
  have I3:=land h3 a3
  obtain ⟨oe,he,hcl⟩:=fl3.there
  show ak (ay X.prog X.w) X.A (handleBy (.ref ea) X.env ((d0::hs).map Hd.h)) (SP X pins D) X.xe { s' with heap:=h3 }
  generalize d0::hs=ds at hok wish
  clear hp'
  induction ds with
  |nil=>exact wish.elim
  |cons d r ih =>
  obtain ⟨C',bm,hCe,ox,wish⟩:=wish
  cases hCe
  have dok:=hok d aq
  obtain ⟨bp,y⟩:=dok.y
  refine wpAny_handleBy_cons (codeAny_handlers_test (MU I3 dok.hg dok.hm ?_ dok.hdb)) (by intro q;cases q)
  rcases wish with ⟨hcp,hts⟩|⟨hcp,wish⟩
  case inr =>
   exact vn (base:=X.base) (s:={ s' with heap:=h3 }) I3.bk ox y hcp he hcl (ih (fun d hd=>hok d (ao _ hd)) wish)
  refine vn (base:=X.base) (s:={ s' with heap:=h3 }) I3.bk ox y hcp he hcl (codeAny_handlers_suite_as ?_)
  refine aV (r9 (pI _ _) (lands_againW (s:={ s' with heap:=h3 }) (Q:=fun _ s4=>∃ h4,s4={ s' with heap:=h4 }/\j_ B (X.env::l) ea (.ref C) (.ref t) h4/\h3.UpToSlots h4) (E:=fun _ _=>False) fl3 fun h4 fl4 up4=>⟨h4,rfl,fl4,up4⟩)) (fun _ s4 h4=>?_) fun _ _ z=>z.1.elim
  obtain ⟨⟨h4,rfl,fl4,up4⟩,dk4⟩:=h4
  have a4:=air.on (by rw [hl];exact fl4) (up3'.trans up4)
  have I4:=land h4 a4
  obtain ⟨oe4,ws,he4,hcl4,hd4,_⟩:=fl4.first
  have lk4:∀ d,dx=some d->oe4.dict=some d/\qQ oe4=true:=fun d z=>by
   obtain ⟨o,e1,e2⟩:=lk.on ((dk2.trans dk3).trans dk4) ⟨oe4,he4⟩ d z
   rw [he4] at e1;cases e1
   exact ⟨e2,by unfold qQ;rw [hd4]⟩
  have nB:B.get? ea=none:=fl4.2.1
  have nfr:ea∉lv X.stack:=fun z=>by
   obtain ⟨_,o',k1,k2⟩:=bW fl4.2.2.1 (by rw [<- hl];exact z)
   rw [he4] at k1;cases k1
   exact k2 _ hd4
  have n1:s1.heap.get? ea=none:=by
   cases q:s1.heap.get? ea with
   |none=>rfl
   |some o =>
    obtain ⟨o',k⟩:=air.all ea o q nfr
    rw [nB] at k;cases k
  have nH:H' ea=none:=by
   cases q:H' ea with
   |none=>rfl
   |some u =>
    obtain ⟨o',k⟩:=air.cov ea u q
    rw [nB] at k;cases k
  have nloc:ea≠X.env.locals:=fun z=>by
   obtain ⟨m,⟨o,_,_,k,_⟩,_⟩:=I1.loc
   rw [<- z,n1] at k;cases k
  have ncell:∀ x c,X.env.cells.lookup x=some c->c≠ea:=fun x c e z=>by
   obtain ⟨v,o,k,_⟩:=I1.cell x c e
   rw [z,n1] at k;cases k
  have npin:∀ p∈X.pn++pins,p.1≠ea:=fun p hp z=>by
   have k:=(I1.pin p hp).1
   rw [z,n1] at k;cases k
  have n0:X.s₀.heap.get? ea=none:=by
   cases q:X.s₀.heap.get? ea with
   |none=>rfl
   |some o =>
    by_cases hx:ea∈X.ex
    ·rw [hex] at hx;cases hx
    ·obtain ⟨o',k⟩:=I1.base.there ea o q hx
     rw [n1] at k;cases k
  have I5:=(I4.weak (σ':=xL X) (by rw [I4.len];simp [xL]) (fun j v z=>by
   unfold xL at z
   rw [bH] at z
   split at z<;>cases z)).track0 (ho:=v7 dx ea C) n0 nH nloc ncell npin (Q8 he4 hcl4 lk4)
  refine qT I5 hN dok.hi (.inl dok.hn) (v:=.ref ea) rfl (fun s6 I6=>?_) (.inr dok.hn)
  refine aV (dok.hs ea pins s6 _ _ _ (I6.inH ea) (hts ea nH)) (fun f s7 q7=>?_) fun _ _ z=>z.elim
  have fin:∀ {σ7:St}{H7:Hp}{Q':St->Hp->Prop},bx (Q9 X ea) pins σ7 H7 s7->(∀ s8,bx X pins (xL X) H7 s8->SP X pins D f s8)->ak (ay X.prog X.w) X.A (do Gd X.env d.n .none;unbindBehindTheSuite X.env d.n d.hpos) (fun _ s8=>SP X pins D f s8) X.xe s7:=fun {σ7 H7 Q'} J k=>by
   have J:=J.outH ok
   obtain ⟨m,hm7,_⟩:=J.loc
   exact wpAny_nameGoes dok.hn hm7 (by rw [ok.kind];rfl) fun h8 m8 hn8 sb8=>k _ (J.forget hn8 sb8)
  cases f with
  |next=>obtain ⟨σ7,H7,J,q⟩:=q7;exact fin (Q':=fun _ _=>True) J fun s8 I8=>⟨_,_,I8,q⟩
  |brk=>obtain ⟨σ7,H7,J,q⟩:=q7;exact q.elim
  |cont=>obtain ⟨σ7,H7,J,q⟩:=q7;exact q.elim
  |ret v=>obtain ⟨z,σ7,H7,J,r,q⟩:=q7;exact fin (Q':=fun _ _=>True) J fun s8 I8=>⟨z,_,_,I8,r,q⟩
 refine aV (hb _ xe (X.pn++pins) hp [] s σ H D (I.inT xe) h0) (fun f s1 q=>?_) fun e s1 q=>q
 have q:SP X pins D f s1:=by
  cases f with
  |next=>obtain ⟨σ',H',J,q⟩:=q;exact ⟨σ',H',J.outT ok,q⟩
  |brk=>obtain ⟨σ',H',J,q⟩:=q;exact ⟨σ',H',J.outT ok,q⟩
  |cont=>obtain ⟨σ',H',J,q⟩:=q;exact ⟨σ',H',J.outT ok,q⟩
  |ret v=>obtain ⟨z,σ',H',J,r,q⟩:=q;exact ⟨z,σ',H',J.outT ok,r,q⟩
 cases f with
 |next=>exact iG q
 |brk=>exact q
 |cont=>exact q
 |ret v=>exact q
end
end L2
section
namespace L2
open PySem PySem.Spec PyProof.Rows
section
variable {prog:bd}{w:bv}{A:bO}{E:ae->ai->Prop}{s:ai}{K:a7}{x C:ah}{Q:ae->ai->Prop}{b:Bool}
theorem Oj (Z:Ei K C) (X:K.In s.heap) (J:yr s.heap x ox C (some od)) (hf:PySem.W.findObj K C (some od) name=some (.value u)) (hu:JV u=true) (h:Q u { s with toks:=s.toks+1 }):ak (ay prog w) A (getAttr (.ref x) name b) Q E s:=by
 obtain ⟨hh,g,d,t,os⟩:=s
 have L0:=J.type (M:=ay prog w)
 have L1:=iy (M:=ay prog w) X Z.ga
 have L2:=iy (M:=ay prog w) X Z.gn
 have L3:=PySem.W.looks_find (M:=ay prog w) X J hf
 have L4:=G0 (M:=ay prog w) X Z.be
 unfold getAttr getAttrBy
 refine a6 (wpAny_mkText (bS (a6 (L0.at (a6 (L1.at ?_))))))
 show ak _ _ (uD (.ref x) (.str name t) (.ref C) (.builtin "BaseException.__getattribute__") true b) _ _ _
 unfold uD
 show ak _ _ (fu (.ref C) "__getattr__" >>= _) _ _ _
 refine a6 (L2.at (a6 (jW (bS ?_))))
 have e:callGetattribute (.ref x) (.str name t) (.builtin "BaseException.__getattribute__") b=w9 (.builtin "BaseException.__getattribute__") (.ref x) (.str name t):=by
  unfold callGetattribute
  cases b<;>rfl
 rw [e]
 unfold w9
 refine a6 (mV (F.excAttr_ValueError.ga.bind (.ref x)) ?_)
 show ak _ _ (call (.builtin "BaseException.__getattribute__") [.ref x,.str name t]) _ _ _
 refine kc (jn F.excAttr_ValueError.ga.plain F.entry_bexc_ga ?_)
 have hk:builtinKind "BaseException.__getattribute__"=some .slot:=by decide +kernel
 have hsp:splitId "BaseException.__getattribute__"=some ("BaseException","__getattribute__"):=by decide +kernel
 have hao:=F.args_bexc_ga (.ref x) (.str name t)
 simp only [m7,hk,hsp]
 have LI:An (ay prog w) hh (pC (.ref x) (.type "BaseException")) true:=L0.andThen L4
 refine a6 (LI.at ?_)
 rw [if_neg (by decide)]
 refine mV (a:=()) (by unfold Gp at hao;exact hao) ?_
 unfold fW.«object.__getattribute__»
 refine a6 (m:=slotArgs "__getattribute__" 1 _) (ac ?_)
 refine a6 (m:=qR _) (ac ?_)
 refine a6 (L0.at (a6 (L3.at ?_)))
 refine ac ?_
 show ak _ _ (handedOut u) _ _ _
 rw [PySem.W.handedOut_of hu];exact ac h
end
structure NRk (K:a7) (C:ah):Prop where
 hd:Io K C=true
 fn:ft K (.ref C) "number"=some none
theorem KZ {X:Cx}{e:bL}{ta:TE}{pos:Pos} (he:PE X e ta) (hb:mQ e "number" X.env (cz e X.env)=cz e X.env):PE X (.Attribute e "number" pos) (fun σ H Q=>ta σ H fun x H1=>∃ dx ea C v,x=.ref ea/\H1 ea=some (v7 (some dx) ea C)/\H1 dx=some (.xd [("number",v)])/\Ei X.K C/\NRk X.K C/\Q v H1):=by
 intro pins s σ H Q I h
 refine PJ hb (fL (he pins s σ H _ I h) fun u s1 h1=>?_)
 obtain ⟨x,H1,I1,rx,dx,ea,C,v,rfl,h1,h2,Z,N,q⟩:=h1
 obtain rfl:u=bj ea:=rx
 obtain ⟨o,g1,g2,g3⟩:=(show cU X.prog X.w H1 s1.heap ea (v7 (some dx) ea C) from I1.hok ea _ h1).1
 obtain ⟨mA,ns,rl⟩:=(show cU X.prog X.w H1 s1.heap dx (.xd [("number",v)]) from I1.hok dx _ h2)
 obtain ⟨od,ho,hl⟩:=Bc ns
 obtain ⟨z,hz,rz⟩:=wf.some_of (v:=v) (o:=mA "number") (rl "number")
 have J:yr s1.heap ea o C (some od):=⟨g1,g2,(g3 dx rfl).2,by rw [(g3 dx rfl).1];exact ho⟩
 exact Oj Z I1.kIn J (PySem.W.findObj_own N.hd N.fn rfl (by rw [hl,hz])) (Kg rz) ⟨v,H1,I1.tok _,rz,q⟩
end L2
namespace J
open PySem L2
def S5 (K:a7) (base:bt) (cls:Str->ah) (names:List Str) (i:Nat):TS:=U8 (Uk (xc (tC (.str "row")) (xc (fun σ H Q=>Gz i σ H fun x H1=>∃ dx ea C v,x=.ref ea/\H1 ea=some (v7 (some dx) ea C)/\H1 dx=some (.xd [("number",v)])/\Ei K C/\NRk K C/\Q v H1)
 (xc (Iz (Tg K base cls names) [] E0 (xc (Gz i) Kh)) Kh))))
def EY (wh:Str->Option Nat) (gb:az->R Fl):az->R Fl:=fun ρ=>match gb ρ with
 |.ok fl=>.ok fl
 |.ex y (some d)=>if y="NoRow" then match wh y with
  |some j=>.ok (.rt (.tuple [.str "row",d,.tuple [.str "refused",.int (j:Nat)]]))
  |none=>.no
  else .no
 |_=>.no
section
variable {c:C}{body:List cF}{x n:Str}{np p1 p2 p3 p4 p5 p6 p7 hpos rpos pos:Pos}{gb:az->R Fl}{names:List Str}{wh:Str->Option Nat}
theorem QI (i:Nat) (W:Wh c.X.prog c.X.w c.X.K c.X.mg c.X.base c.cls x names wh) (hN':c.X.mg "NoRow"=some (.ref (c.cls "NoRow"))) (N:NRk c.X.K (c.cls "NoRow")) (hb:∀ (E:XK) (xe:ae->ai->Prop) (pn:List (ah×Obj)),o6 (ja c.X.prog c.X.w) (T8 c.X xe pn) E->Hf ⟨T8 c.X xe pn,c.cls,E⟩ body gb)
  (hr:mj 1 c.X.A) (hgx:Gl c.X x) (hg:Gl c.X "NoRow") (hN:c.X.N.Nodup) (hw0:(wh "NoRow").isSome=true) (hi:c.X.N[i]?=some n:=by rfl) (hn:c.X.env.scope.names.lookup n=some .local:=by rfl)
  (hst:∃ l,c.X.stack=c.X.env::l/\c.X.env.frame=some c.X.env.locals:=by exact ⟨_,rfl,rfl⟩) (hex:c.X.ex=[]:=by rfl) (hdb:(x==("__debug__" : Str))=false:=by decide) (hd:(n==("__debug__" : Str))=false:=by decide) (hcd:(n==("__classdict__" : Str))=false:=by decide)
  (hab:∀ ea,mQ (.Name n p2) "number" (Q9 c.X ea).env (cz (.Name n p2) (Q9 c.X ea).env)=cz (.Name n p2) (Q9 c.X ea).env:=by intro _;rfl) :
  JS c (.Try body [.ExceptHandler (some (.Name "NoRow" np)) (some n) [.Return (some (.Tuple [.Constant (.str "row") k1 p1,.Attribute (.Name n p2) "number" p3,.Call (.Name x p4) [.Name n p5] [] p6] k2 p7)) rpos] hpos] [] [] pos) (EY wh gb):=.of fun ρ=>by
 obtain ⟨j,hj⟩:=Option.isSome_iff_exists.mp hw0
 obtain ⟨f,fd,ps,F,hm,hk,hbn⟩:=W.fn
 have X0:=W.xf "NoRow" j hj
 obtain ⟨bm,o1,o2⟩:=X0.ox
 have hs:∀ ea,Cm (Q9 c.X ea) [.Return (some (.Tuple [.Constant (.str "row") k1 p1,.Attribute (.Name n p2) "number" p3,.Call (.Name x p4) [.Name n p5] [] p6] k2 p7)) rpos] (S5 c.X.K c.X.base c.cls names i):=fun ea =>
  Co (GB (GI (bT GA (bT (KZ (pF hi (.inl hn) hd hcd) (hab ea)) (bT (MW (X:=Q9 c.X ea) F (hr.mark _) hgx hm hk hbn (bT (pF hi (.inl hn) hd hcd) eA) hdb) eA)))))
 refine AD (QH ⟨"NoRow",np,n,i,c.cls "NoRow",_,[],hpos,S5 c.X.K c.X.base c.cls names i⟩ [] (fun d hd'=>?_) hN hst hex (tb:=fun E D σ H=>SR c.X.K c.cls E ρ (gb ρ) D σ H) (fun E xe pn hp=>hb E xe pn hp ρ)) fun D σ H h_0=>?_
 ·rw [cg.1 hd']
  exact ⟨hg,hN',⟨_,o1⟩,hi,hn,hs,show ((("NoRow" : Str))==("__debug__" : Str))=false by decide⟩
 obtain ⟨H0,Hs0,la,Hs,fr,q⟩:=h_0
 replace q:oj c.X.K c.cls c.E H0 Hs0 la D (EY wh gb ρ):=q
 refine ⟨H0,Hs0,la,Hs,fr,?_⟩
 unfold EY at q
 cases hr':gb ρ with
 |no=>rw [hr'] at q;exact q
 |ok fl =>
  rw [hr'] at q
  cases fl<;>exact q
 |ex z m =>
  rw [hr'] at q
  cases m with
  |none=>exact q.elim
  |some d =>
   simp only at q
   by_cases hz:z="NoRow"
   ·subst hz
    rw [if_pos rfl,hj] at q
    intro H' Hs' st dx v hdx rv
    refine ⟨c.cls "NoRow",bm,rfl,o1,.inl ⟨by simp,fun ea hea=>?_⟩⟩
    have hl:i<c.X.N.length:=(List.getElem?_eq_some_iff.mp hi).1
    have s1:dn H' (upd H' ea (v7 (some dx) ea (c.cls "NoRow"))):=iA hea
    have var:((xL c.X).set i (some (V.ref ea)))[i]?=some (some (V.ref ea)):=aG (by simpa [xL] using hl)
    refine ⟨.ref ea,var,dx,ea,c.cls "NoRow",v,rfl,aT,s1 _ _ hdx,X0.ek,N,.ref ea,var,ea,c.cls "NoRow",j,rfl,⟨_,aT⟩,X0,fun t H2 sm ht hT=>⟨bh (cf (show 3<=1000 by decide)),fun p hp=>?_⟩⟩
    have ht':H' t=none:=s1.free ht
    have hp':H2 p=none:=hp
    have hpt:p≠t:=fun z=>by rw [z,hT] at hp';cases hp'
    have hp1:H' p=none:=(s1.trans sm).free hp'
    have st2:cD H' Hs' H2 (upd Hs' t (.tup [.str "refused",.int (j:Nat)])):=by
     refine ⟨s1.trans sm,iA (st.sub.free ht'),fun b u e=>?_,fun a o e _ z=>by rw [aO (aY e ht')];exact z⟩
     by_cases hb':b=t
     ·subst hb';rw [aT] at e;cases e;exact hT
     ·rw [aO hb'] at e;exact sm b u (s1 b u (st.sub b u e))
    have st3:cD H2 (upd Hs' t (.tup [.str "refused",.int (j:Nat)])) (upd H2 p (.tup [.str "row",v,.ref t])) (upd (upd Hs' t (.tup [.str "refused",.int (j:Nat)])) p (.tup [.str "row",v,.ref t])):=.new st2.sub hp'
    exact q (.ref p) _ _ (st.trans (st2.trans st3)) (.tuple aT (.cons (.str _) (.cons ((rv.same st2.sh).same st3.sh) (.cons (.tuple (st3.sh _ _ aT) (.cons (.str _) (.cons (.int _) .nil))) .nil))))
   ·rw [if_neg hz] at q;exact q.elim
end
end J
end
namespace Z
open PySem L2 J
section
def Vz (y:Str):Option Nat:=if y="NoState" then some 1 else if y="NoWant" then some 2 else if y="NoBook" then some 0 else if y="NoRow" then some 4 else none
def jQ:az->R Fl:=(cq (Bv (bP (a8 (fg 1 [1] (lX (rB 0)) kT (g2 (rB 0) (rB 1) (DM false))) aE) (hJ (gF fun bs=>bs.any id)))))
def el:List D->R D:=eL 2 jQ
def sA:az->R Fl:=(cq (bP (a8 (fg 1 [1] (lX (rB 0)) (fk (g2 (rB 0) (rB 1) (DM true))) (rS 0)) aE) (hJ gW)))
def sB:List D->R D:=eL 2 sA
def vo:az->R Fl:=(cq (bP (a8 (kW (O9 (pR (rB 0)) (pR (rB 1)))) aE) (hJ gW)))
def vp:List D->R D:=eL 2 vo
def sC:az->R Fl:=(aP (dI (G_ (iZ (fk (v9 (rB 0) "str"))) (iZ (fk (ro (kI 1) (bP (a8 (rB 0) aE) (hJ iJ)) (kI 6) Rw Rw)))) (cq (kB false)) (fun ρ=>.ok (.nx ρ))) (cq (bP (a8 (fg 1 [] (lX (rB 0)) kT (ro (fun _=>.ok (.str "a")) (rB 0) (fun _=>.ok (.str "z")) Rw Rw)) aE) (hJ (gF fun bs=>bs.all id)))))
def oX:List D->R D:=eL 1 sC
def gY:az->R Fl:=(aP (dI (G_ (iZ (fk (v9 (rB 0) "tuple"))) (iZ (fk (bP (a8 (fg 1 [] (lX (rB 0)) kT (dE 1 oX (a8 (rS 0) aE))) aE) (hJ (gF fun bs=>bs.all id)))))) (cq (kB false)) (fun ρ=>.ok (.nx ρ))) (cq (bP (a8 (fg 2 [] (Qn (a8 (rS 0) (a8 (yf (rB 0) (xP (kI 1)) Af) aE))) kT (g2 (rB 0) (rB 1) Ep)) aE) (hJ (gF fun bs=>bs.all id)))))
def fF:List D->R D:=eL 1 gY
def nz:az->R Fl:=(cq (rm (dE 1 fF (a8 (rS 1) aE)) (bP (a8 (fg 1 [0] (lX (rB 1)) kT (g2 (rB 0) (rB 1) (DM false))) aE) (hJ (gF fun bs=>bs.all id)))))
def fh:List D->R D:=eL 2 nz
def pS:az->R Fl:=(aP (dI (G_ (iZ (fk (v9 (rB 0) "int"))) (fk (v9 (rB 0) "bool"))) (cq (kB false)) (fun ρ=>.ok (.nx ρ))) (cq (ro (rB 1) (rB 0) (rB 2) Rw Rw)))
def pT:List D->R D:=eL 3 pS
def nA:az->R Fl:=(aP (dI (G_ (iZ (fk (v9 (rB 1) "tuple"))) (fk (g2 (bP (a8 (rB 1) aE) (hJ iJ)) (kI 6) (mX true)))) (cq (kB false)) (fun ρ=>.ok (.nx ρ))) (aP (AF (rS 1) (mY 6 (cE (bR 2) (cE (bR 3) (cE (bR 4) (cE (bR 5) (cE (bR 6) (cE (bR 7) oQ)))))))) (aP (dI (G_ (iZ (fk (dE 1 oX (a8 (rS 2) aE)))) (iZ (fk (dE 3 pT (a8 (rS 7) (a8 (kI 0) (a8 (kI 9) aE))))))) (cq (kB false)) (fun ρ=>.ok (.nx ρ))) (aP (dI (iZ (fk (bP (a8 (fg 1 [0] (lX (fX (a8 (rS 3) (a8 (rS 4) (a8 (rS 5) (a8 (rS 6) aE)))) .tuple)) kT (dE 2 fh (a8 (rS 1) (a8 (rS 0) aE)))) aE) (hJ (gF fun bs=>bs.all id))))) (cq (kB false)) (fun ρ=>.ok (.nx ρ))) (cq (rm (dE 2 el (a8 (rS 3) (a8 (rS 4) aE))) (dE 2 el (a8 (rS 5) (a8 (rS 6) aE)))))))))
def nC:List D->R D:=eL 8 nA
def sD:az->R Fl:=(aP (dI (G_ (iZ (fk (v9 (rB 0) "tuple"))) (fk (g2 (bP (a8 (rB 0) aE) (hJ iJ)) (kI 2) (mX true)))) (cq (kB false)) (fun ρ=>.ok (.nx ρ))) (aP (AF (rS 0) (mY 2 (cE (bR 1) (cE (bR 2) oQ)))) (aP (dI (G_ (iZ (fk (dE 1 fF (a8 (rS 1) aE)))) (fk (g2 (bP (a8 (rB 1) aE) (hJ iJ)) (kI 6) Qi))) (cq (kB false)) (fun ρ=>.ok (.nx ρ))) (aP (dI (G_ (iZ (fk (v9 (rB 2) "tuple"))) (fk (g2 (bP (a8 (rB 2) aE) (hJ iJ)) (kI 6) Qi))) (cq (kB false)) (fun ρ=>.ok (.nx ρ))) (aP (dI (iZ (fk (bP (a8 (fg 1 [1] (lX (rB 2)) kT (dE 2 nC (a8 (rS 1) (a8 (rS 0) aE)))) aE) (hJ (gF fun bs=>bs.all id))))) (cq (kB false)) (fun ρ=>.ok (.nx ρ))) (cq (g2 (vg (wy 1 [] (lX (rB 2)) kT (g2 (rB 0) (kI 0) aZ))) (bP (a8 (rB 2) aE) (hJ iJ)) (mX false))))))))
def sF:List D->R D:=eL 3 sD
def sG:az->R Fl:=(aP (dI (G_ (iZ (fk (v9 (rB 1) "tuple"))) (fk (g2 (bP (a8 (rB 1) aE) (hJ iJ)) (kI 2) (mX true)))) (cq (kB false)) (fun ρ=>.ok (.nx ρ))) (aP (AF (rS 1) (mY 2 (cE (bR 2) (cE (bR 3) oQ)))) (cq (rm (dE 2 fh (a8 (g2 (rB 0) (kI 0) aZ) (a8 (rS 2) aE))) (rm (dE 2 fh (a8 (g2 (rB 0) (kI 0) aZ) (a8 (rS 3) aE))) (dE 2 el (a8 (rS 2) (a8 (rS 3) aE))))))))
def sH:List D->R D:=eL 4 sG
def kJ:az->R Fl:=(dI (iZ (fk (dE 2 fh (a8 (g2 (rB 0) (kI 0) aZ) (a8 (rS 1) aE))))) (wz "NoState" (a8 (fun _=>.ok (.str "a state is a rising tuple of the book's facts, none twice")) aE)) (fun ρ=>.ok (.nx ρ)))
def kK:List D->R D:=eL 2 kJ
def lI:az->R Fl:=(dI (iZ (fk (dE 2 sH (a8 (rS 0) (a8 (rS 1) aE))))) (wz "NoWant" (a8 (fun _=>.ok (.str "a want is a tuple of two states with nothing in common")) aE)) (fun ρ=>.ok (.nx ρ)))
def lJ:List D->R D:=eL 2 lI
def jj:az->R Fl:=(aP (dI (iZ (fk (v9 (rB 1) "str"))) (cq kN) (fun ρ=>.ok (.nx ρ))) (aP (pP (lX (g2 (rB 0) (kI 1) aZ)) (bR 2) (dI (fk (g2 (g2 (rB 2) (kI 0) aZ) (rB 1) (mX false))) (cq (rS 2)) (fun ρ=>.ok (.nx ρ)))) (cq kN)))
def hW:List D->R D:=eL 3 jj
def sI:az->R Fl:=(aP (AF (rS 1) (mY 2 (cE (bR 2) (cE (bR 3) oQ)))) (cq (rm (bP (a8 (fg 1 [0] (lX (rB 2)) kT (g2 (rB 0) (rB 1) (DM false))) aE) (hJ (gF fun bs=>bs.all id))) (dE 2 el (a8 (rS 3) (a8 (rS 0) aE))))))
def oY:List D->R D:=eL 4 sI
def nE:az->R Fl:=(cq (dE 2 oY (a8 (rS 1) (a8 (fX (a8 (g2 (rB 0) (kI 1) aZ) (a8 (g2 (rB 0) (kI 2) aZ) aE)) .tuple) aE))))
def iC:List D->R D:=eL 2 nE
def jR:az->R Fl:=(aP (Oa 2 3 (a8 (g2 (rB 0) (kI 3) aZ) (a8 (g2 (rB 0) (kI 4) aZ) aE))) (cq (dE 2 vp (a8 (dE 2 sB (a8 (rS 1) (a8 (rS 3) aE))) (a8 (rS 2) aE)))))
def fG:List D->R D:=eL 4 jR
def sJ:az->R Fl:=(aP (dI (iZ (fk (dE 1 sF (a8 (rS 0) aE)))) (wz "NoBook" (a8 (fun _=>.ok (.str "a book is a tuple of facts and errands, each as the document tells")) aE)) (fun ρ=>.ok (.nx ρ))) (cq (rS 0)))
def sK:List D->R D:=eL 1 sJ
def kL:az->R Fl:=(aP (xj (dE 1 sK (a8 (rS 0) aE))) (xj (dE 2 kK (a8 (rS 0) (a8 (rS 1) aE)))))
def kM:List D->R D:=eL 2 kL
def nF:az->R Fl:=(aP (xj (dE 2 kM (a8 (rS 0) (a8 (rS 1) aE)))) (xj (dE 2 lJ (a8 (rS 0) (a8 (rS 2) aE)))))
def nG:List D->R D:=eL 3 nF
def vq:az->R Fl:=(aP (dI (G_ (iZ (fk (v9 (rB 1) "list"))) (fk (g2 (bP (a8 (rB 1) aE) (hJ iJ)) (kI 64) Qi))) (cq (kB false)) (fun ρ=>.ok (.nx ρ))) (cq (bP (a8 (fg 1 [0] (lX (rB 1)) kT (g2 (dE 2 hW (a8 (rS 1) (a8 (rS 0) aE))) kN (DL true))) aE) (hJ (gF fun bs=>bs.all id)))))
def vt:List D->R D:=eL 2 vq
def lK:az->R Fl:=(aP (dI (iZ (fk (dE 2 vt (a8 (rS 0) (a8 (rS 1) aE))))) (vm "NoRow" (a8 kN aE)) (fun ρ=>.ok (.nx ρ))) (cq (fg 1 [0] (lX (rB 1)) kT (dE 2 hW (a8 (rS 1) (a8 (rS 0) aE))))))
def lL:List D->R D:=eL 2 lK
def iL:az->R Fl:=(aP (iX 2 (fX (a8 (rS 1) aE) .list)) (aP (zg 0 (bR 3) (aP (dI (iZ (fk (dE 2 iC (a8 (rS 3) (a8 (g2 (rB 2) (kU (kI 1)) aZ) aE))))) (cq (rS 2)) (fun ρ=>.ok (.nx ρ))) (pQ 2 (dE 2 fG (a8 (rS 3) (a8 (g2 (rB 2) (kU (kI 1)) aZ) aE)))))) (cq (rS 2))))
def iM:List D->R D:=eL 4 iL
def vv:az->R Fl:=(aP (xj (dE 3 nG (a8 (rS 0) (a8 (rS 1) (a8 (rS 2) aE))))) (aP (dG 4 (dE 2 lL (a8 (rS 0) (a8 (rS 3) aE)))) (aP (dG 5 (dE 2 iM (a8 (rS 4) (a8 (rS 1) aE)))) (cq (rm (g2 (bP (a8 (rB 5) aE) (hJ iJ)) (bP (a8 (rB 4) aE) (hJ iJ)) Qi) (dE 2 oY (a8 (g2 (rB 5) (kU (kI 1)) aZ) (a8 (rS 2) aE))))))))
def jf:List D->R D:=eL 6 vv
def jS:az->R Fl:=(aP (dG 4 (bP (a8 (rB 3) aE) (hJ gX))) (aP (pP (BL (a8 (g2 (bP (a8 (rB 3) aE) (hJ iJ)) (kI 1) N5) (a8 (kU (kI 1)) (a8 (kU (kI 1)) aE)))) (bR 5) (aP (dG 6 (g2 (yf (rB 4) Af (xP (rS 5))) (yf (rB 4) (xP (g2 (rB 5) (kI 1) cS)) Af) cS)) (dI (fk (dE 4 jf (a8 (rS 0) (a8 (rS 1) (a8 (rS 2) (a8 (rS 6) aE)))))) (dG 4 (rS 6)) (fun ρ=>.ok (.nx ρ))))) (cq (rS 4))))
def gN:List D->R D:=eL 7 jS
def oZ:az->R Fl:=(aP (dI (iZ (fk (dE 4 jf (a8 (rS 0) (a8 (rS 1) (a8 (rS 2) (a8 (rS 3) aE))))))) (vm "NoRow" (a8 kN aE)) (fun ρ=>.ok (.nx ρ))) (aP (dG 4 (bP (a8 (rB 3) aE) (hJ gX))) (aP (dG 5 (dE 4 gN (a8 (rS 0) (a8 (rS 1) (a8 (rS 2) (a8 (rS 4) aE)))))) (aP (i_ (fk (g2 (bP (a8 (rB 5) aE) (hJ iJ)) (bP (a8 (rB 4) aE) (hJ iJ)) Ep)) (aP (dG 4 (rS 5)) (dG 5 (dE 4 gN (a8 (rS 0) (a8 (rS 1) (a8 (rS 2) (a8 (rS 4) aE))))))) 100000) (cq (rS 4))))))
def i5:List D->R D:=eL 6 oZ
def kO:az->R Fl:=(aP (dI (fk (g2 (rB 1) (bP (a8 (rB 0) aE) (hJ iJ)) Ep)) (cq (g2 (rB 0) (rB 1) aZ)) (fun ρ=>.ok (.nx ρ))) (aP (dI (fk (g2 (rB 0) (fX aE .list) (mX false))) (cq (kI 0)) (fun ρ=>.ok (.nx ρ))) (cq (g2 (g2 (g2 (rB 0) (g2 (rB 1) (bP (a8 (rB 0) aE) (hJ iJ)) KA) aZ) (kI 31) xO) (rB 1) cS))))
def kP:List D->R D:=eL 2 kO
def nI:az->R Fl:=(aP (dG 3 (g2 (g2 (g2 (g2 (dE 2 kP (a8 (rS 0) (a8 (rS 1) aE))) (g2 (kI 7919) (rB 1) xO) cS) (kI 1) cS) (kI 48271) xO) (kI 2147483647) KA)) (cq (g2 (g2 (g2 (g2 (g2 (rB 3) (rB 3) xO) (g2 (kI 7) (rB 3) xO) cS) (rB 1) cS) (kI 2147483629) KA) (rB 2) KA)))
def bf:List D->R D:=eL 4 nI
def pU:az->R Fl:=(aP (dG 2 (fun _=>.ok (.str ""))) (aP (pP (vc (a8 (g2 (fX (a8 (kI 1) (a8 (kI 2) (a8 (kI 3) (a8 (kI 6) (a8 (kI 1) (a8 (kI 4) aE)))))) .list) (dE 3 bf (a8 (rS 0) (a8 (rS 1) (a8 (kI 6) aE)))) aZ) aE)) (bR 3) (dG 2 (g2 (rB 2) (g2 (fun _=>.ok (.str "abcdefghijklmnopqrstuvwxyz")) (dE 3 bf (a8 (rS 0) (a8 (g2 (g2 (rB 1) (kI 1) cS) (rB 3) cS) (a8 (kI 26) aE)))) aZ) cS))) (cq (rS 2))))
def ko:List D->R D:=eL 4 pU
def nJ:az->R Fl:=(aP (iX 3 (fun _=>.ok (.dict []))) (aP (pP (vc (a8 (dE 3 bf (a8 (rS 0) (a8 (rS 1) (a8 (g2 (rB 2) (kI 1) cS) aE)))) aE)) (bR 4) (D2 3 (dE 2 ko (a8 (rS 0) (a8 (g2 (g2 (rB 1) (kI 1) cS) (g2 (kI 8) (rB 4) xO) cS) aE))) (kB true))) (cq (bP (a8 (bP (a8 (bP (a8 (rB 3) aE) (hJ gX)) aE) (hJ sx)) aE) (hJ gW)))))
def nK:List D->R D:=eL 5 nJ
def pV:az->R Fl:=(cq (bP (a8 (fg 2 [0,1,3] (Hh (a8 (rS 2) aE)) (fk (g2 (dE 3 bf (a8 (rS 2) (a8 (g2 (rB 3) (rB 0) cS) (a8 (kI 12) aE)))) (rB 4) Ep)) (rS 1)) aE) (hJ gW)))
def kq:List D->R D:=eL 4 pV
def pW:az->R Fl:=(aP (dG 4 (g2 (rB 2) (dE 3 bf (a8 (rS 0) (a8 (g2 (rB 1) (kI 10) cS) (a8 (bP (a8 (rB 2) aE) (hJ iJ)) aE)))) aZ)) (aP (dG 5 (g2 (rB 2) (dE 3 bf (a8 (rS 0) (a8 (g2 (rB 1) (kI 11) cS) (a8 (bP (a8 (rB 2) aE) (hJ iJ)) aE)))) aZ)) (aP (dG 6 (g2 (rB 2) (dE 3 bf (a8 (rS 0) (a8 (g2 (rB 1) (kI 12) cS) (a8 (bP (a8 (rB 2) aE) (hJ iJ)) aE)))) aZ)) (aP (dG 7 (yf (fX (a8 (rS 4) (a8 (rS 5) aE)) .list) Af (xP (g2 (kI 1) (g2 (dE 3 bf (a8 (rS 0) (a8 (g2 (rB 1) (kI 13) cS) (a8 (kI 3) aE)))) (kI 2) N6) cS)))) (aP (iX 8 (fg 1 [7,0,1] (lX (fX (a8 (rS 6) aE) .list)) (GZ (fk (g2 (rB 0) (rB 1) (DM true))) (fk (g2 (dE 3 bf (a8 (rS 2) (a8 (g2 (rB 3) (kI 14) cS) (a8 (kI 4) aE)))) (kI 0) (mX false)))) (rS 0))) (aP (iX 9 (fg 1 [6,0,1] (lX (fX (a8 (rS 4) aE) .list)) (GZ (fk (g2 (rB 0) (rB 1) (mX true))) (fk (g2 (dE 3 bf (a8 (rS 2) (a8 (g2 (rB 3) (kI 15) cS) (a8 (kI 3) aE)))) (kI 0) (mX false)))) (rS 0))) (aP (W8 8 (W8 9 (iX 10 (fg 1 [] (lX (fX (a8 (rS 7) (a8 (rS 8) (a8 (fX (a8 (rS 6) aE) .list) (a8 (rS 9) aE)))) .tuple)) kT (bP (a8 (kW (pR (rB 0))) aE) (hJ gW)))))) (cq (fX (a8 (rS 3) (a8 (g2 (rB 10) (kI 0) aZ) (a8 (g2 (rB 10) (kI 1) aZ) (a8 (g2 (rB 10) (kI 2) aZ) (a8 (g2 (rB 10) (kI 3) aZ) (a8 (dE 3 bf (a8 (rS 0) (a8 (rS 1) (a8 (kI 5) aE)))) aE)))))) .tuple)))))))))
def pX:List D->R D:=eL 11 pW
def iN:az->R Fl:=(aP (dI (GZ (fk (g2 (rB 2) (fX aE .tuple) (mX true))) (fk (g2 (dE 3 bf (a8 (rS 0) (a8 (kI 97) (a8 (kI 2) aE)))) (kI 0) (mX false)))) (cq (dE 4 pX (a8 (rS 0) (a8 (rS 1) (a8 (rS 2) (a8 (rS 3) aE)))))) (fun ρ=>.ok (.nx ρ))) (aP (Qt 4) (aP (pP (Hh (a8 (rS 2) aE)) (mY 2 (cE (bR 5) (cE (bR 6) oQ))) (aP (dG 7 (dE 3 bf (a8 (rS 0) (a8 (g2 (g2 (rB 1) (kI 10) cS) (rB 5) cS) (a8 (kI 8) aE))))) (aP (dI (fk (g2 (rB 7) (kI 3) Ep)) (oU 4 (g2 (fX (a8 (kI 0) (a8 (kI 0) (a8 (kI 1) aE))) .list) (rB 7) aZ) (rS 6)) (fun ρ=>.ok (.nx ρ))) (aP (dG 7 (dE 3 bf (a8 (rS 0) (a8 (g2 (g2 (rB 1) (kI 20) cS) (rB 5) cS) (a8 (kI 8) aE))))) (dI (fk (g2 (rB 7) (kI 4) Ep)) (oU 4 (g2 (fX (a8 (kI 2) (a8 (kI 2) (a8 (kI 3) (a8 (kI 3) aE)))) .list) (rB 7) aZ) (rS 6)) (fun ρ=>.ok (.nx ρ))))))) (aP (fun ρ=>(iX 8 (fg 1 [] (lX (rB 4)) kT (bP (a8 (rB 0) aE) (hJ gW)))) (fE ρ)) (cq (fX (a8 (rS 3) (a8 (g2 (rB 8) (kI 0) aZ) (a8 (g2 (rB 8) (kI 1) aZ) (a8 (g2 (rB 8) (kI 2) aZ) (a8 (g2 (rB 8) (kI 3) aZ) (a8 (dE 3 bf (a8 (rS 0) (a8 (rS 1) (a8 (kI 5) aE)))) aE)))))) .tuple))))))
def iO:List D->R D:=eL 9 iN
def mC:az->R Fl:=(aP (dG 4 (dE 3 nK (a8 (rS 0) (a8 (rS 1) (a8 (rS 2) aE))))) (aP (iX 5 (fun _=>.ok (.dict []))) (aP (pP (vc (a8 (dE 3 bf (a8 (rS 0) (a8 (g2 (rB 1) (kI 60) cS) (a8 (g2 (rB 3) (kI 1) cS) aE)))) aE)) (bR 6) (aP (dG 7 (dE 2 ko (a8 (rS 0) (a8 (g2 (g2 (rB 1) (kI 70) cS) (g2 (kI 40) (rB 6) xO) cS) aE)))) (D2 5 (rS 7) (dE 4 iO (a8 (rS 0) (a8 (g2 (g2 (rB 1) (kI 80) cS) (g2 (kI 40) (rB 6) xO) cS) (a8 (rS 4) (a8 (rS 7) aE)))))))) (aP (dG 8 (bP (a8 (rB 5) aE) (hJ gX))) (aP (dG 9 (dE 3 bf (a8 (rS 0) (a8 (g2 (rB 1) (kI 61) cS) (a8 (g2 (bP (a8 (rB 8) aE) (hJ iJ)) (kI 1) cS) aE))))) (cq (fX (a8 (rS 4) (a8 (bP (a8 (fg 1 [5] (lX (g2 (yf (rB 8) (xP (rS 9)) Af) (yf (rB 8) Af (xP (rS 9))) cS)) kT (g2 (rB 1) (rB 0) aZ)) aE) (hJ gW)) aE)) .tuple)))))))
def mD:List D->R D:=eL 10 mC
def mE:az->R Fl:=(aP (iX 3 (fX aE .list)) (aP (iX 4 (fX aE .list)) (aP (pP (Hh (a8 (rS 2) aE)) (mY 2 (cE (bR 5) (cE (bR 6) oQ))) (aP (dG 7 (dE 3 bf (a8 (rS 0) (a8 (g2 (rB 1) (rB 5) cS) (a8 (kI 8) aE))))) (dI (fk (g2 (rB 7) (kI 2) Ep)) (pQ 3 (rS 6)) (dI (fk (g2 (rB 7) (kI 2) (mX false))) (pQ 4 (rS 6)) (fun ρ=>.ok (.nx ρ)))))) (cq (fX (a8 (bP (a8 (rB 3) aE) (hJ gW)) (a8 (bP (a8 (rB 4) aE) (hJ gW)) aE)) .tuple)))))
def u6:List D->R D:=eL 8 mE
def pY:az->R Fl:=(aP (dG 3 (dE 4 mD (a8 (rS 0) (a8 (kI 100) (a8 (rS 1) (a8 (rS 2) aE)))))) (aP (dG 4 (dE 4 kq (a8 (rS 0) (a8 (kI 20) (a8 (g2 (rB 3) (kI 0) aZ) (a8 (g2 (fX (a8 (kI 2) (a8 (kI 4) aE)) .list) (dE 3 bf (a8 (rS 0) (a8 (kI 97) (a8 (kI 2) aE)))) aZ) aE)))))) (cq (fX (a8 (rS 3) (a8 (rS 4) (a8 (dE 3 u6 (a8 (rS 0) (a8 (kI 30) (a8 (g2 (rB 3) (kI 0) aZ) aE)))) aE))) .tuple))))
def pZ:List D->R D:=eL 5 pY
def p_:az->R Fl:=(cq (rm (bP (a8 (fg 1 [0] (lX (g2 (rB 1) (kI 0) aZ)) kT (g2 (rB 0) (rB 1) (DM false))) aE) (hJ (gF fun bs=>bs.all id))) (Bv (bP (a8 (fg 1 [0] (lX (g2 (rB 1) (kI 1) aZ)) kT (g2 (rB 0) (rB 1) (DM false))) aE) (hJ (gF fun bs=>bs.any id))))))
def mF:List D->R D:=eL 2 p_
def q0:az->R Fl:=(aP (dI (iZ (fk (dE 2 mF (a8 (rS 1) (a8 (yf (rB 0) (xP (kI 1)) (xP (kI 3))) aE))))) (cq kN) (fun ρ=>.ok (.nx ρ))) (aP (iX 2 (fg 1 [0] (lX (rB 1)) (fk (g2 (rB 0) (g2 (rB 1) (kI 4) aZ) (DM true))) (rS 0))) (cq (bP (a8 (kW (pR (g2 (rB 2) (bP (a8 (g2 (rB 0) (kI 3) aZ) aE) (hJ gX)) cS))) aE) (hJ gW)))))
def eQ:List D->R D:=eL 3 q0
def q8:az->R Fl:=(aP (iX 5 (fX aE .list)) (aP (pP (vc (a8 (rB 4) aE)) (bR 6) (aP (iX 7 (fg 1 [3] (lX (g2 (rB 2) (kI 1) aZ)) (fk (g2 (dE 2 eQ (a8 (rS 0) (a8 (rS 1) aE))) kN (DL true))) (rS 0))) (aP (dI (fk (g2 (rB 7) (fX aE .list) (mX false))) (cq (rS 5)) (fun ρ=>.ok (.nx ρ))) (aP (dG 8 (g2 (rB 7) (dE 3 bf (a8 (rS 0) (a8 (g2 (rB 1) (rB 6) cS) (a8 (bP (a8 (rB 7) aE) (hJ iJ)) aE)))) aZ)) (aP (pQ 5 (g2 (rB 8) (kI 0) aZ)) (dG 3 (dE 2 eQ (a8 (rS 8) (a8 (rS 3) aE))))))))) (cq (rS 5))))
def q9:List D->R D:=eL 9 q8
def lM:az->R Fl:=(aP (iX 3 (yh (fg 1 [] (lX (g2 (rB 0) (kI 1) aZ)) kT (fX (a8 (g2 (rB 0) (kI 0) aZ) (a8 (rS 0) aE)) .tuple)))) (aP (iX 4 (fX (a8 (rS 1) aE) .list)) (aP (pP (Jm (a8 (rS 2) aE)) (mY 2 (cE (bR 5) (cE (bR 6) oQ))) (aP (dG 7 (dE 2 eQ (a8 (g2 (rB 3) (rB 6) aZ) (a8 (g2 (rB 4) (kU (kI 1)) aZ) aE)))) (aP (dI (fk (g2 (rB 7) kN (DL false))) (cq (rS 5)) (fun ρ=>.ok (.nx ρ))) (pQ 4 (rS 7))))) (cq (rS 4)))))
def gf:List D->R D:=eL 8 lM
def qc:az->R Fl:=(aP (dG 4 (dE 3 gf (a8 (rS 0) (a8 (rS 1) (a8 (rS 3) aE))))) (cq (rm (Bv (v9 (rB 4) "int")) (dE 2 mF (a8 (g2 (rB 4) (kU (kI 1)) aZ) (a8 (rS 2) aE))))))
def jq:List D->R D:=eL 5 qc
def nL:az->R Fl:=(EY Vz (cq (dE 4 i5 (a8 (rS 0) (a8 (rS 1) (a8 (rS 2) (a8 (rS 3) aE)))))))
def iD:List D->R D:=eL 5 nL
def Jo:az->R Fl:=(aP (AF (dE 3 pZ (a8 (rS 0) (a8 (kI 5) (a8 (kI 6) aE)))) (mY 3 (cE (bR 1) (cE (bR 2) (cE (bR 3) oQ))))) (aP (dG 4 (dE 5 q9 (a8 (rS 0) (a8 (kI 300) (a8 (rS 1) (a8 (rS 2) (a8 (dE 3 bf (a8 (rS 0) (a8 (kI 0) (a8 (kI 11) aE)))) aE))))))) (aP (dG 5 (g2 (dE 3 gf (a8 (rS 1) (a8 (rS 2) (a8 (rS 4) aE)))) (kU (kI 1)) aZ)) (aP (dI (fk (g2 (dE 3 bf (a8 (rS 0) (a8 (kI 1) (a8 (kI 4) aE)))) (kI 0) Qi)) (aP (dG 6 (bP (a8 (fg 1 [5] (lX (g2 (rB 1) (kI 0) aZ)) (fk (g2 (rB 0) (rB 1) (DM true))) (rS 0)) aE) (hJ gW))) (dG 3 (fX (a8 (dE 4 kq (a8 (rS 0) (a8 (kI 40) (a8 (rS 5) (a8 (kI 5) aE))))) (a8 (dE 4 kq (a8 (rS 0) (a8 (kI 50) (a8 (rS 6) (a8 (kI 3) aE))))) aE)) .tuple))) (fun ρ=>.ok (.nx ρ))) (aP (dG 7 (dE 4 iD (a8 (rS 1) (a8 (rS 2) (a8 (rS 3) (a8 (rS 4) aE)))))) (aP (dI (iZ (fk (dE 4 jq (a8 (rS 1) (a8 (rS 2) (a8 (rS 3) (a8 (rS 4) aE))))))) (cq (g2 (rB 7) (fX (a8 (fun _=>.ok (.str "row")) (a8 kN (a8 (fX (a8 (fun _=>.ok (.str "refused")) (a8 (kI 4) aE)) .tuple) aE))) .tuple) (mX false))) (fun ρ=>.ok (.nx ρ))) (aP (dG 8 (bP (a8 (rB 4) aE) (hJ gX))) (aP (dG 9 (kU (kI 1))) (aP (i_ (fk (g2 (rB 9) (bP (a8 (rB 8) aE) (hJ iJ)) (mX true))) (aP (dG 9 (bP (a8 (rB 8) aE) (hJ iJ))) (pP (BL (a8 (g2 (rB 9) (kI 1) N5) (a8 (kU (kI 1)) (a8 (kU (kI 1)) aE)))) (bR 10) (dI (fk (dE 4 jq (a8 (rS 1) (a8 (rS 2) (a8 (rS 3) (a8 (g2 (yf (rB 8) Af (xP (rS 10))) (yf (rB 8) (xP (g2 (rB 10) (kI 1) cS)) Af) cS) aE)))))) (dG 8 (g2 (yf (rB 8) Af (xP (rS 10))) (yf (rB 8) (xP (g2 (rB 10) (kI 1) cS)) Af) cS)) (fun ρ=>.ok (.nx ρ))))) 100000) (aP (dI (G_ (fk (g2 (rB 7) (rB 8) (mX true))) (iZ (fk (dE 4 jf (a8 (rS 1) (a8 (rS 2) (a8 (rS 3) (a8 (rS 7) aE)))))))) (cq (kB false)) (fun ρ=>.ok (.nx ρ))) (aP (dI (fk (bP (a8 (fg 1 [1,2,3,7] (vc (a8 (bP (a8 (rB 7) aE) (hJ iJ)) aE)) kT (dE 4 jf (a8 (rS 1) (a8 (rS 2) (a8 (rS 3) (a8 (g2 (yf (rB 4) Af (xP (rS 0))) (yf (rB 4) (xP (g2 (rB 0) (kI 1) cS)) Af) cS) aE)))))) aE) (hJ (gF fun bs=>bs.any id)))) (cq (kB false)) (fun ρ=>.ok (.nx ρ))) (cq (g2 (dE 4 iD (a8 (rS 1) (a8 (rS 2) (a8 (rS 3) (a8 (rS 7) aE))))) (rB 7) (mX false))))))))))))))
def F_law:List D->R D:=eL 11 Jo
end
end Z
section
set_option hygiene false
namespace Z
open PySem L2 J
local macro_rules | `(tactic| walk_at "zz") => `(tactic| simp only [Vp, Tu, Vq, Vr, Vs, zr, vh, EI, V4, Nq, Nr, RF, V5, I_, EJ, J4, EK, EL, EM, Nt, Nu, Nv, J5, Nw, J6, V7, RH, RI, Nx, RJ, Ny, RK, Va, Nz, RL, NA, J7, NB, J8, J9, NC, ND, NE, NH, EN, EO, RO, NI, Ja, NJ, Ve, RQ, RS, NK, RT, NL, NN, RU, RV, NO, Vi, NQ, NS, RW, RX, NT, Tl, NU, RY, RZ, NV, Jb, Jc, S1, Bz, BA, BB, NX, Vk, NZ, N_, O0, O1, O3, O4, BE, D4, V3, cS, N5, xO, KA, N6, Eo, Ep, Rw, Qi, KB, iJ, aM, eE, aU, bz, ar, P2, eU, K6, K7, vU, vV, Nat.reduceSub, Nat.reduceAdd, Po, Pp, Nat.sub_self, if_true, if_false, ite_true, ite_false, bV, decide_true, decide_false, cond_true, cond_false, pq, nj, am, dW, Gy, Int.reduceLE, Int.reduceAdd, Int.reduceMul, Nat.reduceLT, Int.reduceNeg, reduceIte])
local macro_rules | `(tactic| walk_at "yy") => `(tactic| simp only [Vp, Tu, Vq, Vr, Vs, zr, vh, EI, RF, V5, I_, EJ, J4, EK, EL, EM, Nt, Nu, Nv, J5, Nw, J6, V7, RH, RI, Nx, RJ, Ny, RK, Va, Nz, RL, NA, J7, NB, J8, J9, NC, ND, NE, NH, EN, EO, RO, NI, Ja, NJ, Ve, RQ, RS, NK, RT, NL, NN, RU, RV, NO, Vi, NQ, NS, RW, RX, NT, Tl, NU, RY, RZ, NV, Jb, Jc, S1, Bz, BA, BB, NX, Vk, NZ, N_, O0, O1, O3, O4, BE, D4, V3, cS, iJ, aM, eE, aU, bz, ar, P2, eU, K6, K7, vU, vV, Nat.reduceSub, Nat.reduceAdd, Po, Pp, Nat.sub_self, if_true, if_false, ite_true, ite_false, bV, decide_true, decide_false, cond_true, cond_false, pq, nj, am, dW, Gy, Int.reduceLE, Int.reduceAdd, Int.reduceMul, Nat.reduceLT, Int.reduceNeg, reduceIte])
theorem cx {n:Nat}{g:az->R Fl}{ds:List D}{d:D} (h:g (bI n ds)=.ok (.rt d)):eL n g ds=.ok d:=by unfold eL;rw [h]
theorem Tv {n:Nat}{g:az->R Fl}{ds:List D}{c:Str}{m:Option D} (h:g (bI n ds)=.ex c m):eL n g ds=.ex c m:=by unfold eL;rw [h]
def Jp (ns:List Int) (k:Int):Int:=if k<ns.length then ns.getD k.toNat 0 else if ns=[] then 0 else ns.getD (k % ns.length).toNat 0*31+k
theorem Ol (ns:List Int):bZ (ns.map .int)=true:=by
 induction ns with
 |nil=>rfl
 |cons x r ih=>simp [bZ,eG,ih]
theorem QJ (ns:List Int):bw (.list (ns.map .int)) (.list [])=decide (ns=[]):=by
 cases ns with
 |nil=>rfl
 |cons x r=>simp [bw,kR]
theorem Tw (ns:List Int):mX false (.list (ns.map .int)) (.list [])=.ok (.bool (decide (ns=[]))):=by
 unfold mX
 have h1:(gm (ns.map .int)).canLay0=true:=by simp only [eG];exact Ol ns
 have h2:(gm []).canLay0=true:=rfl
 have h3:min (gm (ns.map .int)).depth (gm []).depth<=60:=bK (qy _ _) (by decide)
 rw [h1,h2,decide_eq_true h3,QJ]
 rfl
theorem Tx (ns:List Int) (k:Int) (h0:0<=k) (h1:k<ns.length):DJ (ns.map cK) k=some (.int (ns.getD k.toNat 0)):=by
 have hk:k.toNat<ns.length:=by omega
 have:=si (xs:=ns.map cK) (j:=k.toNat) (v:=.int (ns.getD k.toNat 0)) (by rw [aJ,aX hk];simp [hk])
 rwa [dU h0] at this
theorem Om (ns:List Int) (k:Int) (h0:0<=k) (h1:k<ns.length):aZ (.list (ns.map .int)) (.int k)=.ok (.int (ns.getD k.toNat 0)):=by
 have e:∀ xs k,aZ (.list xs) k=Ex (.list xs) k:=fun _ _=>rfl
 rw [e]
 unfold Ex
 simp only [Tx ns k h0 h1]
theorem Jq {i j:Int} (h1:-(2 ^ 64)<j) (h2:j<2 ^ 64):Bw i j=true:=by
 unfold Bw
 simp only [ic,aN,decide_eq_true_eq]
 exact .inr ⟨h1,h2⟩
theorem sL {i j:Int} (h1:-(2 ^ 64)<i) (h2:i<2 ^ 64):Bw i j=true:=by
 unfold Bw
 simp only [ic,aN,decide_eq_true_eq]
 exact .inl ⟨h1,h2⟩
theorem QK (ns:List Int) (k:Int) (hk:0<=k):kP [.list (ns.map .int),.int k]=.ok (.int (Jp ns k)):=by
 unfold kP
 refine cx ?_
 unfold kO bI Jp
 walk_at "zz"
 by_cases h:k<ns.length
 ·simp only [h,decide_true,cond_true,if_true,Om ns k hk h,bind_ok]
  walk_at "zz"
 ·simp only [h,decide_false,cond_false,if_false]
  walk_at "zz"
  rw [Tw]
  walk_at "zz"
  by_cases h2:ns=[]
  ·simp only [h2,decide_true,cond_true,if_true]
   walk_at "zz"
  ·have hl:(0:Int)<ns.length:=by have:0<ns.length:=List.length_pos_iff.mpr h2;omega
   simp only [h2,decide_false,cond_false,if_false,hl,decide_true]
   walk_at "zz"
   simp only [h2,decide_false,cond_false,if_false,hl,decide_true,if_true]
   walk_at "zz"
   rw [Om ns _ (se _ (by omega)) (n_ _ hl)]
   walk_at "zz"
   rw [Jq (by decide) (by decide)]
   walk_at "zz"
def zA (ns:List Int) (k:Int):Int:=(Jp ns k+7919*k+1)*48271 % 2147483647
def eT (ns:List Int) (k m:Int):Int:=(zA ns k*zA ns k+7*zA ns k+k) % 2147483629 % m
theorem eZ (ns:List Int) (k m:Int) (h:0<m):0<=eT ns k m:=se _ (by omega)
theorem gj (ns:List Int) (k m:Int) (h:0<m):eT ns k m<m:=n_ _ h
theorem eR (ns:List Int) (k m:Int) (hk:0<=k) (hm:0<m):bf [.list (ns.map .int),.int k,.int m]=.ok (.int (eT ns k m)):=by
 have d0:0<=zA ns k:=se _ (by decide)
 have d1:zA ns k<2147483647:=n_ _ (by decide)
 unfold bf
 refine cx ?_
 unfold nI bI
 walk_at "zz"
 rw [QK ns k hk]
 walk_at "zz"
 rw [sL (by decide) (by decide)]
 walk_at "zz"
 rw [Jq (by decide) (by decide)]
 walk_at "zz"
 rw [show (Jp ns k+7919*k+1)*48271 % 2147483647=zA ns k from rfl,sL (i:=zA ns k) (by omega) (by omega)]
 walk_at "zz"
 rw [sL (i:=7) (by decide) (by decide)]
 walk_at "zz"
 rw [decide_eq_true hm]
 walk_at "zz"
 rfl
theorem rK {α β:Type}{kt:D->az->R az}{gb:az->R Fl} (c:α->D) (f:β->α->β) (P:List α->β->az->Prop) (h:∀ x bB b ρ,P (x::bB) b ρ->∃ ρ1 ρ',kt (c x) ρ=.ok ρ1/\gb ρ1=.ok (.nx ρ')/\P bB (f b x) ρ') :
  ∀ (xs:List α) (b:β) (ρ:az),P xs b ρ->∃ ρ',ii kt gb (xs.map c) ρ=.ok (.nx ρ')/\P [] (xs.foldl f b) ρ'
 |[],b,ρ,p=>⟨ρ,rfl,p⟩
 |x::r,b,ρ,p=>by
  obtain ⟨ρ1,ρ2,h1,h2,h3⟩:=h x r b ρ p
  obtain ⟨ρ3,h4,h5⟩:=rK c f P h r (f b x) ρ2 h3
  refine ⟨ρ3,?_,h5⟩
  rw [aM]
  unfold ii
  rw [h1]
  simp only [h2]
  exact h4
theorem Jr {α β:Type}{kt:D->az->R az}{gb hh:az->R Fl}{r:R Fl} (c:α->D) (f:β->α->β) (P:List α->β->az->Prop) {xs:List α} (b:β) {ρ:az}
  (h:∀ x bB b ρ,P (x::bB) b ρ->∃ ρ1 ρ',kt (c x) ρ=.ok ρ1/\gb ρ1=.ok (.nx ρ')/\P bB (f b x) ρ') (p0:P xs b ρ) (k:∀ ρ',P [] (xs.foldl f b) ρ'->hh ρ'=r):(ii kt gb (xs.map c) ρ).bind (KL hh)=r:=by
 obtain ⟨ρ',e,p⟩:=rK c f P h xs b ρ p0
 rw [e,bind_ok,vh]
 exact k ρ' p
theorem vw (n:Nat) (h:n<=1000):Hg [.int (n:Int)]=.ok ((bg n).map fun (i:Nat)=>cK (i:Int)):=by
 have e:Hg [.int (n:Int)]=.ok (rF 0 (n:Int).toNat):=Qz (by omega) (by omega)
 rw [e]
 unfold rF
 rw [ke]
 exact congrArg R.ok (mi fun a _=>congrArg cK (Int.zero_add _))
def AM (x:Str):Bool:=decide (1<=x.cps.size)&&decide (x.cps.size<=6/\x.cps.size≠5)&&x.cps.toList.all fun c=>decide (97<=c)&&decide (c<=122)
def tL (ns:List Int) (k:Int):Nat:=[1,2,3,6,1,4].getD (eT ns k 6).toNat 0
def Da (ns:List Int) (k:Int) (i:Nat):Nat:=97+(eT ns (k+1+i) 26).toNat
def kX (ns:List Int) (k:Int):Str:=⟨((bg (tL ns k)).map (Da ns k)).toArray⟩
theorem Js (ns:List Int) (k:Int):1<=tL ns k/\(tL ns k<=6/\tL ns k≠5):=by
 have h0:=eZ ns k 6 (by decide)
 have h1:=gj ns k 6 (by decide)
 unfold tL
 have:∀ j:_root_.Fin 6,1<=[1,2,3,6,1,4].getD j.val 0/\([1,2,3,6,1,4].getD j.val 0<=6/\[1,2,3,6,1,4].getD j.val 0≠5):=by decide
 exact this ⟨(eT ns k 6).toNat,by omega⟩
theorem QL (ns:List Int) (k:Int) (i:Nat):97<=Da ns k i/\Da ns k i<=122:=by
 have h0:=eZ ns (k+1+i) 26 (by decide)
 have h1:=gj ns (k+1+i) 26 (by decide)
 unfold Da
 omega
theorem EZ (ns:List Int) (k:Int):AM (kX ns k)=true:=by
 have ⟨h1,h2⟩:=Js ns k
 unfold AM kX
 simp only [aK,ar,dO,aN,decide_eq_true_eq,cJ]
 refine ⟨⟨h1,h2⟩,fun c hc=>?_⟩
 obtain ⟨i,_,rfl⟩:=List.mem_map.mp hc
 exact QL ns k i
theorem On (j:Int) (h0:0<=j) (h1:j<26):aZ (.str "abcdefghijklmnopqrstuvwxyz") (.int j)=.ok (.str ⟨#[97+j.toNat]⟩):=by
 have e:∀ x k,aZ (.str x) k=Ex (.str x) k:=fun _ _=>rfl
 rw [e]
 unfold Ex
 have hc:("abcdefghijklmnopqrstuvwxyz" : Str).cps.toList=(bg 26).map (97 + ·):=by decide +kernel
 have hl:("abcdefghijklmnopqrstuvwxyz" : Str).length<=1000:=by decide +kernel
 have hj:j.toNat<26:=by omega
 have hx:=si (xs:=(bg 26).map (97 + ·)) (j:=j.toNat) (v:=97+j.toNat) (by rw [aJ,uE hj];rfl)
 rw [dU h0] at hx
 simp only [hl,if_true,hc,hx]
theorem QM (j:Int) (h0:0<=j) (h1:j<6):aZ (.list [.int 1,.int 2,.int 3,.int 6,.int 1,.int 4]) (.int j)=.ok (.int (([1,2,3,6,1,4].getD j.toNat 0:Nat):Int)):=by
 obtain ⟨n,rfl⟩:=qz h0
 have hn:n<6:=by omega
 match n,hn with
 | 0,_=>rfl
 | 1,_=>rfl
 | 2,_=>rfl
 | 3,_=>rfl
 | 4,_=>rfl
 | 5,_=>rfl
theorem Db (l:List Nat):∀ (acc:Str),l.foldl (fun (a:Str) c=>a++⟨#[c]⟩) acc=⟨(acc.cps.toList++l).toArray⟩:=by
 induction l with
 |nil=>intro acc;simp
 |cons c r ih =>
  intro acc
  rw [qS,ih]
  show (⟨((acc.cps++#[c]).toList++r).toArray⟩:Str)=_
  simp
theorem K_:("" : Str).cps.toList=[]:=by decide +kernel
theorem Jt (ns:List Int) (k:Int) (hk:0<=k):ko [.list (ns.map .int),.int k]=.ok (.str (kX ns k)):=by
 have h0:=eZ ns k 6 (by decide)
 have h1:=gj ns k 6 (by decide)
 have ⟨w1,w2⟩:=Js ns k
 unfold ko
 refine cx ?_
 unfold pU bI
 walk_at "zz"
 rw [rJ (ds:=(bg (tL ns k)).map fun (i:Nat)=>cK i)]
 ·refine Jr (fun (i:Nat)=>cK i) (fun (a:Str) i=>a++⟨#[Da ns k i]⟩) (fun bB a ρ=>a.length+bB.length<=900/\∃ z,ρ=[.shr (.list (ns.map .int)),.shr (.int k),.shr (.str a),z]) "" ?_ ⟨by rw [dO,show ("" : Str).length=0 by decide];omega,_,rfl⟩ ?_
  ·rintro i bB a ρ ⟨hl,z,rfl⟩
   simp only [aU] at hl
   refine ⟨_,[.shr (.list (ns.map .int)),.shr (.int k),.shr (.str (a++⟨#[Da ns k i]⟩)),.shr (.int i)],rfl,?_,?_,_,rfl⟩
   ·walk_at "zz"
    rw [eR ns _ 26 (by omega) (by decide)]
    walk_at "zz"
    rw [On _ (eZ _ _ _ (by decide)) (gj _ _ _ (by decide))]
    walk_at "zz"
    have hz:a.length+(⟨#[97+(eT ns (k+1+i) 26).toNat]⟩:Str).length<=1000:=by
     show a.length+1<=1000
     omega
    rw [if_pos hz]
    walk_at "zz"
    rw [show 97+(eT ns (k+1+i) 26).toNat=Da ns k i from rfl]
   ·show (a.cps++#[_]).size+bB.length<=900
    rw [Array.size_append]
    show a.cps.size+1+bB.length<=900
    have:a.length=a.cps.size:=rfl
    omega
  ·rintro ρ' ⟨_,z,rfl⟩
   walk_at "zz"
   have:(bg (tL ns k)).foldl (fun (a:Str) i=>a++⟨#[Da ns k i]⟩) ""=kX ns k:=by
    have:=Db ((bg (tL ns k)).map (Da ns k)) ""
    rw [tE] at this
    rw [this,K_]
    unfold kX
    rw [eU]
   rw [this]
 ·walk_at "zz"
  rw [eR ns k 6 hk (by decide)]
  walk_at "zz"
  have et:=QM (eT ns k 6) h0 h1
  have ew:[1,2,3,6,1,4].getD (eT ns k 6).toNat 0=tL ns k:=rfl
  rw [ew] at et
  rw [et]
  walk_at "zz"
  rw [vw (tL ns k) (by omega)]
def ij (l:List (Str×D)):List (D×D):=l.map fun p=>(.str p.1,p.2)
def t5 (l:List (Str×D)) (x:Str) (d:D):List (Str×D):=if l.any (fun p=>decide (p.1=x)) then l.map (fun p=>if p.1=x then (p.1,d) else p) else l++[(x,d)]
theorem vy (x y:Str):bw (.str x) (.str y)=decide (x=y):=by
 show (x==y)=_
 rw [sd]
theorem Ju (l:List (Str×D)) (x:Str) (d:D):AG (ij l) (.str x) d=ij (t5 l x d):=by
 unfold AG t5 ij
 rw [G3]
 have e:((fun kv:D×D=>bw kv.1 (.str x))∘fun p:Str×D=>(aD p.1,p.2))=fun p=>decide (p.1=x):=by
  funext p
  exact vy p.1 x
 rw [e]
 split
 ·rw [fo,fo]
  apply mi
  intro p _
  simp only [Function.comp,vy]
  by_cases h:p.1=x
  ·simp [h]
  ·simp [h]
 ·simp
theorem zB (l:List (Str×D)):hV (ij l)=true:=by
 unfold hV ij
 rw [xa,cJ]
 intro p _
 rfl
theorem E_ (l:List (Str×D)) (x:Str) (d:D):(t5 l x d).length<=l.length+1:=by
 unfold t5
 split<;>simp
theorem BO (l:List (Str×D)) (x:Str) (d:D):(t5 l x d).map (·.1)=if x∈l.map (·.1) then l.map (·.1) else l.map (·.1)++[x]:=by
 unfold t5
 have e:(l.any fun p=>decide (p.1=x))=decide (x∈l.map (·.1)):=by
  rw [gC]
  simp only [l5,decide_eq_true_eq,List.mem_map]
 rw [e]
 by_cases h:x∈l.map (·.1)
 ·rw [decide_eq_true h,if_pos rfl,if_pos h,fo]
  apply mi
  intro p _
  by_cases hp:p.1=x<;>simp [hp]
 ·rw [decide_eq_false h,if_neg aH,if_neg h,cu]
  rfl
theorem Oo {Q:Str->D->Prop}{l:List (Str×D)}{x:Str}{d:D} (h:∀ p∈l,Q p.1 p.2) (hx:Q x d):∀ p∈t5 l x d,Q p.1 p.2:=by
 unfold t5
 split
 ·intro p hp
  obtain ⟨p',hp',rfl⟩:=List.mem_map.mp hp
  by_cases e:p'.1=x
  ·rw [if_pos e];rw [e];exact hx
  ·rw [if_neg e];exact h p' hp'
 ·intro p hp
  rcases List.mem_append.mp hp with hp|hp
  ·exact h p hp
  ·rw [List.mem_singleton.mp hp];exact hx
theorem L6 {l:List Str}{x:Str} (h:l.Nodup):(if x∈l then l else l++[x]).Nodup:=by
 by_cases hx:x∈l
 ·rw [if_pos hx];exact h
 ·rw [if_neg hx];exact IG h hx
theorem S6 {i:Nat}{gk g:az->R D}{ρ:az}{l:List (Str×D)}{x:Str}{d:D} (hi:ρ[i]?=some (Sl.own (.dict (ij l)))) (hg:g ρ=.ok d) (hk:gk ρ=.ok (.str x)) (hl:l.length<1000):D2 i gk g ρ=.ok (.nx (ρ.set i (.own (.dict (ij (t5 l x d)))))):=by
 have hl':(ij l).length<1000:=by unfold ij;rw [ar];exact hl
 have e:D2 i gk g ρ=(g ρ).bind fun d=>(gk ρ).bind fun k=>match rG k with
  |some _=>if (ij l).length<1000/\hV (ij l)=true then .ok (.nx (ρ.set i (.own (.dict (AG (ij l) k d))))) else .no
  |none=>.no:=by
  unfold D2
  simp only [hi]
  try rfl
 rw [e,hg,D4,hk,D4]
 simp only [rG,if_pos (yx hl' (zB l)),Ju]
theorem F4 (l:List (Str×D)):gX (.dict (ij l))=.ok (.list ((l.map (·.1)).map .str)):=by
 have e:∀ kvs,gX (.dict kvs)=if hV kvs=true then .ok (.list (kvs.map (·.1))) else .no:=fun _=>rfl
 rw [e,if_pos (zB l)]
 unfold ij
 rw [fo,fo]
 rfl
theorem sorted_strs (ss:List Str) (h:ss.length<64):sx (.list (ss.map .str))=.ok (.list ((jO ss).map .str)):=by
 have e:∀ ds,sx (.list ds)=match gG ds with
  |some ss=>if ss.length<64 then .ok (.list ((jO ss).map .str)) else .no
  |none=>.no:=fun _=>rfl
 rw [e,strsOf_map]
 simp only [if_pos h]
theorem fH (ds:List D):gW (.list ds)=.ok (.tuple ds):=id rfl
def Dc (ns:List Int) (k:Int) (n:Nat):List Str:=(bg n).map fun (i:Nat)=>kX ns (k+1+8*(i:Int))
def Dd (ns:List Int) (k m:Int):List Str:=jO (cX [] (Dc ns k (eT ns k (m+1)).toNat))
structure QN (fs:List Str) (n:Nat):Prop where
 ok:∀ x∈fs,AM x=true
 up:fs.Pairwise fun a b=>qK a b=true
 len:fs.length<=n
theorem Op {α:Type}{a b:List α} (h:a.Perm b):a.length=b.length:=h.length_eq
theorem Hx (ns:List Int) (k m:Int) (hm:0<=m):QN (Dd ns k m) m.toNat:=by
 have h0:=eZ ns k (m+1) (by omega)
 have h1:=gj ns k (m+1) (by omega)
 have hp:=gV (cX [] (Dc ns k (eT ns k (m+1)).toNat))
 refine ⟨fun x hx=>?_,?_,?_⟩
 ·have hx:=hp.mem_iff.mp hx
  rw [iI] at hx
  rcases hx with hx|hx
  ·cases hx
  ·obtain ⟨i,_,rfl⟩:=List.mem_map.mp hx
   exact EZ _ _
 ·exact wt (r6 _) (hp.nodup_iff.mpr (iz _ [] iV))
 ·unfold Dd
  rw [Op hp]
  have:=gd (Dc ns k (eT ns k (m+1)).toNat) []
  unfold Dc at this ⊢
  simp at this
  omega
theorem L7 (f:Nat->Str) (l:List Nat):∀ acc:List (Str×D),((l.foldl (fun (a:List (Str×D)) i=>t5 a (f i) (.bool true)) acc).map (·.1))=cX (acc.map (·.1)) (l.map f):=by
 induction l with
 |nil=>intro acc;rfl
 |cons i r ih =>
  intro acc
  rw [qS,ih,aM,BO]
  rfl
theorem Oq (ns:List Int) (k m:Int) (hk:0<=k) (hm:0<=m) (hm2:m<=20):nK [.list (ns.map .int),.int k,.int m]=.ok (.tuple ((Dd ns k m).map .str)):=by
 have h0:=eZ ns k (m+1) (by omega)
 have h1:=gj ns k (m+1) (by omega)
 unfold nK
 refine cx ?_
 unfold nJ bI
 walk_at "zz"
 rw [rJ (ds:=(bg (eT ns k (m+1)).toNat).map fun (i:Nat)=>cK i)]
 ·refine Jr (fun (i:Nat)=>cK i) (fun (a:List (Str×D)) i=>t5 a (kX ns (k+1+8*(i:Int))) (.bool true)) (fun bB a ρ=>a.length+bB.length<=60/\∃ z,ρ=[.shr (.list (ns.map .int)),.shr (.int k),.shr (.int m),.own (.dict (ij a)),z]) [] ?_ ⟨by simp;omega,_,rfl⟩ ?_
  ·rintro i bB a ρ ⟨hl,z,rfl⟩
   simp only [aU] at hl
   refine ⟨_,[.shr (.list (ns.map .int)),.shr (.int k),.shr (.int m),.own (.dict (ij (t5 a (kX ns (k+1+8*(i:Int))) (.bool true)))),.shr (.int i)],rfl,?_,?_,_,rfl⟩
   ·refine (S6 (l:=a) (x:=kX ns (k+1+8*(i:Int))) (d:=.bool true) rfl rfl ?_ (by omega)).trans rfl
    walk_at "zz"
    rw [sL (by decide) (by decide)]
    walk_at "zz"
    rw [Jt ns _ (by omega)]
   ·have:=E_ a (kX ns (k+1+8*(i:Int))) (.bool true)
    omega
  ·rintro ρ' ⟨hl,z,rfl⟩
   simp only [bz] at hl
   walk_at "zz"
   rw [F4]
   walk_at "zz"
   have ek:=L7 (fun i=>kX ns (k+1+8*(i:Int))) (bg (eT ns k (m+1)).toNat) []
   rw [ek,sorted_strs]
   ·walk_at "zz"
    rw [fH]
    walk_at "zz"
    rfl
   ·rw [<- ek,ar];omega
 ·walk_at "zz"
  rw [eR ns k (m+1) hk (by omega)]
  walk_at "zz"
  have:=vw (eT ns k (m+1)).toNat (by omega)
  rw [dU h0] at this
  exact this
structure dJ where
 name:Str
 needs:List Str
 bars:List Str
 makes:List Str
 ends:List Str
 price:Int
abbrev aS (xs:List Str):D:=.tuple (xs.map .str)
def cy (e:dJ):D:=.tuple [.str e.name,aS e.needs,aS e.bars,aS e.makes,aS e.ends,.int e.price]
structure Sub (fs xs:List Str):Prop where
 up:xs.Pairwise fun a b=>qK a b=true
 mem:∀ x∈xs,x∈fs
structure rL (fs:List Str) (e:dJ):Prop where
 name:AM e.name=true
 needs:Sub fs e.needs
 bars:Sub fs e.bars
 makes:Sub fs e.makes
 ends:Sub fs e.ends
 nb:∀ x∈e.needs,x∉e.bars
 me:∀ x∈e.makes,x∉e.ends
 p0:0<=e.price
 p9:e.price<=9
def DN (xs:List Str):List Str:=jO (cX [] xs)
theorem nM {xs:List Str}{x:Str}:x∈DN xs↔x∈xs:=by
 unfold DN
 rw [(gV _).mem_iff,iI]
 simp
theorem Hy (xs:List Str):(DN xs).Pairwise fun a b=>qK a b=true:=wt (r6 _) ((gV _).nodup_iff.mpr (iz _ [] iV))
theorem yi {fs xs:List Str} (h:∀ x∈xs,x∈fs):Sub fs (DN xs):=⟨Hy xs,fun x hx=>h x (nM.mp hx)⟩
theorem De (fs:List Str) (j:Int) (h0:0<=j) (h1:j<fs.length):∃ x,x∈fs/\aZ (aS fs) (.int j)=.ok (.str x):=by
 have hj:j.toNat<fs.length:=by omega
 refine ⟨fs[j.toNat],j4 hj,?_⟩
 have e:∀ xs k,aZ (.tuple xs) k=Ex (.tuple xs) k:=fun _ _=>rfl
 rw [e]
 have hx:=si (xs:=fs.map aD) (j:=j.toNat) (v:=.str fs[j.toNat]) (by rw [aJ,aX hj];rfl)
 rw [dU h0] at hx
 unfold Ex
 simp only [hx]
theorem zC (x:Str):∀ ys:List Str,((ys.map aD).any fun y=>bw y (.str x))=decide (x∈ys)
 |[]=>rfl
 |y::r=>by
  rw [aM,fv,zC x r,vy]
  by_cases h:y=x
  ·subst h;simp
  ·simp [h,cZ h]
theorem zD (ys:List Str):(ys.map aD).all lE=true:=by
 rw [xa,cJ];intro _ _;rfl
theorem QO (neg:Bool) (x:Str) (ys:List Str):DM neg (.str x) (.list (ys.map .str))=.ok (.bool (if neg then !decide (x∈ys) else decide (x∈ys))):=by
 have e:DM neg (.str x) (.list (ys.map .str))=if lE (.str x)&&(ys.map aD).all lE then .ok (.bool (if neg then !((ys.map aD).any fun y=>bw y (.str x)) else (ys.map aD).any fun y=>bw y (.str x))) else .no:=rfl
 rw [e,zD,zC]
 rfl
theorem qd (neg:Bool) (x:Str) (ys:List Str):DM neg (.str x) (aS ys)=.ok (.bool (if neg then !decide (x∈ys) else decide (x∈ys))):=by
 have e:DM neg (.str x) (aS ys)=if lE (.str x)&&(ys.map aD).all lE then .ok (.bool (if neg then !((ys.map aD).any fun y=>bw y (.str x)) else (ys.map aD).any fun y=>bw y (.str x))) else .no:=rfl
 rw [e,zD,zC]
 rfl
theorem mG (neg:Bool) (a b:Int):mX neg (.int a) (.int b)=.ok (.bool (if neg then !decide (a=b) else decide (a=b))):=by
 have e:mX neg (.int a) (.int b)=.ok (.bool (if neg then !(a==b) else (a==b))):=rfl
 rw [e,sd]
theorem vz {x:Str} (h:AM x=true):(aD x).canLay0=true:=by
 unfold AM at h
 simp only [aN,cJ,decide_eq_true_eq] at h
 show PyData.strOk x=true
 unfold PyData.strOk
 rw [<- xI,cJ]
 intro c hc
 have:=h.2 c hc
 exact decide_eq_true (by omega)
theorem Df (neg:Bool) {x y:Str} (hx:AM x=true) (hy:AM y=true):mX neg (.str x) (.str y)=.ok (.bool (if neg then !decide (x=y) else decide (x=y))):=by
 unfold mX
 rw [vz hx,vz hy,vy]
 rfl
theorem zE (ss:List Str) (h:ss.length<60):u3 (.list (ss.map .str))=.ok (cX [] ss):=by
 have e:∀ ds,u3 (.list ds)=match gG ds with
  |some ss=>if ss.length<60 then .ok (cX [] ss) else .no
  |none=>.no:=fun _=>rfl
 rw [e,strsOf_map]
 simp only [if_pos h]
theorem Jv (g:az->R D) (s:Sl) (ρ:az):pR g (s::ρ)=(g (s::ρ)).bind u3:=id rfl
def S7:List Str->R D:=fun ss=>if ss.length<64 then .ok (.list ((jO ss).map .str)) else .no
theorem wA (g:az->R (List Str)) (s:Sl) (ρ:az):kW g (s::ρ)=(g (s::ρ)).bind S7:=id rfl
theorem zF (ss:List Str) (h:ss.length<64):S7 ss=.ok (.list ((jO ss).map .str)):=if_pos h
theorem L8 (ss:List Str) (h:ss.length<60) (ρ:az):(bP (J.a8 (kW (pR (rB 0))) J.aE) (hJ gW)) (.shr (.list (ss.map .str))::ρ)=.ok (aS (DN ss)):=by
 walk_at "zz"
 rw [wA,Jv]
 walk_at "zz"
 rw [zE ss h]
 walk_at "zz"
 rw [zF _ (by have:=gd ss [];simp at this;omega)]
 walk_at "zz"
 rw [fH]
 rfl
theorem F5 {ρ:az}{gt:az->R Bool}{x:Str}{b:Bool}{s:Sl}{r:az} (hρ:ρ=s::r) (h:gt (.shr (.str x)::r)=.ok b):hU (jd 1 ρ gt (rS 0)) [.str x]=.ok ((if b then [x] else []).map .str):=by
 subst hρ
 have e:=vi (ρ:=s::r) (gt:=gt) (ge:=(rS 0)) (d:=.str x) (y:=.str x) (b:=b) h fun _=>rfl
 unfold hU
 rw [e,D4]
 unfold hU
 rw [D4]
 cases b<;>rfl
theorem Tz (p q r t:List Str) (hp:p.length<60) (hq:q.length<60) (hr:r.length<60) (ht:t.length<60):hU (jd 1 [Sl.no] kT (bP (J.a8 (kW (pR (rB 0))) J.aE) (hJ gW))) [.list (p.map .str),.list (q.map .str),.list (r.map .str),.list (t.map .str)]=.ok [aS (DN p),aS (DN q),aS (DN r),aS (DN t)] :=
 dA _ (fun ss:List Str=>gm (ss.map .str)) (fun ss=>aS (DN ss)) [p,q,r,t] fun ss hs=>fO rfl (L8 ss (by simp at hs;rcases hs with h|h|h|h<;>(rw [h];assumption)) _)
theorem S8 (a b c d:D):aZ (.list [a,b,c,d]) (.int 0)=.ok a:=id rfl
theorem S9 (a b c d:D):aZ (.list [a,b,c,d]) (.int 1)=.ok b:=id rfl
theorem Sc (a b c d:D):aZ (.list [a,b,c,d]) (.int 2)=.ok c:=id rfl
theorem Sd (a b c d:D):aZ (.list [a,b,c,d]) (.int 3)=.ok d:=id rfl
theorem QP (ns:List Int) (k:Int) (hk:0<=k) (fs:List Str) (hf:∀ x∈fs,AM x=true) (h0:0<fs.length) (nm:Str) (hn:AM nm=true) :
  ∃ e,pX [.list (ns.map .int),.int k,aS fs,.str nm]=.ok (cy e)/\rL fs e/\e.name=nm:=by
 have hl:(0:Int)<(fs.length:Int):=by omega
 obtain ⟨a,ha,ea⟩:=De fs (eT ns (k+10) fs.length) (eZ _ _ _ hl) (gj _ _ _ hl)
 obtain ⟨b,hb,eb⟩:=De fs (eT ns (k+11) fs.length) (eZ _ _ _ hl) (gj _ _ _ hl)
 obtain ⟨c,hc,ec⟩:=De fs (eT ns (k+12) fs.length) (eZ _ _ _ hl) (gj _ _ _ hl)
 have m13a:=eZ ns (k+13) 3 (by decide)
 have m13b:=gj ns (k+13) 3 (by decide)
 obtain ⟨nd,hnd,hnl,end_⟩:∃ nd:List Str,(∀ x∈nd,x∈fs)/\nd.length<60/\G8 (.list [.str a,.str b]) none (some (1+eT ns (k+13) 3 / 2))=.ok (.list (nd.map .str)):=by
  by_cases h2:eT ns (k+13) 3=2
  ·exact ⟨[a,b],by simp [ha,hb],by simp,by rw [h2];rfl⟩
  ·have:eT ns (k+13) 3 / 2=0:=by omega
   exact ⟨[a],by simp [ha],by simp,by rw [this];rfl⟩
 let bb:Bool:=!decide (c∈nd)&&decide (eT ns (k+14) 4=0)
 let be:Bool:=!decide (a=c)&&decide (eT ns (k+15) 3=0)
 have p0:=eZ ns k 5 (by decide)
 have p1:=gj ns k 5 (by decide)
 refine ⟨⟨nm,DN nd,DN (if bb then [c] else []),DN [c],DN (if be then [a] else []),eT ns k 5⟩,?_,⟨hn,yi hnd,yi ?_,yi (by simp [hc]),yi ?_,fun x h1 h2=>?_,fun x h1 h2=>?_,p0,by show eT ns k 5<=9;omega⟩,rfl⟩
 ·unfold pX
  refine cx ?_
  unfold pW bI
  walk_at "zz"
  rw [eR ns _ _ (by omega) hl]
  walk_at "zz"
  rw [ea]
  walk_at "zz"
  rw [eR ns (k+11) _ (by omega) hl]
  walk_at "zz"
  rw [eb]
  walk_at "zz"
  rw [eR ns (k+12) _ (by omega) hl]
  walk_at "zz"
  rw [ec]
  walk_at "zz"
  rw [eR ns (k+13) 3 (by omega) (by decide)]
  walk_at "zz"
  simp only [Gy,decide_true,lu,if_true]
  walk_at "zz"
  rw [end_]
  walk_at "zz"
  rw [F5 (b:=bb) rfl]
  ·walk_at "zz"
   rw [F5 (b:=be) rfl]
   ·walk_at "zz"
    simp only [W8]
    rw [O5 rfl,O5 rfl]
    walk_at "zz"
    have pk:=Tz nd (if bb then [c] else []) [c] (if be then [a] else []) hnl (by cases bb<;>simp) (by simp) (by cases be<;>simp)
    rw [show ([c].map aD)=[aD c] from rfl] at pk
    rw [pk]
    walk_at "zz"
    rw [S8]
    walk_at "zz"
    rw [S9]
    walk_at "zz"
    rw [Sc]
    walk_at "zz"
    rw [Sd]
    walk_at "zz"
    rw [eR ns k 5 hk (by decide)]
    walk_at "zz"
    rfl
   ·walk_at "zz"
    rw [Df true (hf a ha) (hf c hc)]
    walk_at "zz"
    by_cases hac:a=c
    ·simp only [be,hac,decide_true,pq,B2,if_true,cond_false]
    ·simp only [be,hac,decide_false,nj,uO,if_true,cond_true]
     rw [eR ns (k+15) 3 (by omega) (by decide)]
     walk_at "zz"
     rw [mG]
     walk_at "zz"
  ·walk_at "zz"
   rw [QO]
   walk_at "zz"
   by_cases hcn:c∈nd
   ·simp only [bb,hcn,decide_true,pq,B2,if_true,cond_false]
   ·simp only [bb,hcn,decide_false,nj,uO,if_true,cond_true]
    rw [eR ns (k+14) 4 (by omega) (by decide)]
    walk_at "zz"
    rw [mG]
    walk_at "zz"
 ·intro x hx
  cases hbb:bb
  ·simp [hbb] at hx
  ·simp [hbb] at hx;rw [hx];exact hc
 ·intro x hx
  cases hbe:be
  ·simp [hbe] at hx
  ·simp [hbe] at hx;rw [hx];exact ha
 ·have h2:x∈(if bb then [c] else []):=nM.mp h2
  cases hbb:bb
  ·simp [hbb] at h2
  ·simp [hbb] at h2
   subst h2
   have:(!decide (x∈nd))=true:=by
    have:(!decide (x∈nd)&&decide (eT ns (k+14) 4=0))=true:=hbb
    simp only [aN] at this
    exact this.1
   simp at this
   exact this (nM.mp h1)
 ·cases hbe:be
  ·have h2:x∈(if be then [a] else []):=nM.mp h2
   simp [hbe] at h2
  ·skip
   have h4:x∈[c]:=nM.mp h1
   have h5:x∈(if be then [a] else []):=nM.mp h2
   simp only [cg] at h4
   simp only [hbe,if_true,cg] at h5
   have:(!decide (a=c)&&decide (eT ns (k+15) 3=0))=true:=hbe
   simp only [aN] at this
   have h3:=this.1
   simp at h3
   exact h3 (h5.symm.trans h4)
theorem Dg {i:Nat}{gi g:az->R D}{ρ:az}{dss:List (List D)}{ds:List D}{d:D}{j:Int} (hi:ρ[i]?=some (Sl.ow2 dss)) (hj:gi ρ=.ok (.int j)) (h0:0<=j) (hd:dss[j.toNat]?=some ds) (hg:g ρ=.ok d) (hl:ds.length<1000):oU i gi g ρ=.ok (.nx (ρ.set i (.ow2 (dss.set j.toNat (ds++[d]))))):=by
 unfold oU
 simp only [hi,hj,bind_ok,if_pos h0,hd,hg,if_pos hl]
def nN (n:Nat):List Str->List (Nat×Str)
 |[]=>[]
 |x::r=>(n,x)::nN (n+1) r
abbrev cI (p:Nat×Str):D:=.tuple [.int (p.1:Nat),.str p.2]
theorem yj:∀ (xs:List Str) (n:Nat),jb n (xs.map .str)=(nN n xs).map cI
 |[],_=>rfl
 |x::r,n=>by
  show b_ [.int n,.str x]::jb (n+1) (r.map .str)=cI (n,x)::(nN (n+1) r).map cI
  rw [yj r (n+1)]
theorem sM:∀ (xs:List Str) (n:Nat),(nN n xs).map (·.2)=xs
 |[],_=>rfl
 |x::r,n=>by
  show x::(nN (n+1) r).map (·.2)=x::r
  rw [sM r]
theorem zG:∀ (fs:List Str),(∀ x∈fs,AM x=true)->bZ (fs.map .str)=true
 |[],_=>rfl
 |x::r,h=>by
  have h1:=vz (h x aq)
  have h2:=zG r fun y hy=>h y (ao _ hy)
  simp only [aM,bZ,h1,h2,lu]
theorem Jw (fs:List Str) (hf:∀ x∈fs,AM x=true):mX true (aS fs) (.tuple [])=.ok (.bool (!decide (fs=[]))):=by
 unfold mX
 have h1:(aS fs).canLay0=true:=by simp only [eG];exact zG fs hf
 have h2:(b_ []).canLay0=true:=rfl
 have h3:min (aS fs).depth (b_ []).depth<=60:=bK (qy _ _) (by decide)
 have h4:bw (aS fs) (.tuple [])=decide (fs=[]):=by
  cases fs with
  |nil=>rfl
  |cons x r=>simp [bw,kR]
 rw [h1,h2,decide_eq_true h3,h4]
 rfl
structure oo (pre p q:List Str):Prop where
 sp:p.Sublist pre
 sq:q.Sublist pre
 d:∀ x∈p,x∉q
theorem oo.skip {pre p q:List Str} (h:oo pre p q) (x:Str):oo (pre++[x]) p q:=⟨h.sp.trans (jw _ _),h.sq.trans (jw _ _),h.d⟩
theorem oo.left {pre p q:List Str} (h:oo pre p q) (x:Str) (hx:x∉pre):oo (pre++[x]) (p++[x]) q:=⟨h.sp.append (ej _),h.sq.trans (jw _ _),fun y hy hq=>by
 rcases List.mem_append.mp hy with h1|h1
 ·exact h.d y h1 hq
 ·rw [List.mem_singleton.mp h1] at hq
  exact hx (h.sq.subset hq)⟩
theorem oo.right {pre p q:List Str} (h:oo pre p q) (x:Str) (hx:x∉pre):oo (pre++[x]) p (q++[x]):=⟨h.sp.trans (jw _ _),h.sq.append (ej _),fun y hy hq=>by
 rcases List.mem_append.mp hq with h1|h1
 ·exact h.d y hy h1
 ·rw [List.mem_singleton.mp h1] at hy
  exact hx (h.sp.subset hy)⟩
abbrev o4 (p q r t:List Str):Sl:=.ow2 [p.map .str,q.map .str,r.map .str,t.map .str]
theorem VA (j:Int) (h0:0<=j) (h1:j<3):∃ b:Bool,aZ (.list [.int 0,.int 0,.int 1]) (.int j)=.ok (.int (if b then 0 else 1)):=by
 have:j=0\/j=1\/j=2:=by omega
 rcases this with h|h|h<;>subst h
 ·exact ⟨true,rfl⟩
 ·exact ⟨true,rfl⟩
 ·exact ⟨false,rfl⟩
theorem VB (j:Int) (h0:0<=j) (h1:j<4):∃ b:Bool,aZ (.list [.int 2,.int 2,.int 3,.int 3]) (.int j)=.ok (.int (if b then 2 else 3)):=by
 have:j=0\/j=1\/j=2\/j=3:=by omega
 rcases this with h|h|h|h<;>subst h
 ·exact ⟨true,rfl⟩
 ·exact ⟨true,rfl⟩
 ·exact ⟨false,rfl⟩
 ·exact ⟨false,rfl⟩
theorem vA (p:List Str) (x:Str):(p++[x]).map aD=p.map .str++[.str x]:=by simp
theorem Os {a b c d e f:Sl}{pre p q r t:List Str}{x:Str}{j:Int} (hp:oo pre p q) (hx:x∉pre) (hl:pre.length<900) (h0:0<=j) :
  ∃ p' q',oo (pre++[x]) p' q'/\dI (fk (g2 (rB 7) (kI 3) Ep)) (oU 4 (g2 (fX (J.a8 (kI 0) (J.a8 (kI 0) (J.a8 (kI 1) J.aE))) .list) (rB 7) aZ) (rS 6)) (fun ρ=>.ok (.nx ρ)) [a,b,c,d,o4 p q r t,e,.shr (.str x),.shr (.int j),f]=.ok (.nx [a,b,c,d,o4 p' q' r t,e,.shr (.str x),.shr (.int j),f]):=by
 by_cases h3:j<3
 ·obtain ⟨bo,e3⟩:=VA j h0 h3
  have lp:p.length<1000:=by have:=hp.sp.length_le;omega
  have lq:q.length<1000:=by have:=hp.sq.length_le;omega
  cases bo
  ·refine ⟨p,q++[x],hp.right x hx,?_⟩
   walk_at "zz"
   rw [decide_eq_true h3]
   walk_at "zz"
   simp only [o4,vA]
   refine (Dg (j:=1) (ds:=q.map .str) (d:=.str x) rfl ?_ (by decide) rfl rfl (by rw [ar];exact lq)).trans rfl
   walk_at "zz"
   rw [e3]
   rfl
  ·refine ⟨p++[x],q,hp.left x hx,?_⟩
   walk_at "zz"
   rw [decide_eq_true h3]
   walk_at "zz"
   simp only [o4,vA]
   refine (Dg (j:=0) (ds:=p.map .str) (d:=.str x) rfl ?_ (by decide) rfl rfl (by rw [ar];exact lp)).trans rfl
   walk_at "zz"
   rw [e3]
   rfl
 ·refine ⟨p,q,hp.skip x,?_⟩
  walk_at "zz"
  rw [decide_eq_false h3]
  walk_at "zz"
theorem Ot {a b c d e f:Sl}{pre p q r t:List Str}{x:Str}{j:Int} (hp:oo pre r t) (hx:x∉pre) (hl:pre.length<900) (h0:0<=j) :
  ∃ r' t',oo (pre++[x]) r' t'/\dI (fk (g2 (rB 7) (kI 4) Ep)) (oU 4 (g2 (fX (J.a8 (kI 2) (J.a8 (kI 2) (J.a8 (kI 3) (J.a8 (kI 3) J.aE)))) .list) (rB 7) aZ) (rS 6)) (fun ρ=>.ok (.nx ρ)) [a,b,c,d,o4 p q r t,e,.shr (.str x),.shr (.int j),f]=.ok (.nx [a,b,c,d,o4 p q r' t',e,.shr (.str x),.shr (.int j),f]):=by
 by_cases h3:j<4
 ·obtain ⟨bo,e3⟩:=VB j h0 h3
  have lp:r.length<1000:=by have:=hp.sp.length_le;omega
  have lq:t.length<1000:=by have:=hp.sq.length_le;omega
  cases bo
  ·refine ⟨r,t++[x],hp.right x hx,?_⟩
   walk_at "zz"
   rw [decide_eq_true h3]
   walk_at "zz"
   simp only [o4,vA]
   refine (Dg (j:=3) (ds:=t.map .str) (d:=.str x) rfl ?_ (by decide) rfl rfl (by rw [ar];exact lq)).trans rfl
   walk_at "zz"
   rw [e3]
   rfl
  ·refine ⟨r++[x],t,hp.left x hx,?_⟩
   walk_at "zz"
   rw [decide_eq_true h3]
   walk_at "zz"
   simp only [o4,vA]
   refine (Dg (j:=2) (ds:=r.map .str) (d:=.str x) rfl ?_ (by decide) rfl rfl (by rw [ar];exact lp)).trans rfl
   walk_at "zz"
   rw [e3]
   rfl
 ·refine ⟨r,t,hp.skip x,?_⟩
  walk_at "zz"
  rw [decide_eq_false h3]
  walk_at "zz"
theorem VC (i:Nat) (ρ:az):Qt i ρ=.ok (.nx ((clear2 ρ).set i (.ow2 [[],[],[],[]]))):=id rfl
theorem oo.sub {fs p q:List Str} (up:fs.Pairwise fun a b=>qK a b=true) (h:oo fs p q):Sub fs p/\Sub fs q:=⟨⟨up.sublist h.sp,fun x hx=>h.sp.subset hx⟩,⟨up.sublist h.sq,fun x hx=>h.sq.subset hx⟩⟩
theorem Ou (p:List Str) (ρ:az):(bP (J.a8 (rB 0) J.aE) (hJ gW)) (.shr (.list (p.map .str))::ρ)=.ok (aS p):=by
 walk_at "zz"
 rw [fH]
theorem VD (p q r t:List Str):hU (jd 1 [Sl.no] kT (bP (J.a8 (rB 0) J.aE) (hJ gW))) [.list (p.map .str),.list (q.map .str),.list (r.map .str),.list (t.map .str)]=.ok [aS p,aS q,aS r,aS t] :=
 dA _ (fun ss:List Str=>gm (ss.map .str)) (fun ss=>aS ss) [p,q,r,t] fun ss hs=>fO rfl (Ou ss _)
theorem L9 (ns:List Int) (k:Int) (hk:0<=k) (fs:List Str) (hf:∀ x∈fs,AM x=true) (up:fs.Pairwise fun a b=>qK a b=true) (nd:fs.Nodup) (hl:fs.length<=6) (nm:Str) (hn:AM nm=true) :
  ∃ e,iO [.list (ns.map .int),.int k,aS fs,.str nm]=.ok (cy e)/\rL fs e/\e.name=nm:=by
 have p0:=eZ ns k 5 (by decide)
 have p1:=gj ns k 5 (by decide)
 have go:∀ ρ:az,ρ=[.shr (.list (ns.map .int)),.shr (.int k),.shr (aS fs),.shr (.str nm),.no,.no,.no,.no,.no]->(!decide (fs=[])&&decide (eT ns 97 2=0))=false->∃ e,iN ρ=.ok (.rt (cy e))/\rL fs e/\e.name=nm:=by
  rintro ρ rfl hc
  obtain ⟨ρ',h1,p,q,r,t,h2,h3,h4⟩:∃ ρ',(pP (Hh (J.a8 (rS 2) J.aE)) (mY 2 (cE (bR 5) (cE (bR 6) oQ))) (aP (dG 7 (dE 3 bf (J.a8 (rS 0) (J.a8 (g2 (g2 (rB 1) (kI 10) cS) (rB 5) cS) (J.a8 (kI 8) J.aE))))) (aP (dI (fk (g2 (rB 7) (kI 3) Ep)) (oU 4 (g2 (fX (J.a8 (kI 0) (J.a8 (kI 0) (J.a8 (kI 1) J.aE))) .list) (rB 7) aZ) (rS 6)) (fun ρ=>.ok (.nx ρ))) (aP (dG 7 (dE 3 bf (J.a8 (rS 0) (J.a8 (g2 (g2 (rB 1) (kI 20) cS) (rB 5) cS) (J.a8 (kI 8) J.aE))))) (dI (fk (g2 (rB 7) (kI 4) Ep)) (oU 4 (g2 (fX (J.a8 (kI 2) (J.a8 (kI 2) (J.a8 (kI 3) (J.a8 (kI 3) J.aE)))) .list) (rB 7) aZ) (rS 6)) (fun ρ=>.ok (.nx ρ))))))) [.shr (.list (ns.map .int)),.shr (.int k),.shr (aS fs),.shr (.str nm),o4 [] [] [] [],.no,.no,.no,.no]=.ok (.nx ρ')/\∃ p q r t,oo fs p q/\oo fs r t/\∃ z5 z6 z7,ρ'=[.shr (.list (ns.map .int)),.shr (.int k),.shr (aS fs),.shr (.str nm),o4 p q r t,z5,z6,z7,.no]:=by
   rw [rJ (ds:=(nN 0 fs).map cI)]
   ·have H:=rK cI (fun (a:Unit) (_:Nat×Str)=>a) (fun bB _ ρ=>∃ pre,pre++bB.map (·.2)=fs/\∃ p q r t,oo pre p q/\oo pre r t/\∃ z5 z6 z7,ρ=[.shr (.list (ns.map .int)),.shr (.int k),.shr (aS fs),.shr (.str nm),o4 p q r t,z5,z6,z7,.no]) (kt:=mY 2 (cE (bR 5) (cE (bR 6) oQ))) (gb:=(aP (dG 7 (dE 3 bf (J.a8 (rS 0) (J.a8 (g2 (g2 (rB 1) (kI 10) cS) (rB 5) cS) (J.a8 (kI 8) J.aE))))) (aP (dI (fk (g2 (rB 7) (kI 3) Ep)) (oU 4 (g2 (fX (J.a8 (kI 0) (J.a8 (kI 0) (J.a8 (kI 1) J.aE))) .list) (rB 7) aZ) (rS 6)) (fun ρ=>.ok (.nx ρ))) (aP (dG 7 (dE 3 bf (J.a8 (rS 0) (J.a8 (g2 (g2 (rB 1) (kI 20) cS) (rB 5) cS) (J.a8 (kI 8) J.aE))))) (dI (fk (g2 (rB 7) (kI 4) Ep)) (oU 4 (g2 (fX (J.a8 (kI 2) (J.a8 (kI 2) (J.a8 (kI 3) (J.a8 (kI 3) J.aE)))) .list) (rB 7) aZ) (rS 6)) (fun ρ=>.ok (.nx ρ)))))))
    obtain ⟨ρ',h1,pre,h2,p,q,r,t,h3,h4,h5⟩:=H (by
     rintro ⟨i,x⟩ bB _ ρ ⟨pre,h2,p,q,r,t,h3,h4,z5,z6,z7,rfl⟩
     have hx:x∉pre:=by
      rw [<- h2,aM] at nd
      have:=(List.nodup_append.mp nd).2.2
      intro hx
      exact this x hx x aq rfl
     have hpl:pre.length<900:=by
      have:=congrArg tm h2
      rw [aL] at this
      omega
     obtain ⟨p',q',k1,k2⟩:=Os (a:=.shr (.list (ns.map .int))) (b:=.shr (.int k)) (c:=.shr (aS fs)) (d:=.shr (.str nm)) (e:=.shr (.int (i:Nat))) (f:=.no) (r:=r) (t:=t) (j:=eT ns (k+10+i) 8) h3 hx hpl (eZ _ _ _ (by decide))
     obtain ⟨r',t',k3,k4⟩:=Ot (a:=.shr (.list (ns.map .int))) (b:=.shr (.int k)) (c:=.shr (aS fs)) (d:=.shr (.str nm)) (e:=.shr (.int (i:Nat))) (f:=.no) (p:=p') (q:=q') (j:=eT ns (k+20+i) 8) h4 hx hpl (eZ _ _ _ (by decide))
     refine ⟨[.shr (.list (ns.map .int)),.shr (.int k),.shr (aS fs),.shr (.str nm),o4 p q r t,.shr (.int (i:Nat)),.shr (.str x),z7,.no],[.shr (.list (ns.map .int)),.shr (.int k),.shr (aS fs),.shr (.str nm),o4 p' q' r' t',.shr (.int (i:Nat)),.shr (.str x),.shr (.int (eT ns (k+20+i) 8)),.no],rfl,?_,pre++[x],?_,p',q',r',t',k1,k3,_,_,_,rfl⟩
     ·rw [zr,Nt]
      walk_at "yy"
      rw [eR ns _ 8 (by omega) (by decide)]
      walk_at "yy"
      rw [k2]
      walk_at "yy"
      rw [eR ns _ 8 (by omega) (by decide)]
      walk_at "yy"
      rw [k4]
     ·rw [<- h2];simp) (nN 0 fs) () [.shr (.list (ns.map .int)),.shr (.int k),.shr (aS fs),.shr (.str nm),o4 [] [] [] [],.no,.no,.no,.no] ⟨[],by rw [sM];rfl,[],[],[],[],⟨ej _,ej _,fun _ h=>nomatch h⟩,⟨ej _,ej _,fun _ h=>nomatch h⟩,_,_,_,rfl⟩
    refine ⟨ρ',h1,p,q,r,t,?_,?_,h5⟩
    ·simp only [eE,cr] at h2
     rw [<- h2];exact h3
    ·simp only [eE,cr] at h2
     rw [<- h2];exact h4
   ·walk_at "zz"
    rw [yj]
  obtain ⟨s1,s2⟩:=h2.sub up
  obtain ⟨s3,s4⟩:=h3.sub up
  obtain ⟨z5,z6,z7,rfl⟩:=h4
  refine ⟨⟨nm,p,q,r,t,eT ns k 5⟩,?_,⟨hn,s1,s2,s3,s4,h2.d,h3.d,p0,by show eT ns k 5<=9;omega⟩,rfl⟩
  unfold iN
  have hand:GZ (fk (g2 (rB 2) (fX J.aE .tuple) (mX true))) (fk (g2 (dE 3 bf (J.a8 (rS 0) (J.a8 (kI 97) (J.a8 (kI 2) J.aE)))) (kI 0) (mX false))) [.shr (.list (ns.map .int)),.shr (.int k),.shr (aS fs),.shr (.str nm),.no,.no,.no,.no,.no]=.ok false:=by
   walk_at "zz"
   rw [Jw fs hf]
   walk_at "zz"
   by_cases h:fs=[]
   ·simp only [h,decide_true,pq,cond_false]
   ·simp only [h,decide_false,nj,cond_true,uO] at hc ⊢
    rw [eR ns 97 2 (by decide) (by decide)]
    walk_at "zz"
    rw [mG]
    walk_at "zz"
    rw [hc]
  rw [zr,V4,hand]
  simp only [D4,Nq,VC,clear2,aM,eE,vV,vU,D4,vh,zr]
  rw [show Sl.ow2 [[],[],[],[]]=o4 [] [] [] [] from rfl,h1]
  walk_at "zz"
  rw [VD]
  walk_at "zz"
  rw [S8]
  walk_at "zz"
  rw [S9]
  walk_at "zz"
  rw [Sc]
  walk_at "zz"
  rw [Sd]
  walk_at "zz"
  rw [eR ns k 5 hk (by decide)]
  walk_at "zz"
  rfl
 by_cases hc:(!decide (fs=[])&&decide (eT ns 97 2=0))=true
 ·have h0:0<fs.length:=by
   rcases fs with _|⟨x,r⟩
   ·simp at hc
   ·simp
  obtain ⟨e,h1,h2⟩:=QP ns k hk fs hf h0 nm hn
  refine ⟨e,?_,h2⟩
  unfold iO
  refine cx ?_
  unfold iN bI
  walk_at "zz"
  rw [Jw fs hf]
  walk_at "zz"
  simp only [aN] at hc
  rw [hc.1]
  walk_at "zz"
  rw [eR ns 97 2 (by decide) (by decide)]
  walk_at "zz"
  rw [mG]
  walk_at "zz"
  rw [hc.2]
  walk_at "zz"
  rw [h1]
  walk_at "zz"
 ·obtain ⟨e,h1,h2⟩:=go _ rfl (Bool.eq_false_iff.mpr hc)
  exact ⟨e,by unfold iO;exact cx h1,h2⟩
theorem Ov (ds:List D) (t:Nat) (h:t<=ds.length):AE ds (some (t:Int)) none=ds.drop t:=by
 unfold AE
 rw [HT.IA,HT.DV,Nat.min_eq_left h,List.take_of_length_le (by rw [j3];exact am _)]
theorem TC (ds:List D) (t:Nat) (h:t<=ds.length):AE ds none (some (t:Int))=ds.take t:=by
 unfold AE
 rw [HT.IA,HT.DV,Nat.min_eq_left h,List.drop_zero,Nat.sub_zero]
theorem Se (ds:List D) (t:Nat) (h:t<=ds.length):G8 (.list ds) (some (t:Int)) none=.ok (.list (ds.drop t)):=by
 rw [<- Ov ds t h];rfl
theorem Sf (ds:List D) (t:Nat) (h:t<=ds.length):G8 (.list ds) none (some (t:Int))=.ok (.list (ds.take t)):=by
 rw [<- TC ds t h];rfl
theorem Ow {l:List (Str×D)} (nd:(l.map (·.1)).Nodup) {p:Str×D} (hp:p∈l):aZ (.dict (ij l)) (.str p.1)=.ok p.2:=by
 have e:∀ kvs x,aZ (.dict kvs) (.str x)=if hV kvs=true then (match vf kvs (.str x) with
   |some d=>.ok d
   |none=>.no) else .no:=fun _ _=>rfl
 rw [e,if_pos (zB l)]
 have:vf (ij l) (.str p.1)=some p.2:=by
  unfold vf ij
  clear e
  induction l with
  |nil=>cases hp
  |cons q r ih =>
   rw [aM] at nd
   obtain ⟨n1,n2⟩:=List.nodup_cons.mp nd
   rw [aM,dv,vy]
   rcases List.mem_cons.mp hp with h|h
   ·subst h;simp
   ·have:q.1≠p.1:=fun z=>n1 (z ▸ mh h)
    rw [decide_eq_false this]
    exact ih n2 h
 rw [this]
structure eB (fs:List Str) (es:List dJ):Prop where
 rise:QN fs 6
 len:es.length<=6
 nd:(es.map (·.name)).Nodup
 ok:∀ e∈es,rL fs e
def cP (fs:List Str) (es:List dJ):D:=.tuple [aS fs,.tuple (es.map cy)]
theorem VE (fs:List Str):∀ (l:List (Str×D)),(∀ p∈l,∃ e,p.2=cy e/\rL fs e/\e.name=p.1)->∃ es:List dJ,l.map (·.2)=es.map cy/\es.map (·.name)=l.map (·.1)/\∀ e∈es,rL fs e
 |[],_=>⟨[],rfl,rfl,fun _ h=>nomatch h⟩
 |p::r,h=>by
  obtain ⟨e,h1,h2,h3⟩:=h p aq
  obtain ⟨es,k1,k2,k3⟩:=VE fs r fun q hq=>h q (ao _ hq)
  refine ⟨e::es,by rw [aM,aM,h1,k1],by rw [aM,aM,h3,k2],fun x hx=>?_⟩
  rcases List.mem_cons.mp hx with z|z
  ·rw [z];exact h2
  ·exact k3 x z
theorem La {α:Type} (l:List α) (t:Nat):(l.drop t++l.take t).Perm l:=by
 refine List.perm_append_comm.trans ?_
 rw [List.take_append_drop]
theorem kY {l:List Str} (h:l.Pairwise fun a b=>qK a b=true):l.Nodup:=h.imp fun hab z=>by
 rw [z,tZ] at hab
 cases hab
theorem QQ (ns:List Int) (k:Int) (hk:0<=k) (m n:Int) (hm0:0<=m) (hm:m<=6) (hn0:0<=n) (hn:n<=6):∃ fs es,mD [.list (ns.map .int),.int k,.int m,.int n]=.ok (cP fs es)/\eB fs es/\fs.length<=m.toNat/\es.length<=n.toNat:=by
 have hr:=Hx ns k m hm0
 generalize hfs:Dd ns k m=fs at hr
 have hrl:=hr.len
 have hr:QN fs 6:=⟨hr.ok,hr.up,by have:=hr.len;omega⟩
 have nd:=kY hr.up
 have m0:=eZ ns (k+60) (n+1) (by omega)
 have m1:=gj ns (k+60) (n+1) (by omega)
 suffices H:∃ es,mD [.list (ns.map .int),.int k,.int m,.int n]=.ok (cP fs es)/\eB fs es/\es.length<=n.toNat from H.elim fun es h=>⟨fs,es,h.1,h.2.1,hrl,h.2.2⟩
 unfold mD
 suffices H:∃ es,mC (bI 10 [.list (ns.map .int),.int k,.int m,.int n])=.ok (.rt (cP fs es))/\eB fs es/\es.length<=n.toNat from H.elim fun es h=>⟨es,cx h.1,h.2⟩
 have H:=rK (fun (i:Nat)=>cK i) (fun (a:Unit) (_:Nat)=>a) (fun bB _ ρ=>∃ l,l.length+bB.length<=n.toNat/\(l.map (·.1)).Nodup/\(∀ p∈l,∃ e,p.2=cy e/\rL fs e/\e.name=p.1)/\∃ z6 z7,ρ=[.shr (.list (ns.map .int)),.shr (.int k),.shr (.int m),.shr (.int n),.shr (aS fs),.own (.dict (ij l)),z6,z7,.no,.no]) (kt:=bR 6) (gb:=aP (dG 7 (dE 2 ko (J.a8 (rS 0) (J.a8 (g2 (g2 (rB 1) (kI 70) cS) (g2 (kI 40) (rB 6) xO) cS) J.aE)))) (D2 5 (rS 7) (dE 4 iO (J.a8 (rS 0) (J.a8 (g2 (g2 (rB 1) (kI 80) cS) (g2 (kI 40) (rB 6) xO) cS) (J.a8 (rS 4) (J.a8 (rS 7) J.aE)))))))
 obtain ⟨ρ',h1,l,h2,h3,h4,z6,z7,h5⟩:=H (by
  rintro i bB _ ρ ⟨l,h2,h3,h4,z6,z7,rfl⟩
  simp only [aU] at h2
  have hw:=EZ ns (k+70+40*(i:Int))
  obtain ⟨e,e1,e2,e3⟩:=L9 ns (k+80+40*(i:Int)) (by omega) fs hr.ok hr.up nd hr.len (kX ns (k+70+40*(i:Int))) hw
  have pl:=E_ l (kX ns (k+70+40*(i:Int))) (cy e)
  refine ⟨[.shr (.list (ns.map .int)),.shr (.int k),.shr (.int m),.shr (.int n),.shr (aS fs),.own (.dict (ij l)),.shr (.int i),z7,.no,.no],[.shr (.list (ns.map .int)),.shr (.int k),.shr (.int m),.shr (.int n),.shr (aS fs),.own (.dict (ij (t5 l (kX ns (k+70+40*(i:Int))) (cy e)))),.shr (.int i),.shr (.str (kX ns (k+70+40*(i:Int)))),.no,.no],rfl,?_,t5 l (kX ns (k+70+40*(i:Int))) (cy e),by omega,?_,?_,_,_,rfl⟩
  ·walk_at "zz"
   rw [sL (by decide) (by decide)]
   walk_at "zz"
   rw [Jt ns _ (by omega)]
   walk_at "zz"
   refine (S6 (l:=l) (x:=kX ns (k+70+40*(i:Int))) (d:=cy e) rfl ?_ rfl (by omega)).trans rfl
   walk_at "zz"
   rw [sL (by decide) (by decide)]
   walk_at "zz"
   exact e1
  ·rw [BO];exact L6 h3
  ·exact Oo (Q:=fun x d=>∃ e,d=cy e/\rL fs e/\e.name=x) h4 ⟨e,rfl,e2,e3⟩) (bg (eT ns (k+60) (n+1)).toNat) () [.shr (.list (ns.map .int)),.shr (.int k),.shr (.int m),.shr (.int n),.shr (aS fs),.own (.dict (ij [])),.no,.no,.no,.no] ⟨[],by rw [dO];simp only [bz];omega,iV,fun _ h=>(nomatch h),_,_,rfl⟩
 simp only [bz,Nat.add_zero] at h2
 have t0:=eZ ns (k+61) ((l.length:Int)+1) (by omega)
 have t1:=gj ns (k+61) ((l.length:Int)+1) (by omega)
 obtain ⟨t,ht⟩:∃ t:Nat,eT ns (k+61) ((l.length:Int)+1)=t:=⟨_,(dU t0).symm⟩
 have tl:t<=l.length:=by omega
 have pm:=La l t
 obtain ⟨es,k1,k2,k3⟩:=VE fs (l.drop t++l.take t) fun p hp=>h4 p (pm.mem_iff.mp hp)
 have kl:es.length=l.length:=by
  have:=congrArg tm k1
  rw [ar,ar,pm.length_eq] at this
  exact this.symm
 refine ⟨es,?_,⟨hr,by omega,?_,k3⟩,by omega⟩
 ·unfold mC bI
  walk_at "yy"
  rw [Oq ns k m hk hm0 (by omega),hfs]
  walk_at "yy"
  rw [rJ (ds:=(bg (eT ns (k+60) (n+1)).toNat).map fun (i:Nat)=>cK i)]
  ·rw [show PyData.dict []=PyData.dict (ij []) from rfl,h1,h5]
   walk_at "yy"
   rw [F4]
   walk_at "yy"
   rw [eR ns _ _ (by omega) (by omega),ht]
   walk_at "yy"
   clear H h1
   rw [Se _ t (by simpa using tl)]
   walk_at "yy"
   rw [Sf _ t (by simpa using tl)]
   walk_at "yy"
   have e1:(List.drop t (Ba aD (Ba (fun x=>x.fst) l))++List.take t (Ba aD (Ba (fun x=>x.fst) l)))=(l.drop t++l.take t).map fun p=>aD p.1:=by
    rw [cu,List.map_drop,List.map_take,fo];rfl
   rw [e1,if_pos (by rw [<- aL,e1,ar,pm.length_eq];omega)]
   have pl:=pm.length_eq
   have px:∀ p∈l.drop t++l.take t,p∈l:=fun p hp=>pm.mem_iff.mp hp
   clear e1 pm k2
   generalize l.drop t++l.take t=L at pl px k1 ⊢
   walk_at "yy"
   rw [if_pos (by omega)]
   rw [dA _ (fun p:Str×D=>aD p.1) (fun p=>p.2) L fun p hp=>fO rfl (by
    walk_at "yy"
    exact Ow h3 (px p hp))]
   walk_at "yy"
   rw [fH]
   walk_at "yy"
   rw [k1]
   rfl
  ·walk_at "yy"
   rw [eR ns (k+60) (n+1) (by omega) (by omega)]
   walk_at "yy"
   have:=vw (eT ns (k+60) (n+1)).toNat (by omega)
   rw [dU m0] at this
   exact this
 ·rw [k2]
  exact ((pm.map _).nodup_iff).mpr h3
theorem BP {α:Type} (b:α->Bool):∀ xs:List α,nq (xs.map fun x=>cG (b x))=some (xs.map b)
 |[]=>rfl
 |x::r=>by
  show (nq (r.map fun x=>cG (b x))).map (b x::·)=_
  rw [BP b r]
  rfl
theorem jk {α:Type} (k:List Bool->Bool) (b:α->Bool) (xs:List α):gF k (.list (xs.map fun x=>cG (b x)))=.ok (.bool (k (xs.map b))):=by
 have e:∀ ds,gF k (.list ds)=match nq ds with
  |some bs=>.ok (.bool (k bs))
  |none=>.no:=fun _=>rfl
 rw [e,BP]
theorem Ox {s s':Sl}{ρ:az}{gt:az->R Bool}{ge:az->R D}{d d' y:D} (h1:gt (.shr d::.shr d'::ρ)=.ok true) (h2:ge (.shr d::.shr d'::ρ)=.ok y):jd 2 (s::s'::ρ) gt ge (.tuple [d,d'])=.ok (some y):=by
 have e:jd 2 (s::s'::ρ) gt ge (.tuple [d,d'])=KG ((gt (.shr d::.shr d'::ρ)).bind fun b=>if b then (ge (.shr d::.shr d'::ρ)).bind fun y=>.ok (some y) else .ok none):=id rfl
 rw [e,h1,bind_ok,if_pos rfl,h2];rfl
theorem Oy (x:Str):qC (.str x)=true:=id rfl
theorem Oz (i:Int):qC (.int i)=true:=id rfl
theorem vB {α:Type} (c:α->D) (h:∀ x,qC (c x)=true):∀ xs:List α,noDs (xs.map c)=true
 |[]=>rfl
 |x::r=>by
  show (qC (c x)&&noDs (r.map c))=true
  rw [h x,vB c h r];rfl
theorem OA (xs:List D):qC (.tuple xs)=noDs xs:=id rfl
theorem lN (xs:List Str):qC (aS xs)=true:=by
 rw [OA]
 exact vB _ (fun _=>rfl) xs
theorem Jx (e:dJ):qC (cy e)=true:=by
 have:qC (cy e)=(true&&(qC (aS e.needs)&&(qC (aS e.bars)&&(qC (aS e.makes)&&(qC (aS e.ends)&&(true&&true)))))):=rfl
 rw [this,lN,lN,lN,lN];rfl
theorem Sg (es:List dJ):qC (.tuple (es.map cy))=true:=by
 rw [OA]
 exact vB _ Jx es
theorem QR (fs:List Str) (es:List dJ):qC (cP fs es)=true:=by
 have:qC (cP fs es)=(qC (aS fs)&&(qC (.tuple (es.map cy))&&true)):=rfl
 rw [this,lN,Sg];rfl
theorem OB (x:Str):y_ "str" (.str x)=true:=id rfl
theorem zH (x:List D):y_ "tuple" (.tuple x)=true:=id rfl
theorem TD (x:Int):y_ "int" (.int x)=true:=id rfl
theorem TF (x:Int):y_ "bool" (.int x)=false:=id rfl
theorem QS:∀ c:_root_.Fin 123,97<=c.val->(!qK ⟨#[c.val]⟩ "a")=true/\(!qK "z" ⟨#[c.val]⟩)=true:=by decide +kernel
theorem BQ {x:Str} (h:AM x=true):oX [.str x]=.ok (.bool true):=by
 have hw:=h
 unfold AM at h
 simp only [aN,decide_eq_true_eq,cJ] at h
 obtain ⟨⟨h1,h2⟩,h3⟩:=h
 have hl:x.length=x.cps.size:=rfl
 unfold oX
 refine cx ?_
 unfold sC bI
 walk_at "zz"
 rw [Oy,OB]
 walk_at "zz"
 rw [if_pos (by omega)]
 walk_at "zz"
 rw [decide_eq_true (by omega)]
 walk_at "zz"
 rw [decide_eq_true (by omega)]
 walk_at "zz"
 unfold oh
 walk_at "zz"
 rw [if_pos (by rw [ap];omega)]
 rw [dA _ (fun c:Nat=>aD ⟨#[c]⟩) (fun _=>cG true) x.cps.toList fun c hc=>fO rfl (by
  obtain ⟨a1,a2⟩:=h3 c hc
  obtain ⟨b1,b2⟩:=QS ⟨c,by omega⟩ a1
  walk_at "zz"
  simp only at b1 b2
  rw [b1]
  walk_at "zz"
  rw [b2])]
 walk_at "zz"
 rw [jk _ (fun _=>true)]
 walk_at "zz"
 simp
theorem F6:∀ (xs ys:List Str),xQ (xs.map .str) (ys.map .str)=(xs.zip ys).map fun p=>b_ [.str p.1,.str p.2]
 |[],_=>rfl
 |_::_,[]=>rfl
 |x::r,y::r'=>by
  show b_ [.str x,.str y]::xQ (r.map .str) (r'.map .str)=_
  rw [F6 r r']
  rfl
theorem OC:∀ {l:List Str},(l.Pairwise fun a b=>qK a b=true)->∀ p∈l.zip (l.drop 1),qK p.1 p.2=true
 |[],_,p,hp=>by cases hp
 |[_],_,p,hp=>by cases hp
 |a::b::r,h,p,hp=>by
  obtain ⟨h1,h2⟩:=List.pairwise_cons.mp h
  rcases List.mem_cons.mp hp with z|z
  ·rw [z];exact h1 b aq
  ·exact OC h2 p z
theorem QT (xs:List Str):G8 (aS xs) (some 1) none=.ok (aS (xs.drop 1)):=by
 have e:G8 (aS xs) (some 1) none=.ok (.tuple (AE (xs.map .str) (some 1) none)):=rfl
 rw [e]
 cases xs with
 |nil=>rfl
 |cons x r =>
  rw [show (1:Int)=((1:Nat):Int) from rfl,Ov _ 1 (by simp)]
  rfl
theorem xm {xs:List Str} (hw:∀ x∈xs,AM x=true) (up:xs.Pairwise fun a b=>qK a b=true) (hl:xs.length<=6):fF [aS xs]=.ok (.bool true):=by
 unfold fF
 refine cx ?_
 unfold gY bI
 walk_at "zz"
 rw [lN,zH]
 walk_at "zz"
 rw [if_pos (by omega)]
 rw [dA _ (fun x:Str=>aD x) (fun _=>cG true) xs fun x hx=>fO rfl (by
  walk_at "zz"
  rw [BQ (hw x hx)])]
 walk_at "zz"
 rw [jk _ (fun _=>true)]
 walk_at "zz"
 rw [show ((xs.map fun _=>true).all id)=true by simp]
 walk_at "zz"
 rw [QT]
 walk_at "zz"
 rw [F6]
 walk_at "zz"
 rw [if_pos (by simp;omega)]
 rw [dA _ (fun p:Str×Str=>b_ [.str p.1,.str p.2]) (fun _=>cG true) (xs.zip (xs.drop 1)) fun p hp=>Ox rfl (by
  walk_at "zz"
  rw [OC up p hp])]
 walk_at "zz"
 rw [jk _ (fun _=>true)]
 walk_at "zz"
 simp
theorem jr {fs xs:List Str} (hw:∀ x∈fs,AM x=true) (h:Sub fs xs) (hl:xs.length<=6):fh [aS fs,aS xs]=.ok (.bool true):=by
 unfold fh
 refine cx ?_
 unfold nz bI
 walk_at "zz"
 rw [xm (fun x hx=>hw x (h.mem x hx)) h.up hl]
 walk_at "zz"
 rw [if_pos (by omega)]
 rw [dA _ (fun x:Str=>aD x) (fun _=>cG true) xs fun x hx=>fO rfl (by
  walk_at "zz"
  rw [qd,decide_eq_true (h.mem x hx)]
  rfl)]
 walk_at "zz"
 rw [jk _ (fun _=>true)]
 walk_at "zz"
 simp
theorem wB {xs ys:List Str} (h:∀ x∈xs,x∉ys) (hl:xs.length<=6):el [aS xs,aS ys]=.ok (.bool true):=by
 unfold el
 refine cx ?_
 unfold jQ bI
 walk_at "zz"
 rw [if_pos (by omega)]
 rw [dA _ (fun x:Str=>aD x) (fun _=>cG false) xs fun x hx=>fO rfl (by
  walk_at "zz"
  rw [qd,decide_eq_false (h x hx)]
  rfl)]
 walk_at "zz"
 rw [jk _ (fun _=>false)]
 walk_at "zz"
 simp
theorem Hz {l i m:Int} (h0:l<=i) (h1:i<=m):pT [.int i,.int l,.int m]=.ok (.bool true):=by
 unfold pT
 refine cx ?_
 unfold pS bI
 walk_at "zz"
 rw [Oz,TD]
 walk_at "zz"
 rw [Oz,TF]
 walk_at "zz"
 rw [decide_eq_true h0]
 walk_at "zz"
 rw [decide_eq_true h1]
theorem Dh:∀ (xs fs:List Str),xs.Nodup->(∀ x∈xs,x∈fs)->xs.length<=fs.length
 |[],_,_,_=>dW _
 |x::r,fs,nd,h=>by
  obtain ⟨n1,n2⟩:=List.nodup_cons.mp nd
  have hx:=h x aq
  have:=Dh r (fs.erase x) n2 fun y hy=>(List.mem_erase_of_ne fun (z:y=x)=>n1 (z ▸ hy)).mpr (h y (ao _ hy))
  rw [List.length_erase_of_mem hx] at this
  have:0<fs.length:=List.length_pos_of_mem hx
  rw [aU]
  omega
theorem e_ {fs xs:List Str} (h:Sub fs xs) (hl:fs.length<=6):xs.length<=6:=by
 exact bK (Dh xs fs (kY h.up) h.mem) hl
theorem X4 (a b c d e f g:D):NW (mY 6 (cE (bR 2) (cE (bR 3) (cE (bR 4) (cE (bR 5) (cE (bR 6) (cE (bR 7) oQ))))))) [Sl.shr a,Sl.shr (.tuple [b,c,d,e,f,g]),.no,.no,.no,.no,.no,.no] (.tuple [b,c,d,e,f,g])=.ok (.nx [Sl.shr a,Sl.shr (.tuple [b,c,d,e,f,g]),.shr b,.shr c,.shr d,.shr e,.shr f,.shr g]):=id rfl
theorem F7 {fs:List Str} (hr:QN fs 6) {e:dJ} (g:rL fs e):nC [aS fs,cy e]=.ok (.bool true):=by
 have l1:=e_ g.needs hr.len
 have l2:=e_ g.bars hr.len
 have l3:=e_ g.makes hr.len
 have l4:=e_ g.ends hr.len
 unfold nC
 refine cx ?_
 unfold nA bI
 walk_at "zz"
 rw [Jx]
 unfold cy
 walk_at "zz"
 rw [zH]
 walk_at "zz"
 rw [mG]
 walk_at "zz"
 rw [show decide (((6:Nat):Int)=6)=true from rfl]
 walk_at "zz"
 rw [X4]
 ·walk_at "zz"
  rw [BQ g.name]
  walk_at "zz"
  rw [Hz g.p0 g.p9]
  walk_at "zz"
  have pk:=dA (jd 1 [Sl.no,Sl.shr (aS fs)] kT (dE 2 fh (J.a8 (rS 1) (J.a8 (rS 0) J.aE)))) (fun x:List Str=>aS x) (fun _=>cG true) [e.needs,e.bars,e.makes,e.ends] fun x hx=>fO rfl (by
   walk_at "zz"
   simp only [a_,aQ,or_false] at hx
   rcases hx with z|z|z|z<;>rw [z]
   ·rw [jr hr.ok g.needs l1]
   ·rw [jr hr.ok g.bars l2]
   ·rw [jr hr.ok g.makes l3]
   ·rw [jr hr.ok g.ends l4])
  simp only [aM,eE] at pk
  rw [pk]
  walk_at "zz"
  rw [show gF (fun bs=>bs.all id) (.list [.bool true,.bool true,.bool true,.bool true])=.ok (.bool true) from rfl]
  walk_at "zz"
  rw [wB g.nb l1]
  walk_at "zz"
  rw [wB g.me l3]
  walk_at "zz"
theorem OD (l:List Str) (nd:l.Nodup):(cX [] l).length=l.length:=by
 have h1:=Dh (cX [] l) l (iz l [] iV) fun x hx=>((iI l [] x).mp hx).elim (fun h=>nomatch h) id
 have h2:=Dh l (cX [] l) nd fun x hx=>(iI l [] x).mpr (.inr hx)
 omega
theorem Lb (es:List dJ) (hl:es.length<=6) (nd:(es.map (·.name)).Nodup) (s:Sl) (ρ:az) (h:(s::ρ)[2]?=some (.shr (.tuple (es.map cy)))):vg (wy 1 [] (lX (rB 2)) kT (g2 (rB 0) (kI 0) aZ)) (s::ρ)=.ok (.int (es.length:Nat)):=by
 have hr:G7 (s::ρ) 2=.ok (.tuple (es.map cy)):=by unfold G7;rw [h]
 unfold vg wy
 rw [Tl,Tu,hr]
 walk_at "zz"
 rw [if_pos (by omega)]
 rw [dA _ cy (fun e=>aD e.name) es fun e he=>fO rfl (by
  walk_at "zz"
  rfl)]
 walk_at "zz"
 have:(es.map fun e=>aD e.name)=(es.map (·.name)).map .str:=by rw [fo];rfl
 rw [this,strsOf_map]
 simp only [D4,OD _ nd,ar]
theorem X5 (b c:D):NW (mY 2 (cE (bR 1) (cE (bR 2) oQ))) [Sl.shr (.tuple [b,c]),.no,.no] (.tuple [b,c])=.ok (.nx [Sl.shr (.tuple [b,c]),.shr b,.shr c]):=id rfl
theorem Lc {fs:List Str}{es:List dJ} (g:eB fs es):sF [cP fs es]=.ok (.bool true):=by
 have l1:=g.rise.len
 have l2:=g.len
 unfold sF
 refine cx ?_
 unfold sD bI
 walk_at "zz"
 rw [QR]
 unfold cP
 walk_at "zz"
 rw [zH]
 walk_at "zz"
 rw [mG]
 walk_at "zz"
 rw [show decide (((2:Nat):Int)=2)=true from rfl]
 walk_at "zz"
 rw [X5]
 walk_at "zz"
 rw [xm g.rise.ok g.rise.up l1]
 walk_at "zz"
 rw [decide_eq_false (by omega)]
 walk_at "zz"
 rw [Sg,zH]
 walk_at "zz"
 rw [decide_eq_false (by omega)]
 walk_at "zz"
 rw [if_pos (by omega)]
 rw [dA _ cy (fun _=>cG true) es fun e he=>fO rfl (by
  walk_at "zz"
  rw [F7 g.rise (g.ok e he)])]
 walk_at "zz"
 rw [jk _ (fun _=>true)]
 walk_at "zz"
 rw [show ((es.map fun _=>true).all id)=true by simp]
 walk_at "zz"
 rw [Lb es l2 g.nd _ _ rfl]
 walk_at "zz"
 rw [mG,decide_eq_true rfl]
 rfl
theorem HA {fs:List Str}{es:List dJ} (g:eB fs es):sK [cP fs es]=.ok (cP fs es):=by
 unfold sK
 refine cx ?_
 unfold sJ bI
 walk_at "zz"
 rw [Lc g]
 walk_at "zz"
theorem Ld {α:Type} (c:α->D) (h:∀ x,bw (c x) (c x)=true):∀ xs:List α,kR (xs.map c) (xs.map c)=true
 |[]=>by simp [kR]
 |x::r=>by simp [kR,h x,Ld c h r]
theorem zI {α:Type} (c:α->D):∀ xs:List α,(∀ x∈xs,(c x).canLay0=true)->bZ (xs.map c)=true
 |[],_=>rfl
 |x::r,h=>by
  have h1:=h x aq
  have h2:=zI c r fun y hy=>h y (ao _ hy)
  simp only [aM,bZ,h1,h2,lu]
theorem BR {α:Type} (c:α->D) (n:Nat) (h:∀ x,(c x).depth<=n):∀ xs:List α,y8 (xs.map c)<=n
 |[]=>by simp [y8]
 |x::r=>by
  simp only [aM,y8]
  exact Nat.max_le.mpr ⟨h x,BR c n h r⟩
theorem vC {fs xs:List Str} (hf:∀ x∈fs,AM x=true) (h:Sub fs xs):bZ (xs.map .str)=true:=zG xs fun x hx=>hf x (h.mem x hx)
theorem OE {fs:List Str} (hf:∀ x∈fs,AM x=true) {e:dJ} (g:rL fs e):(cy e).canLay0=true:=by
 unfold cy
 simp only [eG,bZ]
 have:=vz g.name
 simp only [eG] at this
 rw [vC hf g.needs,vC hf g.bars,vC hf g.makes,vC hf g.ends,this]
 rfl
theorem F8 {i:Nat}{g:az->R D}{ρ:az}{ds:List D}{d:D} (hi:ρ[i]?=some (Sl.own (.list ds))) (hg:g ρ=.ok d) (hl:ds.length<1000):pQ i g ρ=.ok (.nx (ρ.set i (.own (.list (ds++[d]))))):=by
 unfold pQ
 simp only [hi,hg,bind_ok,if_pos hl]
theorem OF {s s':Sl}{ρ:az}{gt:az->R Bool}{ge:az->R D}{d d' y:D}{b:Bool} (h1:gt (.shr d::.shr d'::ρ)=.ok b) (h2:b=true->ge (.shr d::.shr d'::ρ)=.ok y):jd 2 (s::s'::ρ) gt ge (.tuple [d,d'])=.ok (if b then some y else none):=by
 have e:jd 2 (s::s'::ρ) gt ge (.tuple [d,d'])=KG ((gt (.shr d::.shr d'::ρ)).bind fun b=>if b then (ge (.shr d::.shr d'::ρ)).bind fun y=>.ok (some y) else .ok none):=id rfl
 rw [e,h1,bind_ok]
 cases b with
 |true=>rw [if_pos rfl,h2 rfl];rfl
 |false=>rfl
theorem BS:∀ (xs:List Str) (n:Nat),(nN n xs).length=xs.length
 |[],_=>rfl
 |x::r,n=>by
  show (nN (n+1) r).length+1=r.length+1
  rw [BS r]
theorem Di (ns:List Int) (k:Int) (hk:0<=k) (fs:List Str) (hl:fs.length<=6) (m:Int):∃ ss:List Str,kq [.list (ns.map .int),.int k,aS fs,.int m]=.ok (aS ss)/\ss.Sublist fs:=by
 refine ⟨((nN 0 fs).filter fun q=>decide (eT ns (k+(q.1:Int)) 12<m)).map (·.2),?_,?_⟩
 ·unfold kq
  refine cx ?_
  unfold pV bI
  walk_at "zz"
  rw [yj]
  walk_at "zz"
  rw [if_pos (by rw [BS];omega)]
  rw [iK _ cI (fun q=>aD q.2) (fun q=>decide (eT ns (k+(q.1:Int)) 12<m)) (nN 0 fs) fun q hq=>OF (by
   walk_at "zz"
   rw [eR ns _ 12 (by omega) (by decide)]
   walk_at "zz") fun _=>rfl]
  walk_at "zz"
  rw [fH]
  walk_at "zz"
  unfold aS
  rw [fo]
  rfl
 ·have:=(K8 (l:=nN 0 fs) (p:=fun q=>decide (eT ns (k+(q.1:Int)) 12<m))).map (·.2)
  rw [sM] at this
  exact this
theorem HB {fs xs:List Str} (up:fs.Pairwise fun a b=>qK a b=true) (h:xs.Sublist fs):Sub fs xs:=⟨up.sublist h,fun x hx=>h.subset hx⟩
def Sh (P:az->Prop) (r:R Fl):Prop:=∃ ρ',r=.ok (.nx ρ')/\P ρ'
theorem F9 {α:Type}{kt:D->az->R az}{gb:az->R Fl} (c:α->D) (p:α->Bool) (out:α->D) (P:az->Prop):∀ (xs:List α) (ρ:az),(∀ x∈xs,∀ ρ,P ρ->∃ ρ1,kt (c x) ρ=.ok ρ1/\(p x=true->gb ρ1=.ok (.rt (out x)))/\(p x=false->Sh P (gb ρ1)))->P ρ ->
  (∀ x,xs.find? p=some x->ii kt gb (xs.map c) ρ=.ok (.rt (out x)))/\(xs.find? p=none->Sh P (ii kt gb (xs.map c) ρ))
 |[],ρ,_,q=>⟨fun x h=>(nomatch h),fun _=>⟨ρ,rfl,q⟩⟩
 |x::r,ρ,h,q=>by
  obtain ⟨ρ1,h1,h2,h3⟩:=h x aq ρ q
  rw [aM,dv]
  unfold ii
  rw [h1]
  cases hp:p x with
  |true =>
   refine ⟨fun y hy=>?_,fun hn=>nomatch hn⟩
   cases hy
   simp only [h2 hp]
  |false =>
   obtain ⟨ρ2,h4,h5⟩:=h3 hp
   simp only [h4]
   exact F9 c p out P r ρ2 (fun y hy=>h y (ao _ hy)) h5
structure k9 (fs m b:List Str):Prop where
 must:Sub fs m
 bars:Sub fs b
 mb:∀ x∈m,x∉b
abbrev f9 (m b:List Str):D:=.tuple [aS m,aS b]
theorem Jy (p:List Str) (x:Str):p.map aD++[aD x]=(p++[x]).map .str:=by simp
theorem QU (ns:List Int) (k:Int) (hk:0<=k) (fs:List Str) (up:fs.Pairwise fun a b=>qK a b=true) (hl:fs.length<=6):∃ m b,u6 [.list (ns.map .int),.int k,aS fs]=.ok (f9 m b)/\k9 fs m b:=by
 have nd:=kY up
 suffices H:∃ p q,mE (bI 8 [.list (ns.map .int),.int k,aS fs])=.ok (.rt (f9 p q))/\oo fs p q by
  obtain ⟨p,q,h1,h2⟩:=H
  exact ⟨p,q,cx h1,HB up h2.sp,HB up h2.sq,h2.d⟩
 unfold mE bI
 walk_at "yy"
 rw [rJ (ds:=(nN 0 fs).map cI)]
 ·have H:=rK cI (fun (a:Unit) (_:Nat×Str)=>a) (fun bB _ ρ=>∃ pre,pre++bB.map (·.2)=fs/\∃ p q,oo pre p q/\∃ z5 z6 z7,ρ=[.shr (.list (ns.map .int)),.shr (.int k),.shr (aS fs),.own (.list (p.map .str)),.own (.list (q.map .str)),z5,z6,z7]) (kt:=mY 2 (cE (bR 5) (cE (bR 6) oQ))) (gb:=aP (dG 7 (dE 3 bf (J.a8 (rS 0) (J.a8 (g2 (rB 1) (rB 5) cS) (J.a8 (kI 8) J.aE))))) (dI (fk (g2 (rB 7) (kI 2) Ep)) (pQ 3 (rS 6)) (dI (fk (g2 (rB 7) (kI 2) (mX false))) (pQ 4 (rS 6)) (fun ρ=>.ok (.nx ρ)))))
  obtain ⟨ρ',h1,pre,h2,p,q,h3,z5,z6,z7,h4⟩:=H (by
   rintro ⟨i,x⟩ bB _ ρ ⟨pre,h2,p,q,h3,z5,z6,z7,rfl⟩
   have hx:x∉pre:=by
    rw [<- h2,aM] at nd
    have:=(List.nodup_append.mp nd).2.2
    intro hx
    exact this x hx x aq rfl
   have hpl:pre.length<900:=by
    have:=congrArg tm h2
    rw [aL] at this
    omega
   have lp:=h3.sp.length_le
   have lq:=h3.sq.length_le
   refine ⟨[.shr (.list (ns.map .int)),.shr (.int k),.shr (aS fs),.own (.list (p.map .str)),.own (.list (q.map .str)),.shr (.int (i:Nat)),.shr (.str x),z7],?_⟩
   by_cases c1:eT ns (k+(i:Nat)) 8<2
   ·refine ⟨[.shr (.list (ns.map .int)),.shr (.int k),.shr (aS fs),.own (.list ((p++[x]).map .str)),.own (.list (q.map .str)),.shr (.int (i:Nat)),.shr (.str x),.shr (.int (eT ns (k+(i:Nat)) 8))],rfl,?_,pre++[x],by rw [<- h2];simp,_,_,h3.left x hx,_,_,_,rfl⟩
    walk_at "zz"
    rw [eR ns _ 8 (by omega) (by decide)]
    walk_at "zz"
    rw [decide_eq_true c1]
    walk_at "zz"
    rw [<- Jy]
    exact F8 (ds:=p.map .str) rfl rfl (by rw [ar];omega)
   ·by_cases c2:eT ns (k+(i:Nat)) 8=2
    ·refine ⟨[.shr (.list (ns.map .int)),.shr (.int k),.shr (aS fs),.own (.list (p.map .str)),.own (.list ((q++[x]).map .str)),.shr (.int (i:Nat)),.shr (.str x),.shr (.int (eT ns (k+(i:Nat)) 8))],rfl,?_,pre++[x],by rw [<- h2];simp,_,_,h3.right x hx,_,_,_,rfl⟩
     walk_at "zz"
     rw [eR ns _ 8 (by omega) (by decide)]
     walk_at "zz"
     rw [decide_eq_false c1]
     walk_at "zz"
     rw [mG]
     walk_at "zz"
     rw [decide_eq_true c2]
     walk_at "zz"
     rw [<- Jy]
     exact F8 (ds:=q.map .str) rfl rfl (by rw [ar];omega)
    ·refine ⟨[.shr (.list (ns.map .int)),.shr (.int k),.shr (aS fs),.own (.list (p.map .str)),.own (.list (q.map .str)),.shr (.int (i:Nat)),.shr (.str x),.shr (.int (eT ns (k+(i:Nat)) 8))],rfl,?_,pre++[x],by rw [<- h2];simp,_,_,h3.skip x,_,_,_,rfl⟩
     walk_at "zz"
     rw [eR ns _ 8 (by omega) (by decide)]
     walk_at "zz"
     rw [decide_eq_false c1]
     walk_at "zz"
     rw [mG]
     walk_at "zz"
     rw [decide_eq_false c2]
     walk_at "zz") (nN 0 fs) () [.shr (.list (ns.map .int)),.shr (.int k),.shr (aS fs),.own (.list []),.own (.list []),.no,.no,.no] ⟨[],by rw [sM];rfl,[],[],⟨ej _,ej _,fun _ h=>nomatch h⟩,_,_,_,rfl⟩
  refine ⟨p,q,?_,?_⟩
  ·rw [h1,h4]
   walk_at "zz"
   rw [fH]
   walk_at "zz"
   rw [fH]
   walk_at "zz"
  ·simp only [eE,cr] at h2
   rw [<- h2];exact h3
 ·walk_at "zz"
  rw [yj]
theorem TH (j:Int) (h0:0<=j) (h1:j<2):∃ m:Int,aZ (.list [.int 2,.int 4]) (.int j)=.ok (.int m):=by
 have:j=0\/j=1:=by omega
 rcases this with h|h<;>subst h
 ·exact ⟨2,rfl⟩
 ·exact ⟨4,rfl⟩
theorem Le (fs:List Str) (es:List dJ):aZ (cP fs es) (.int 0)=.ok (aS fs):=id rfl
theorem TJ (fs:List Str) (es:List dJ):aZ (cP fs es) (.int 1)=.ok (.tuple (es.map cy)):=id rfl
theorem QV (ns:List Int) (m n:Int) (hm0:0<=m) (hm:m<=6) (hn0:0<=n) (hn:n<=6):∃ fs es ss wm wb,pZ [.list (ns.map .int),.int m,.int n]=.ok (.tuple [cP fs es,aS ss,f9 wm wb])/\eB fs es/\Sub fs ss/\k9 fs wm wb/\fs.length<=m.toNat/\es.length<=n.toNat:=by
 obtain ⟨fs,es,hb,gb,fl⟩:=QQ ns 100 (by decide) m n hm0 hm hn0 hn
 obtain ⟨pt,hp⟩:=TH (eT ns 97 2) (eZ _ _ _ (by decide)) (gj _ _ _ (by decide))
 obtain ⟨ss,hs,gs⟩:=Di ns 20 (by decide) fs gb.rise.len pt
 obtain ⟨wm,wb,hw,gw⟩:=QU ns 30 (by decide) fs gb.rise.up gb.rise.len
 refine ⟨fs,es,ss,wm,wb,?_,gb,HB gb.rise.up gs,gw,fl⟩
 unfold pZ
 refine cx ?_
 unfold pY bI
 walk_at "zz"
 rw [hb]
 walk_at "zz"
 rw [Le]
 walk_at "zz"
 rw [eR ns 97 2 (by decide) (by decide)]
 walk_at "zz"
 rw [hp]
 walk_at "zz"
 rw [hs]
 walk_at "zz"
 rw [Le]
 walk_at "zz"
 rw [hw]
 walk_at "zz"
theorem OG {xs ys:List Str} (hl:xs.length<=60):el [aS xs,aS ys]=.ok (.bool (!xs.any fun x=>decide (x∈ys))):=by
 unfold el
 refine cx ?_
 unfold jQ bI
 walk_at "zz"
 rw [if_pos (by omega)]
 rw [dA _ (fun x:Str=>aD x) (fun x=>cG (decide (x∈ys))) xs fun x hx=>fO rfl (by
  walk_at "zz"
  rw [qd]
  rfl)]
 walk_at "zz"
 rw [jk _ (fun x=>decide (x∈ys))]
 walk_at "zz"
 rw [G3]
 rfl
theorem VF (neg:Bool) (e:dJ):DL neg (cy e) .none=.ok (.bool neg):=by cases neg<;>rfl
theorem VG (neg:Bool) (xs:List Str):DL neg (aS xs) .none=.ok (.bool neg):=by cases neg<;>rfl
theorem VH (neg:Bool):DL neg .none .none=.ok (.bool (!neg)):=by cases neg<;>rfl
theorem QW (e:dJ):aZ (cy e) (.int 0)=.ok (.str e.name):=id rfl
theorem X6 (e:dJ):aZ (cy e) (.int 3)=.ok (aS e.makes):=id rfl
theorem X7 (e:dJ):aZ (cy e) (.int 4)=.ok (aS e.ends):=id rfl
theorem VI (e:dJ):G8 (cy e) (some 1) (some 3)=.ok (f9 e.needs e.bars):=id rfl
theorem yc {xs:List D}{j:Nat}{v:D} (h:xs[j]?=some v):aZ (.list xs) (.int (j:Nat))=.ok v:=by
 have e:aZ (.list xs) (.int (j:Nat))=Ex (.list xs) (.int (j:Nat)):=rfl
 rw [e]
 unfold Ex
 simp only [si h]
def VJ:R D->Bool
 |.ok (.bool b)=>b
 |_=>false
theorem QX {r:R D} (h:VJ r=true):r=.ok (.bool true):=by
 unfold VJ at h
 split at h
 ·rw [h]
 ·cases h
theorem X8 (a x y z:D) (r:az):NW (mY 3 (cE (bR 1) (cE (bR 2) (cE (bR 3) oQ)))) (Sl.shr a::.no::.no::.no::r) (.tuple [x,y,z])=.ok (.nx (.shr a::.shr x::.shr y::.shr z::r)):=id rfl
def hX (st a b:List Str):Bool:=(a.all fun x=>decide (x∈st)) && !b.any fun x=>decide (x∈st)
theorem X9 (m b:List Str):aZ (f9 m b) (.int 0)=.ok (aS m):=id rfl
theorem Xa (m b:List Str):aZ (f9 m b) (.int 1)=.ok (aS b):=id rfl
theorem Jz {st a b:List Str} (ha:a.length<=60) (hb:b.length<=60):mF [aS st,f9 a b]=.ok (.bool (hX st a b)):=by
 unfold mF
 refine cx ?_
 unfold p_ bI
 walk_at "zz"
 rw [X9]
 walk_at "zz"
 rw [if_pos (by omega)]
 rw [dA _ (fun x:Str=>aD x) (fun x=>cG (decide (x∈st))) a fun x hx=>fO rfl (by
  walk_at "zz"
  rw [qd]
  rfl)]
 walk_at "zz"
 rw [jk _ (fun x=>decide (x∈st))]
 walk_at "zz"
 rw [Xa]
 walk_at "zz"
 rw [if_pos (by omega)]
 rw [dA _ (fun x:Str=>aD x) (fun x=>cG (decide (x∈st))) b fun x hx=>fO rfl (by
  walk_at "zz"
  rw [qd]
  rfl)]
 walk_at "zz"
 rw [jk _ (fun x=>decide (x∈st))]
 walk_at "zz"
 unfold hX
 rw [xa,G3]
 have e:(id∘fun x=>decide (x∈st))=fun x=>decide (x∈st):=rfl
 rw [e]
 cases (a.all fun x=>decide (x∈st))<;>rfl
theorem Dj {n:Nat}{g:az->R Fl}{ds:List D}{ρ:az} (h:g (bI n ds)=.ok (.nx ρ)):eL n g ds=.ok .none:=by unfold eL;rw [h]
theorem VL (a x y:D):NW (mY 2 (cE (bR 2) (cE (bR 3) oQ))) [Sl.shr a,.shr (.tuple [x,y]),.no,.no] (.tuple [x,y])=.ok (.nx [.shr a,.shr (.tuple [x,y]),.shr x,.shr y]):=id rfl
theorem zJ {st a b:List Str} (ha:a.length<=60) (hb:b.length<=60):oY [aS st,f9 a b]=.ok (.bool (hX st a b)):=by
 unfold oY
 refine cx ?_
 unfold sI bI f9
 walk_at "zz"
 rw [VL]
 walk_at "zz"
 rw [if_pos (by omega)]
 rw [dA _ (fun x:Str=>aD x) (fun x=>cG (decide (x∈st))) a fun x hx=>fO rfl (by
  walk_at "zz"
  rw [qd]
  rfl)]
 walk_at "zz"
 rw [jk _ (fun x=>decide (x∈st))]
 walk_at "zz"
 rw [OG (by omega)]
 unfold hX
 rw [xa]
 have e:(id∘fun x=>decide (x∈st))=fun x=>decide (x∈st):=rfl
 rw [e]
 cases (a.all fun x=>decide (x∈st))<;>rfl
theorem Lf {fs ss:List Str}{es:List dJ} (g:eB fs es) (h:Sub fs ss):kK [cP fs es,aS ss]=.ok .none:=by
 unfold kK
 refine Dj (ρ:=[.shr (cP fs es),.shr (aS ss)]) ?_
 unfold kJ bI
 walk_at "zz"
 rw [Le]
 walk_at "zz"
 rw [jr g.rise.ok h (e_ h g.rise.len)]
 walk_at "zz"
theorem OH {fs ss:List Str}{es:List dJ} (g:eB fs es) (h:Sub fs ss):kM [cP fs es,aS ss]=.ok .none:=by
 unfold kM
 refine Dj (ρ:=[.shr (cP fs es),.shr (aS ss)]) ?_
 unfold kL bI
 walk_at "zz"
 rw [HA g]
 walk_at "zz"
 rw [Lf g h]
 walk_at "zz"
theorem OI {fs:List Str}{es:List dJ}{x y:D}{p q r:Bool} (n:qC (.tuple [x,y])=true) (hx:fh [aS fs,x]=.ok (.bool p)) (hy:p=true->fh [aS fs,y]=.ok (.bool q)) (hs:p=true->q=true->el [x,y]=.ok (.bool r)):sH [cP fs es,.tuple [x,y]]=.ok (.bool (p&&(q&&r))):=by
 unfold sH
 refine cx ?_
 unfold sG bI
 walk_at "zz"
 rw [n,zH]
 walk_at "zz"
 rw [mG]
 walk_at "zz"
 rw [show decide (((2:Nat):Int)=2)=true from rfl]
 walk_at "zz"
 rw [VL]
 walk_at "zz"
 rw [Le]
 walk_at "zz"
 rw [hx]
 cases p with
 |false=>rfl
 |true =>
  walk_at "zz"
  rw [Le]
  walk_at "zz"
  rw [hy rfl]
  cases q with
  |false=>rfl
  |true =>
   walk_at "zz"
   rw [hs rfl rfl]
   cases r<;>rfl
theorem OJ {fs m b:List Str}{es:List dJ} (g:eB fs es) (h:k9 fs m b):lJ [cP fs es,f9 m b]=.ok .none:=by
 have n:qC (f9 m b)=true:=by
  have:qC (f9 m b)=(qC (aS m)&&(qC (aS b)&&true)):=rfl
  rw [this,lN,lN];rfl
 have l1:=e_ h.must g.rise.len
 have l2:=e_ h.bars g.rise.len
 unfold lJ
 refine Dj (ρ:=[.shr (cP fs es),.shr (f9 m b)]) ?_
 unfold lI bI
 walk_at "zz"
 rw [OI n (jr g.rise.ok h.must l1) (fun _=>jr g.rise.ok h.bars l2) (fun _ _=>wB h.mb l1)]
 walk_at "zz"
 rfl
theorem TK {fs ss m b:List Str}{es:List dJ} (g:eB fs es) (h:Sub fs ss) (w:k9 fs m b):nG [cP fs es,aS ss,f9 m b]=.ok .none:=by
 unfold nG
 refine Dj (ρ:=[.shr (cP fs es),.shr (aS ss),.shr (f9 m b)]) ?_
 unfold nF bI
 walk_at "zz"
 rw [OH g h]
 walk_at "zz"
 rw [OJ g w]
 walk_at "zz"
theorem OK (xs:List D):gX (.tuple xs)=.ok (.list xs):=id rfl
def vD (es:List dJ) (nm:Str):Option dJ:=es.find? fun e=>decide (e.name=nm)
def VM:Option dJ->D
 |none=>.none
 |some e=>cy e
theorem BU {fs:List Str}{es:List dJ} (g:eB fs es) {nm:Str} (hn:AM nm=true):hW [cP fs es,.str nm]=.ok (VM (vD es nm)):=by
 unfold hW
 refine cx ?_
 unfold jj bI
 walk_at "zz"
 rw [Oy,OB]
 walk_at "zz"
 rw [rJ (ds:=es.map cy)]
 ·obtain ⟨h1,h2⟩:=F9 cy (fun e=>decide (e.name=nm)) cy (fun ρ=>∃ z,ρ=[Sl.shr (cP fs es),.shr (.str nm),z]) (kt:=bR 2) (gb:=dI (fk (g2 (g2 (rB 2) (kI 0) aZ) (rB 1) (mX false))) (cq (rS 2)) (fun ρ=>.ok (.nx ρ))) es [Sl.shr (cP fs es),.shr (.str nm),.no] (by
   rintro e he ρ ⟨z,rfl⟩
   refine ⟨[.shr (cP fs es),.shr (.str nm),.shr (cy e)],rfl,fun hp=>?_,fun hp=>⟨[.shr (cP fs es),.shr (.str nm),.shr (cy e)],?_,_,rfl⟩⟩
   ·walk_at "zz"
    rw [QW]
    walk_at "zz"
    rw [Df false (g.ok e he).name hn]
    walk_at "zz"
    rw [hp]
    walk_at "zz"
   ·walk_at "zz"
    rw [QW]
    walk_at "zz"
    rw [Df false (g.ok e he).name hn]
    walk_at "zz"
    rw [hp]
    walk_at "zz") ⟨_,rfl⟩
  cases hf:es.find? (fun e=>decide (e.name=nm)) with
  |some e =>
   rw [h1 e hf]
   walk_at "zz"
   unfold vD
   rw [hf]
   rfl
  |none =>
   obtain ⟨ρ',e1,z,rfl⟩:=h2 hf
   rw [e1]
   walk_at "zz"
   unfold vD
   rw [hf]
   rfl
 ·walk_at "zz"
  rw [TJ]
  walk_at "zz"
theorem u7:∀ {es:List dJ},(es.map (·.name)).Nodup->∀ {e:dJ},e∈es->vD es e.name=some e
 |x::r,nd,e,he=>by
  obtain ⟨n1,n2⟩:=List.nodup_cons.mp nd
  unfold vD
  rw [dv]
  rcases List.mem_cons.mp he with h|h
  ·subst h;simp
  ·have:x.name≠e.name:=fun z=>n1 (by show x.name∈_;rw [z];exact mh h)
   rw [decide_eq_false this]
   exact u7 n2 h
structure JA (e:dJ):Prop where
 needs:e.needs.length<=6
 bars:e.bars.length<=6
 makes:e.makes.length<=6
 ends:e.ends.length<=6
theorem vE {fs:List Str}{es:List dJ} (g:eB fs es) {e:dJ} (he:e∈es):JA e :=
 ⟨e_ (g.ok e he).needs g.rise.len,e_ (g.ok e he).bars g.rise.len,e_ (g.ok e he).makes g.rise.len,e_ (g.ok e he).ends g.rise.len⟩
theorem Xb (e:dJ):aZ (cy e) (.int 1)=.ok (aS e.needs):=id rfl
theorem Xc (e:dJ):aZ (cy e) (.int 2)=.ok (aS e.bars):=id rfl
def Fa (e:dJ) (st:List Str):Option (List Str):=if hX st e.needs e.bars then some (DN ((st.filter fun x=>!decide (x∈e.ends))++e.makes)) else none
def QY:Option (List Str)->D
 |none=>.none
 |some s=>aS s
theorem yk {e:dJ} (he:JA e) {st:List Str} (hs:st.length<=30):eQ [cy e,aS st]=.ok (QY (Fa e st)):=by
 have:=he.needs
 have:=he.bars
 have:=he.makes
 unfold eQ
 refine cx ?_
 unfold q0 bI
 walk_at "zz"
 rw [VI]
 walk_at "zz"
 rw [Jz (by omega) (by omega)]
 walk_at "zz"
 unfold Fa
 cases hg:hX st e.needs e.bars with
 |false =>
  walk_at "zz"
  rfl
 |true =>
  walk_at "zz"
  rw [if_pos (by omega)]
  rw [iK _ (fun x:Str=>aD x) (fun x=>aD x) (fun x=>!decide (x∈e.ends)) st fun x hx=>vi (by
   walk_at "zz"
   rw [X7]
   walk_at "zz"
   rw [qd]
   rfl) fun _=>rfl]
  have hf:(st.filter fun x=>!decide (x∈e.ends)).length<=st.length:=sf _ _
  walk_at "zz"
  rw [wA,Jv]
  walk_at "zz"
  rw [X6]
  walk_at "zz"
  rw [OK]
  walk_at "zz"
  rw [if_pos (by omega)]
  walk_at "zz"
  rw [<- cu,zE _ (by rw [aL];omega)]
  walk_at "zz"
  rw [zF _ (by have:=gd ((st.filter fun x=>!decide (x∈e.ends))++e.makes) [];simp only [bz,aL] at this;omega)]
  walk_at "zz"
  rw [fH]
  rfl
theorem TL:∀ {a b:List Str},(a.Pairwise fun x y=>qK x y=true)->(b.Pairwise fun x y=>qK x y=true)->(∀ x,x∈a↔x∈b)->a=b:=by
 intro a b ha hb h
 have na:=kY ha
 have nb:=kY hb
 have p:a.Perm b:=(ni na nb).mpr h
 exact p.eq_of_pairwise (fun x y _ _ h1 h2=>by
  have:=su h1 h2
  rw [tZ] at this
  cases this) ha hb
def cV (e:dJ) (st:List Str):List Str:=DN ((st.filter fun x=>!decide (x∈e.ends))++e.makes)
theorem HC {e:dJ}{st:List Str}{x:Str}:x∈cV e st↔(x∈st/\x∉e.ends)\/x∈e.makes:=by
 unfold cV
 rw [nM]
 simp [Ae]
theorem wC (e:dJ) (st:List Str):Fa e st=if hX st e.needs e.bars then some (cV e st) else none:=rfl
theorem Lg (s:List Str):QY (some s)=aS s:=rfl
theorem Lh:QY none=.none:=rfl
theorem VN (ga gb:az->R (List Str)) (s:Sl) (ρ:az) {xs ys:List Str} (h1:ga (s::ρ)=.ok xs) (h2:gb (s::ρ)=.ok ys) (hl:xs.length+ys.length<=15):O9 ga gb (s::ρ)=.ok (cX xs ys):=by
 unfold O9 J.To
 rw [h1,bind_ok,h2,bind_ok,if_pos hl]
theorem BV (ss:List Str) (h:ss.length<60):u3 (aS ss)=.ok (cX [] ss):=by
 have e:∀ ds,u3 (.tuple ds)=match gG ds with
  |some ss=>if ss.length<60 then .ok (cX [] ss) else .no
  |none=>.no:=fun _=>rfl
 rw [e,strsOf_map]
 simp only [if_pos h]
theorem TM (xs ys:List Str):jO (cX (cX [] xs) (cX [] ys))=DN (xs++ys):=by
 refine TL (wt (r6 _) ((gV _).nodup_iff.mpr (iz _ _ (iz _ [] iV)))) (Hy _) fun x=>?_
 rw [(gV _).mem_iff,iI,iI,iI,nM,qP]
 simp
theorem Li {xs ys:List Str} (h:xs.length+ys.length<=12):vp [aS xs,aS ys]=.ok (aS (DN (xs++ys))):=by
 have l1:=gd xs []
 have l2:=gd ys []
 simp only [bz] at l1 l2
 have l3:=gd (cX [] ys) (cX [] xs)
 unfold vp
 refine cx ?_
 unfold vo bI
 walk_at "zz"
 rw [wA,VN _ _ _ _ (BV xs (by omega)) (BV ys (by omega)) (by omega)]
 walk_at "zz"
 rw [zF _ (by omega),TM]
 walk_at "zz"
 rw [fH]
 walk_at "zz"
theorem HD {xs ys:List Str} (h:xs.length<=60):sB [aS xs,aS ys]=.ok (aS (xs.filter fun x=>!decide (x∈ys))):=by
 unfold sB
 refine cx ?_
 unfold sA bI
 walk_at "zz"
 rw [if_pos (by omega)]
 rw [iK _ (fun x:Str=>aD x) (fun x=>aD x) (fun x=>!decide (x∈ys)) xs fun x hx=>vi (by
  walk_at "zz"
  rw [qd]
  rfl) fun _=>rfl]
 walk_at "zz"
 rw [fH]
 walk_at "zz"
theorem VO {i j:Nat}{gs:az->R (List D)}{s:Sl}{ρ:az}{d e:D} (h:gs (s::ρ)=.ok [d,e]):Oa i j gs (s::ρ)=.ok (.nx (((s::ρ).set i (.shr d)).set j (.shr e))):=by
 unfold Oa
 rw [h]
 rfl
theorem Lj {e:dJ} (he:JA e) {st:List Str} (hs:st.length<=6):fG [cy e,aS st]=.ok (aS (cV e st)):=by
 have:=he.makes
 have hf:(st.filter fun x=>!decide (x∈e.ends)).length<=st.length:=sf _ _
 unfold fG
 refine cx ?_
 unfold jR bI
 walk_at "zz"
 rw [VO (d:=aS e.makes) (e:=aS e.ends) rfl]
 walk_at "zz"
 rw [HD (by omega)]
 walk_at "zz"
 rw [Li (by omega)]
 rfl
theorem BW {e:dJ} (he:JA e) {st:List Str}:iC [cy e,aS st]=.ok (.bool (hX st e.needs e.bars)):=by
 have:=he.needs
 have:=he.bars
 unfold iC
 refine cx ?_
 unfold nE bI
 walk_at "zz"
 rw [Xb]
 walk_at "zz"
 rw [Xc]
 walk_at "zz"
 rw [zJ (by omega) (by omega)]
 walk_at "zz"
def mZ:List dJ->List Str->Option (List Str)
 |[],st=>some st
 |e::r,st=>if hX st e.needs e.bars then mZ r (cV e st) else none
def gO:List dJ->List Str->List (List Str)
 |[],st=>[st]
 |e::r,st=>if hX st e.needs e.bars then st::gO r (cV e st) else [st]
def bC (st m b:List Str) (rs:List dJ):Bool:=match mZ rs st with
 |some s=>hX s m b
 |none=>false
theorem qe {fs st:List Str}{e:dJ} (hf:fs.Pairwise fun a b=>qK a b=true) (g:rL fs e) (h:Sub fs st):Sub fs (cV e st):=by
 refine ⟨Hy _,fun x hx=>?_⟩
 rcases HC.mp hx with z|z
 ·exact h.mem x z.1
 ·exact g.makes.mem x z
theorem Ll:∀ (rs:List dJ) (st:List Str),(gO rs st).length<=rs.length+1
 |[],_=>am _
 |e::r,st=>by
  unfold gO
  split
  ·have:=Ll r (cV e st)
   simp only [aU]
   omega
  ·simp
theorem BX:∀ (rs:List dJ) (st:List Str),decide (((rs.length:Nat):Int)<((gO rs st).length:Nat))=(mZ rs st).isSome
 |[],_=>rfl
 |e::r,st=>by
  unfold gO mZ
  cases hX st e.needs e.bars with
  |true =>
   rw [if_pos rfl,if_pos rfl,<- BX r]
   simp only [aU]
   congr 1
   simp only [eq_iff_iff]
   omega
  |false =>
   rw [if_neg aH,if_neg aH]
   simp only [aU,bz]
   exact decide_eq_false (by omega)
theorem qf:∀ (rs:List dJ) (st s:List Str),mZ rs st=some s->∃ pre,gO rs st=pre++[s]
 |[],st,s,h=>by cases h;exact ⟨[],rfl⟩
 |e::r,st,s,h=>by
  unfold mZ at h
  unfold gO
  cases hg:hX st e.needs e.bars with
  |true =>
   rw [hg,if_pos rfl] at h
   rw [if_pos rfl]
   obtain ⟨pre,hp⟩:=qf r _ _ h
   exact ⟨st::pre,by rw [hp];rfl⟩
  |false=>rw [hg] at h;cases h
theorem vF (xs:List D) (x:D):aZ (.list (xs++[x])) (.int (-1))=.ok x:=by
 have e:aZ (.list (xs++[x])) (.int (-1))=Ex (.list (xs++[x])) (.int (-1)):=rfl
 rw [e]
 unfold Ex
 have:DJ (xs++[x]) (-1)=some x:=by
  unfold DJ Rk
  rw [if_neg (by decide),if_pos (by simp only [aL,aU,bz];omega)]
  have hj:(-1+((xs++[x]).length:Int)).toNat=xs.length:=by simp only [aL,aU,bz];omega
  simp only [w_,hj]
  rw [bc (am _)]
  simp
 simp only [this]
theorem TQ {i:Nat}{kt:D->az->R az}{gb:az->R Fl}{ρ:az}{d:D} (h:ρ[i]?=some (Sl.shr d)):zg i kt gb ρ=pP (lX fun ρ=>G6 ρ i) kt gb ρ:=by
 unfold zg
 rw [h]
structure xT (es rs:List dJ):Prop where
 mem:∀ e∈rs,e∈es
 len:rs.length<=64
abbrev cm (rs:List dJ):D:=.list (rs.map fun e=>aD e.name)
theorem OL (rs:List dJ):noDs (rs.map fun e=>aD e.name)=true:=vB _ (fun _=>rfl) rs
theorem OM {fs:List Str}{es rs:List dJ} (g:eB fs es) (h:xT es rs):vt [cP fs es,cm rs]=.ok (.bool true):=by
 have hl:=h.len
 unfold vt
 refine cx ?_
 unfold vq bI
 walk_at "zz"
 rw [show qC (cm rs)=true from OL rs,show y_ "list" (cm rs)=true from rfl]
 walk_at "zz"
 rw [decide_eq_false (by omega)]
 walk_at "zz"
 rw [if_pos (by omega)]
 rw [dA _ (fun e:dJ=>aD e.name) (fun _=>cG true) rs fun e he=>fO rfl (by
  walk_at "zz"
  rw [BU g (g.ok e (h.mem e he)).name,u7 g.nd (h.mem e he)]
  simp only [VM]
  walk_at "zz"
  rw [VF])]
 walk_at "zz"
 rw [jk _ (fun _=>true)]
 walk_at "zz"
 simp
theorem HE {fs:List Str}{es rs:List dJ} (g:eB fs es) (h:xT es rs):lL [cP fs es,cm rs]=.ok (.list (rs.map cy)):=by
 have hl:=h.len
 unfold lL
 refine cx ?_
 unfold lK bI
 walk_at "zz"
 rw [OM g h]
 walk_at "zz"
 rw [if_pos (by omega)]
 rw [dA _ (fun e:dJ=>aD e.name) cy rs fun e he=>fO rfl (by
  walk_at "zz"
  rw [BU g (g.ok e (h.mem e he)).name,u7 g.nd (h.mem e he)]
  rfl)]
 walk_at "zz"
theorem iP:Te (.int 1)=.ok (.int (-1)):=rfl
theorem o_ (g:az->R D) (s:Sl) (ρ:az):kU g (s::ρ)=(g (s::ρ)).bind Te:=id rfl
theorem qg {kt:D->az->R az}{gb:az->R Fl}{d:D}{r:List D}{ρ ρ1 ρ2:az} (h1:kt d ρ=.ok ρ1) (h2:gb ρ1=.ok (.nx ρ2)):ii kt gb (d::r) ρ=ii kt gb r ρ2:=by
 rw [ii,h1]
 simp only [h2]
theorem Dk {kt:D->az->R az}{gb:az->R Fl}{d x:D}{r:List D}{ρ ρ1:az} (h1:kt d ρ=.ok ρ1) (h2:gb ρ1=.ok (.rt x)):ii kt gb (d::r) ρ=.ok (.rt x):=by
 rw [ii,h1]
 simp only [h2]
theorem xn {fs:List Str}{es:List dJ} (g:eB fs es) (A B:D):∀ (rs:List dJ) (pre:List (List Str)) (st:List Str) (z:Sl),(∀ e∈rs,e∈es)->Sub fs st->pre.length+rs.length<=100 ->
  (∃ z',ii (bR 3) (aP (dI (iZ (fk (dE 2 iC (J.a8 (rS 3) (J.a8 (g2 (rB 2) (kU (kI 1)) aZ) J.aE))))) (cq (rS 2)) (fun ρ=>.ok (.nx ρ))) (pQ 2 (dE 2 fG (J.a8 (rS 3) (J.a8 (g2 (rB 2) (kU (kI 1)) aZ) J.aE))))) (rs.map cy) [.shr A,.shr B,.own (.list ((pre++[st]).map aS)),z]=.ok (.nx [.shr A,.shr B,.own (.list ((pre++gO rs st).map aS)),z'])) \/
  ii (bR 3) (aP (dI (iZ (fk (dE 2 iC (J.a8 (rS 3) (J.a8 (g2 (rB 2) (kU (kI 1)) aZ) J.aE))))) (cq (rS 2)) (fun ρ=>.ok (.nx ρ))) (pQ 2 (dE 2 fG (J.a8 (rS 3) (J.a8 (g2 (rB 2) (kU (kI 1)) aZ) J.aE))))) (rs.map cy) [.shr A,.shr B,.own (.list ((pre++[st]).map aS)),z]=.ok (.rt (.list ((pre++gO rs st).map aS)))
 |[],pre,st,z,_,_,_=>.inl ⟨z,rfl⟩
 |e::r,pre,st,z,hm,hs,hl=>by
  have he:=hm e aq
  have sh:=vE g he
  simp only [aU] at hl
  have hix:aZ (.list ((pre++[st]).map aS)) (.int (-1))=.ok (aS st):=by
   rw [cu]
   exact vF _ _
  unfold gO
  cases hg:hX st e.needs e.bars with
  |true =>
   rw [if_pos rfl]
   have e2:pre++st::gO r (cV e st)=(pre++[st])++gO r (cV e st):=by simp
   rw [e2,aM]
   have hb:=xn g A B r (pre++[st]) (cV e st) (.shr (cy e)) (fun x hx=>hm x (ao _ hx)) (qe g.rise.up (g.ok e he) hs) (by rw [aL];simp only [aU,bz];omega)
   have hbody:(aP (dI (iZ (fk (dE 2 iC (J.a8 (rS 3) (J.a8 (g2 (rB 2) (kU (kI 1)) aZ) J.aE))))) (cq (rS 2)) (fun ρ=>.ok (.nx ρ))) (pQ 2 (dE 2 fG (J.a8 (rS 3) (J.a8 (g2 (rB 2) (kU (kI 1)) aZ) J.aE))))) [.shr A,.shr B,.own (.list ((pre++[st]).map aS)),.shr (cy e)]=.ok (.nx [.shr A,.shr B,.own (.list ((pre++[st]++[cV e st]).map aS)),.shr (cy e)]):=by
    walk_at "zz"
    rw [o_]
    walk_at "zz"
    rw [iP]
    walk_at "zz"
    rw [hix]
    walk_at "zz"
    rw [BW sh,hg]
    walk_at "zz"
    rw [cu (l₁:=pre++[st])]
    refine F8 (ds:=(pre++[st]).map aS) (d:=aS (cV e st)) rfl ?_ (by rw [ar,aL];simp only [aU,bz];omega)
    walk_at "zz"
    rw [o_]
    walk_at "zz"
    rw [iP]
    walk_at "zz"
    rw [hix]
    walk_at "zz"
    rw [Lj sh (e_ hs g.rise.len)]
   rw [qg (ρ1:=[.shr A,.shr B,.own (.list ((pre++[st]).map aS)),.shr (cy e)]) rfl hbody]
   exact hb
  |false =>
   rw [if_neg aH,aM]
   refine .inr (Dk (ρ1:=[.shr A,.shr B,.own (.list ((pre++[st]).map aS)),.shr (cy e)]) rfl ?_)
   walk_at "zz"
   rw [o_]
   walk_at "zz"
   rw [iP]
   walk_at "zz"
   rw [hix]
   walk_at "zz"
   rw [BW sh,hg]
   walk_at "zz"
theorem HF {fs st:List Str}{es rs:List dJ} (g:eB fs es) (h:xT es rs) (hs:Sub fs st):iM [.list (rs.map cy),aS st]=.ok (.list ((gO rs st).map aS)):=by
 have hl:=h.len
 unfold iM
 refine cx ?_
 unfold iL bI
 walk_at "zz"
 rw [TQ (d:=.list (rs.map cy)) rfl,rJ (ds:=rs.map cy)]
 ·rcases xn g (.list (rs.map cy)) (aS st) rs [] st .no h.mem hs (by simp only [bz];omega) with ⟨z,e⟩|e
  ·rw [eU,eU] at e
   simp only [aM,eE] at e
   rw [e]
   walk_at "zz"
  ·rw [eU,eU] at e
   simp only [aM,eE] at e
   rw [e]
   walk_at "zz"
 ·walk_at "zz"
theorem pc {fs st m b:List Str}{es rs:List dJ} (g:eB fs es) (h:xT es rs) (hs:Sub fs st) (hw:k9 fs m b):jf [cP fs es,aS st,f9 m b,cm rs]=.ok (.bool (bC st m b rs)):=by
 have l1:=e_ hw.must g.rise.len
 have l2:=e_ hw.bars g.rise.len
 unfold jf
 refine cx ?_
 unfold vv bI
 walk_at "zz"
 rw [TK g hs hw]
 walk_at "zz"
 rw [HE g h]
 walk_at "zz"
 rw [HF g h hs]
 walk_at "zz"
 rw [BX]
 unfold bC
 cases hr:mZ rs st with
 |none =>
  rw [Option.isSome_none]
  walk_at "zz"
 |some s =>
  obtain ⟨pre,hp⟩:=qf rs st s hr
  rw [mR,hp,cu]
  walk_at "zz"
  rw [o_]
  walk_at "zz"
  rw [iP]
  walk_at "zz"
  rw [vF]
  walk_at "zz"
  rw [zJ (by omega) (by omega)]
  walk_at "zz"
theorem QZ (neg:Bool) (ds:List D) (h:bZ ds=true):mX neg (.list ds) (.list [])=.ok (.bool (neg != decide (ds=[]))):=by
 unfold mX
 have h1:(gm ds).canLay0=true:=by simp only [eG];exact h
 have h3:min (gm ds).depth (gm []).depth<=60:=bK (qy _ _) (by decide)
 have h4:bw (.list ds) (.list [])=decide (ds=[]):=by
  cases ds with
  |nil=>rfl
  |cons x r=>simp [bw,kR]
 rw [h1,show (gm []).canLay0=true from rfl,decide_eq_true h3,h4]
 cases neg<;>cases decide (ds=[])<;>rfl
theorem JC (ds:List D) (h:bZ ds=true):mX false (.list ds) (.list [])=.ok (.bool (decide (ds=[]))):=by rw [QZ false ds h,Bool.false_bne]
theorem ON (neg:Bool) (o:Option (List Str)):DL neg (QY o) .none=.ok (.bool (neg==o.isSome)):=by cases o<;>cases neg<;>rfl
theorem Q_ {L:List dJ}{j:Int} (h0:0<=j) (h1:j<(L.length:Nat)):∃ e∈L,aZ (.list (L.map cy)) (.int j)=.ok (cy e):=by
 obtain ⟨n,rfl⟩:=qz h0
 have hn:n<L.length:=by omega
 refine ⟨L[n],j4 hn,yc ?_⟩
 rw [aJ,aX hn]
 rfl
theorem HG (e:dJ) (st:List Str):(Fa e st).isSome=hX st e.needs e.bars:=by
 unfold Fa
 cases hX st e.needs e.bars<;>rfl
theorem Fb (e:dJ):∀ (rs:List dJ) (st x:List Str),mZ rs st=some x->hX x e.needs e.bars=true->mZ (rs++[e]) st=some (cV e x)
 |[],st,x,h,g=>by cases h;show (if hX st e.needs e.bars then mZ [] (cV e st) else none)=_;rw [g];rfl
 |a::r,st,x,h,g=>by
  show (if hX st a.needs a.bars then mZ (r++[e]) (cV a st) else none)=_
  have h':(if hX st a.needs a.bars then mZ r (cV a st) else none)=some x:=h
  split at h'
  ·rename_i hg
   rw [if_pos hg]
   exact Fb e r _ _ h' g
  ·cases h'
theorem BY {fs s0:List Str}{es:List dJ} (g:eB fs es) (ns:List Int) (at0:Int) (h0:0<=at0) (M:D):∀ (ks:List Nat) (rs:List dJ) (st:List Str) (z7 z8 z9:Sl),(∀ e∈rs,e∈es)->Sub fs st->mZ rs s0=some st->rs.length+ks.length<=20 ->
  ∃ rs',(xT es rs'/\∃ x,mZ rs' s0=some x)/\(ii (bR 6) (aP (iX 7 (fg 1 [3] (lX (g2 (rB 2) (kI 1) aZ)) (fk (g2 (dE 2 eQ (J.a8 (rS 0) (J.a8 (rS 1) J.aE))) kN (DL true))) (rS 0))) (aP (dI (fk (g2 (rB 7) (fX J.aE .list) (mX false))) (cq (rS 5)) (fun ρ=>.ok (.nx ρ))) (aP (dG 8 (g2 (rB 7) (dE 3 bf (J.a8 (rS 0) (J.a8 (g2 (rB 1) (rB 6) cS) (J.a8 (bP (J.a8 (rB 7) J.aE) (hJ iJ)) J.aE)))) aZ)) (aP (pQ 5 (g2 (rB 8) (kI 0) aZ)) (dG 3 (dE 2 eQ (J.a8 (rS 8) (J.a8 (rS 3) J.aE)))))))) (ks.map fun (i:Nat)=>cK (i:Int)) [.shr (.list (ns.map .int)),.shr (.int at0),.shr (cP fs es),.shr (aS st),.shr M,.own (cm rs),z7,z8,z9]).bind (KL (cq (rS 5)))=.ok (.rt (cm rs'))
 |[],rs,st,z7,z8,z9,hm,hs,hr,hl=>by
  refine ⟨rs,⟨⟨hm,by simp at hl;omega⟩,st,hr⟩,?_⟩
  rw [eE,ii]
  walk_at "zz"
 |k::ks,rs,st,z7,z8,z9,hm,hs,hr,hl=>by
  have ls:=e_ hs g.rise.len
  have lg:=g.len
  simp only [aU] at hl
  let L:=es.filter fun e=>hX st e.needs e.bars
  have hL:∀ e∈L,e∈es/\hX st e.needs e.bars=true:=fun e he=>List.mem_filter.mp he
  have hc:∀ (z:Sl),fg 1 [3] (lX (g2 (rB 2) (kI 1) aZ)) (fk (g2 (dE 2 eQ (J.a8 (rS 0) (J.a8 (rS 1) J.aE))) kN (DL true))) (rS 0) [.shr (.list (ns.map .int)),.shr (.int at0),.shr (cP fs es),.shr (aS st),.shr M,.own (cm rs),.shr (.int (k:Int)),z8,z]=.ok (.list (L.map cy)):=by
   intro z
   walk_at "zz"
   rw [TJ]
   walk_at "zz"
   rw [if_pos (by omega)]
   rw [iK _ cy cy (fun e=>hX st e.needs e.bars) es fun e he=>vi (by
    walk_at "zz"
    rw [yk (vE g he) (by omega)]
    walk_at "zz"
    rw [ON,HG]
    walk_at "zz"
    rw [Bool.true_beq]) fun _=>rfl]
   walk_at "zz"
   rfl
  have lay:bZ (L.map cy)=true:=zI cy L fun e he=>OE g.rise.ok (g.ok e (hL e he).1)
  rw [aM]
  by_cases hn:L=[]
  ·refine ⟨rs,⟨⟨hm,by omega⟩,st,hr⟩,?_⟩
   rw [Dk (x:=cm rs) (ρ1:=[.shr (.list (ns.map .int)),.shr (.int at0),.shr (cP fs es),.shr (aS st),.shr M,.own (cm rs),.shr (.int (k:Int)),z8,z9]) rfl ?_]
   ·walk_at "zz"
   ·rw [zr]
    unfold iX
    rw [hc]
    walk_at "zz"
    rw [JC _ lay,hn]
    walk_at "zz"
  ·have hp:0<L.length:=List.length_pos_iff.mpr hn
   have hk:((L.length:Nat):Int) > 0:=by omega
   obtain ⟨e,he,hix⟩:=Q_ (L:=L) (eZ ns (at0+k) (L.length:Nat) (by omega)) (gj ns (at0+k) (L.length:Nat) (by omega))
   obtain ⟨he1,he2⟩:=hL e he
   obtain ⟨rs',r1,r2⟩:=BY g ns at0 h0 M ks (rs++[e]) (cV e st) (.shr (.int (k:Int))) (.own (.list (L.map cy))) (.shr (cy e)) (fun x hx=>by
    rcases List.mem_append.mp hx with h|h
    ·exact hm x h
    ·rw [List.mem_singleton.mp h];exact he1) (qe g.rise.up (g.ok e he1) hs) (Fb e rs s0 st hr he2) (by rw [aL,ik];omega)
   refine ⟨rs',r1,?_⟩
   rw [qg (ρ1:=[.shr (.list (ns.map .int)),.shr (.int at0),.shr (cP fs es),.shr (aS st),.shr M,.own (cm rs),.shr (.int (k:Int)),z8,z9]) (ρ2:=[.shr (.list (ns.map .int)),.shr (.int at0),.shr (cP fs es),.shr (aS (cV e st)),.shr M,.own (cm (rs++[e])),.shr (.int (k:Int)),.own (.list (L.map cy)),.shr (cy e)]) rfl ?_]
   ·exact r2
   ·rw [zr]
    unfold iX
    rw [hc]
    walk_at "zz"
    rw [JC _ lay,decide_eq_false (by simpa using hn)]
    walk_at "zz"
    rw [eR ns (at0+k) (L.length:Nat) (by omega) (by omega)]
    walk_at "zz"
    rw [hix]
    walk_at "zz"
    rw [F8 (ds:=rs.map fun e=>aD e.name) (d:=.str e.name) rfl (by
     walk_at "zz"
     rw [QW]) (by rw [ar];omega)]
    walk_at "zz"
    rw [yk (vE g he1) (by omega),wC,he2]
    walk_at "zz"
    simp only [cm,cu]
    rfl
theorem R1 {fs st:List Str}{es:List dJ} (g:eB fs es) (ns:List Int) (k n:Int) (h0:0<=k) (hn:0<=n) (h20:n<=20) (hs:Sub fs st):∃ rs,xT es rs/\(∃ x,mZ rs st=some x)/\q9 [.list (ns.map .int),.int k,cP fs es,aS st,.int n]=.ok (cm rs):=by
 obtain ⟨j,rfl⟩:=qz hn
 obtain ⟨rs,h1,h2⟩:=BY g ns k h0 (.int (j:Int)) (bg j) [] st .no .no .no (fun _ h=>nomatch h) hs rfl (by simp;omega)
 refine ⟨rs,h1.1,h1.2,?_⟩
 unfold q9
 refine cx ?_
 unfold q8 bI
 walk_at "zz"
 rw [rJ (ds:=(bg j).map fun (i:Nat)=>cK (i:Int))]
 ·exact h2
 ·walk_at "zz"
  exact vw j (by omega)
def HH (es:List dJ):List (Str×D):=es.map fun e=>(e.name,cy e)
theorem Fc:∀ es:List dJ,J.ny (es.map fun e=>b_ [.str e.name,cy e])=some (es.map fun e=>(ux e.name,cy e))
 |[]=>rfl
 |e::r=>by
  show (rG (.str e.name)).bind (fun y=>(J.ny (r.map fun e=>b_ [.str e.name,cy e])).map ((y,cy e)::·))=_
  rw [Fc r]
  rfl
theorem Fd:∀ (l acc:List (Str×D)),((acc++l).map (·.1)).Nodup->l.foldl (fun a p=>AG a (.str p.1) p.2) (ij acc)=ij (acc++l)
 |[],acc,_=>by rw [cr];rfl
 |p::r,acc,nd=>by
  have hx:p.1∉acc.map (·.1):=by
   rw [cu,aM] at nd
   intro h
   exact (List.nodup_append.mp nd).2.2 _ h _ aq rfl
  have hp:t5 acc p.1 p.2=acc++[p]:=by
   unfold t5
   rw [if_neg]
   rw [l5]
   rintro ⟨q,hq,e⟩
   exact hx (List.mem_map.mpr ⟨q,hq,of_decide_eq_true e⟩)
  rw [qS,Ju,hp]
  have:=Fd r (acc++[p]) (by rwa [oJ])
  rwa [oJ] at this
theorem R5 {es:List dJ} (nd:(es.map (·.name)).Nodup) (hl:es.length<=6):J.vj (.list (es.map fun e=>b_ [.str e.name,cy e]))=.ok (.dict (ij (HH es))):=by
 have e:J.vj (.list (es.map fun e=>b_ [.str e.name,cy e]))=if (es.map fun e=>b_ [.str e.name,cy e]).length<=1000 then (match J.ny (es.map fun e=>b_ [.str e.name,cy e]) with
  |some ps=>.ok (.dict (ps.foldl (fun a p=>AG a (kD p.1) p.2) []))
  |none=>.no) else .no:=rfl
 rw [e,if_pos (by rw [ar];omega),Fc]
 have:=Fd (HH es) [] (by rw [eU];unfold HH;rw [fo];exact nd)
 rw [eU] at this
 rw [<- this]
 unfold HH
 simp only [tE]
 rfl
theorem TU {es:List dJ} (nd:(es.map (·.name)).Nodup) {e:dJ} (he:e∈es):aZ (.dict (ij (HH es))) (.str e.name)=.ok (cy e) :=
 Ow (l:=HH es) (by unfold HH;rw [fo];exact nd) (p:=(e.name,cy e)) (mh (f:=fun e=>(e.name,cy e)) he)
theorem vG {fs:List Str}{es:List dJ} (g:eB fs es) (A B C:D):∀ (rs:List dJ) (n:Nat) (pre:List (List Str)) (st:List Str) (x y z:Sl),(∀ e∈rs,e∈es)->Sub fs st->pre.length+rs.length<=100 ->
  match mZ rs st with
  |some _=>∃ x' y' z',ii (mY 2 (cE (bR 5) (cE (bR 6) oQ))) (aP (dG 7 (dE 2 eQ (J.a8 (g2 (rB 3) (rB 6) aZ) (J.a8 (g2 (rB 4) (kU (kI 1)) aZ) J.aE)))) (aP (dI (fk (g2 (rB 7) kN (DL false))) (cq (rS 5)) (fun ρ=>.ok (.nx ρ))) (pQ 4 (rS 7)))) (jb n (rs.map fun e=>aD e.name)) [.shr A,.shr B,.shr C,.own (.dict (ij (HH es))),.own (.list ((pre++[st]).map aS)),x,y,z]=.ok (.nx [.shr A,.shr B,.shr C,.own (.dict (ij (HH es))),.own (.list ((pre++gO rs st).map aS)),x',y',z'])
  |none=>∃ k,ii (mY 2 (cE (bR 5) (cE (bR 6) oQ))) (aP (dG 7 (dE 2 eQ (J.a8 (g2 (rB 3) (rB 6) aZ) (J.a8 (g2 (rB 4) (kU (kI 1)) aZ) J.aE)))) (aP (dI (fk (g2 (rB 7) kN (DL false))) (cq (rS 5)) (fun ρ=>.ok (.nx ρ))) (pQ 4 (rS 7)))) (jb n (rs.map fun e=>aD e.name)) [.shr A,.shr B,.shr C,.own (.dict (ij (HH es))),.own (.list ((pre++[st]).map aS)),x,y,z]=.ok (.rt (.int k))
 |[],n,pre,st,x,y,z,_,_,_=>⟨x,y,z,rfl⟩
 |e::r,n,pre,st,x,y,z,hm,hs,hl=>by
  have he:=hm e aq
  have sh:=vE g he
  have ls:=e_ hs g.rise.len
  simp only [aU] at hl
  have hix:aZ (.list ((pre++[st]).map aS)) (.int (-1))=.ok (aS st):=by
   rw [cu]
   exact vF _ _
  have hk:aZ (.dict (ij (HH es))) (.str e.name)=.ok (cy e):=TU g.nd he
  have en:jb n ((e::r).map fun e=>aD e.name)=.tuple [.int (n:Nat),.str e.name]::jb (n+1) (r.map fun e=>aD e.name):=rfl
  rw [en]
  unfold gO mZ
  cases hg:hX st e.needs e.bars with
  |true =>
   rw [if_pos rfl,if_pos rfl]
   have e2:pre++st::gO r (cV e st)=(pre++[st])++gO r (cV e st):=by simp
   rw [e2]
   have ih:=vG g A B C r (n+1) (pre++[st]) (cV e st) (.shr (.int (n:Nat))) (.shr (.str e.name)) (.shr (aS (cV e st))) (fun x hx=>hm x (ao _ hx)) (qe g.rise.up (g.ok e he) hs) (by rw [aL];simp only [aU,bz];omega)
   rw [qg (ρ1:=[.shr A,.shr B,.shr C,.own (.dict (ij (HH es))),.own (.list ((pre++[st]).map aS)),.shr (.int (n:Nat)),.shr (.str e.name),z]) (ρ2:=[.shr A,.shr B,.shr C,.own (.dict (ij (HH es))),.own (.list ((pre++[st]++[cV e st]).map aS)),.shr (.int (n:Nat)),.shr (.str e.name),.shr (aS (cV e st))]) rfl ?_]
   ·exact ih
   ·walk_at "zz"
    rw [hk]
    walk_at "zz"
    rw [o_]
    walk_at "zz"
    rw [iP]
    walk_at "zz"
    rw [hix]
    walk_at "zz"
    rw [yk sh (by omega),wC,hg]
    walk_at "zz"
    rw [Lg,VG]
    walk_at "zz"
    rw [cu (l₁:=pre++[st])]
    exact F8 (ds:=(pre++[st]).map aS) (d:=aS (cV e st)) rfl (by rfl) (by rw [ar,aL];simp only [aU,bz];omega)
  |false =>
   rw [if_neg aH]
   refine ⟨(n:Int),?_⟩
   rw [Dk (x:=.int (n:Nat)) (ρ1:=[.shr A,.shr B,.shr C,.own (.dict (ij (HH es))),.own (.list ((pre++[st]).map aS)),.shr (.int (n:Nat)),.shr (.str e.name),z]) rfl ?_]
   walk_at "zz"
   rw [hk]
   walk_at "zz"
   rw [o_]
   walk_at "zz"
   rw [iP]
   walk_at "zz"
   rw [hix]
   walk_at "zz"
   rw [yk sh (by omega),wC,hg]
   walk_at "zz"
   rw [Lh,VH]
   walk_at "zz"
theorem TV (gs:az->R (List D)) (s:Sl) (ρ:az):J.Jm gs (s::ρ)=(gs (s::ρ)).bind J.QD:=id rfl
theorem OO (g:az->R D) (s:Sl) (ρ:az):J.yh g (s::ρ)=(g (s::ρ)).bind J.vj:=id rfl
theorem R6 (ds:List D):J.QD [.list ds]=.ok (jb 0 ds):=rfl
theorem zK {fs st:List Str}{es rs:List dJ} (g:eB fs es) (h:xT es rs) (hs:Sub fs st):match mZ rs st with
  |some _=>gf [cP fs es,aS st,cm rs]=.ok (.list ((gO rs st).map aS))
  |none=>∃ k,gf [cP fs es,aS st,cm rs]=.ok (.int k):=by
 have hl:=h.len
 have lg:=g.len
 have L:=vG g (cP fs es) (aS st) (cm rs) rs 0 [] st .no .no .no h.mem hs (by simp only [bz];omega)
 have K:∀ {x:D},(ii (mY 2 (cE (bR 5) (cE (bR 6) oQ))) (aP (dG 7 (dE 2 eQ (J.a8 (g2 (rB 3) (rB 6) aZ) (J.a8 (g2 (rB 4) (kU (kI 1)) aZ) J.aE)))) (aP (dI (fk (g2 (rB 7) kN (DL false))) (cq (rS 5)) (fun ρ=>.ok (.nx ρ))) (pQ 4 (rS 7)))) (jb 0 (rs.map fun e=>aD e.name)) [.shr (cP fs es),.shr (aS st),.shr (cm rs),.own (.dict (ij (HH es))),.own (.list (([]++[st]).map aS)),.no,.no,.no]).bind (KL (cq (rS 4)))=.ok (.rt x)->gf [cP fs es,aS st,cm rs]=.ok x:=by
  intro x hx
  unfold gf
  refine cx ?_
  unfold lM bI
  walk_at "zz"
  rw [OO]
  walk_at "zz"
  rw [TJ]
  walk_at "zz"
  rw [if_pos (by omega)]
  rw [dA _ cy (fun e=>b_ [.str e.name,cy e]) es fun e he=>fO rfl (by
   walk_at "zz"
   rw [QW]
   walk_at "zz")]
  walk_at "zz"
  rw [R5 g.nd lg]
  walk_at "zz"
  rw [rJ (ds:=jb 0 (rs.map fun e=>aD e.name))]
  ·exact hx
  ·rw [TV]
   walk_at "zz"
   rw [R6]
 cases hr:mZ rs st with
 |none =>
  rw [hr] at L
  obtain ⟨k,L⟩:=L
  refine ⟨k,K ?_⟩
  rw [L]
  walk_at "zz"
 |some s =>
  rw [hr] at L
  obtain ⟨x,y,z,L⟩:=L
  refine K ?_
  rw [L]
  walk_at "zz"
theorem JD {fs st m b:List Str}{es rs:List dJ} (g:eB fs es) (h:xT es rs) (hs:Sub fs st) (hw:k9 fs m b):jq [cP fs es,aS st,f9 m b,cm rs]=.ok (.bool (bC st m b rs)):=by
 have l1:=e_ hw.must g.rise.len
 have l2:=e_ hw.bars g.rise.len
 have L:=zK g h hs
 unfold jq
 refine cx ?_
 unfold qc bI
 walk_at "zz"
 unfold bC
 cases hr:mZ rs st with
 |none =>
  rw [hr] at L
  obtain ⟨k,L⟩:=L
  rw [L]
  walk_at "zz"
  rw [show qC (.int k)=true from rfl,show y_ "int" (.int k)=true from rfl]
  walk_at "zz"
 |some s =>
  rw [hr] at L
  simp only at L
  rw [L]
  obtain ⟨pre,hp⟩:=qf rs st s hr
  rw [hp]
  walk_at "zz"
  rw [show qC (.list ((pre++[s]).map aS))=true from vB _ lN _,show y_ "int" (.list ((pre++[s]).map aS))=false from rfl]
  walk_at "zz"
  rw [o_]
  walk_at "zz"
  rw [iP]
  walk_at "zz"
  rw [cu,show Ba aS [s]=[aS s] from rfl]
  rw [vF]
  walk_at "zz"
  rw [Jz (by omega) (by omega)]
  walk_at "zz"
def wo (k:Nat) (l:List dJ):List dJ:=l.take k++l.drop (k+1)
theorem HI {k:Nat}{l:List dJ} (h:k<l.length):(wo k l).length+1=l.length:=by
 unfold wo
 rw [aL,j0,j3]
 omega
theorem TW {k:Nat}{l:List dJ}{e:dJ} (h:e∈wo k l):e∈l:=by
 rcases qP.1 h with h|h
 ·exact List.mem_of_mem_take h
 ·exact List.mem_of_mem_drop h
theorem wD {es l:List dJ}{k:Nat} (h:xT es l):xT es (wo k l):=by
 refine ⟨fun e he=>h.mem e (TW he),?_⟩
 have:=h.len
 unfold wo
 rw [aL,j0,j3]
 omega
def fi (P:List dJ->Bool):Nat->List dJ->List dJ
 | 0,l=>l
 |k+1,l=>if P (wo k l) then fi P k (wo k l) else fi P k l
theorem ym (P:List dJ->Bool):∀ (k:Nat) (l:List dJ),k<=l.length->(fi P k l).length<=l.length/\((fi P k l).length=l.length->fi P k l=l/\∀ j,j<k->P (wo j l)=false)
 | 0,l,_=>⟨am _,fun _=>⟨rfl,fun j h=>absurd h (mf j)⟩⟩
 |k+1,l,h=>by
  unfold fi
  cases hp:P (wo k l) with
  |true =>
   rw [if_pos rfl]
   have e:=HI (k:=k) (l:=l) (by omega)
   have ih:=(ym P k (wo k l) (by omega)).1
   exact ⟨by omega,fun z=>by omega⟩
  |false =>
   rw [if_neg aH]
   have ih:=ym P k l (by omega)
   refine ⟨ih.1,fun z=>⟨(ih.2 z).1,fun j hj=>?_⟩⟩
   rcases Nat.lt_succ_iff_lt_or_eq.1 hj with h1|h1
   ·exact (ih.2 z).2 j h1
   ·rw [h1];exact hp
theorem rM {es:List dJ} (P:List dJ->Bool):∀ (k:Nat) (l:List dJ),xT es l->P l=true->xT es (fi P k l)/\P (fi P k l)=true
 | 0,l,h,q=>⟨h,q⟩
 |k+1,l,h,q=>by
  unfold fi
  cases hp:P (wo k l) with
  |true=>rw [if_pos rfl];exact rM P k _ (wD h) hp
  |false=>rw [if_neg aH];exact rM P k l h q
def oq (P:List dJ->Bool):Nat->List dJ->List dJ
 | 0,l=>l
 |n+1,l=>if (fi P l.length l).length<l.length then oq P n (fi P l.length l) else l
theorem OP {es:List dJ} (P:List dJ->Bool):∀ (n:Nat) (l:List dJ),xT es l->P l=true->l.length<=n->xT es (oq P n l)/\P (oq P n l)=true/\fi P (oq P n l).length (oq P n l)=oq P n l/\∀ j,j<(oq P n l).length->P (wo j (oq P n l))=false
 | 0,l,h,q,hl=>by
  have:l=[]:=yB (by omega)
  subst this
  exact ⟨h,q,rfl,fun j hj=>absurd hj (mf j)⟩
 |n+1,l,h,q,hl=>by
  unfold oq
  obtain ⟨o1,o2⟩:=rM (es:=es) P l.length l h q
  by_cases hlt:(fi P l.length l).length<l.length
  ·rw [if_pos hlt];exact OP P n _ o1 o2 (by omega)
  ·rw [if_neg hlt]
   have o:=ym P l.length l (am _)
   have e:=o.2 (by omega)
   exact ⟨h,q,e.1,e.2⟩
theorem Fe (P:List dJ->Bool) {l:List dJ} (h:fi P l.length l=l):∀ n,oq P n l=l
 | 0=>rfl
 |n+1=>by
  unfold oq
  rw [h,if_neg (bN _)]
theorem BZ (lo:Int) (n:Nat):J.lF lo (n+1)=cK lo::J.lF (lo-1) n:=by
 unfold J.lF
 rw [List.range_succ_eq_map,aM,fo]
 congr 1
 ·simp
 ·refine mi fun k _=>?_
  show cK (lo-((k+1:Nat):Int))=cK (lo-1-(k:Int))
  congr 1
  omega
theorem JF (n:Nat) (h:n<=100):J.Of [.int ((n:Nat)-1),.int (-1),.int (-1)]=.ok (J.lF ((n:Nat)-1) n):=by
 have e:J.Of [.int ((n:Nat)-1),.int (-1),.int (-1)]=if (-1:Int)=-1/\-1000<=((n:Nat)-1:Int)/\((n:Nat)-1:Int)<=1000/\(-1000:Int)<=-1/\(-1:Int)<=1000 then .ok (J.lF ((n:Nat)-1) (((n:Nat)-1:Int) - -1).toNat) else .no:=rfl
 rw [e,if_pos ⟨rfl,by omega,by omega,by omega,by omega⟩]
 rw [show (((n:Nat)-1:Int) - -1).toNat=n by omega]
theorem Wa {l:List dJ}{k:Nat} (h:k<=l.length):G8 (cm l) none (some (k:Int))=.ok (cm (l.take k)):=by
 have e:=Sf (l.map fun e=>aD e.name) k (by rw [ar];exact h)
 rw [<- List.map_take] at e
 exact e
theorem Wb {l:List dJ}{k:Nat} (h:k+1<=l.length):G8 (cm l) (some ((k:Int)+1)) none=.ok (cm (l.drop (k+1))):=by
 have e:=Se (l.map fun e=>aD e.name) (k+1) (by rw [ar];exact h)
 rw [<- List.map_drop] at e
 exact e
theorem R7 {l:List dJ}{k:Nat} (hl:l.length<=64):(if (l.take k).length+(l.drop (k+1)).length<=1000 then R.ok (gm (((l.take k).map fun e=>aD e.name)++((l.drop (k+1)).map fun e=>aD e.name))) else .no)=.ok (cm (wo k l)):=by
 rw [if_pos (by rw [j0,j3];omega),<- cu]
 rfl
theorem wE (ds:List D):J.gX (.list ds)=.ok (.list ds):=rfl
def VP:az->R Fl:=aP (dG 6 (g2 (yf (rB 4) Af (xP (rS 5))) (yf (rB 4) (xP (g2 (rB 5) (kI 1) cS)) Af) cS)) (dI (fk (dE 4 jf (J.a8 (rS 0) (J.a8 (rS 1) (J.a8 (rS 2) (J.a8 (rS 6) J.aE)))))) (dG 4 (rS 6)) (fun ρ=>.ok (.nx ρ)))
section
variable {fs st m b:List Str}{es:List dJ}
theorem wF (g:eB fs es) (hs:Sub fs st) (hw:k9 fs m b) (R3:D):∀ (k:Nat) (l:List dJ) (z5 z6:Sl),xT es l->k<=l.length->∃ y5 y6,
  ii (bR 5) VP (J.lF ((k:Nat)-1) k) [.shr (cP fs es),.shr (aS st),.shr (f9 m b),.shr R3,.shr (cm l),z5,z6]=.ok (.nx [.shr (cP fs es),.shr (aS st),.shr (f9 m b),.shr R3,.shr (cm (fi (bC st m b) k l)),y5,y6])
 | 0,l,z5,z6,_,_=>⟨z5,z6,rfl⟩
 |k+1,l,z5,z6,h,hk=>by
  have hl:=h.len
  rw [BZ,show (((k+1:Nat):Int)-1)=((k:Nat):Int) by omega,show (((k:Nat):Int)-1)=((k:Nat):Int)-1 from rfl]
  have sv:=pc g (wD (k:=k) h) hs hw
  have tail:∀ l',(if bC st m b (wo k l) then wo k l else l)=l'->VP [.shr (cP fs es),.shr (aS st),.shr (f9 m b),.shr R3,.shr (cm l),.shr (.int (k:Nat)),z6]=.ok (.nx [.shr (cP fs es),.shr (aS st),.shr (f9 m b),.shr R3,.shr (cm l'),.shr (.int (k:Nat)),.shr (cm (wo k l))]):=by
   rintro l' rfl
   unfold VP
   walk_at "zz"
   rw [Wa (by omega)]
   walk_at "zz"
   rw [Wb (by omega)]
   walk_at "zz"
   rw [R7 hl]
   walk_at "zz"
   rw [sv]
   walk_at "zz"
   cases bC st m b (wo k l)<;>walk_at "zz"
  unfold fi
  cases hp:bC st m b (wo k l) with
  |true =>
   rw [if_pos rfl]
   have e:=HI (k:=k) (l:=l) (by omega)
   obtain ⟨y5,y6,q⟩:=wF g hs hw R3 k (wo k l) (.shr (.int (k:Nat))) (.shr (cm (wo k l))) (wD h) (by omega)
   exact ⟨y5,y6,(qg rfl (tail (wo k l) (by rw [hp];rfl))).trans q⟩
  |false =>
   rw [if_neg aH]
   obtain ⟨y5,y6,q⟩:=wF g hs hw R3 k l (.shr (.int (k:Nat))) (.shr (cm (wo k l))) h (by omega)
   exact ⟨y5,y6,(qg rfl (tail l (by rw [hp];rfl))).trans q⟩
theorem JH {l:List dJ} (g:eB fs es) (hs:Sub fs st) (hw:k9 fs m b) (h:xT es l):gN [cP fs es,aS st,f9 m b,cm l]=.ok (cm (fi (bC st m b) l.length l)):=by
 have hl:=h.len
 obtain ⟨y5,y6,q⟩:=wF g hs hw (cm l) l.length l .no .no h (am _)
 unfold gN
 refine cx ?_
 unfold jS bI
 walk_at "zz"
 rw [wE]
 walk_at "zz"
 rw [rJ (ds:=J.lF ((l.length:Nat)-1) l.length)]
 ·have q':ii (bR 5) VP (J.lF ((l.length:Nat)-1) l.length) [.shr (cP fs es),.shr (aS st),.shr (f9 m b),.shr (cm l),.shr (cm l),.no,.no]=_:=q
  show ((ii (bR 5) VP (J.lF ((l.length:Nat)-1) l.length) [.shr (cP fs es),.shr (aS st),.shr (f9 m b),.shr (cm l),.shr (cm l),.no,.no]).bind _)=_
  rw [q']
  walk_at "zz"
 ·rw [Og]
  walk_at "zz"
  rw [o_]
  walk_at "zz"
  rw [iP]
  walk_at "zz"
  rw [o_]
  walk_at "zz"
  rw [iP]
  walk_at "zz"
  rw [JF _ (by omega)]
def Wc:az->R Fl:=aP (dG 4 (rS 5)) (dG 5 (dE 4 gN (J.a8 (rS 0) (J.a8 (rS 1) (J.a8 (rS 2) (J.a8 (rS 4) J.aE))))))
def Wd:az->R Bool:=fk (g2 (bP (J.a8 (rB 5) J.aE) (hJ iJ)) (bP (J.a8 (rB 4) J.aE) (hJ iJ)) Ep)
theorem B_ (g:eB fs es) (hs:Sub fs st) (hw:k9 fs m b) (R3:D):∀ (n fuel:Nat) (l:List dJ),xT es l->bC st m b l=true->l.length<=n->n<fuel->∃ y5,
  i_ Wd Wc fuel [.shr (cP fs es),.shr (aS st),.shr (f9 m b),.shr R3,.shr (cm l),.shr (cm (fi (bC st m b) l.length l))]=.ok (.nx [.shr (cP fs es),.shr (aS st),.shr (f9 m b),.shr R3,.shr (cm (oq (bC st m b) n l)),y5])
 |n,0,l,_,_,_,hf=>absurd hf (mf n)
 |n,fuel+1,l,h,q,hl,hf=>by
  obtain ⟨o1,o2⟩:=rM (es:=es) (bC st m b) l.length l h q
  have ht:Wd [.shr (cP fs es),.shr (aS st),.shr (f9 m b),.shr R3,.shr (cm l),.shr (cm (fi (bC st m b) l.length l))]=.ok (decide ((fi (bC st m b) l.length l).length<l.length)):=by
   unfold Wd
   walk_at "zz"
   congr 1
   rw [gC,decide_eq_true_iff,decide_eq_true_iff]
   omega
  rw [i_,ht]
  cases n with
  |zero =>
   have:l=[]:=yB (by omega)
   subst this
   exact ⟨_,rfl⟩
  |succ n =>
   unfold oq
   by_cases hlt:(fi (bC st m b) l.length l).length<l.length
   ·rw [decide_eq_true hlt,if_pos hlt]
    have hb:Wc [.shr (cP fs es),.shr (aS st),.shr (f9 m b),.shr R3,.shr (cm l),.shr (cm (fi (bC st m b) l.length l))]=.ok (.nx [.shr (cP fs es),.shr (aS st),.shr (f9 m b),.shr R3,.shr (cm (fi (bC st m b) l.length l)),.shr (cm (fi (bC st m b) (fi (bC st m b) l.length l).length (fi (bC st m b) l.length l)))]):=by
     unfold Wc
     walk_at "zz"
     rw [JH g hs hw o1]
     walk_at "zz"
    dsimp only
    rw [hb]
    exact B_ g hs hw R3 n fuel _ o1 o2 (by omega) (by omega)
   ·rw [decide_eq_false hlt,if_neg hlt]
    exact ⟨_,rfl⟩
theorem R8 {l:List dJ} (g:eB fs es) (hs:Sub fs st) (hw:k9 fs m b) (h:xT es l) (q:bC st m b l=true):i5 [cP fs es,aS st,f9 m b,cm l]=.ok (cm (oq (bC st m b) l.length l)):=by
 have hl:=h.len
 obtain ⟨y5,e⟩:=B_ g hs hw (cm l) l.length 100000 l h q (am _) (by omega)
 unfold i5
 refine cx ?_
 unfold oZ bI
 walk_at "zz"
 rw [pc g h hs hw,q]
 walk_at "zz"
 rw [wE]
 walk_at "zz"
 rw [JH g hs hw h]
 walk_at "zz"
 show ((i_ Wd Wc 100000 [.shr (cP fs es),.shr (aS st),.shr (f9 m b),.shr (cm l),.shr (cm l),.shr (cm (fi (bC st m b) l.length l))]).bind _)=_
 rw [e]
 walk_at "zz"
theorem R9 {l:List dJ} (g:eB fs es) (hs:Sub fs st) (hw:k9 fs m b) (h:xT es l) (q:bC st m b l=false):i5 [cP fs es,aS st,f9 m b,cm l]=.ex "NoRow" (some .none):=by
 unfold i5
 refine Tv ?_
 unfold oZ bI
 walk_at "zz"
 rw [pc g h hs hw,q]
 walk_at "zz"
 rfl
theorem Y3:Vz "NoRow"=some 4:=by decide +kernel
theorem Ff {l:List dJ} (g:eB fs es) (hs:Sub fs st) (hw:k9 fs m b) (h:xT es l):iD [cP fs es,aS st,f9 m b,cm l]=.ok (if bC st m b l then cm (oq (bC st m b) l.length l) else .tuple [.str "row",.none,.tuple [.str "refused",.int (4:Nat)]]):=by
 unfold iD
 refine cx ?_
 unfold nL bI EY
 cases q:bC st m b l with
 |true =>
  have e:cq (dE 4 i5 (J.a8 (rS 0) (J.a8 (rS 1) (J.a8 (rS 2) (J.a8 (rS 3) J.aE))))) [.shr (cP fs es),.shr (aS st),.shr (f9 m b),.shr (cm l),.no]=.ok (.rt (cm (oq (bC st m b) l.length l))):=by
   walk_at "zz"
   rw [R8 g hs hw h q]
   walk_at "zz"
  show (match cq (dE 4 i5 (J.a8 (rS 0) (J.a8 (rS 1) (J.a8 (rS 2) (J.a8 (rS 3) J.aE))))) [.shr (cP fs es),.shr (aS st),.shr (f9 m b),.shr (cm l),.no] with | .ok fl=>R.ok fl | .ex y (some d)=>_|_=>_)=_
  rw [e]
  rfl
 |false =>
  have e:cq (dE 4 i5 (J.a8 (rS 0) (J.a8 (rS 1) (J.a8 (rS 2) (J.a8 (rS 3) J.aE))))) [.shr (cP fs es),.shr (aS st),.shr (f9 m b),.shr (cm l),.no]=.ex "NoRow" (some .none):=by
   walk_at "zz"
   rw [R9 g hs hw h q]
   walk_at "zz"
  show (match cq (dE 4 i5 (J.a8 (rS 0) (J.a8 (rS 1) (J.a8 (rS 2) (J.a8 (rS 3) J.aE))))) [.shr (cP fs es),.shr (aS st),.shr (f9 m b),.shr (cm l),.no] with | .ok fl=>R.ok fl | .ex y (some d)=>_|_=>_)=_
  rw [e]
  dsimp only
  rw [if_pos rfl,Y3]
  rfl
end
def We:az->R Fl:=dI (fk (dE 4 jq (J.a8 (rS 1) (J.a8 (rS 2) (J.a8 (rS 3) (J.a8 (g2 (yf (rB 8) Af (xP (rS 10))) (yf (rB 8) (xP (g2 (rB 10) (kI 1) cS)) Af) cS) J.aE)))))) (dG 8 (g2 (yf (rB 8) Af (xP (rS 10))) (yf (rB 8) (xP (g2 (rB 10) (kI 1) cS)) Af) cS)) (fun ρ=>.ok (.nx ρ))
def VQ:az->R Fl:=aP (dG 9 (bP (J.a8 (rB 8) J.aE) (hJ iJ))) (pP (BL (J.a8 (g2 (rB 9) (kI 1) N5) (J.a8 (kU (kI 1)) (J.a8 (kU (kI 1)) J.aE)))) (bR 10) We)
def VR:az->R Bool:=fk (g2 (rB 9) (bP (J.a8 (rB 8) J.aE) (hJ iJ)) (mX true))
section
variable {fs st m b:List Str}{es:List dJ}{A R4 L5 T7:D}{z6:Sl}
theorem OQ (g:eB fs es) (hs:Sub fs st) (hw:k9 fs m b):∀ (k:Nat) (l:List dJ) (z9 z10:Sl),xT es l->k<=l.length->∃ y10,
  ii (bR 10) We (J.lF ((k:Nat)-1) k) [.shr A,.shr (cP fs es),.shr (aS st),.shr (f9 m b),.shr R4,.shr L5,z6,.shr T7,.shr (cm l),z9,z10]=.ok (.nx [.shr A,.shr (cP fs es),.shr (aS st),.shr (f9 m b),.shr R4,.shr L5,z6,.shr T7,.shr (cm (fi (bC st m b) k l)),z9,y10])
 | 0,l,z9,z10,_,_=>⟨z10,rfl⟩
 |k+1,l,z9,z10,h,hk=>by
  have hl:=h.len
  rw [BZ,show (((k+1:Nat):Int)-1)=((k:Nat):Int) by omega]
  have sv:=JD g (wD (k:=k) h) hs hw
  have tail:∀ l',(if bC st m b (wo k l) then wo k l else l)=l'->We [.shr A,.shr (cP fs es),.shr (aS st),.shr (f9 m b),.shr R4,.shr L5,z6,.shr T7,.shr (cm l),z9,.shr (.int (k:Nat))]=.ok (.nx [.shr A,.shr (cP fs es),.shr (aS st),.shr (f9 m b),.shr R4,.shr L5,z6,.shr T7,.shr (cm l'),z9,.shr (.int (k:Nat))]):=by
   rintro l' rfl
   unfold We
   walk_at "zz"
   rw [Wa (by omega)]
   walk_at "zz"
   rw [Wb (by omega)]
   walk_at "zz"
   rw [R7 hl]
   walk_at "zz"
   rw [sv]
   walk_at "zz"
   cases bC st m b (wo k l) with
   |false=>walk_at "zz"
   |true =>
    walk_at "zz"
    rw [Wa (by omega)]
    walk_at "zz"
    rw [Wb (by omega)]
    walk_at "zz"
    rw [R7 hl]
    walk_at "zz"
  unfold fi
  cases hp:bC st m b (wo k l) with
  |true =>
   rw [if_pos rfl]
   have e:=HI (k:=k) (l:=l) (by omega)
   obtain ⟨y10,q⟩:=OQ g hs hw k (wo k l) z9 (.shr (.int (k:Nat))) (wD h) (by omega)
   exact ⟨y10,(qg rfl (tail (wo k l) (by rw [hp];rfl))).trans q⟩
  |false =>
   rw [if_neg aH]
   obtain ⟨y10,q⟩:=OQ g hs hw k l z9 (.shr (.int (k:Nat))) h (by omega)
   exact ⟨y10,(qg rfl (tail l (by rw [hp];rfl))).trans q⟩
theorem Ra {l:List dJ} (g:eB fs es) (hs:Sub fs st) (hw:k9 fs m b) (h:xT es l) (z9 z10:Sl):∃ y10,VQ [.shr A,.shr (cP fs es),.shr (aS st),.shr (f9 m b),.shr R4,.shr L5,z6,.shr T7,.shr (cm l),z9,z10]=.ok (.nx [.shr A,.shr (cP fs es),.shr (aS st),.shr (f9 m b),.shr R4,.shr L5,z6,.shr T7,.shr (cm (fi (bC st m b) l.length l)),.shr (.int (l.length:Nat)),y10]):=by
 have hl:=h.len
 obtain ⟨y10,q⟩:=OQ (A:=A) (R4:=R4) (L5:=L5) (T7:=T7) (z6:=z6) g hs hw l.length l (.shr (.int (l.length:Nat))) z10 h (am _)
 refine ⟨y10,?_⟩
 unfold VQ
 walk_at "zz"
 rw [rJ (ds:=J.lF ((l.length:Nat)-1) l.length)]
 ·exact q
 ·rw [Og]
  walk_at "zz"
  rw [o_]
  walk_at "zz"
  rw [iP]
  walk_at "zz"
  rw [o_]
  walk_at "zz"
  rw [iP]
  walk_at "zz"
  rw [JF _ (by omega)]
theorem JJ {l:List dJ} (s:Int) (z10:Sl):VR [.shr A,.shr (cP fs es),.shr (aS st),.shr (f9 m b),.shr R4,.shr L5,z6,.shr T7,.shr (cm l),.shr (.int s),z10]=.ok (!decide (s=(l.length:Nat))):=by
 unfold VR
 walk_at "zz"
 rw [mG]
 walk_at "zz"
theorem JK (g:eB fs es) (hs:Sub fs st) (hw:k9 fs m b):∀ (n fuel:Nat) (l:List dJ) (s:Int) (z10:Sl),xT es l->bC st m b l=true->l.length<=n->n+1<fuel->s≠(l.length:Nat)->∃ y9 y10,
  i_ VR VQ fuel [.shr A,.shr (cP fs es),.shr (aS st),.shr (f9 m b),.shr R4,.shr L5,z6,.shr T7,.shr (cm l),.shr (.int s),z10]=.ok (.nx [.shr A,.shr (cP fs es),.shr (aS st),.shr (f9 m b),.shr R4,.shr L5,z6,.shr T7,.shr (cm (oq (bC st m b) n l)),y9,y10])
 |n,0,l,s,z10,_,_,_,hf,_=>absurd hf (mf _)
 |n,1,l,s,z10,_,_,_,hf,_=>absurd hf (by omega)
 |n,fuel+2,l,s,z10,h,q,hl,hf,hne=>by
  obtain ⟨o1,o2⟩:=rM (es:=es) (bC st m b) l.length l h q
  obtain ⟨y10,hb⟩:=Ra (A:=A) (R4:=R4) (L5:=L5) (T7:=T7) (z6:=z6) g hs hw h (.shr (.int s)) z10
  have o:=ym (bC st m b) l.length l (am _)
  rw [i_,JJ,decide_eq_false hne]
  rw [show (!false)=true from rfl]
  dsimp only
  rw [hb]
  by_cases hlt:(fi (bC st m b) l.length l).length<l.length
  ·cases n with
   |zero=>omega
   |succ n =>
    unfold oq
    rw [if_pos hlt]
    exact JK g hs hw n (fuel+1) _ _ y10 o1 o2 (by omega) (by omega) (by omega)
  ·have e:=(o.2 (by omega)).1
   have fx:oq (bC st m b) n l=l:=Fe _ e n
   rw [e,fx]
   dsimp only
   rw [i_,JJ,decide_eq_true rfl]
   exact ⟨_,_,rfl⟩
end
theorem OR (neg:Bool) {fs:List Str}{es rs:List dJ} (g:eB fs es) (h:∀ e∈rs,e∈es):mX neg (cm rs) (cm rs)=.ok (.bool (!neg)):=by
 have h1:(cm rs).canLay0=true:=by
  simp only [eG]
  exact zI _ rs fun e he=>vz (g.ok e (h e he)).name
 have h2:(cm rs).depth<=60:=by
  have:=BR (fun e:dJ=>aD e.name) 0 (fun x=>by simp [PyData.depth]) rs
  simp only [PyData.depth]
  omega
 unfold mX
 rw [h1,PySem.SeqAt.eqv_refl _ h1,decide_eq_true (bK (Nat.min_le_left _ _) h2)]
 cases neg<;>rfl
def Xd:az->R Fl:=(aP (dI (G_ (fk (g2 (rB 7) (rB 8) (mX true))) (iZ (fk (dE 4 jf (J.a8 (rS 1) (J.a8 (rS 2) (J.a8 (rS 3) (J.a8 (rS 7) J.aE)))))))) (cq (kB false)) (fun ρ=>.ok (.nx ρ))) (aP (dI (fk (bP (J.a8 (fg 1 [1,2,3,7] (vc (J.a8 (bP (J.a8 (rB 7) J.aE) (hJ iJ)) J.aE)) kT (dE 4 jf (J.a8 (rS 1) (J.a8 (rS 2) (J.a8 (rS 3) (J.a8 (g2 (yf (rB 4) Af (xP (rS 0))) (yf (rB 4) (xP (g2 (rB 0) (kI 1) cS)) Af) cS) J.aE)))))) J.aE) (hJ (gF fun bs=>bs.any id)))) (cq (kB false)) (fun ρ=>.ok (.nx ρ))) (cq (g2 (dE 4 iD (J.a8 (rS 1) (J.a8 (rS 2) (J.a8 (rS 3) (J.a8 (rS 7) J.aE))))) (rB 7) (mX false)))))
def XO:az->R Fl:=(aP (dG 7 (dE 4 iD (J.a8 (rS 1) (J.a8 (rS 2) (J.a8 (rS 3) (J.a8 (rS 4) J.aE)))))) (aP (dI (iZ (fk (dE 4 jq (J.a8 (rS 1) (J.a8 (rS 2) (J.a8 (rS 3) (J.a8 (rS 4) J.aE))))))) (cq (g2 (rB 7) (fX (J.a8 (fun _=>.ok (.str "row")) (J.a8 kN (J.a8 (fX (J.a8 (fun _=>.ok (.str "refused")) (J.a8 (kI 4) J.aE)) .tuple) J.aE))) .tuple) (mX false))) (fun ρ=>.ok (.nx ρ))) (aP (dG 8 (bP (J.a8 (rB 4) J.aE) (hJ gX))) (aP (dG 9 (kU (kI 1))) (aP (i_ VR VQ 100000) Xd)))))
theorem TX {fs st m b:List Str}{es r:List dJ}{A R4 L5:D}{z6 y9 y10:Sl} (g:eB fs es) (hs:Sub fs st) (hw:k9 fs m b) (h:xT es r) (q:bC st m b r=true) (o:fi (bC st m b) r.length r=r) (no:∀ j,j<r.length->bC st m b (wo j r)=false) :
  Xd [.shr A,.shr (cP fs es),.shr (aS st),.shr (f9 m b),.shr R4,.shr L5,z6,.shr (cm r),.shr (cm r),y9,y10]=.ok (.rt (.bool true)):=by
 have hl:=h.len
 unfold Xd
 walk_at "zz"
 rw [OR true g h.mem]
 walk_at "zz"
 rw [pc g h hs hw,q]
 walk_at "zz"
 rw [vw _ (by omega)]
 walk_at "zz"
 rw [if_pos (by rw [dO];omega)]
 rw [dA _ (fun k:Nat=>cK (k:Nat)) (fun _=>cG false) (bg r.length) fun k hk=>fO rfl (by
  have hk:=List.mem_range.1 hk
  walk_at "zz"
  rw [Wa (by omega)]
  walk_at "zz"
  rw [Wb (by omega)]
  walk_at "zz"
  rw [R7 hl]
  walk_at "zz"
  rw [pc g (wD h) hs hw,no k hk])]
 walk_at "zz"
 rw [jk _ (fun _=>false),show ((bg r.length).map fun _=>false).any id=false by simp]
 walk_at "zz"
 rw [Ff g hs hw h,q,if_pos rfl,Fe _ o]
 walk_at "zz"
 rw [OR false g h.mem]
 walk_at "zz"
theorem JM {fs st m b:List Str}{es rs:List dJ}{A L5:D}{z6:Sl} (g:eB fs es) (hs:Sub fs st) (hw:k9 fs m b) (h:xT es rs) :
  XO [.shr A,.shr (cP fs es),.shr (aS st),.shr (f9 m b),.shr (cm rs),.shr L5,z6,.no,.no,.no,.no]=.ok (.rt (.bool true)):=by
 unfold XO
 walk_at "zz"
 rw [Ff g hs hw h]
 walk_at "zz"
 rw [JD g h hs hw]
 walk_at "zz"
 cases q:bC st m b rs with
 |false =>
  walk_at "zz"
  rw [show mX false (b_ [aD "row",PyData.none,b_ [aD "refused",cK (4:Nat)]]) (b_ [aD "row",PyData.none,b_ [aD "refused",cK 4]])=.ok (.bool true) from QX (by decide +kernel)]
  walk_at "zz"
 |true =>
  walk_at "zz"
  rw [wE]
  walk_at "zz"
  rw [o_]
  walk_at "zz"
  rw [iP]
  walk_at "zz"
  have hl:=h.len
  obtain ⟨f1,f2,f3,f4⟩:=OP (es:=es) (bC st m b) rs.length rs h q (am _)
  obtain ⟨y9,y10,e⟩:=JK (A:=A) (R4:=cm rs) (L5:=L5) (T7:=cm (oq (bC st m b) rs.length rs)) (z6:=z6) g hs hw rs.length 100000 rs (-1) .no h q (am _) (by omega) (by omega)
  show ((i_ VR VQ 100000 [.shr A,.shr (cP fs es),.shr (aS st),.shr (f9 m b),.shr (cm rs),.shr L5,z6,.shr (cm (oq (bC st m b) rs.length rs)),.shr (cm rs),.shr (.int (-1)),.no]).bind _)=_
  rw [e,bind_ok]
  exact TX g hs hw f1 f2 f3 f4
theorem JP {fs:List Str}{es:List dJ} (g:eB fs es):∀ (rs:List dJ) (st x:List Str),(∀ e∈rs,e∈es)->Sub fs st->mZ rs st=some x->Sub fs x
 |[],st,x,_,hs,h=>by cases h;exact hs
 |e::r,st,x,hm,hs,h=>by
  have h:(if hX st e.needs e.bars then mZ r (cV e st) else none)=some x:=h
  split at h
  ·exact JP g r _ x (fun a ha=>hm a (ao _ ha)) (qe g.rise.up (g.ok e (hm e aq)) hs) h
  ·cases h
theorem law_true (ns:List Int):F_law [.list (ns.map .int)]=.ok (.bool true):=by
 obtain ⟨fs,es,ss,wm,wb,hc,gb,gs,gw,_⟩:=QV ns 5 6 (by decide) (by decide) (by decide) (by decide)
 have m0:=eZ ns 0 11 (by decide)
 have m1:=gj ns 0 11 (by decide)
 obtain ⟨rs,r1,⟨x,r2⟩,r3⟩:=R1 gb ns 300 (eT ns 0 11) (by decide) m0 (by omega) gs
 have L:=zK gb r1 gs
 rw [r2] at L
 have L:gf [cP fs es,aS ss,cm rs]=.ok (.list ((gO rs ss).map aS)):=L
 obtain ⟨pre,hp⟩:=qf rs ss x r2
 have gx:Sub fs x:=JP gb rs ss x r1.mem gs r2
 have lf:=gb.rise.len
 have lx:=e_ gx gb.rise.len
 let bB:=fs.filter fun y=>!decide (y∈x)
 have lr:bB.length<=6:=bK (sf _ _) lf
 obtain ⟨m',e1,s1⟩:=Di ns 40 (by decide) x lx 5
 obtain ⟨b',e2,s2⟩:=Di ns 50 (by decide) bB lr 3
 have gw':k9 fs m' b':=⟨⟨gx.up.sublist s1,fun y hy=>gx.mem y (s1.subset hy)⟩,⟨gb.rise.up.sublist (s2.trans K8),fun y hy=>(Ae.1 (s2.subset hy)).1⟩,fun y h1 h2=>by
  have:=(Ae.1 (s2.subset h2)).2
  rw [decide_eq_true (s1.subset h1)] at this
  cases this⟩
 unfold F_law
 refine cx ?_
 unfold Jo bI
 walk_at "zz"
 rw [hc]
 walk_at "zz"
 rw [X8]
 walk_at "zz"
 rw [eR ns 0 11 (by decide) (by decide)]
 walk_at "zz"
 rw [r3]
 walk_at "zz"
 rw [L]
 walk_at "zz"
 rw [o_]
 walk_at "zz"
 rw [iP]
 walk_at "zz"
 rw [show (gO rs ss).map aS=pre.map aS++[aS x] by rw [hp,cu];rfl,vF]
 walk_at "zz"
 rw [eR ns 1 4 (by decide) (by decide)]
 walk_at "zz"
 by_cases hm:0<eT ns 1 4
 ·rw [decide_eq_true hm]
  walk_at "zz"
  rw [Le]
  walk_at "zz"
  rw [if_pos (by omega)]
  rw [iK _ (fun y:Str=>aD y) (fun y=>aD y) (fun y=>!decide (y∈x)) fs fun y hy=>vi (by
   walk_at "zz"
   rw [qd]
   rfl) fun _=>rfl]
  walk_at "zz"
  rw [fH]
  walk_at "zz"
  rw [e1]
  walk_at "zz"
  rw [show (b_ ((fs.filter fun y=>!decide (y∈x)).map fun y=>aD y))=aS bB from rfl,e2]
  walk_at "zz"
  exact JM gb gs gw' r1
 ·rw [decide_eq_false hm]
  walk_at "zz"
  exact JM gb gs gw r1
end Z
end
namespace Z
open PySem L2 J
section
def nO (i:Nat):cF:=PySem.Challenge.pw_errands_k24_whole_trimmed.main.body.getD i (.Pass ⟨0,0,0,0⟩)
section
variable {e:En}
abbrev rN:cF:=nO 62
def Fg:List Str:=["NoBook","NoState","NoWant","NoErrand","NoRow","NoWay","NoPaper","NoFacts","NoNumber","Nothing","NoText"]
theorem vH:bn ["_law_e","_law_own"] ["_law_e"] (av rN):=dg (by decide +kernel)
theorem AN {f:ah}{fd:eI} (F:G4 e.K "_law_which" "_law_which" rN f fd) (B:Bi e.mg) (mv:e.mg "ValueError"=none) (mc:∀ n∈Fg,e.mg n=some (.ref (e.cls n))):Ej e.P e.w e.K e.mg e.base 1 f fd ["_law_e"] (Tg e.K e.base e.cls Fg):=by
 refine F.okH vH (fun vs H Q E h=>?_) (fun cdv A outer s H vs Q E hr h=>?_)
 ·obtain ⟨_,_,_,rfl,_⟩:=h;rfl
 obtain ⟨ea,C,j,rfl,hH,x,q⟩:=h
 refine ⟨_,jM (Cr (i:=1) vH.nd rfl (iF rfl) (o0 (bT (mB (names:=Fg) (cls:=e.cls) (base:=e.base) (pv 0) rfl B.isinstance rfl (mc "NoBook" (by decide +kernel))) (bT (mB (names:=Fg) (cls:=e.cls) (base:=e.base) (pv 0) rfl B.isinstance rfl (mc "NoState" (by decide +kernel))) (bT (mB (names:=Fg) (cls:=e.cls) (base:=e.base) (pv 0) rfl B.isinstance rfl (mc "NoWant" (by decide +kernel))) (bT (mB (names:=Fg) (cls:=e.cls) (base:=e.base) (pv 0) rfl B.isinstance rfl (mc "NoErrand" (by decide +kernel))) eA))))))
  (jM (uP (Bj eN At Au Bl (pv 1) (bT (o0 (bT (mB (names:=Fg) (cls:=e.cls) (base:=e.base) (pv 0) rfl B.isinstance rfl (mc "NoRow" (by decide +kernel))) (bT (mB (names:=Fg) (cls:=e.cls) (base:=e.base) (pv 0) rfl B.isinstance rfl (mc "NoWay" (by decide +kernel))) (bT (mB (names:=Fg) (cls:=e.cls) (base:=e.base) (pv 0) rfl B.isinstance rfl (mc "NoPaper" (by decide +kernel))) (bT (mB (names:=Fg) (cls:=e.cls) (base:=e.base) (pv 0) rfl B.isinstance rfl (mc "NoFacts" (by decide +kernel))) eA))))) eA)))
  (jM (uP (Bj eN At Au Bl (pv 1) (bT (o0 (bT (mB (names:=Fg) (cls:=e.cls) (base:=e.base) (pv 0) rfl B.isinstance rfl (mc "NoNumber" (by decide +kernel))) (bT (mB (names:=Fg) (cls:=e.cls) (base:=e.base) (pv 0) rfl B.isinstance rfl (mc "Nothing" (by decide +kernel))) (bT (mB (names:=Fg) (cls:=e.cls) (base:=e.base) (pv 0) rfl B.isinstance rfl (mc "NoText" (by decide +kernel))) eA)))) eA)))
  (jM (Rf (PW.pt (Re (Iy Ug (Bj eN B7 PySem.F.type_list_count Kw (pv 1) (bT M9 eA)) M8 (GF _)) (Mc (Md (Mb (Qv (names:=Fg) (cls:=e.cls) (base:=e.base) (pv 0) rfl B.isinstance rfl mv)))))) oM Iw)
  (Co (GB (GI (bT GA (bT (Bj eN B8 PySem.F.type_list_index Kx (pv 1) (bT M9 eA)) eA)))))))),?_⟩
 refine ⟨ea,C,j,0,rfl,hH,x,rfl,ea,C,j,1,rfl,hH,x,rfl,ea,C,j,2,rfl,hH,x,rfl,ea,C,j,3,rfl,hH,x,rfl,bh (cf (show 4<=1000 by decide)),fun p hp=>?_⟩
 have np:ea≠p:=hH.elim fun _ h=>aY h hp
 have hH1:∀ o,∃ dx,upd H p o ea=some (v7 dx ea C):=fun o=>by rw [aO np];exact hH
 refine ⟨_,rfl,.inl ⟨rfl,_,.of aT⟩,?_⟩
 refine ⟨ea,C,j,4,rfl,hH1 _,x,rfl,ea,C,j,5,rfl,hH1 _,x,rfl,ea,C,j,6,rfl,hH1 _,x,rfl,ea,C,j,7,rfl,hH1 _,x,rfl,bh (cf (show 4<=1000 by decide)),fun p2 hp2=>?_⟩
 have np2:p≠p2:=aY aT hp2
 have ne2:ea≠p2:=(hH1 _).elim fun _ h=>aY h hp2
 refine ⟨p,p2,([decide (0=j),decide (1=j),decide (2=j),decide (3=j)].map V.bl),_,rfl,rfl,by rw [aO np2];exact aT,aT,bh (cf (show 8<=1000 by decide)),?_⟩
 have hH2:∀ o u,∃ dx,upd (upd (upd H p o) p2 u) p (.lst (([decide (0=j),decide (1=j),decide (2=j),decide (3=j)]++[decide (4=j),decide (5=j),decide (6=j),decide (7=j)]).map V.bl)) ea=some (v7 dx ea C):=fun o u=>by rw [aO np,aO ne2];exact hH1 _
 refine ⟨_,rfl,.inl ⟨rfl,_,.of aT⟩,?_⟩
 refine ⟨ea,C,j,8,rfl,hH2 _ _,x,rfl,ea,C,j,9,rfl,hH2 _ _,x,rfl,ea,C,j,10,rfl,hH2 _ _,x,rfl,bh (cf (show 3<=1000 by decide)),fun p3 hp3=>?_⟩
 have np3:p≠p3:=aY aT hp3
 have ne3:ea≠p3:=(hH2 _ _).elim fun _ h=>aY h hp3
 refine ⟨p,p3,(([decide (0=j),decide (1=j),decide (2=j),decide (3=j)]++[decide (4=j),decide (5=j),decide (6=j),decide (7=j)]).map V.bl),_,rfl,rfl,by rw [aO np3];exact aT,aT,bh (cf (show 11<=1000 by decide)),?_⟩
 refine ⟨_,rfl,.inl ⟨rfl,_,.of aT⟩,p,bits j,rfl,rfl,.of aT,?_⟩
 rw [Hl j x.lt]
 refine ⟨rfl,_,rfl,Aw ⟨ea,C,j,rfl,?_,x,_,rfl,Aw ?_⟩⟩
 ·rw [aO np,aO ne3];exact hH2 _ _
 obtain ⟨b1,b2⟩:=Qu j x.lt
 refine ⟨_,rfl,.inl ⟨rfl,_,.of aT⟩,p,bits j,j,rfl,rfl,.of aT,b1,b2,bh (aC x.lt (by decide)),bh (cf (show 2<=1000 by decide)),fun t ht=>?_⟩
 have s1:dn H _:=iA (o:=.lst ([decide (0=j),decide (1=j),decide (2=j),decide (3=j)].map V.bl)) hp
 have hpn:∀ b o,H b=some o->b≠p:=fun b o e=>aY e hp
 have hp2n:∀ b o,H b=some o->b≠p2:=fun b o e=>aY (s1 b o e) hp2
 have hp3n:∀ b o,H b=some o->b≠p3:=fun b o e=>aY (by rw [aO (hpn b o e),aO (hp2n b o e)];exact s1 b o e) hp3
 have old:∀ b o,H b=some o->b≠t:=fun b o e=>aY (by rw [aO (hpn b o e),aO (hp3n b o e),aO (hpn b o e),aO (hp2n b o e)];exact s1 b o e) ht
 refine q t _ (fun b o e=>?_) ?_ aT
 ·rw [aO (old b o e),aO (hpn b o e),aO (hp3n b o e),aO (hpn b o e),aO (hp2n b o e)];exact s1 b o e
 ·cases z:H t with
  |none=>rfl
  |some o=>exact (old t o z rfl).elim
abbrev lO:cF:=nO 18
abbrev vI:List Str:=["one","other"]
theorem AO:bn vI ["one","other"] (av lO):=dg (by decide +kernel)
abbrev lP (e:En):=FN e "share_none" 1 2 el
theorem AQ (D:gK e.K e.mg "share_none" lO) (B:Bi e.mg):lP e:=oV (k:=0) (g:=jQ) D AO b2 fun _ _ _ _ _ _ _ hr=>by unfold jQ;exact (aI (bu (Ha (bM (He rfl) rfl B.any oF (b6 (JE.bor (JN.je (fN (N':=["fact","other"]) (ix:=[1]) 1 (by decide) rfl (bX (so:=av lO) (N:=vI) (by decide +kernel)) (fY (ag 0)) (fun cl A0 s0 H0 ex pn=>⟨cR (i:=0) (by show (["fact","other"] : List Str).Nodup;decide +kernel) rfl (.inl rfl),fM,(mn (Ew) (ag 0) (ag 1))⟩)))) bA)))))
abbrev sO:cF:=nO 19
abbrev C0:List Str:=["facts","others"]
theorem HJ:bn C0 ["facts","others"] (av sO):=dg (by decide +kernel)
abbrev C1 (e:En):=FN e "without" 1 2 sB
theorem HK (D:gK e.K e.mg "without" sO) (B:Bi e.mg):C1 e:=oV (k:=0) (g:=sA) D HJ b2 fun _ _ _ _ _ _ _ hr=>by unfold sA;exact (aI (bu (dz (iB rfl) rfl B.tuple b9 (b6 (JE.bor (JN.je (fN (N':=["fact","others"]) (ix:=[1]) 1 (by decide) rfl (bX (so:=av sO) (N:=C0) (by decide +kernel)) (fY (ag 0)) (fun cl A0 s0 H0 ex pn=>⟨cR (i:=0) (by show (["fact","others"] : List Str).Nodup;decide +kernel) rfl (.inl rfl),(pO (dD (v8) (ag 0) (ag 1))),(af 0)⟩)))) bA))))
abbrev zL:cF:=nO 20
abbrev OS:List Str:=["one","other"]
theorem Lm:bn OS ["one","other"] (av zL):=dg (by decide +kernel)
abbrev Fh (e:En):=FN e "joined" 1 2 vp
theorem Ln (D:gK e.K e.mg "joined" zL) (B:Bi e.mg):Fh e:=oV (k:=0) (g:=vo) D Lm b2 fun _ _ _ _ _ _ _ hr=>by unfold vo;exact (aI (bu (dz (iB rfl) rfl B.tuple b9 (b6 (JE.bor (u4 rfl (Tp (D3 rfl (ag 0) rfl B.set) (D3 rfl (ag 1) rfl B.set)) rfl B.sorted)) bA))))
abbrev sP:cF:=nO 21
abbrev C2:List Str:=["thing"]
theorem HL:bn C2 ["thing"] (av sP):=dg (by decide +kernel)
abbrev wG (e:En):=FN e "is_word" 1 1 oX
theorem HM (D:gK e.K e.mg "is_word" sP) (B:Bi e.mg) (mH:Cn e.mg "MOST_LETTERS" 6):wG e:=oV (k:=0) (g:=sC) D HL b1 fun _ _ _ _ _ _ _ hr=>by unfold sC;exact (au (e7 (JW.t (rj (eP (dR (mr (ag 0) rfl B.isinstance rfl B.str yC (by decide)))) (mq (eP (Nl (Bx) (Bx) (JE.bor ax) (JE.bor (bM fB rfl B.len bi (b6 (ag 0) bA))) (JE.bor (rh rfl mH))))))) (aI (bu ml)) bY) (aI (bu (bM (pM rfl) rfl B.all cB (b6 (JE.bor (JN.je (fN (N':=["sign"]) (ix:=[]) 1 (by decide) rfl (bX (so:=av sP) (N:=C2) (by decide +kernel)) (fY (ag 0)) (fun cl A0 s0 H0 ex pn=>⟨cR (i:=0) (by show (["sign"] : List Str).Nodup;decide +kernel) rfl (.inl rfl),fM,(EG (Bx) (Bx) (JE.bor pL) (ag 0) (JE.bor pL))⟩)))) bA)))))
abbrev fJ:cF:=nO 22
abbrev js:List Str:=["thing"]
theorem t6:bn js ["thing"] (av fJ):=dg (by decide +kernel)
abbrev jt (e:En):=FN e "are_rising_words" 2 1 fF
theorem tf (D:gK e.K e.mg "are_rising_words" fJ) (B:Bi e.mg) (lY:wG e):jt e:=oV (k:=1) (g:=gY) D t6 b1 fun _ _ _ _ _ _ _ hr=>by unfold gY;exact (au (e7 (JW.t (rj (eP (dR (mr (ag 0) rfl B.isinstance rfl B.tuple b9 (by decide)))) (mq (eP (dR (bM (pM rfl) rfl B.all cB (b6 (JE.bor (JN.je (fN (N':=["word"]) (ix:=[]) 1 (by decide) rfl (bX (so:=av fJ) (N:=js) (by decide +kernel)) (fY (ag 0)) (fun cl A0 s0 H0 ex pn=>⟨cR (i:=0) (by show (["word"] : List Str).Nodup;decide +kernel) rfl (.inl rfl),fM,(jc lY hr dS (a9 (af 0) aF))⟩)))) bA))))))) (aI (bu ml)) bY) (aI (bu (bM (pM rfl) rfl B.all cB (b6 (JE.bor (JN.je (fN (N':=["low","high"]) (ix:=[]) 2 (by decide) rfl (bX (so:=av fJ) (N:=js) (by decide +kernel)) (IS.i (Qo rfl B.zip (a9 (af 0) (a9 (gM (ag 0) (ig ax) ji) aF)))) (fun cl A0 s0 H0 ex pn=>⟨GC rfl (qV (cR (i:=0) (by show (["low","high"] : List Str).Nodup;decide +kernel) rfl (.inl rfl)) (qV (cR (i:=1) (by show (["low","high"] : List Str).Nodup;decide +kernel) rfl (.inl rfl)) Cq)),fM,(mn (yZ) (ag 0) (ag 1))⟩)))) bA)))))
abbrev nP:cF:=nO 23
abbrev xo:List Str:=["book_facts","thing"]
theorem Dl:bn xo ["book_facts","thing"] (av nP):=dg (by decide +kernel)
abbrev nQ (e:En):=FN e "are_facts" 3 2 fh
theorem Dm (D:gK e.K e.mg "are_facts" nP) (B:Bi e.mg) (e6:jt e):nQ e:=oV (k:=2) (g:=nz) D Dl b2 fun _ _ _ _ _ _ _ hr=>by unfold nz;exact (aI (bu (rn (jc e6 hr px (a9 (af 1) aF)) (u0 (bM (pM rfl) rfl B.all cB (b6 (JE.bor (JN.je (fN (N':=["fact","book_facts"]) (ix:=[0]) 1 (by decide) rfl (bX (so:=av nP) (N:=xo) (by decide +kernel)) (fY (ag 1)) (fun cl A0 s0 H0 ex pn=>⟨cR (i:=0) (by show (["fact","book_facts"] : List Str).Nodup;decide +kernel) rfl (.inl rfl),fM,(mn (Ew) (ag 0) (ag 1))⟩)))) bA))))))
abbrev u9:cF:=nO 24
abbrev HN:List Str:=["thing","least","most"]
theorem Fi:bn HN ["thing","least","most"] (av u9):=dg (by decide +kernel)
abbrev zM (e:En):=FN e "is_whole" 1 3 pT
theorem Fj (D:gK e.K e.mg "is_whole" u9) (B:Bi e.mg):zM e:=oV (k:=0) (g:=pS) D Fi b3 fun _ _ _ _ _ _ _ hr=>by unfold pS;exact (au (e7 (JW.t (rj (eP (dR (mr (ag 0) rfl B.isinstance rfl B.int yD (by decide)))) (mq (dR (mr (ag 0) rfl B.isinstance rfl B.bool PyProof.Rows.boot_bool (by decide)))))) (aI (bu ml)) bY) (aI (bu (EG (Bx) (Bx) (ag 1) (ag 0) (ag 2)))))
abbrev nR:cF:=nO 25
abbrev xp:List Str:=["book_facts","thing","name","needs","bars","makes","ends","price"]
theorem gZ:bn xp ["book_facts","thing"] (av nR):=dg (by decide +kernel)
abbrev xq (e:En):=FN e "is_errand" 4 2 nC
theorem Dn (D:gK e.K e.mg "is_errand" nR) (B:Bi e.mg) (lY:wG e) (ua:zM e) (fj:nQ e) (eu:lP e) (qh:Cn e.mg "MOST_PRICE" 9):xq e:=oV (k:=3) (g:=nA) D gZ b2 fun _ _ _ _ _ _ _ hr=>by have hu64:=hr.units;unfold nA;exact (au (e7 (JW.t (rj (eP (dR (mr (ag 1) rfl B.isinstance rfl B.tuple b9 (by decide)))) (mq (dD (yY hu64) (JE.bor (bM fB rfl B.len bi (b6 (ag 1) bA))) (JE.bor ax))))) (aI (bu ml)) bY) (au (z0 (af 1) (rE rfl (df (cO 2 gZ.nd) (df (cO 3 gZ.nd) (df (cO 4 gZ.nd) (df (cO 5 gZ.nd) (df (cO 6 gZ.nd) (df (cO 7 gZ.nd) nu)))))))) (au (e7 (JW.t (rj (eP (dR (jc lY hr px (a9 (af 2) aF)))) (mq (eP (dR (jc ua hr px (a9 (af 7) (a9 ax (a9 (rh rfl qh) aF))))))))) (aI (bu ml)) bY) (au (e7 (eP (dR (bM (pM rfl) rfl B.all cB (b6 (JE.bor (JN.je (fN (N':=["facts","book_facts"]) (ix:=[0]) 1 (by decide) rfl (bX (so:=av nR) (N:=xp) (by decide +kernel)) (fY (JE.bor (kj (a9 (af 3) (a9 (af 4) (a9 (af 5) (a9 (af 6) aF))))))) (fun cl A0 s0 H0 ex pn=>⟨cR (i:=0) (by show (["facts","book_facts"] : List Str).Nodup;decide +kernel) rfl (.inl rfl),fM,(jc fj hr dS (a9 (af 1) (a9 (af 0) aF)))⟩)))) bA)))) (aI (bu ml)) bY) (aI (bu (rn (jc eu hr px (a9 (af 3) (a9 (af 4) aF))) (u0 (jc eu hr px (a9 (af 5) (a9 (af 6) aF)))))))))))
abbrev pd:cF:=nO 26
abbrev wH:List Str:=["thing","facts","errands"]
theorem ub:bn wH ["thing"] (av pd):=dg (by decide +kernel)
abbrev C3 (e:En):=FN e "is_book" 5 1 sF
theorem HP (D:gK e.K e.mg "is_book" pd) (B:Bi e.mg) (e6:jt e) (rO:xq e) (qi:Cn e.mg "MOST_FACTS" 6) (mI:Cn e.mg "MOST_ERRANDS" 6):C3 e:=oV (k:=4) (g:=sD) D ub b1 fun _ _ _ _ _ _ _ hr=>by have hu1:=j8 hr;have hu64:=hr.units;unfold sD;exact (au (e7 (JW.t (rj (eP (dR (mr (ag 0) rfl B.isinstance rfl B.tuple b9 (by decide)))) (mq (dD (yY hu64) (JE.bor (bM fB rfl B.len bi (b6 (ag 0) bA))) (JE.bor ax))))) (aI (bu ml)) bY) (au (z0 (af 0) (rE rfl (df (cO 1 ub.nd) (df (cO 2 ub.nd) nu)))) (au (e7 (JW.t (rj (eP (dR (jc e6 hr px (a9 (af 1) aF)))) (mq (dD (Es) (JE.bor (bM fB rfl B.len bi (b6 (ag 1) bA))) (JE.bor (rh rfl qi)))))) (aI (bu ml)) bY) (au (e7 (JW.t (rj (eP (dR (mr (ag 2) rfl B.isinstance rfl B.tuple b9 (by decide)))) (mq (dD (Es) (JE.bor (bM fB rfl B.len bi (b6 (ag 2) bA))) (JE.bor (rh rfl mI)))))) (aI (bu ml)) bY) (au (e7 (eP (dR (bM (pM rfl) rfl B.all cB (b6 (JE.bor (JN.je (fN (N':=["errand","facts"]) (ix:=[1]) 1 (by decide) rfl (bX (so:=av pd) (N:=wH) (by decide +kernel)) (fY (ag 2)) (fun cl A0 s0 H0 ex pn=>⟨cR (i:=0) (by show (["errand","facts"] : List Str).Nodup;decide +kernel) rfl (.inl rfl),fM,(jc rO hr dS (a9 (af 1) (a9 (af 0) aF)))⟩)))) bA)))) (aI (bu ml)) bY) (aI (bu (mn (tK hu64) (JE.bor (KI (Nm (N':=["errand"]) (ix:=[]) 1 (by decide) rfl (bX (so:=av pd) (N:=wH) (by decide +kernel)) (fY (ag 2)) (fun cl A0 s0 H0 ex pn=>⟨cR (i:=0) (by show (["errand"] : List Str).Nodup;decide +kernel) rfl (.inl rfl),fM,(bU hu1 (ag 0) (JE.bor ax))⟩)) rfl B.len)) (JE.bor (bM fB rfl B.len bi (b6 (ag 2) bA)))))))))))
abbrev wI:cF:=nO 27
abbrev Lo:List Str:=["book","thing","must","bars"]
theorem uc:bn Lo ["book","thing"] (av wI):=dg (by decide +kernel)
abbrev C4 (e:En):=FN e "is_want" 4 2 sH
theorem HQ (D:gK e.K e.mg "is_want" wI) (B:Bi e.mg) (fj:nQ e) (eu:lP e):C4 e:=oV (k:=3) (g:=sG) D uc b2 fun _ _ _ _ _ _ _ hr=>by have hu1:=j8 hr;have hu64:=hr.units;unfold sG;exact (au (e7 (JW.t (rj (eP (dR (mr (ag 1) rfl B.isinstance rfl B.tuple b9 (by decide)))) (mq (dD (yY hu64) (JE.bor (bM fB rfl B.len bi (b6 (ag 1) bA))) (JE.bor ax))))) (aI (bu ml)) bY) (au (z0 (af 1) (rE rfl (df (cO 2 uc.nd) (df (cO 3 uc.nd) nu)))) (aI (bu (rn (jc fj hr px (a9 (bU hu1 (ag 0) (JE.bor ax)) (a9 (af 2) aF))) (rn (jc fj hr px (a9 (bU hu1 (ag 0) (JE.bor ax)) (a9 (af 3) aF))) (u0 (jc eu hr px (a9 (af 2) (a9 (af 3) aF))))))))))
abbrev ou:cF:=nO 28
abbrev AR:List Str:=["book","state"]
theorem zN:bn AR ["book","state"] (av ou):=dg (by decide +kernel)
abbrev tM (e:En):=FN e "check_state" 4 2 kK
theorem zO (D:gK e.K e.mg "check_state" ou) (fj:nQ e) (wJ:ER e "NoState"):tM e:=oV (k:=3) (g:=kJ) D zN b2 fun _ _ _ _ _ _ _ hr=>by have hu1:=j8 hr;unfold kJ;exact (aI (e7 (eP (dR (jc fj hr px (a9 (bU hu1 (ag 0) (JE.bor ax)) (a9 (af 1) aF))))) (aI (zq wJ rfl (a9 pL aF))) bY))
abbrev qj:cF:=nO 29
abbrev Do:List Str:=["book","want"]
theorem AS:bn Do ["book","want"] (av qj):=dg (by decide +kernel)
abbrev vJ (e:En):=FN e "check_want" 5 2 lJ
theorem AT (D:gK e.K e.mg "check_want" qj) (wK:C4 e) (zP:ER e "NoWant"):vJ e:=oV (k:=4) (g:=lI) D AS b2 fun _ _ _ _ _ _ _ hr=>by unfold lI;exact (aI (e7 (eP (dR (jc wK hr px (a9 (af 0) (a9 (af 1) aF))))) (aI (zq zP rfl (a9 pL aF))) bY))
abbrev lA:cF:=nO 30
abbrev xU:List Str:=["book","name","errand"]
theorem pf:bn xU ["book","name"] (av lA):=dg (by decide +kernel)
abbrev lB (e:En):=FN e "errand_called" 1 2 hW
theorem wL (D:gK e.K e.mg "errand_called" lA) (B:Bi e.mg):lB e:=oV (k:=0) (g:=jj) D pf b2 fun _ _ _ _ _ _ _ hr=>by have hu1:=j8 hr;have hu64:=hr.units;unfold jj;exact (au (e7 (eP (dR (mr (ag 1) rfl B.isinstance rfl B.str yC (by decide)))) (aI (bu pK)) bY) (au (mx rfl (IU (bU hu1 (ag 0) (JE.bor ax))) (cO 2 pf.nd) (aI (e7 (dD (tK hu64) (JE.bor (bU hu1 (ag 2) (JE.bor ax))) (ag 1)) (aI (bu (af 2))) bY))) (aI (bu pK))))
abbrev sQ:cF:=nO 31
abbrev C5:List Str:=["state","want","must","bars"]
theorem ud:bn C5 ["state","want"] (av sQ):=dg (by decide +kernel)
abbrev wM (e:En):=FN e "fulfils" 2 2 oY
theorem HR (D:gK e.K e.mg "fulfils" sQ) (B:Bi e.mg) (eu:lP e):wM e:=oV (k:=1) (g:=sI) D ud b2 fun _ _ _ _ _ _ _ hr=>by unfold sI;exact (au (z0 (af 1) (rE rfl (df (cO 2 ud.nd) (df (cO 3 ud.nd) nu)))) (aI (bu (rn (bM (pM rfl) rfl B.all cB (b6 (JE.bor (JN.je (fN (N':=["fact","state"]) (ix:=[0]) 1 (by decide) rfl (bX (so:=av sQ) (N:=C5) (by decide +kernel)) (fY (ag 2)) (fun cl A0 s0 H0 ex pn=>⟨cR (i:=0) (by show (["fact","state"] : List Str).Nodup;decide +kernel) rfl (.inl rfl),fM,(mn (Ew) (ag 0) (ag 1))⟩)))) bA)) (u0 (jc eu hr px (a9 (af 3) (a9 (af 0) aF))))))))
abbrev rP:cF:=nO 32
abbrev Fk:List Str:=["errand","state"]
theorem Dp:bn Fk ["errand","state"] (av rP):=dg (by decide +kernel)
abbrev xr (e:En):=FN e "is_doable" 3 2 iC
theorem Dq (D:gK e.K e.mg "is_doable" rP) (lZ:wM e):xr e:=oV (k:=2) (g:=nE) D Dp b2 fun _ _ _ _ _ _ _ hr=>by have hu1:=j8 hr;unfold nE;exact (aI (bu (jc lZ hr px (a9 (af 1) (a9 (kj (a9 (bU hu1 (ag 0) (JE.bor ax)) (a9 (bU hu1 (ag 0) (JE.bor ax)) aF))) aF)))))
abbrev mJ:cF:=nO 33
abbrev zQ:List Str:=["errand","state","makes","ends"]
theorem qx:bn zQ ["errand","state"] (av mJ):=dg (by decide +kernel)
abbrev rQ (e:En):=FN e "state_behind" 2 2 fG
theorem xV (D:gK e.K e.mg "state_behind" mJ) (wN:C1 e) (zR:Fh e):rQ e:=oV (k:=1) (g:=jR) D qx b2 fun _ _ _ _ _ _ _ hr=>by have hu1:=j8 hr;unfold jR;exact (au (Tq 2 3 rfl qx.nd (a9 (bU hu1 (ag 0) (JE.bor ax)) (a9 (bU hu1 (ag 0) (JE.bor ax)) aF))) (aI (bu (jc zR hr px (a9 (jc wN hr px (a9 (af 1) (a9 (af 3) aF))) (a9 (af 2) aF))))))
abbrev wO:cF:=nO 34
abbrev Lp:List Str:=["book"]
theorem HS:bn Lp ["book"] (av wO):=dg (by decide +kernel)
abbrev C6 (e:En):=FN e "checked" 6 1 sK
theorem HU (D:gK e.K e.mg "checked" wO) (wP:C3 e) (zS:ER e "NoBook"):C6 e:=oV (k:=5) (g:=sJ) D HS b1 fun _ _ _ _ _ _ _ hr=>by unfold sJ;exact (au (e7 (eP (dR (jc wP hr px (a9 (af 0) aF)))) (aI (zq zS rfl (a9 pL aF))) bY) (aI (bu (af 0))))
abbrev oy:cF:=nO 35
abbrev AU:List Str:=["book","state"]
theorem zT:bn AU ["book","state"] (av oy):=dg (by decide +kernel)
abbrev tN (e:En):=FN e "check_place" 7 2 kM
theorem zU (D:gK e.K e.mg "check_place" oy) (wQ:C6 e) (oz:tM e):tN e:=oV (k:=6) (g:=kL) D zT b2 fun _ _ _ _ _ _ _ hr=>by unfold kL;exact (au (vb (jc wQ hr px (a9 (af 0) aF))) (aI (vb (jc oz hr px (a9 (af 0) (a9 (af 1) aF))))))
abbrev rR:cF:=nO 36
abbrev Fm:List Str:=["book","state","want"]
theorem Dr:bn Fm ["book","state","want"] (av rR):=dg (by decide +kernel)
abbrev xt (e:En):=FN e "check_aim" 8 3 nG
theorem Ds (D:gK e.K e.mg "check_aim" rR) (oA:tN e) (qk:vJ e):xt e:=oV (k:=7) (g:=nF) D Dr b3 fun _ _ _ _ _ _ _ hr=>by unfold nF;exact (au (vb (jc oA hr px (a9 (af 0) (a9 (af 1) aF)))) (aI (vb (jc qk hr px (a9 (af 0) (a9 (af 2) aF))))))
abbrev vK:cF:=nO 39
abbrev Fo:List Str:=["book","thing"]
theorem Lq:bn Fo ["book","thing"] (av vK):=dg (by decide +kernel)
abbrev Fp (e:En):=FN e "is_row" 2 2 vt
theorem Lr (D:gK e.K e.mg "is_row" vK) (B:Bi e.mg) (f_:lB e) (oB:Cn e.mg "MOST_IN_ROW" 64):Fp e:=oV (k:=1) (g:=vq) D Lq b2 fun _ _ _ _ _ _ _ hr=>by unfold vq;exact (au (e7 (JW.t (rj (eP (dR (mr (ag 1) rfl B.isinstance rfl B.list dB (by decide)))) (mq (dD (Es) (JE.bor (bM fB rfl B.len bi (b6 (ag 1) bA))) (JE.bor (rh rfl oB)))))) (aI (bu ml)) bY) (aI (bu (bM (pM rfl) rfl B.all cB (b6 (JE.bor (JN.je (fN (N':=["name","book"]) (ix:=[0]) 1 (by decide) rfl (bX (so:=av vK) (N:=Fo) (by decide +kernel)) (fY (ag 1)) (fun cl A0 s0 H0 ex pn=>⟨cR (i:=0) (by show (["name","book"] : List Str).Nodup;decide +kernel) rfl (.inl rfl),fM,(mn (Et) (JE.bor (jc f_ hr dS (a9 (af 1) (a9 (af 0) aF)))) (JE.bor pK))⟩)))) bA)))))
abbrev lQ:cF:=nO 40
abbrev vL:List Str:=["book","row"]
theorem AV:bn vL ["book","row"] (av lQ):=dg (by decide +kernel)
abbrev vM (e:En):=FN e "errands_of" 3 2 lL
theorem AW (D:gK e.K e.mg "errands_of" lQ) (zV:Fp e) (f_:lB e) (sR:Hw "NoRow" (e.cls "NoRow") e.mg e.base):vM e:=oV (k:=2) (g:=lK) D AV b2 fun _ _ _ _ _ _ _ hr=>by unfold lK;exact (au (e7 (eP (dR (jc zV hr px (a9 (af 0) (a9 (af 1) aF))))) (aI (BN sR (XM hr) rfl (a9 pK aF))) bY) (aI (bu (JN.je (fN (N':=["name","book"]) (ix:=[0]) 1 (by decide) rfl (bX (so:=av lQ) (N:=vL) (by decide +kernel)) (fY (ag 1)) (fun cl A0 s0 H0 ex pn=>⟨cR (i:=0) (by show (["name","book"] : List Str).Nodup;decide +kernel) rfl (.inl rfl),fM,(jc f_ hr dS (a9 (af 1) (a9 (af 0) aF)))⟩))))))
abbrev kr:cF:=nO 41
abbrev wR:List Str:=["errands","state","states","errand"]
theorem jT:bn wR ["errands","state"] (av kr):=dg (by decide +kernel)
abbrev ph (e:En):=FN e "states_through" 4 2 iM
theorem vN (D:gK e.K e.mg "states_through" kr) (rT:xr e) (mK:rQ e):ph e:=oV (k:=3) (g:=iL) D jT b2 fun _ _ _ _ _ _ _ hr=>by have hu1:=j8 hr;unfold iL;exact (au (nw 2 (zc (a9 (af 1) aF)) jT.nd) (au (Qq 0 rfl (cO 3 jT.nd) (au (e7 (eP (dR (jc rT hr dS (a9 (af 3) (a9 (bU hu1 (ag 2) (JE.bor (my ax))) aF))))) (aI (bu (af 2))) bY) (aI (oS 2 (jc mK hr dS (a9 (af 3) (a9 (bU hu1 (ag 2) (JE.bor (my ax))) aF))))))) (aI (bu (af 2)))))
abbrev zW:cF:=nO 42
abbrev OT:List Str:=["book","state","want","row","errands","states"]
theorem wS:bn OT ["book","state","want","row"] (av zW):=dg (by decide +kernel)
abbrev vO (e:En):=FN e "serves" 9 4 jf
theorem Ls (D:gK e.K e.mg "serves" zW) (B:Bi e.mg) (rV:xt e) (ql:vM e) (ku:ph e) (lZ:wM e):vO e:=oV (k:=8) (g:=vv) D wS b4 fun _ _ _ _ _ _ _ hr=>by have hu1:=j8 hr;unfold vv;exact (au (vb (jc rV hr px (a9 (af 0) (a9 (af 1) (a9 (af 2) aF))))) (au (cC 4 (jc ql hr px (a9 (af 0) (a9 (af 3) aF))) wS.nd) (au (cC 5 (jc ku hr px (a9 (af 4) (a9 (af 1) aF))) wS.nd) (aI (bu (rn (mn (Es) (JE.bor (bM fB rfl B.len bi (b6 (ag 5) bA))) (JE.bor (bM fB rfl B.len bi (b6 (ag 4) bA)))) (u0 (jc lZ hr px (a9 (bU hu1 (ag 5) (JE.bor (my ax))) (a9 (af 2) aF))))))))))
abbrev mL:cF:=nO 44
abbrev zX:List Str:=["book","state","want","row","left","at","shorter"]
theorem hZ:bn zX ["book","state","want","row"] (av mL):=dg (by decide +kernel)
abbrev rW (e:En):=FN e "trimmed_once" 10 4 gN
theorem xW (D:gK e.K e.mg "trimmed_once" mL) (B:Bi e.mg) (jg:vO e):rW e:=oV (k:=9) (g:=jS) D hZ b4 fun _ _ _ _ _ _ _ hr=>by unfold jS;exact (au (cC 4 (dz (oT rfl) rfl B.list dB (b6 (ag 3) bA)) hZ.nd) (au (mx rfl (zy rfl B.range (b6 (JE.bor (bF N7 (JE.bor (bM fB rfl B.len bi (b6 (ag 3) bA))) (JE.bor ax))) (b6 (JE.bor (my ax)) (b6 (JE.bor (my ax)) bA)))) (cO 5 hZ.nd) (au (cC 6 (bF cc (JE.bor (gM (ag 4) ji (ig (af 5)))) (JE.bor (gM (ag 4) (ig (bF cc (ag 5) (JE.bor ax))) ji))) hZ.nd) (aI (e7 (dR (jc jg hr dS (a9 (af 0) (a9 (af 1) (a9 (af 2) (a9 (af 6) aF)))))) (aI (cC 4 (af 6) hZ.nd)) bY)))) (aI (bu (af 4)))))
abbrev wT:cF:=nO 45
abbrev Lu:List Str:=["book","state","want","row","left","shorter"]
theorem mM:bn Lu ["book","state","want","row"] (av wT):=dg (by decide +kernel)
abbrev C7 (e:En):=FN e "trimmed" 11 4 i5
theorem HV (D:gK e.K e.mg "trimmed" wT) (B:Bi e.mg) (jg:vO e) (jU:rW e) (sR:Hw "NoRow" (e.cls "NoRow") e.mg e.base):C7 e:=oV (k:=10) (g:=oZ) D mM b4 fun _ _ _ _ _ _ _ hr=>by unfold oZ;exact (au (e7 (eP (dR (jc jg hr px (a9 (af 0) (a9 (af 1) (a9 (af 2) (a9 (af 3) aF))))))) (aI (BN sR (XM hr) rfl (a9 pK aF))) bY) (au (cC 4 (dz (oT rfl) rfl B.list dB (b6 (ag 3) bA)) mM.nd) (au (cC 5 (jc jU hr px (a9 (af 0) (a9 (af 1) (a9 (af 2) (a9 (af 4) aF))))) mM.nd) (au (EE 100000 (dD (yZ) (JE.bor (bM fB rfl B.len bi (b6 (ag 5) bA))) (JE.bor (bM fB rfl B.len bi (b6 (ag 4) bA)))) (au (cC 4 (af 5) mM.nd) (aI (cC 5 (jc jU hr dS (a9 (af 0) (a9 (af 1) (a9 (af 2) (a9 (af 4) aF))))) mM.nd)))) (aI (bu (af 4)))))))
abbrev oC:cF:=nO 47
abbrev AX:List Str:=["_law_script","_law_k"]
theorem zY:bn AX ["_law_script","_law_k"] (av oC):=dg (by decide +kernel)
abbrev tO (e:En):=FN e "_law_cell_at" 1 2 kP
theorem zZ (D:gK e.K e.mg "_law_cell_at" oC) (B:Bi e.mg):tO e:=oV (k:=0) (g:=kO) D zY b2 fun _ _ _ _ _ _ _ hr=>by have hu1:=j8 hr;have hu64:=hr.units;unfold kO;exact (au (e7 (dD (yZ) (ag 1) (JE.bor (bM fB rfl B.len bi (b6 (ag 0) bA)))) (aI (bu (bU hu1 (ag 0) (ag 1)))) bY) (au (e7 (dD (tK hu64) (ag 0) (JE.bor (og aF))) (aI (bu ax)) bY) (aI (bu (bF cc (JE.bor (bF rq (JE.bor (bU hu1 (ag 0) (JE.bor (bF CV (ag 1) (JE.bor (bM fB rfl B.len bi (b6 (ag 0) bA))))))) (JE.bor ax))) (ag 1))))))
abbrev rX:cF:=nO 48
abbrev Fq:List Str:=["_law_script","_law_k","_law_many","_law_drawn"]
theorem vP:bn Fq ["_law_script","_law_k","_law_many"] (av rX):=dg (by decide +kernel)
abbrev eC (e:En):=FN e "_law_mixed" 2 3 bf
theorem Dt (D:gK e.K e.mg "_law_mixed" rX) (oE:tO e):eC e:=oV (k:=1) (g:=nI) D vP b3 fun _ _ _ _ _ _ _ hr=>by unfold nI;exact (au (cC 3 (bF CV (JE.bor (bF rq (JE.bor (bF cc (JE.bor (bF cc (JE.bor (jc oE hr px (a9 (af 0) (a9 (af 1) aF)))) (JE.bor (bF rq (JE.bor ax) (ag 1))))) (JE.bor ax))) (JE.bor ax))) (JE.bor ax)) vP.nd) (aI (bu (bF CV (JE.bor (bF CV (JE.bor (bF cc (JE.bor (bF cc (JE.bor (bF rq (ag 3) (ag 3))) (JE.bor (bF rq (JE.bor ax) (ag 3))))) (ag 1))) (JE.bor ax))) (ag 2)))))
abbrev ue:cF:=nO 49
abbrev HW:List Str:=["_law_script","_law_at","_law_made","_law_k"]
theorem nU:bn HW ["_law_script","_law_at"] (av ue):=dg (by decide +kernel)
abbrev uf (e:En):=FN e "_law_word" 3 2 ko
theorem Ft (D:gK e.K e.mg "_law_word" ue) (B:Bi e.mg) (aR:eC e):uf e:=oV (k:=2) (g:=pU) D nU b2 fun _ _ _ _ _ _ _ hr=>by have hu1:=j8 hr;unfold pU;exact (au (cC 2 pL nU.nd) (au (mx rfl (ms rfl B.range (b6 (JE.bor (bU hu1 (JE.bor (og (a9 ax (a9 ax (a9 ax (a9 ax (a9 ax (a9 ax aF)))))))) (JE.bor (jc aR hr dS (a9 (af 0) (a9 (af 1) (a9 ax aF))))))) bA)) (cO 3 nU.nd) (aI (cC 2 (bF cc (ag 2) (JE.bor (bU hu1 (JE.bor pL) (JE.bor (jc aR hr dS (a9 (af 0) (a9 (bF cc (JE.bor (bF cc (ag 1) (JE.bor ax))) (ag 3)) (a9 ax aF)))))))) nU.nd))) (aI (bu (af 2)))))
abbrev rY:cF:=nO 50
abbrev Fu:List Str:=["_law_script","_law_at","_law_most","_law_found","_law_k"]
theorem qm:bn Fu ["_law_script","_law_at","_law_most"] (av rY):=dg (by decide +kernel)
abbrev xu (e:En):=FN e "_law_facts" 4 3 nK
theorem Du (D:gK e.K e.mg "_law_facts" rY) (B:Bi e.mg) (kz:uf e) (aR:eC e):xu e:=oV (k:=3) (g:=nJ) D qm b3 fun _ _ _ _ _ _ _ hr=>by have hu1:=j8 hr;unfold nJ;exact (au (nw 3 IV qm.nd) (au (mx rfl (ms rfl B.range (b6 (JE.bor (jc aR hr dS (a9 (af 0) (a9 (af 1) (a9 (bF cc (ag 2) (JE.bor ax)) aF))))) bA)) (cO 4 qm.nd) (aI (IY 3 ml (jc kz hr dS (a9 (af 0) (a9 (bF cc (JE.bor (bF cc (ag 1) (JE.bor ax))) (JE.bor (bF rq (JE.bor ax) (ag 4)))) aF))) hu1))) (aI (bu (dz (iB rfl) rfl B.tuple b9 (b6 (JE.bor (bM KD rfl B.sorted wZ (b6 (JE.bor (dz (oT rfl) rfl B.list dB (b6 (ag 3) bA))) bA))) bA))))))
abbrev qo:cF:=nO 51
abbrev z_:List Str:=["_law_script","_law_at","_law_facts_here","_law_part"]
theorem Fv:bn z_ ["_law_script","_law_at","_law_facts_here","_law_part"] (av qo):=dg (by decide +kernel)
abbrev ug (e:En):=FN e "_law_some" 3 4 kq
theorem Fx (D:gK e.K e.mg "_law_some" qo) (B:Bi e.mg) (aR:eC e):ug e:=oV (k:=2) (g:=pV) D Fv b4 fun _ _ _ _ _ _ _ hr=>by unfold pV;exact (aI (bu (dz (iB rfl) rfl B.tuple b9 (b6 (JE.bor (JN.je (fN (N':=["_law_k","_law_fact","_law_script","_law_at","_law_part"]) (ix:=[0,1,3]) 2 (by decide) rfl (bX (so:=av qo) (N:=z_) (by decide +kernel)) (IS.i (zb rfl B.enumerate (a9 (af 2) aF))) (fun cl A0 s0 H0 ex pn=>⟨GC rfl (qV (cR (i:=0) (by show (["_law_k","_law_fact","_law_script","_law_at","_law_part"] : List Str).Nodup;decide +kernel) rfl (.inl rfl)) (qV (cR (i:=1) (by show (["_law_k","_law_fact","_law_script","_law_at","_law_part"] : List Str).Nodup;decide +kernel) rfl (.inl rfl)) Cq)),(pO (dD (yZ) (JE.bor (jc aR hr dS (a9 (af 2) (a9 (bF cc (ag 3) (ag 0)) (a9 ax aF))))) (ag 4))),(af 1)⟩)))) bA))))
abbrev kA:cF:=nO 52
abbrev qp:List Str:=["_law_script","_law_at","_law_facts_here","_law_name","_law_one","_law_two","_law_goal","_law_needs","_law_bars","_law_ends","_law_parts"]
theorem gR:bn qp ["_law_script","_law_at","_law_facts_here","_law_name"] (av kA):=dg (by decide +kernel)
abbrev A1 (e:En):=FN e "_law_thin" 3 4 pX
theorem Fy (D:gK e.K e.mg "_law_thin" kA) (B:Bi e.mg) (aR:eC e):A1 e:=oV (k:=2) (g:=pW) D gR b4 fun _ _ _ _ _ _ _ hr=>by have hu1:=j8 hr;have hu64:=hr.units;unfold pW;exact (au (cC 4 (bU hu1 (ag 2) (JE.bor (jc aR hr px (a9 (af 0) (a9 (bF cc (ag 1) (JE.bor ax)) (a9 (bM fB rfl B.len bi (b6 (ag 2) bA)) aF)))))) gR.nd) (au (cC 5 (bU hu1 (ag 2) (JE.bor (jc aR hr px (a9 (af 0) (a9 (bF cc (ag 1) (JE.bor ax)) (a9 (bM fB rfl B.len bi (b6 (ag 2) bA)) aF)))))) gR.nd) (au (cC 6 (bU hu1 (ag 2) (JE.bor (jc aR hr px (a9 (af 0) (a9 (bF cc (ag 1) (JE.bor ax)) (a9 (bM fB rfl B.len bi (b6 (ag 2) bA)) aF)))))) gR.nd) (au (cC 7 (gM (JE.bor (og (a9 (af 4) (a9 (af 5) aF)))) ji (ig (bF cc (JE.bor ax) (JE.bor (bF Qh (JE.bor (jc aR hr px (a9 (af 0) (a9 (bF cc (ag 1) (JE.bor ax)) (a9 ax aF))))) (JE.bor ax)))))) gR.nd) (au (kn 8 (N':=["_law_fact","_law_needs","_law_script","_law_at"]) (ix:=[7,0,1]) 1 (by decide) gR.nd rfl (bX (so:=av kA) (N:=qp) (by decide +kernel)) (fY (JE.bor (og (a9 (af 6) aF)))) (fun cl A0 s0 H0 ex pn=>⟨cR (i:=0) (by show (["_law_fact","_law_needs","_law_script","_law_at"] : List Str).Nodup;decide +kernel) rfl (.inl rfl),(pO (JW.t (H9 (dD (v8) (ag 0) (ag 1)) (CT (dD (tK hu64) (JE.bor (jc aR hr dS (a9 (af 2) (a9 (bF cc (ag 3) (JE.bor ax)) (a9 ax aF))))) (JE.bor ax)))))),(af 0)⟩)) (au (kn 9 (N':=["_law_fact","_law_goal","_law_script","_law_at"]) (ix:=[6,0,1]) 1 (by decide) gR.nd rfl (bX (so:=av kA) (N:=qp) (by decide +kernel)) (fY (JE.bor (og (a9 (af 4) aF)))) (fun cl A0 s0 H0 ex pn=>⟨cR (i:=0) (by show (["_law_fact","_law_goal","_law_script","_law_at"] : List Str).Nodup;decide +kernel) rfl (.inl rfl),(pO (JW.t (H9 (dD (yY hu64) (ag 0) (ag 1)) (CT (dD (tK hu64) (JE.bor (jc aR hr dS (a9 (af 2) (a9 (bF cc (ag 3) (JE.bor ax)) (a9 ax aF))))) (JE.bor ax)))))),(af 0)⟩)) (au (Np 8 (Np 9 (kn 10 (N':=["_law_part"]) (ix:=[]) 1 (by decide) gR.nd rfl (bX (so:=av kA) (N:=qp) (by decide +kernel)) (fY (JE.bor (kj (a9 (af 7) (a9 (af 8) (a9 (og (a9 (af 6) aF)) (a9 (af 9) aF))))))) (fun cl A0 s0 H0 ex pn=>⟨cR (i:=0) (by show (["_law_part"] : List Str).Nodup;decide +kernel) rfl (.inl rfl),fM,(dz (iB rfl) rfl B.tuple b9 (b6 (JE.bor (u4 rfl (D3 rfl (ag 0) rfl B.set) rfl B.sorted)) bA))⟩)))) (aI (bu (kj (a9 (af 3) (a9 (bU hu1 (ag 10) (JE.bor ax)) (a9 (bU hu1 (ag 10) (JE.bor ax)) (a9 (bU hu1 (ag 10) (JE.bor ax)) (a9 (bU hu1 (ag 10) (JE.bor ax)) (a9 (jc aR hr px (a9 (af 0) (a9 (af 1) (a9 ax aF)))) aF))))))))))))))))
abbrev lR:cF:=nO 53
abbrev vQ:List Str:=["_law_script","_law_at","_law_facts_here","_law_name","_law_parts","_law_k","_law_fact","_law_way","_law_some_here"]
theorem gH:bn vQ ["_law_script","_law_at","_law_facts_here","_law_name"] (av lR):=dg (by decide +kernel)
abbrev vR (e:En):=FN e "_law_errand" 4 4 iO
theorem AY (D:gK e.K e.mg "_law_errand" lR) (B:Bi e.mg) (aR:eC e) (uh:A1 e):vR e:=oV (k:=3) (g:=iN) D gH b4 fun _ _ _ _ _ _ _ hr=>by have hu1:=j8 hr;have hu64:=hr.units;unfold iN;exact (au (e7 (JW.t (H9 (dD (yY hu64) (ag 2) (JE.bor (kj aF))) (CT (dD (tK hu64) (JE.bor (jc aR hr px (a9 (af 0) (a9 ax (a9 ax aF))))) (JE.bor ax))))) (aI (bu (jc uh hr px (a9 (af 0) (a9 (af 1) (a9 (af 2) (a9 (af 3) aF))))))) bY) (au (Tf 4 gH.nd) (au (mx rfl (zb rfl B.enumerate (a9 (af 2) aF)) (rE rfl (df (cO 5 gH.nd) (df (cO 6 gH.nd) nu))) (au (cC 7 (jc aR hr dS (a9 (af 0) (a9 (bF cc (JE.bor (bF cc (ag 1) (JE.bor ax))) (ag 5)) (a9 ax aF)))) gH.nd) (au (e7 (dD (yZ) (ag 7) (JE.bor ax)) (aI (zo 4 (bU hu1 (JE.bor (og (a9 ax (a9 ax (a9 ax aF))))) (ag 7)) (af 6))) bY) (au (cC 7 (jc aR hr dS (a9 (af 0) (a9 (bF cc (JE.bor (bF cc (ag 1) (JE.bor ax))) (ag 5)) (a9 ax aF)))) gH.nd) (aI (e7 (dD (yZ) (ag 7) (JE.bor ax)) (aI (zo 4 (bU hu1 (JE.bor (og (a9 ax (a9 ax (a9 ax (a9 ax aF)))))) (ag 7)) (af 6))) bY)))))) (au (No (kn 8 (N':=["_law_part"]) (ix:=[]) 1 (by decide) gH.nd rfl (bX (so:=av lR) (N:=vQ) (by decide +kernel)) (fY (ag 4)) (fun cl A0 s0 H0 ex pn=>⟨cR (i:=0) (by show (["_law_part"] : List Str).Nodup;decide +kernel) rfl (.inl rfl),fM,(dz (iB rfl) rfl B.tuple b9 (b6 (ag 0) bA))⟩))) (aI (bu (kj (a9 (af 3) (a9 (bU hu1 (ag 8) (JE.bor ax)) (a9 (bU hu1 (ag 8) (JE.bor ax)) (a9 (bU hu1 (ag 8) (JE.bor ax)) (a9 (bU hu1 (ag 8) (JE.bor ax)) (a9 (jc aR hr px (a9 (af 0) (a9 (af 1) (a9 ax aF)))) aF)))))))))))))
abbrev qq:cF:=nO 54
abbrev A2:List Str:=["_law_script","_law_at","_law_most","_law_many","_law_facts_here","_law_made","_law_k","_law_name","_law_names","_law_turn"]
theorem iE:bn A2 ["_law_script","_law_at","_law_most","_law_many"] (av qq):=dg (by decide +kernel)
abbrev A3 (e:En):=FN e "_law_book" 5 4 mD
theorem Fz (D:gK e.K e.mg "_law_book" qq) (B:Bi e.mg) (rZ:xu e) (kz:uf e) (qr:vR e) (aR:eC e):A3 e:=oV (k:=4) (g:=mC) D iE b4 fun _ _ _ _ _ _ _ hr=>by have hu1:=j8 hr;unfold mC;exact (au (cC 4 (jc rZ hr px (a9 (af 0) (a9 (af 1) (a9 (af 2) aF)))) iE.nd) (au (nw 5 IV iE.nd) (au (mx rfl (ms rfl B.range (b6 (JE.bor (jc aR hr dS (a9 (af 0) (a9 (bF cc (ag 1) (JE.bor ax)) (a9 (bF cc (ag 3) (JE.bor ax)) aF))))) bA)) (cO 6 iE.nd) (au (cC 7 (jc kz hr dS (a9 (af 0) (a9 (bF cc (JE.bor (bF cc (ag 1) (JE.bor ax))) (JE.bor (bF rq (JE.bor ax) (ag 6)))) aF))) iE.nd) (aI (IY 5 (jc qr hr dS (a9 (af 0) (a9 (bF cc (JE.bor (bF cc (ag 1) (JE.bor ax))) (JE.bor (bF rq (JE.bor ax) (ag 6)))) (a9 (af 4) (a9 (af 7) aF))))) (af 7) hu1)))) (au (cC 8 (dz (oT rfl) rfl B.list dB (b6 (ag 5) bA)) iE.nd) (au (cC 9 (jc aR hr px (a9 (af 0) (a9 (bF cc (ag 1) (JE.bor ax)) (a9 (bF cc (JE.bor (bM fB rfl B.len bi (b6 (ag 8) bA))) (JE.bor ax)) aF)))) iE.nd) (aI (bu (kj (a9 (af 4) (a9 (dz (iB rfl) rfl B.tuple b9 (b6 (JE.bor (JN.je (fN (N':=["_law_name","_law_made"]) (ix:=[5]) 1 (by decide) rfl (bX (so:=av qq) (N:=A2) (by decide +kernel)) (fY (JE.bor (bF cc (JE.bor (gM (ag 8) (ig (af 9)) ji)) (JE.bor (gM (ag 8) ji (ig (af 9))))))) (fun cl A0 s0 H0 ex pn=>⟨cR (i:=0) (by show (["_law_name","_law_made"] : List Str).Nodup;decide +kernel) rfl (.inl rfl),fM,(bU hu1 (ag 1) (ag 0))⟩)))) bA)) aF))))))))))
abbrev ui:cF:=nO 55
abbrev HX:List Str:=["_law_script","_law_at","_law_facts_here","_law_must","_law_bars","_law_k","_law_fact","_law_way"]
theorem jz:bn HX ["_law_script","_law_at","_law_facts_here"] (av ui):=dg (by decide +kernel)
abbrev A4 (e:En):=FN e "_law_want" 3 3 u6
theorem FA (D:gK e.K e.mg "_law_want" ui) (B:Bi e.mg) (aR:eC e):A4 e:=oV (k:=2) (g:=mE) D jz b3 fun _ _ _ _ _ _ _ hr=>by have hu64:=hr.units;unfold mE;exact (au (nw 3 (zc aF) jz.nd) (au (nw 4 (zc aF) jz.nd) (au (mx rfl (zb rfl B.enumerate (a9 (af 2) aF)) (rE rfl (df (cO 5 jz.nd) (df (cO 6 jz.nd) nu))) (au (cC 7 (jc aR hr dS (a9 (af 0) (a9 (bF cc (ag 1) (ag 5)) (a9 ax aF)))) jz.nd) (aI (e7 (dD (yZ) (ag 7) (JE.bor ax)) (aI (oS 3 (af 6))) (aI (e7 (dD (tK hu64) (ag 7) (JE.bor ax)) (aI (oS 4 (af 6))) bY)))))) (aI (bu (kj (a9 (dz (iB rfl) rfl B.tuple b9 (b6 (ag 3) bA)) (a9 (dz (iB rfl) rfl B.tuple b9 (b6 (ag 4) bA)) aF))))))))
abbrev uj:cF:=nO 56
abbrev HY:List Str:=["_law_script","_law_most","_law_many","_law_book_here","_law_state"]
theorem r_:bn HY ["_law_script","_law_most","_law_many"] (av uj):=dg (by decide +kernel)
abbrev A5 (e:En):=FN e "_law_case" 6 3 pZ
theorem FC (D:gK e.K e.mg "_law_case" uj) (uk:A3 e) (aR:eC e) (ju:ug e) (ul:A4 e):A5 e:=oV (k:=5) (g:=pY) D r_ b3 fun _ _ _ _ _ _ _ hr=>by have hu1:=j8 hr;unfold pY;exact (au (cC 3 (jc uk hr px (a9 (af 0) (a9 ax (a9 (af 1) (a9 (af 2) aF))))) r_.nd) (au (cC 4 (jc ju hr px (a9 (af 0) (a9 ax (a9 (bU hu1 (ag 3) (JE.bor ax)) (a9 (bU hu1 (JE.bor (og (a9 ax (a9 ax aF)))) (JE.bor (jc aR hr px (a9 (af 0) (a9 ax (a9 ax aF)))))) aF))))) r_.nd) (aI (bu (kj (a9 (af 3) (a9 (af 4) (a9 (jc ul hr px (a9 (af 0) (a9 ax (a9 (bU hu1 (ag 3) (JE.bor ax)) aF)))) aF))))))))
abbrev mO:cF:=nO 57
abbrev um:List Str:=["_law_state","_law_want_here"]
theorem FD:bn um ["_law_state","_law_want_here"] (av mO):=dg (by decide +kernel)
abbrev uo (e:En):=FN e "_law_good" 1 2 mF
theorem FE (D:gK e.K e.mg "_law_good" mO) (B:Bi e.mg):uo e:=oV (k:=0) (g:=p_) D FD b2 fun _ _ _ _ _ _ _ hr=>by have hu1:=j8 hr;unfold p_;exact (aI (bu (rn (bM (pM rfl) rfl B.all cB (b6 (JE.bor (JN.je (fN (N':=["_law_fact","_law_state"]) (ix:=[0]) 1 (by decide) rfl (bX (so:=av mO) (N:=um) (by decide +kernel)) (fY (JE.bor (bU hu1 (ag 1) (JE.bor ax)))) (fun cl A0 s0 H0 ex pn=>⟨cR (i:=0) (by show (["_law_fact","_law_state"] : List Str).Nodup;decide +kernel) rfl (.inl rfl),fM,(mn (Ew) (ag 0) (ag 1))⟩)))) bA)) (u0 (Ha (bM (He rfl) rfl B.any oF (b6 (JE.bor (JN.je (fN (N':=["_law_fact","_law_state"]) (ix:=[0]) 1 (by decide) rfl (bX (so:=av mO) (N:=um) (by decide +kernel)) (fY (JE.bor (bU hu1 (ag 1) (JE.bor ax)))) (fun cl A0 s0 H0 ex pn=>⟨cR (i:=0) (by show (["_law_fact","_law_state"] : List Str).Nodup;decide +kernel) rfl (.inl rfl),fM,(mn (Ew) (ag 0) (ag 1))⟩)))) bA)))))))
abbrev qt:cF:=nO 58
abbrev A6:List Str:=["_law_errand_here","_law_state","_law_left"]
theorem xv:bn A6 ["_law_errand_here","_law_state"] (av qt):=dg (by decide +kernel)
abbrev uq (e:En):=FN e "_law_step" 2 2 eQ
theorem FF (D:gK e.K e.mg "_law_step" qt) (B:Bi e.mg) (kC:uo e):uq e:=oV (k:=1) (g:=q0) D xv b2 fun _ _ _ _ _ _ _ hr=>by have hu1:=j8 hr;unfold q0;exact (au (e7 (eP (dR (jc kC hr px (a9 (af 1) (a9 (gM (ag 0) (ig ax) (ig ax)) aF))))) (aI (bu pK)) bY) (au (kn 2 (N':=["_law_fact","_law_errand_here"]) (ix:=[0]) 1 (by decide) xv.nd rfl (bX (so:=av qt) (N:=A6) (by decide +kernel)) (fY (ag 1)) (fun cl A0 s0 H0 ex pn=>⟨cR (i:=0) (by show (["_law_fact","_law_errand_here"] : List Str).Nodup;decide +kernel) rfl (.inl rfl),(pO (dD (v8) (ag 0) (JE.bor (bU hu1 (ag 1) (JE.bor ax))))),(af 0)⟩)) (aI (bu (dz (iB rfl) rfl B.tuple b9 (b6 (JE.bor (u4 rfl (D3 rfl (JE.bor (bF cc (ag 2) (JE.bor (dz (oT rfl) rfl B.list dB (b6 (JE.bor (bU hu1 (ag 0) (JE.bor ax))) bA))))) rfl B.set) rfl B.sorted)) bA))))))
abbrev qu:cF:=nO 59
abbrev A7:List Str:=["_law_script","_law_at","_law_book_here","_law_state","_law_many","_law_row","_law_k","_law_some_here","_law_errand_here"]
theorem jA:bn A7 ["_law_script","_law_at","_law_book_here","_law_state","_law_many"] (av qu):=dg (by decide +kernel)
abbrev A8 (e:En):=FN e "_law_walk" 3 5 q9
theorem FG (D:gK e.K e.mg "_law_walk" qu) (B:Bi e.mg) (jv:uq e) (aR:eC e):A8 e:=oV (k:=2) (g:=q8) D jA b5 fun _ _ _ _ _ _ _ hr=>by have hu1:=j8 hr;have hu64:=hr.units;unfold q8;exact (au (nw 5 (zc aF) jA.nd) (au (mx rfl (ms rfl B.range (b6 (ag 4) bA)) (cO 6 jA.nd) (au (kn 7 (N':=["_law_errand_here","_law_state"]) (ix:=[3]) 1 (by decide) jA.nd rfl (bX (so:=av qu) (N:=A7) (by decide +kernel)) (fY (JE.bor (bU hu1 (ag 2) (JE.bor ax)))) (fun cl A0 s0 H0 ex pn=>⟨cR (i:=0) (by show (["_law_errand_here","_law_state"] : List Str).Nodup;decide +kernel) rfl (.inl rfl),(pO (dD (Et) (JE.bor (jc jv hr dS (a9 (af 0) (a9 (af 1) aF)))) (JE.bor pK))),(af 0)⟩)) (au (e7 (dD (tK hu64) (ag 7) (JE.bor (og aF))) (aI (bu (af 5))) bY) (au (cC 8 (bU hu1 (ag 7) (JE.bor (jc aR hr dS (a9 (af 0) (a9 (bF cc (ag 1) (ag 6)) (a9 (bM fB rfl B.len bi (b6 (ag 7) bA)) aF)))))) jA.nd) (au (oS 5 (bU hu1 (ag 8) (JE.bor ax))) (aI (cC 3 (jc jv hr dS (a9 (af 8) (a9 (af 3) aF))) jA.nd))))))) (aI (bu (af 5)))))
abbrev lS:cF:=nO 60
abbrev vS:List Str:=["_law_book_here","_law_state","_law_row","_law_named","_law_found","_law_number","_law_name","_law_other"]
theorem i6:bn vS ["_law_book_here","_law_state","_law_row"] (av lS):=dg (by decide +kernel)
abbrev qv (e:En):=FN e "_law_states" 3 3 gf
theorem AZ (D:gK e.K e.mg "_law_states" lS) (B:Bi e.mg) (jv:uq e):qv e:=oV (k:=2) (g:=lM) D i6 b3 fun _ _ _ _ _ _ _ hr=>by have hu1:=j8 hr;unfold lM;exact (au (nw 3 (KO rfl (JN.je (fN (N':=["_law_errand_here"]) (ix:=[]) 1 (by decide) rfl (bX (so:=av lS) (N:=vS) (by decide +kernel)) (fY (JE.bor (bU hu1 (ag 0) (JE.bor ax)))) (fun cl A0 s0 H0 ex pn=>⟨cR (i:=0) (by show (["_law_errand_here"] : List Str).Nodup;decide +kernel) rfl (.inl rfl),fM,(kj (a9 (bU hu1 (ag 0) (JE.bor ax)) (a9 (af 0) aF)))⟩))) rfl B.dict) i6.nd) (au (nw 4 (zc (a9 (af 1) aF)) i6.nd) (au (mx rfl (KP rfl B.enumerate (a9 (af 2) aF)) (rE rfl (df (cO 5 i6.nd) (df (cO 6 i6.nd) nu))) (au (cC 7 (jc jv hr dS (a9 (bU hu1 (ag 3) (ag 6)) (a9 (bU hu1 (ag 4) (JE.bor (my ax))) aF))) i6.nd) (au (e7 (dD (UO) (ag 7) (JE.bor pK)) (aI (bu (af 5))) bY) (aI (oS 4 (af 7)))))) (aI (bu (af 4))))))
abbrev ur:cF:=nO 61
abbrev HZ:List Str:=["_law_book_here","_law_state","_law_want_here","_law_row","_law_found"]
theorem xw:bn HZ ["_law_book_here","_law_state","_law_want_here","_law_row"] (av ur):=dg (by decide +kernel)
abbrev A9 (e:En):=FN e "_law_does" 4 4 jq
theorem FH (D:gK e.K e.mg "_law_does" ur) (B:Bi e.mg) (iQ:qv e) (kC:uo e):A9 e:=oV (k:=3) (g:=qc) D xw b4 fun _ _ _ _ _ _ _ hr=>by have hu1:=j8 hr;unfold qc;exact (au (cC 4 (jc iQ hr px (a9 (af 0) (a9 (af 1) (a9 (af 3) aF)))) xw.nd) (aI (bu (rn (Ha (mr (ag 4) rfl B.isinstance rfl B.int yD (by decide))) (u0 (jc kC hr px (a9 (bU hu1 (ag 4) (JE.bor (my ax))) (a9 (af 2) aF))))))))
abbrev s9:cF:=nO 63
abbrev FI:List Str:=["_law_book_here","_law_state","_law_want_here","_law_row","_law_e"]
theorem vT:bn FI ["_law_book_here","_law_state","_law_want_here","_law_row"] (av s9):=dg (by decide +kernel)
abbrev xx (e:En):=FN e "_law_asked" 12 4 iD
theorem Dv (D:gK e.K e.mg "_law_asked" s9) (wU:C7 e) (W:Wh e.P e.w e.K e.mg e.base e.cls "_law_which" Fg Vz) (NM:e.mg "NoRow"=some (.ref (e.cls "NoRow"))) (NR:NRk e.K (e.cls "NoRow")):xx e:=oV (k:=11) (g:=nL) D vT b4 fun _ _ _ _ _ _ _ hr=>by unfold nL;exact (aI (QI 4 W NM NR (fun E1 xe1 pn1 hp=>(aI (bu (jc wU hr hp (a9 (af 0) (a9 (af 1) (a9 (af 2) (a9 (af 3) aF)))))))) (hr.h.mono1) rfl rfl vT.nd (by decide +kernel)))
abbrev tP:cF:=nO 64
abbrev OU:List Str:=["_law_script","_law_book_here","_law_state","_law_want_here","_law_row","_law_last","_law_rest","_law_told","_law_due","_law_size","_law_at"]
theorem jV:bn OU ["_law_script"] (av tP):=dg (by decide +kernel)
theorem TY {f:ah}{fd:eI} (F:G4 e.K "law" "law" tP f fd) (B:Bi e.mg) (ut:A5 e) (aR:eC e) (uu:A8 e) (iQ:qv e) (ju:ug e) (nV:xx e) (qw:A9 e) (jg:vO e):sZ e.P e.w e.K e.mg e.base (ja e.P e.w) 13 f fd ["_law_script"] (Rz e.K e.cls 1 F_law):=by
 refine RC (k:=12) (g:=Jo) F jV fun cdv A outer s H E hr=>?_
 have hu1:=j8 hr
 have hu64:=hr.units
 unfold Jo
 exact (au (z0 (jc ut hr px (a9 (af 0) (a9 ax (a9 ax aF)))) (rE rfl (df (cO 1 jV.nd) (df (cO 2 jV.nd) (df (cO 3 jV.nd) nu))))) (au (cC 4 (jc uu hr px (a9 (af 0) (a9 ax (a9 (af 1) (a9 (af 2) (a9 (jc aR hr px (a9 (af 0) (a9 ax (a9 ax aF)))) aF)))))) jV.nd) (au (cC 5 (bU hu1 (JE.bor (jc iQ hr px (a9 (af 1) (a9 (af 2) (a9 (af 4) aF))))) (JE.bor (my ax))) jV.nd) (au (e7 (dD (Es) (JE.bor (jc aR hr px (a9 (af 0) (a9 ax (a9 ax aF))))) (JE.bor ax)) (au (cC 6 (dz (iB rfl) rfl B.tuple b9 (b6 (JE.bor (JN.je (fN (N':=["_law_fact","_law_last"]) (ix:=[5]) 1 (by decide) rfl (bX (so:=av tP) (N:=OU) (by decide +kernel)) (fY (JE.bor (bU hu1 (ag 1) (JE.bor ax)))) (fun cl A0 s0 H0 ex pn=>⟨cR (i:=0) (by show (["_law_fact","_law_last"] : List Str).Nodup;decide +kernel) rfl (.inl rfl),(pO (dD (v8) (ag 0) (ag 1))),(af 0)⟩)))) bA)) jV.nd) (aI (cC 3 (kj (a9 (jc ju hr px (a9 (af 0) (a9 ax (a9 (af 5) (a9 ax aF))))) (a9 (jc ju hr px (a9 (af 0) (a9 ax (a9 (af 6) (a9 ax aF))))) aF))) jV.nd))) bY) (au (cC 7 (jc nV hr px (a9 (af 1) (a9 (af 2) (a9 (af 3) (a9 (af 4) aF))))) jV.nd) (au (e7 (eP (dR (jc qw hr px (a9 (af 1) (a9 (af 2) (a9 (af 3) (a9 (af 4) aF))))))) (aI (bu (mn (tK hu64) (ag 7) (JE.bor (kj (a9 pL (a9 pK (a9 (kj (a9 pL (a9 ax aF))) aF)))))))) bY) (au (cC 8 (dz (oT rfl) rfl B.list dB (b6 (ag 4) bA)) jV.nd) (au (cC 9 (my ax) jV.nd) (au (EE 100000 (dD (yY hu64) (ag 9) (JE.bor (bM fB rfl B.len bi (b6 (ag 8) bA)))) (au (cC 9 (bM fB rfl B.len bi (b6 (ag 8) bA)) jV.nd) (aI (mx rfl (zy rfl B.range (b6 (JE.bor (bF N7 (ag 9) (JE.bor ax))) (b6 (JE.bor (my ax)) (b6 (JE.bor (my ax)) bA)))) (cO 10 jV.nd) (aI (e7 (dR (jc qw hr dS (a9 (af 1) (a9 (af 2) (a9 (af 3) (a9 (bF cc (JE.bor (gM (ag 8) ji (ig (af 10)))) (JE.bor (gM (ag 8) (ig (bF cc (ag 10) (JE.bor ax))) ji))) aF)))))) (aI (cC 8 (bF cc (JE.bor (gM (ag 8) ji (ig (af 10)))) (JE.bor (gM (ag 8) (ig (bF cc (ag 10) (JE.bor ax))) ji))) jV.nd)) bY)))))) (au (e7 (JW.t (rj (dD (yY hu64) (ag 7) (ag 8)) (mq (eP (dR (jc jg hr px (a9 (af 1) (a9 (af 2) (a9 (af 3) (a9 (af 7) aF)))))))))) (aI (bu ml)) bY) (au (e7 (dR (bM (He rfl) rfl B.any oF (b6 (JE.bor (JN.je (fN (N':=["_law_at","_law_book_here","_law_state","_law_want_here","_law_told"]) (ix:=[1,2,3,7]) 1 (by decide) rfl (bX (so:=av tP) (N:=OU) (by decide +kernel)) (IS.i (ms rfl B.range (b6 (JE.bor (bM fB rfl B.len bi (b6 (ag 7) bA))) bA))) (fun cl A0 s0 H0 ex pn=>⟨cR (i:=0) (by show (["_law_at","_law_book_here","_law_state","_law_want_here","_law_told"] : List Str).Nodup;decide +kernel) rfl (.inl rfl),fM,(jc jg hr dS (a9 (af 1) (a9 (af 2) (a9 (af 3) (a9 (bF cc (JE.bor (gM (ag 4) ji (ig (af 0)))) (JE.bor (gM (ag 4) (ig (bF cc (ag 0) (JE.bor ax))) ji))) aF)))))⟩)))) bA))) (aI (bu ml)) bY) (aI (bu (mn (tK hu64) (JE.bor (jc nV hr px (a9 (af 1) (a9 (af 2) (a9 (af 3) (a9 (af 7) aF)))))) (ag 7)))))))))))))))
end
end
section
theorem all_mk {l:xC}{w:bv}{K:a7}{h:bt}{mg:Str->Option ae}{fa A:ah}{kZ:ah}{jB:ah}{k_:ah}{kE:ah}{lT:ah}{sS:ah}{l_:ah}{m5:ah}{kF:ah}{m6:ah}{pi:ah}{jC:ah}{od an:Option ah}{sl:Array (Option ae)}{oc kV dc pm cv ct:ae} (X:K.In h) (G:h.Ns bq mg) (hfa:mg "law"=some (.ref fa))
  (Zz:Zs K zn)
  (mH:Cn mg "MOST_LETTERS" 6)
  (qh:Cn mg "MOST_PRICE" 9)
  (qi:Cn mg "MOST_FACTS" 6)
  (mI:Cn mg "MOST_ERRANDS" 6)
  (oB:Cn mg "MOST_IN_ROW" 64)
  (Ws:QE K Fg [kZ,jB,k_,kE,lT,sS,l_,m5,kF,m6,pi])
  (C8:TopC K "NoState" jB)
  (FJ:TopC K "NoWant" k_)
  (FK:TopC K "NoBook" kZ)
  (nW:TopC K "PlanError" jC)
  (yn:Vw K "NoRow" lT (Vu (nO 6) 0))
  (w_NoState:Wy K jB jC [(kZ,false),(jB,true),(k_,false),(kE,false),(lT,false),(sS,false),(l_,false),(m5,false),(kF,false),(m6,false),(pi,false)])
  (w_NoWant:Wy K k_ jC [(kZ,false),(jB,false),(k_,true),(kE,false),(lT,false),(sS,false),(l_,false),(m5,false),(kF,false),(m6,false),(pi,false)])
  (w_NoBook:Wy K kZ jC [(kZ,true),(jB,false),(k_,false),(kE,false),(lT,false),(sS,false),(l_,false),(m5,false),(kF,false),(m6,false),(pi,false)])
  (w_NoRow:Wy K lT jC [(kZ,false),(jB,false),(k_,false),(kE,false),(lT,true),(sS,false),(l_,false),(m5,false),(kF,false),(m6,false),(pi,false)])
  (nr:NRk K lT)
  (FL:gK K mg "_law_which" rN)
  (Dw:gK K mg "share_none" lO)
  (Lv:gK K mg "without" sO)
  (OV:gK K mg "joined" zL)
  (Lw:gK K mg "is_word" sP)
  (uv:gK K mg "are_rising_words" fJ)
  (FM:gK K mg "are_facts" nP)
  (H_:gK K mg "is_whole" u9)
  (FO:gK K mg "is_errand" nR)
  (Lx:gK K mg "is_book" pd)
  (Ly:gK K mg "is_want" wI)
  (A_:gK K mg "check_state" ou)
  (Dy:gK K mg "check_want" qj)
  (xX:gK K mg "errand_called" lA)
  (Lz:gK K mg "fulfils" sQ)
  (FP:gK K mg "is_doable" rP)
  (Aa:gK K mg "state_behind" mJ)
  (LA:gK K mg "checked" wO)
  (B0:gK K mg "check_place" oy)
  (FQ:gK K mg "check_aim" rR)
  (OW:gK K mg "is_row" vK)
  (Dz:gK K mg "errands_of" lQ)
  (wV:gK K mg "states_through" kr)
  (OX:gK K mg "serves" zW)
  (Ab:gK K mg "trimmed_once" mL)
  (LB:gK K mg "trimmed" wT)
  (B1:gK K mg "_law_cell_at" oC)
  (FR:gK K mg "_law_mixed" rX)
  (I0:gK K mg "_law_word" ue)
  (FS:gK K mg "_law_facts" rY)
  (Ic:gK K mg "_law_some" qo)
  (Ie:gK K mg "_law_thin" kA)
  (DA:gK K mg "_law_errand" lR)
  (Ig:gK K mg "_law_book" qq)
  (Ih:gK K mg "_law_want" ui)
  (Ii:gK K mg "_law_case" uj)
  (Ij:gK K mg "_law_good" mO)
  (Ik:gK K mg "_law_step" qt)
  (Il:gK K mg "_law_walk" qu)
  (DB:gK K mg "_law_states" lS)
  (Im:gK K mg "_law_does" ur)
  (FT:gK K mg "_law_asked" s9)
  (l0:g9 K bq "law"=some (some (.ref A)))
  (l1:K.lookup A=some ⟨oc,od,.func (ef "law" "law" (kH tP) (gU tP) (av tP) .none kV dc pm an cv ct),sl⟩)
  (l2:jI K cv "law"=true)
  (l3:dL K (.ref A)=true)
  : ∃ fd:eI,(∀ (s:ai) (v:ae),wW s fd ⟨[v],[]⟩ [("_law_script",v)])/\∀ base:bt,K.In base->base.Ns bq mg->sZ l.prog w K mg base (ja l.prog w) 13 fa fd ["_law_script"] (V1 K F_law):=by
 have q:=hfa.symm.trans (i3 X G l0)
 cases q
 refine ⟨ef "law" "law" (kH tP) (gU tP) (av tP) .none kV dc pm an cv ct,fun s v=>.of_eq rfl,fun base X G=>?_⟩
 let e:En:=⟨l.prog,w,K,mg,base,V2 [("NoBook",kZ),("NoState",jB),("NoWant",k_),("NoErrand",kE),("NoRow",lT),("NoWay",sS),("NoPaper",l_),("NoFacts",m5),("NoNumber",kF),("Nothing",m6),("NoText",pi),("PlanError",jC)]⟩
 have B:Bi e.mg:=Vm X G Zz
 have wJ:ER e "NoState":=C8.er X G rfl
 have zP:ER e "NoWant":=FJ.er X G rfl
 have zS:ER e "NoBook":=FK.er X G rfl
 have sR:Hw "NoRow" (e.cls "NoRow") e.mg e.base:=yn.own X G
 obtain ⟨fw,fdw,Fw,mw⟩:=FL.ex
 have W:Wh e.P e.w e.K e.mg e.base e.cls "_law_which" Fg Vz:=by
  refine ⟨⟨_,_,_,AN (e:=e) Fw B (Vn X G Zz) (Vo X G Ws rfl),mw,Fw.kp,b1 Fw⟩,i3 X G nW.ns,?_,fun y j h=>?_⟩
  ·obtain ⟨bm,o,_⟩:=(Hm X G nW.ns nW.ex nW.mb).2
   exact ⟨bm,o⟩
  unfold Vz at h
  by_cases hy:y="NoState"
  ·subst hy
   simp at h
   subst h
   exact Od X G C8 w_NoState Ws rfl rfl rfl rfl rfl (by decide) (by decide)
  rw [if_neg hy] at h
  by_cases hy:y="NoWant"
  ·subst hy
   simp at h
   subst h
   exact Od X G FJ w_NoWant Ws rfl rfl rfl rfl rfl (by decide) (by decide)
  rw [if_neg hy] at h
  by_cases hy:y="NoBook"
  ·subst hy
   simp at h
   subst h
   exact Od X G FK w_NoBook Ws rfl rfl rfl rfl rfl (by decide) (by decide)
  rw [if_neg hy] at h
  by_cases hy:y="NoRow"
  ·subst hy
   simp at h
   subst h
   exact Jn yn.mb (yn.ox X) w_NoRow Ws rfl rfl rfl rfl rfl (by decide) (by decide)
  rw [if_neg hy] at h
  cases h
 have NM:e.mg "NoRow"=some (.ref (e.cls "NoRow")):=i3 X G yn.ns
 have NR:NRk e.K (e.cls "NoRow"):=nr
 have eu:=AQ (e:=e) Dw B
 have wN:=HK (e:=e) Lv B
 have zR:=Ln (e:=e) OV B
 have lY:=HM (e:=e) Lw B mH
 have e6:=tf (e:=e) uv B lY
 have fj:=Dm (e:=e) FM B e6
 have ua:=Fj (e:=e) H_ B
 have rO:=Dn (e:=e) FO B lY ua fj eu qh
 have wP:=HP (e:=e) Lx B e6 rO qi mI
 have wK:=HQ (e:=e) Ly B fj eu
 have oz:=zO (e:=e) A_ fj wJ
 have qk:=AT (e:=e) Dy wK zP
 have f_:=wL (e:=e) xX B
 have lZ:=HR (e:=e) Lz B eu
 have rT:=Dq (e:=e) FP lZ
 have mK:=xV (e:=e) Aa wN zR
 have wQ:=HU (e:=e) LA wP zS
 have oA:=zU (e:=e) B0 wQ oz
 have rV:=Ds (e:=e) FQ oA qk
 have zV:=Lr (e:=e) OW B f_ oB
 have ql:=AW (e:=e) Dz zV f_ sR
 have ku:=vN (e:=e) wV rT mK
 have jg:=Ls (e:=e) OX B rV ql ku lZ
 have jU:=xW (e:=e) Ab B jg
 have wU:=HV (e:=e) LB B jg jU sR
 have oE:=zZ (e:=e) B1 B
 have aR:=Dt (e:=e) FR oE
 have kz:=Ft (e:=e) I0 B aR
 have rZ:=Du (e:=e) FS B kz aR
 have ju:=Fx (e:=e) Ic B aR
 have uh:=Fy (e:=e) Ie B aR
 have qr:=AY (e:=e) DA B aR uh
 have uk:=Fz (e:=e) Ig B rZ kz qr aR
 have ul:=FA (e:=e) Ih B aR
 have ut:=FC (e:=e) Ii uk aR ju ul
 have kC:=FE (e:=e) Ij B
 have jv:=FF (e:=e) Ik B kC
 have uu:=FG (e:=e) Il B jv aR
 have iQ:=AZ (e:=e) DB B jv
 have qw:=FH (e:=e) Im B iQ kC
 have nV:=Dv (e:=e) FT wU W NM NR
 exact (TY (e:=e) (Mu l1 l2 l3) B ut aR uu iQ ju nV qw jg).imp Ti
end
end Z
section
open PySem PySem.W PyProof.Rows
namespace PySem.W.Fast
def tw4655343379975486915:Nat:=0
def tw9457571219063503669:Nat:=0
def tw9411143919659207921:Nat:=0
def tw15767706148746145953:Nat:=0
def tw16151565684705783120:Nat:=0
def tw8557353816388745984:Nat:=0
def tw16405934695858669967:Nat:=0
def tw9221933735352253183:Nat:=0
def tw8684825833050023181:Nat:=0
def tw11234441569043208077:Nat:=0
def tw16331231431406489306:Nat:=0
def tw4209100527280724590:Nat:=0
def tw14838451650266792464:Nat:=0
def tw13291290429291486626:Nat:=0
def tw17832444325800800439:Nat:=0
def tw16899591289320103600:Nat:=0
def tw14640359560059956012:Nat:=0
def tw1733638256489793386:Nat:=0
def tw12672354668526092953:Nat:=0
def tw17285043471577743689:Nat:=0
def tw9390089423227873616:Nat:=0
def tw6996036312181110881:Nat:=0
def tw2869498615635367663:Nat:=0
def tw9993772292632547987:Nat:=0
def tw140301045745569607:Nat:=0
def tw11496064051017898094:Nat:=0
def tw9231984262853956013:Nat:=0
def tw12941964177316848791:Nat:=0
def tw14834541437768784395:Nat:=0
def tw17229465808356435124:Nat:=0
def tw11056779189689961905:Nat:=0
def tw18065315079863475304:Nat:=0
def tw10719583040033740757:Nat:=0
def tw11249045609153592380:Nat:=0
def tw14909754741536511829:Nat:=0
def tw6143293049500740316:Nat:=0
def tw1783896086308787956:Nat:=0
def tw15955767088008697934:Nat:=0
def tw15544797523576474192:Nat:=0
def tw3866429989027450605:Nat:=0
def tw2475163485879074062:Nat:=0
def tw5067440149748372707:Nat:=0
def tw11839546816552486947:Nat:=0
def tw13963981617104436413:Nat:=0
def tw14986899632499533088:Nat:=0
def tw15422050158440118591:Nat:=0
def tw7798579983531409204:Nat:=0
def tw17559092655658657972:Nat:=0
def tw5982041424751958161:Nat:=0
def tw12205424744827467667:Nat:=0
def tw2266145237858941872:Nat:=0
def tw2760458654914878671:Nat:=0
def tw17477362422835132085:Nat:=0
def tw1590529793249871475:Nat:=0
def tw3519261505288370088:Nat:=0
def tw15636853874537557534:Nat:=0
def tw6058499030761440778:Nat:=0
def tw6484044251841571429:Nat:=0
def tw12676121566987251286:Nat:=0
def tw16138464229032073733:Nat:=0
def tw11673875272642439712:Nat:=0
def tw9522001305334952548:Nat:=0
def tw15636877257006346624:Nat:=0
def tw484559303143963649:Nat:=0
def tw13183899211965207934:Nat:=0
def tw6770662484406439334:Nat:=0
def tw14140164455257132904:Nat:=0
def tw4034367209247387241:Nat:=0
def tw4891970129945710496:Nat:=0
def tw8703636667224514521:Nat:=0
def tw11967867063894056072:Nat:=0
def tw15400518536621872704:Nat:=0
def tw2570547247036907277:Nat:=0
def tw5486505134690076077:Nat:=0
def tw12972707444268917687:Nat:=0
def tw16371901795552785294:Nat:=0
def tw16407655388982445208:Nat:=0
def tw11261667402999917462:Nat:=0
def tw12977678127113293542:Nat:=0
def tw9071399605977559335:Nat:=0
def tw17914801368939213587:Nat:=0
def tw13968046551782031298:Nat:=0
def tw5004910550372864847:Nat:=0
def tw6426320190748052947:Nat:=0
def tw13306007315663518816:Nat:=0
def tw3966154161665588376:Nat:=0
def tw11183699704151838664:Nat:=0
def tw11915041864042938544:Nat:=0
def tw16179041749159250099:Nat:=0
def tw9667477880076873737:Nat:=0
def tw17801465045944158126:Nat:=0
def tw8183279357331707753:Nat:=0
def tw6146409247465040993:Nat:=0
def tw11366799698478881856:Nat:=0
def tw9712797991369469131:Nat:=0
def tw10021154797282841689:Nat:=0
def tw14233227627614435118:Nat:=0
def tw5561817638834604079:Nat:=0
def tw14723620919728428170:Nat:=0
def tw6565554558913955840:Nat:=0
def tw8993697290301695249:Nat:=0
def tw7819045738163794016:Nat:=0
def tw11556903090752759649:Nat:=0
def tw4164229250077827665:Nat:=0
def tw8137193802325754994:Nat:=0
def tw4965196380166820309:Nat:=0
def tw12631467225615679091:Nat:=0
def tw1071716563133809001:Nat:=0
def tw5457869855883639276:Nat:=0
def tw13782595710999976342:Nat:=0
def tw1343738642475706993:Nat:=0
def tw3108587041770761057:Nat:=0
def tw16895975530889039034:Nat:=0
def tw16726445437990898919:Nat:=0
def tw16785406437371482440:Nat:=0
def tw14125172891282594179:Nat:=0
def tw8997969610011051637:Nat:=0
def tw11296331364568079277:Nat:=0
def tw14711641053998139577:Nat:=0
def tw11971580434274056887:Nat:=0
def tw10843616506003344898:Nat:=0
def tw18128025599593359841:Nat:=0
def tw4764333753568320596:Nat:=0
def tw1134134592262079839:Nat:=0
def tw6220688167392918553:Nat:=0
def tw11658921164520451085:Nat:=0
def tw1244770603046414503:Nat:=0
end PySem.W.Fast
theorem PySem.Challenge.cw_errands_k24_whole_trimmed_holds : PySem.Challenge.rw_errands_k24_whole_trimmed.Holds := by
 w_on;o_law;k_head;(case hw=>w_witness2)
 k_fill
 refine J.walkF (l:=PySem.Challenge.rw_errands_k24_whole_trimmed) (k:=13) (x:="_law_script") (F0:=Z.F_law) rfl rfl ⟨rfl,by decide,by decide⟩ (fun w h Y=>by first|exact PySem.W.kIn_of Y|exact PySem.W.km_in_of Y) ?F (fun ns _=>Z.law_true ns)
 case F =>
  intro w mg fa h KX G hmg
  refine' Z.all_mk KX G hmg ?_ ?_ ?_ ?_ ?_ ?_ ?_ ?_ ?_ ?_ ?_ ?_ ?_ ?_ ?_ ?_ ?_ ?_ ?_ ?_ ?_ ?_ ?_ ?_ ?_ ?_ ?_ ?_ ?_ ?_ ?_ ?_ ?_ ?_ ?_ ?_ ?_ ?_ ?_ ?_ ?_ ?_ ?_ ?_ ?_ ?_ ?_ ?_ ?_ ?_ ?_ ?_ ?_ ?_ ?_ ?_ ?_ ?_ ?_ ?_ ?_ ?_ ?_
  all_goals first
   |(refine' J.d_in KX G ?_ ?_ ?_ ?_<;>try k_is)
   |(refine' J.cn_in KX G ?_<;>try k_is)
   |(refine' L2.NRk.mk ?_ ?_<;>try k_is)
   |k_is
   |(refine' J.TopC.mk ?_ ?_ ?_<;>try (first|k_is|k_exc))
   |(refine' J.topN ?_ ?_ ?_ ?_ ?_ ?_ ?_ ?_ ?_ ?_ ?_ ?_ ?_ ?_ ?_ ?_ ?_ ?_ ?_ ?_ ?_ ?_ ?_<;>try (first|k_is|rfl|exact fun _ _=>⟨_,rfl,rfl⟩|decide +kernel))
   |((refine' J.Wy.mk ?_ ?_ ?_ ?_ ?_ ?_ ?_ ?_ ?_ ?_)<;>try (first|k_is|decide|((repeat' (first|exact .nil|refine' .cons ?_ ?_ ?_))<;>try (first|k_is|decide))))
   |((repeat' (first|exact .nil|refine' .cons ?_ ?_))<;>try (first|(refine' J.cw_in ?_ ?_ ?_<;>try k_is)|k_is))
   |skip
end
