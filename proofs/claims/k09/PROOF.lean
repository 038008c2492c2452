import PyProof.Rows.All
import Wide.All
import OpenK.AllK
import Wide.FinOn
import Lean
import PyProof.EqAt
import PyProof.EqKinds
import PyProof.TupleCall
import KE.KDictOf
import PyProof.AttrMissHeap
import KE.KRevIter
import PyProof.DictWalks
import PyProof.MinMaxWalk
import PyProof.SeqI3
import PyProof.WalkInts
import PyProof.ExcInit
import PyProof.InstStoreFacts
import PyProof.DictCompW
import PySem.Challenge.RW_errands_k09_whole_how_many
set_option Elab.async false
set_option linter.all false
set_option maxRecDepth 100000
set_option maxHeartbeats 0
open PySem renaming wpAny_bind->a7,Value->a9,wpAny_pure->aa,Shared->ac,Addr->ah,wpAny->ar,Program->aE,model->aG,starEach->aK,cellsFrom->aP,Expr->aQ,World->aU,Around->b9,wpAny_mono->bi,Heap->bp,wpAny_setState_of->bt,compareOp->bH,mainGlobals->bK,wpAny_newObj_type->bL,boot_len->bP,wpAny_call_entry->b_,rawInt->cb,wpAny_callSpecial?_slot->cc,Stmt->cA,wpAny_truthy_bool->cR,foldedSetIterable->cS,wpAny_holding->db,mem_of_lookup->de,Scope->dw,wpAny_field->dz,eval->dU,SetTable->e6,wpAny_standAt->eF,FuncData->eK,wpAny_of_eq->eL,wpAny_seqItems->eM,fits_of_scanBound->eY,sysModules->eZ,letOwnedTupleGo->e_,swapsWith->fD,wpAny_pyIter_tuple->fM,binaryOp->fN,wpAny_setField->fO,behindInMarks->gn,codeAny->gN,wpAny_askSetting->gP,setField->gQ,wpAny_isInstance->gR,strIterType->hU,wpAny_typeNameOfWhole_keyiter->hX,bootBuiltins->h_,assignEach->i0,wpAny_rule->i3,wpAny_setField_rec->i5,wpAny_passesOwn->ik,scanBound->iy,cLine->iE,wpAny_storeSet_of->iG,backTo->iR,tupleKind->j0,NameKind->jq,wpAny_comprehension_free->jr,pushCells_keeps->ju,codeAny_builtin->jv,assign->jx,pyNext->jy,IsPair->jA,wpAny_pyIter_list->kf,firstArgMember->ki,Builtin->lM,wpAny_attempt->lN,sliceBounds->lP,pickOrder->nq,tupleKind_room_in1->ny,newFunctionEnv->nz,getItem->oQ,Result->oZ,PyData->pc,raiseNew->qM,isTrue->rm,codeAny_mono->rn,wpAny_typeOf->rq,newExc->rA,wpAny_execs_nil->sQ,IsPart->ur,relayAll->uu,isSubtype_stop->uv,IsZip->uw,wpAny_updateSeq_pair->ux,standAt->vb,callerA->vc,DictEntry->vd,CmpOp->v_,swapsWithSole->wa,swappedStores->wc,plainId_quiet->wg,wpAny_onRaise->wk,pyIter->wA,wpAny_Call_Name_kw->wC,Model->ym,wpAny_assign_Name->yo,BindsTo->yp,Keyword->yq,concat_meets->yr,valueAt->yt,wpAny_pyIter_slot->yw,wpAny_dictEntries->yB,noFill_tuple_add->Ad,sizeLine_eq->BG,subscripted->BH,theTreesLotGoes->BN,codeAny_of_tree->BP,wpAny_dictEpoch->BR,holding->DX,Paired->E6,GenState->E8,atKey->Ed,entryFor_alias->Ee,isSubtype_type->Ef,wpAny_fieldsOf->Eg,field->Eh,assignInOrder->Hh,seq_tuple_add->Hk,attributeBase->Hm,call->Ho,comprehension->Hq,wpAny_handled->Ht,Drawn->I_,lastMarks->J4,bindL->J6,bindC->J7,noteFrame->J8,seqItems?->Jb,codeAny_loop->Jq,CellsOk->Jr,sub_set_self->Jt,setNext->Ju,wpAny_isTrue_Compare1->MF,exec_Assign_Name_used->MH,builtinLookup_eq_fast->MI,wpAny_isOneOf_keyiter->ML,bindName->MR,Operator->MS,bindArgs->MT,keywordEach->MU,compTurn->MW,wpAny_noted->MX,compEnvC->MY,wpAny_alloc->MZ,compPost->M_,Walks->N0,entryFor->N6,unsupported->N7,newTuple->N8,wpAny_throw->N9,ZipApart->Na,wpAny_letGo->Nc
open PySem.W renaming Frag->a8,kia_one->cB,mroIn->dh,nsMap_none_of_in->eg,fnOf->fE,nsIn->fF,cellsFrom_some->gx,keepIn->j9,findIn->ll,codeIn->lm,isNs_of_in->lr,mg_of->mE,kitOne->oY,clsIn->qX,methodObj->sU,kitx_list->sV,instObj->vJ,OpenLaw->vL,lookIn->wB,excIn->yA,hideAll_get->DW,of_hideAll->E7,kitx_tuple->E9,codeRec_of->Ea,specialIn->FK,kitx_dict->FL,plainGet->Hj,hideAll->IZ,takesIn->J5,typeIn->Jz,nsOkIn->JC,WalkO->MG,subIn->MK
open PySem.Heap renaming get?_push_of_some->ae,lt_size->aq,get?_push_size->ay,SameBut->bA,size_push->c9,get?_update_self->fu,get?_update_other->oR,IsTuple->D_,ExtBut->FO
open List renaming mem_cons_of_mem->aj,getElem?_set_ne->al,mem_cons_self->am,length_map->ao,map_cons->ap,mem_append_right->az,getElem?_set_self->aH,length_append->aN,size_toArray->aR,mem_map_of_mem->aT,map_append->aV,getElem?_append_left->aW,getElem?_map->aX,getElem?_eq_getElem->aY,getElem?_append_right->bc,length_cons->bd,mem_append_left->bf,not_mem_nil->bn,mem_cons->bx,range->bD,map_map->bI,find?_cons->bT,getElem?_replicate->bY,append_nil->bZ,foldl_cons->cf,getElem?_eq_none->cm,length_nil->cq,all_eq_true->cr,lookup_cons->cF,length_replicate->cJ,length_singleton->cK,getD_eq_getElem?_getD->cV,map_nil->dA,mem_singleton->dC,mem_of_getElem?->dE,any_cons->dW,map_congr_left->dZ,length_filter_le->ed,append_assoc->eG,length_range->eI,nodup_nil->fm,sum_cons->g6,getElem_mem->iF,any_eq_true->iH,getElem_of_mem->iN,sublist_append_left->iY,forIn_cons->j3,getElem?_cons_succ->ja,getElem_map->ke,filterMap_map->lT,forIn_nil->lU,perm_ext_iff_of_nodup->lZ,any_map->oU,all_map->oV,length_pos_of_mem->oW,nil_append->pd,replicate->qU,length->qV,filterMap_cons->sP,filter_sublist->sS,all_cons->sY,set_cons_zero->uo,set_cons_succ->uq,map->vh,pairwise_of_forall_mem_list->vi,length_filterMap_eq_countP->vN,length_take->we,length_drop->wf,ext_getElem->wj,filter_cons->wn,lookup->wD,of_mem_zip->yh,mem_append->yj,mem_filter->yk,length_eraseIdx_of_lt->zj,length_erase_of_mem->BK,getElem?_cons_zero->BQ,filter_cons_of_pos->BS,filter_cons_of_neg->BU,mem_map->DZ,take_of_length_le->E3,mem_erase_of_ne->FR,getElem?_range->Hu,replicate_succ->Hx,replicate_zero->Hy,lookup_append->J9,map_inj_right->Jd,contains_cons->Je,getElem_range->Jf,any_eq_false->Jn,nodup_append->Js,flatMap_cons->JD,zipIdx_cons->MJ,cons_append->MM,zipIdx_nil->Nb,count_cons->No,sum_append->Np
open Nat renaming le_refl->au,lt_of_lt_of_le->aC,ne_of_lt->aF,lt_irrefl->bv,le_trans->bU,zero_le->cn,le_of_lt->cp,lt_succ_self->da,lt_succ_of_lt->dY,ne_of_gt->fY,lt_succ_of_le->ic,le_succ->jp,add_zero->jB,not_lt_zero->lu,zero_add->lQ,min_le_right->oM,lt_asymm->o_,pow_le_pow_right->rH,lt_of_le_of_lt->ut,le_of_lt_succ->vM,mod_lt->Ae,le_of_eq->Ec,pow_succ->Ej,mul_comm->Ek,succ_pos->El,lt_of_succ_lt_succ->Em,eq_zero_of_not_pos->Ep,add_lt_add_right->Hv,add_mul->Hz,lt_of_lt_of_eq->JA,le_succ_of_le->MN,le_of_not_lt->MV,le_add_right->Nd,reduceLeDiff->Nl,reduceEqDiff->Nm
open Array renaming length_toList->av,getElem?_toList->dm,getD_eq_getD_getElem?->hV,getElem?_eq_getElem->iI,eq_empty_of_size_eq_zero->jY,size_map->qN,all_toList->vO,replicate->wE,toArray_toList->Ei,append_assoc->Hg,find?_toList->Hi,forIn_toList->Hw,toList_push->Ja
open Bool renaming and_eq_true->aO,false_ne_true->bq,false_eq_true->bS,or_eq_true->j5,not_false->jw,eq_iff_iff->l9,and_self->nr,not_true->nu,beq_eq_decide_eq->q8,and_false->qY,false_or->sZ,true_and->t4,noConfusion->wl,false_and->zh,or_eq_false_iff->FQ,not_eq_true'->Jw
open PySem.PyData renaming eqv->aZ,str->a_,int->bB,canLayAll0->cL,tuple->cO,bool->df,list->gy,eqvAll->gS,canLay0->ii,dict->E2
open PyProof.Rows renaming boot_tuple->bh,boot_all->cY,slot_tuple_getitem->ft,callWith_type1->gq,boot_list->l_,AllBare->oP,envOfC->ro,StrsAre->rF,boot_sorted->vf,assignInOrder_cons->wz,boot_any->wF,subscriptTail->Hl,subscriptTail_builtinR->Jo,IntsAre->Jp
open PySem.Heap.SameBut renaming update->bE
open Option.some renaming inj->bF,injEq->BJ
open PySem.Value renaming ref->bO,none->dS,type->ij,int->j7,str->j8,isStrOf->sO,bool->Hf
open PySem.NameKind renaming free->cg,cell->dG,«local»->oT
open PySem.SetTable renaming sizeAbove->cj,grown->hG,below->hJ,fits->lV,bits->lY,turns->oS,layClean->sR,laid->yi,orStandIn->DY,relaid->Hr,fill->Jx,road->Jy
open PySem.Builtin.SmallTypes renaming nextOf->ck,ownedTupleIsFree->ef,ownedTupleHandOut->lW
open Option renaming map_some->cU,getD_none->gg,getD_some->jN,isSome_map->um,bind_some->vg,isSome_some->FM
open Ne renaming symm->cW
open PySem.SetTable.layClean renaming free->dq
open Or renaming inr->dQ,inl->gj
open ForInStep renaming yield->dR
open PySem.Obj renaming mapFields->dX,mapSeq->kh,putSet->p7,data_mapFields->Jv
open List.Sublist renaming refl->eh
open Int renaming toNat_of_nonneg->eV,toNat_natCast->jz,emod_lt_of_pos->mF,emod_nonneg->q9,reduceLT->Eo
open PySem.F renaming slot_dict_keyiterator_next->f9,slot_tuple_iterator_next->iJ,args_tuple_add_2->mD,entry_tuple_add->mT,slot_tuple_add->nw,args_dict_keyiterator_next_1->qP,slot_zip_next->qW,entry_dict_keyiterator_next->qZ,slot_list_append->yy,type_list_append->yz,plainAttrs_list->zm,args_tuple_iterator_next_1->Af,slot_dict_iter->Ag,entry_tuple_iterator_next->BI,slot_enumerate_next->Jc
open PySem.AutoSeq1 renaming wpAny_loadPart'->fz
open PySem.Str renaming ofString->fZ
open PySem.Paired renaming length->gO
open PySem.Builtin.Slice renaming slicePlaces->gY,sliceAdjust->kg,sliceApplied->sW
open PyProof.Rows.F renaming plain_set_update_loop->gZ,entry_set_update_loop->nl
open PySem.Builtin.Tuple renaming tupleExact->i4,tupleItemsOf->sX
open PySem.Around renaming under_plainId->ig
open False renaming elim->il
open True renaming intro->iw
open PySem.Builtin.Frozenset renaming updateFrom->j4,isAnySet->qO,sizeOf->rE,copyOf->rG,newClass->N1,oneOther->Nf,addrOf->Ng,slot1->Nh,baseOf->Ni,merge->Nj,unchanged->Nk
open PySem.Heap.FunFrames renaming mem->jM
open PySem.Builtin.Dict_items renaming ownsTuple->lc
open Sum renaming inr->lO,inl->vI
open And renaming intro->lX
open Classical renaming propDecidable->mG
open PySem.Builtin.List renaming listExtendWith->s_,listSameRef->ve
open PySem.PassesOwn renaming never->uy
open PyProof.Rows.IsTup renaming new->vK
open PySem.Calls renaming Name_function_global->yn,call_function_entry->zk,evalArgs_plain->Eb
open PySem.Walks renaming list->yu
open PySem.pickOrder renaming go->yv
open PySem.SetTable.below renaming go->yx
open List.Pairwise renaming nil->zi
open PySem.SeqAt.EqAt renaming int_str->BE,str_int->BF
open PySem.Heap.Ns renaming new->BO
open PySem.Shared renaming heap->E1,TypeIs->N5
open PySem.Value.type renaming inj->FP
section
namespace L2
open PySem PySem.Spec PyProof.Rows
abbrev dv:=Sum Int Str
def wG:dv->a9->Bool
 | .inl k,v=>Value.isInt k v
 | .inr x,v=>sO x v
def Uq (w:aU):dv->Int
 | .inl k=>hashInt k
 | .inr x=>hashStr w x
theorem eQ:∀ {k:dv}{v:a9},wG k v=true->(∃ i t,k=vI i/\v=j7 i t)\/(∃ x t,k=lO x/\v=j8 x t)
 | .inl i,v,h=>by
  obtain ⟨t,e⟩:=Value.isInt_shape (k:=i) (v:=v) h
  exact .inl ⟨i,t,rfl,e⟩
 | .inr x,v,h=>by
  obtain ⟨t,e⟩:=Value.isStrOf_shape (x:=x) (v:=v) h
  exact .inr ⟨x,t,rfl,e⟩
theorem HA (i:Int) (t:Tok):wG (.inl i) (.int i t)=true:=by simp [wG,Value.isInt]
theorem HB (x:Str) (t:Tok):wG (.inr x) (.str x t)=true:=by simp [wG,sO]
theorem Q5 (a b:Int):decide ((vI a:dv)=vI b)=(a == b):=by
 by_cases e:a=b
 ·subst e;simp
 ·have h:¬ (vI a:dv)=vI b:=fun q=>e (Sum.inl.inj q)
  rw [decide_eq_false h]
  exact (beq_eq_false_iff_ne.mpr e).symm
theorem Q6 (a b:Str):decide ((lO a:dv)=lO b)=decide (a=b):=by
 by_cases e:a=b
 ·subst e;simp
 ·have h:¬ (lO a:dv)=lO b:=fun q=>e (Sum.inr.inj q)
  rw [decide_eq_false h,decide_eq_false e]
theorem Q7 (a:Int) (b:Str):decide ((vI a:dv)=lO b)=false:=decide_eq_false (fun q=>nomatch q)
theorem Q8 (a:Str) (b:Int):decide ((lO a:dv)=vI b)=false:=decide_eq_false (fun q=>nomatch q)
def ej (prog:aE) (w:aU):PySem.KeyKind prog w dv where
 is:=wG
 hash:=Uq w
 inj:=fun v a b ha hb=>by
  rcases eQ ha with ⟨i,t,rfl,rfl⟩ | ⟨x,t,rfl,rfl⟩
  ·rcases eQ hb with ⟨j,u,rfl,e⟩ | ⟨y,u,rfl,e⟩
   ·injection e with e1 _;rw [e1]
   ·exact nomatch e
  ·rcases eQ hb with ⟨j,u,rfl,e⟩ | ⟨y,u,rfl,e⟩
   ·exact nomatch e
   ·injection e with e1 _;rw [e1]
 byValue:=fun k v h=>by
  rcases eQ h with ⟨i,t,rfl,rfl⟩ | ⟨x,t,rfl,rfl⟩<;>rfl
 pyHash:=fun hv h=>by
  rcases eQ hv with ⟨i,t,rfl,rfl⟩ | ⟨x,t,rfl,rfl⟩
  ·exact wpAny_pyHash_int h
  ·exact wpAny_pyHash_str h
 eqBool:=fun hu hv h=>by
  rcases eQ hu with ⟨i,t,rfl,rfl⟩ | ⟨x,t,rfl,rfl⟩
  ·rcases eQ hv with ⟨j,u,rfl,rfl⟩ | ⟨y,u,rfl,rfl⟩
   ·rw [Q5] at h;exact wpAny_eqBool_int h
   ·rw [Q7] at h;exact BE i t y u _ _ _ _ h
  ·rcases eQ hv with ⟨j,u,rfl,rfl⟩ | ⟨y,u,rfl,rfl⟩
   ·rw [Q8] at h;exact BF x t j u _ _ _ _ h
   ·rw [Q6] at h;exact wpAny_eqBool_str h
 «strs»:=fun k x t v h=>by
  rcases eQ h with ⟨i,u,rfl,e⟩ | ⟨y,u,rfl,e⟩
  ·exact nomatch e
  ·injection e with e1 _
   subst e1
   cases v<;>rfl
theorem BV (prog:aE) (w:aU) (i:Int) (t:Tok):(ej prog w).is (.inl i) (.int i t)=true:=HA i t
theorem BW (prog:aE) (w:aU) (x:Str) (t:Tok):(ej prog w).is (.inr x) (.str x t)=true:=HB x t
end L2
namespace L2
open PySem PySem.Spec PyProof.Rows
inductive V where
 | non | bl (b:Bool) | int (i:Int) | str (x:Str) | byt (b:Array UInt8) | flt (b:UInt64) | ref (a:ah) | ty (n:String)
 deriving DecidableEq
def cZ:V->a9->Prop
 | .non,u=>u=dS
 | .bl b,u=>u=Hf b
 | .int i,u=>∃ t,u=j7 i t
 | .str x,u=>∃ t,u=j8 x t
 | .byt b,u=>∃ t,u=Value.bytes b t
 | .flt b,u=>∃ t,u=Value.float b t
 | .ref a,u=>u=bO a
 | .ty n,u=>u=ij n
abbrev du:List V->List a9->Prop:=E6 cZ
theorem du.length {xs:List V}{us:List a9} (r:du xs us):xs.length=us.length:=gO r
theorem du.get {xs:List V}{us:List a9} (h:du xs us):∀ {i:Nat}{x:V},xs[i]?=some x->∃ u,us[i]?=some u/\cZ x u:=by
 induction h with
 | nil=>intro i x e;cases e
 | cons r t ih =>
  intro i x e
  cases i with
  | zero=>cases e;exact ⟨_,rfl,r⟩
  | succ i=>have q:=ih (i:=i) e;exact q
theorem du.append {xs ys:List V}{us ws:List a9} (h:du xs us) (s:du ys ws):du (xs++ys) (us++ws):=by
 induction h with
 | nil=>exact s
 | cons r t ih=>exact .cons r ih
theorem du.take:∀ {xs:List V}{us:List a9} (n:Nat),du xs us->du (xs.take n) (us.take n)
 | _,_,0,_=>.nil
 | _,_,_ + 1,.nil=>.nil
 | _,_,n + 1,.cons r t=>.cons r (du.take n t)
theorem du.drop:∀ {xs:List V}{us:List a9} (n:Nat),du xs us->du (xs.drop n) (us.drop n)
 | _,_,0,r=>r
 | _,_,_ + 1,.nil=>.nil
 | _,_,n + 1,.cons _ t=>du.drop n t
def wH:Option V->Option a9->Prop
 | some v,some u=>cZ v u
 | none,none=>True
 | _,_=>False
def KV {κ:Type}:List (κ×V)->List (κ×a9)->Prop:=E6 fun (p:κ×V) (q:κ×a9)=>p.1=q.1/\cZ p.2 q.2
def kV:dv->V
 | .inl i=>.int i
 | .inr x=>.str x
inductive HO where
 | lst (xs:List V)
 | tup (xs:List V)
 | dK (kvs:List (dv×V)) | dT (kvs:List (List dv×V))
 | set (S:Int->Bool) (n:Nat)
 | ins (C dx:ah) (fs:List (Str×V))
 | own (x:ah)
 | xd (fs:List (Str×V))
 | met (f x:ah)
 | rng (lo hi:Int)
 | frz (o:Obj) (u:HO)
 | tbl (ps:Array a9)
 | ext (φ:bp->Prop)
abbrev Hp:=ah->Option HO
def upd (H:Hp) (a:ah) (o:HO):Hp:=fun b=>if b=a then some o else H b
theorem bj {H:Hp}{a:ah}{o:HO}:upd H a o a=some o:=by unfold upd;rw [if_pos rfl]
theorem bg {H:Hp}{a b:ah}{o:HO} (h:b≠a):upd H a o b=H b:=by unfold upd;rw [if_neg h]
theorem JF {H:Hp}{a b:ah}{o u:HO} (h:H a=some o) (h':H b=some u) (d:o≠u):a≠b:=by
 intro e;subst e;rw [h] at h';exact d (bF h')
theorem bR {H:Hp}{a b:ah}{o:HO} (h:H a=some o) (h':H b=none):a≠b:=by
 intro e;subst e;rw [h] at h';cases h'
section
variable (P:aE) (w:aU)
def dk (H:Hp) (h:bp) (a:ah):HO->Prop
 | .lst xs=>xs.length<=sizeLine/\∃ (its:List a9) (n:Nat),du xs its/\h.get? a=some { cls:=.type "list",data:=.seq its.toArray n }
 | .tup xs=>xs.length<=sizeLine/\∃ its:List a9,du xs its/\IsTup h a its.toArray
 | .dK kvs=>kvs.length<=sizeLine/\(a == eZ)=false/\∃ vs,KV kvs vs/\h.DictOf (ej P w) a vs
 | .dT kvs=>kvs.length<=sizeLine/\(a == eZ)=false/\∃ xs:List (List dv×ah×a9),
   E6 (fun (p:List dv×V) (q:List dv×ah×a9)=>p.1=q.1/\H q.2.1=some (.tup (p.1.map kV))/\cZ p.2 q.2.2) kvs xs /\
   ∃ o es ep,h.get? a=some o/\o.ExactDict/\o.data=.dict es ep/\es.toList=xs.map (entryOfKey (j0 (ej P w)))/\(xs.map (·.1)).Nodup
 | .set S n=>h.SetOf (intKind P w) a S n
 | .ins C dx fs=>H dx=some (.own a)/\fs.length<=1000/\dx≠a/\h.get? a=some (vJ C dx) /\
   ∃ mA,h.Ns1 dx mA/\(∀ f,wH (fs.lookup f) (mA f))/\PySem.Within mA (fs.map (·.1))
 | .own _=>∃ o,h.get? a=some o
 | .xd fs=>∃ mA,h.Ns1 a mA/\∀ f,wH (fs.lookup f) (mA f)
 | .rng lo hi=>∃ t u v,h.get? a=some { cls:=.type "range",data:=.fields #[.int lo t,.int hi u,.int 1 v] }
 | .frz o u=>h.get? a=some o/\dk H h a u
 | .tbl ps=>h.get? a=some { cls:=.none,data:=.fields ps }
 | .met f x=>h.get? a=some (sU (.ref f) (.ref x))
 | .ext φ=>φ h/\(∃ o,h.get? a=some o)/\∀ h1 h2:bp,φ h1->(∀ o,h1.get? a=some o->h2.get? a=some o)->φ h2
def oA (H:Hp) (h:bp):Prop:=∀ a o,H a=some o->dk P w H h a o
end
section
variable {P:aE}{w:aU}{H H':Hp}{h h':bp}{a:ah}{o:HO}
theorem dk.lt (x:dk P w H h a o):a<h.objs.size:=by
 cases o with
 | lst xs=>obtain ⟨_,_,_,_,e⟩:=x;exact aq e
 | tup xs=>obtain ⟨_,_,_,p⟩:=x;exact p.lt
 | dK kvs=>obtain ⟨_,_,_,_,o,_,_,e,_⟩:=x;exact aq e
 | dT kvs=>obtain ⟨_,_,_,_,o,_,_,e,_⟩:=x;exact aq e
 | set S n=>obtain ⟨o,_,_,_,e,_⟩:=x;exact aq e
 | ins C dx fs=>obtain ⟨_,_,_,e,_⟩:=x;exact aq e
 | own y=>obtain ⟨_,e⟩:=x;exact aq e
 | xd fs=>obtain ⟨_,⟨_,_,_,e,_⟩,_⟩:=x;exact aq e
 | rng lo hi=>obtain ⟨_,_,_,e⟩:=x;exact aq e
 | frz ob u=>obtain ⟨e,_⟩:=x;exact aq e
 | tbl ps=>exact aq (show h.get? a=some _ from x)
 | met f y=>exact aq (show h.get? a=some _ from x)
 | ext φ=>obtain ⟨_,⟨_,e⟩,_⟩:=x;exact aq e
theorem Paired.mapP {α β:Type}{F G:α->β->Prop}{l₁:List α}{l₂:List β} (h:E6 F l₁ l₂) (f:∀ a b,F a b->G a b):E6 G l₁ l₂:=by
 induction h with
 | nil=>exact .nil
 | cons r t ih=>exact .cons (f _ _ r) ih
theorem dk.stay (x:dk P w H h a o) (k:∀ b u,(b=a\/H b=some (.own a))->h.get? b=some u->h'.get? b=some u)
  (ho:∀ b,H b=some (.own a)->H' b=some (.own a)) (ht:∀ b xs,H b=some (.tup xs)->H' b=some (.tup xs)):dk P w H' h' a o:=by
 induction o with
 | lst xs=>obtain ⟨z,its,n,r,e⟩:=x;exact ⟨z,its,n,r,k _ _ (.inl rfl) e⟩
 | tup xs=>obtain ⟨z,its,r,ob,e,c⟩:=x;exact ⟨z,its,r,ob,k _ _ (.inl rfl) e,c⟩
 | dK kvs=>obtain ⟨z,y,vs,r,ob,es,ep,e,c⟩:=x;exact ⟨z,y,vs,r,ob,es,ep,k _ _ (.inl rfl) e,c⟩
 | dT kvs =>
  obtain ⟨z,y,xs,r,ob,es,ep,e,c⟩:=x
  exact ⟨z,y,xs,Paired.mapP r fun p q z=>⟨z.1,ht _ _ z.2.1,z.2.2⟩,ob,es,ep,k _ _ (.inl rfl) e,c⟩
 | set S n=>obtain ⟨ob,es,ep,t,e,c⟩:=x;exact ⟨ob,es,ep,t,k _ _ (.inl rfl) e,c⟩
 | ins C dx fs =>
  obtain ⟨d,z,ne,e,mA,⟨od,es,ep,e2,c⟩,r⟩:=x
  exact ⟨ho _ d,z,ne,k _ _ (.inl rfl) e,mA,⟨od,es,ep,k _ _ (.inr d) e2,c⟩,r⟩
 | own y=>obtain ⟨ob,e⟩:=x;exact ⟨ob,k _ _ (.inl rfl) e⟩
 | xd fs=>obtain ⟨mA,⟨od,es,ep,e,c⟩,r⟩:=x;exact ⟨mA,⟨od,es,ep,k _ _ (.inl rfl) e,c⟩,r⟩
 | rng lo hi=>obtain ⟨t,u,v,e⟩:=x;exact ⟨t,u,v,k _ _ (.inl rfl) e⟩
 | frz ob u ih=>obtain ⟨e,q⟩:=x;exact ⟨k _ _ (.inl rfl) e,ih q⟩
 | tbl ps =>
  have e:h.get? a=some { cls:=.none,data:=.fields ps }:=x
  show h'.get? a=some { cls:=.none,data:=.fields ps }
  exact k a _ (.inl rfl) e
 | met f y =>
  have e:h.get? a=some (sU (.ref f) (.ref y)):=x
  show h'.get? a=some (sU (.ref f) (.ref y))
  exact k a _ (.inl rfl) e
 | ext φ=>obtain ⟨p,⟨o,e⟩,st⟩:=x;exact ⟨st _ _ p fun o q=>k _ _ (.inl rfl) q,⟨o,k _ _ (.inl rfl) e⟩,st⟩
theorem oA.lt (x:oA P w H h) (e:H a=some o):a<h.objs.size:=(x a o e).lt
theorem oA.fresh (x:oA P w H h) (e:h.objs.size<=a):H a=none:=by
 cases q:H a with
 | none=>rfl
 | some u=>exact absurd (aC (x.lt q) e) (bv _)
theorem oA.kept (x:oA P w H h) (k:∀ b u,h.get? b=some u->h'.get? b=some u):oA P w H h':=fun a o e =>
 (x a o e).stay (fun b u _ q=>k b u q) (fun _ q=>q) fun _ _ q=>q
theorem oA.laid (x:oA P w H h) (k:∀ b u,h.get? b=some u->h'.get? b=some u) (hp:h.objs.size<=a) (new:dk P w (upd H a o) h' a o):oA P w (upd H a o) h':=fun b u e=>by
 have hn:=x.fresh hp
 by_cases hb:b=a
 ·subst hb;rw [bj] at e;cases e;exact new
 ·rw [bg hb] at e
  exact (x b u e).stay (fun c v _ q=>k c v q) (fun c q=>by rw [bg (bR q hn)];exact q) fun c xs q=>by rw [bg (bR q hn)];exact q
end
def Rd (H:Hp) (a:ah) (u:HO):Prop:=H a=some u\/∃ o,H a=some (.frz o u)
theorem Rd.ok {P:aE}{w:aU}{H:Hp}{h:bp}{a:ah}{u:HO} (r:Rd H a u) (x:oA P w H h):dk P w H h a u:=by
 rcases r with r | ⟨o,r⟩
 ·exact x a u r
 ·obtain ⟨_,q⟩:=x a _ r
  exact q
def RZ:Option HO->Prop
 | some (.lst _)=>True
 | some (.dK _)=>True
 | some (.dT _)=>True
 | some (.set _ _)=>True
 | some (.ins _ _ _)=>True
 | some (.ext _)=>True
 | _=>False
section
variable {P:aE}{w:aU}{H:Hp}{h h':bp}{x e:ah}{o':HO}
theorem oA.write (ok:oA P w H h) (mu:RZ (H x)) (he:e=x\/H e=some (.own x)) (k:∀ b u,b≠e->h.get? b=some u->h'.get? b=some u) (heo:∃ u,h'.get? e=some u)
  (new:dk P w (upd H x o') h' x o'):oA P w (upd H x o') h':=fun b u q=>by
 have nown:∀ c y,H c=some (.own y)->c≠x:=fun c y r z=>by subst z;rw [r] at mu;exact mu
 have ntup:∀ c xs,H c=some (.tup xs)->c≠x:=fun c xs r z=>by subst z;rw [r] at mu;exact mu
 by_cases hb:b=x
 ·subst hb;rw [bj] at q;cases q;exact new
 ·rw [bg hb] at q
  by_cases hbe:b=e
  ·have q':H b=some (.own x):=by
    rcases he with z | z
    ·exact absurd (hbe.trans z) hb
    ·rw [hbe];exact z
   rw [q] at q';cases q'
   obtain ⟨v,hv⟩:=heo
   exact ⟨v,by rw [hbe];exact hv⟩
  ·refine (ok b u q).stay (fun c v hc r=>k c v ?_ r) (fun c r=>by rw [bg (nown c b r)];exact r) fun c xs r=>by rw [bg (ntup c xs r)];exact r
   rcases hc with rfl | hc
   ·exact hbe
   ·rintro rfl
    rcases he with z | z
    ·exact nown c b hc z
    ·rw [hc] at z;cases z;exact hb rfl
end
structure Un (fs ex:List ah) (H H':Hp) (h h':bp):Prop where
 keep:∀ b o,h.get? b=some o->H b=none->b∉fs->b∉ex->h'.get? b=some o
 slot:∀ b o,h.get? b=some o->H b=none->b∈fs->b∉ex->∃ sl,h'.get? b=some { o with slots:=sl }
 free:∀ b o,h.get? b=some o->H b=none->b∉ex->H' b=none
 there:∀ b o,h.get? b=some o->b∉ex->∃ o',h'.get? b=some o'
 tups:∀ b xs,H b=some (.tup xs)->H' b=some (.tup xs)
 frzs:∀ b o u,H b=some (.frz o u)->H' b=some (.frz o u)
 tbls:∀ b ps,H b=some (.tbl ps)->∃ more,H' b=some (.tbl (ps++more))
section
variable {fs fs' ex ex':List ah}{H H1 H2:Hp}{h h1 h2 h':bp}{a x e:ah}{o:HO}
theorem Un.any (u:Un fs ex H H1 h h1) {b:ah}{ob:Obj} (q:h.get? b=some ob) (n:H b=none) (hx:b∉ex):∃ sl,h1.get? b=some { ob with slots:=sl }:=by
 by_cases hb:b∈fs
 ·exact u.slot b ob q n hb hx
 ·exact ⟨ob.slots,u.keep b ob q n hb hx⟩
theorem Un.kept (k:∀ b u,h.get? b=some u->h'.get? b=some u):Un fs ex H H h h' :=
 ⟨fun b ob q _ _ _=>k b ob q,fun b ob q _ _ _=>⟨ob.slots,k b ob q⟩,fun _ _ _ n _=>n,fun b ob q _=>⟨ob,k b ob q⟩,fun _ _ q=>q,fun _ _ _ q=>q,fun _ ps q=>⟨#[],by rw [q];simp⟩⟩
theorem Un.refl:Un fs ex H H h h:=Un.kept fun _ _ q=>q
theorem Un.laid (k:∀ b u,h.get? b=some u->h'.get? b=some u) (hp:h.objs.size<=a) (hn:H a=none):Un fs ex H (upd H a o) h h' where
 keep:=fun b u q _ _ _=>k b u q
 slot:=fun b u q _ _ _=>⟨u.slots,k b u q⟩
 free:=fun b u q n _=>by rw [bg (aF (aC (aq q) hp))];exact n
 there:=fun b u q _=>⟨u,k b u q⟩
 tups:=fun b xs q=>by rw [bg (bR q hn)];exact q
 frzs:=fun b u xs q=>by rw [bg (bR q hn)];exact q
 tbls:=fun b ps q=>⟨#[],by rw [bg (bR q hn),q];simp⟩
theorem Un.write (mu:RZ (H x)) (he:e=x\/H e=some (.own x)) (k:∀ b u,b≠e->h.get? b=some u->h'.get? b=some u) (heo:∃ u,h'.get? e=some u):Un fs ex H (upd H x o) h h':=by
 have hx:∀ b,H b=none->b≠x:=fun b n z=>by subst z;rw [n] at mu;exact mu
 have hb:∀ b,H b=none->b≠e:=fun b n z=>by
  subst z
  rcases he with r | r
  ·exact hx b n r
  ·rw [n] at r;cases r
 have hm:∀ b u,H b=some u->¬ RZ (some u)->b≠x:=fun b u q nm z=>by subst z;rw [q] at mu;exact nm mu
 refine ⟨fun b u q n _ _=>k b u (hb b n) q,fun b u q n _ _=>⟨u.slots,k b u (hb b n) q⟩,fun b u q n _=>by rw [bg (hx b n)];exact n,fun b u q _=>?_,
  fun b xs q=>by rw [bg (hm b _ q fun z=>z)];exact q,fun b u xs q=>by rw [bg (hm b _ q fun z=>z)];exact q,fun b ps q=>⟨#[],by rw [bg (hm b _ q fun z=>z),q];simp⟩⟩
 by_cases hbe:b=e
 ·subst hbe;exact heo
 ·exact ⟨u,k b u hbe q⟩
end
def U7 (h:bp) (H:Hp):List ah:=(bD h.objs.size).filter fun a=>(H a).isSome
def Ah (h:bp) (H:Hp):bp:=IZ h (U7 h H)
theorem HC (h:bp) (H:Hp):(Ah h H).objs.size=h.objs.size:=PySem.W.hideAll_size _ _
theorem JH {h:bp}{H:Hp}{b:ah}{o:Obj} (e:h.get? b=some o) (n:H b=none):(Ah h H).get? b=some o :=
 DW _ e fun hm=>by
  have q:(H b).isSome=true:=(List.mem_filter.mp hm).2
  rw [n] at q;simp at q
theorem Nq {h:bp}{H:Hp}{b:ah}{o:Obj} (e:(Ah h H).get? b=some o):h.get? b=some o/\H b=none:=by
 have e':h.get? b=some o:=E7 (U7 h H) e
 refine ⟨e',?_⟩
 cases q:H b with
 | none=>rfl
 | some x =>
  have hm:b∈U7 h H:=List.mem_filter.mpr ⟨List.mem_range.mpr (aq e'),by simp [q]⟩
  have z:(Ah h H).get? b=none:=PySem.W.hideAll_none (U7 h H) hm
  rw [z] at e;cases e
def Nr (g h:bp) (L:ah):List (ah×Obj):=(bD h.objs.size).filterMap fun a=>if a=L\/(g.get? a).isSome=true then none else (h.get? a).map fun o=>(a,o)
def bG (g h:bp) (L d:ah):List (ah×Obj):=(Nr g h L).filter fun p=>decide (p.1≠d)
end L2
namespace L2
open PySem PySem.Spec PyProof.Rows
structure Mod (K:a8) (mg:Str->Option a9) (base:bp):Prop where
 kin:K.In base
 glob:base.Ns bK mg
 blt:∃ mb,base.Ns builtinsNs mb/\∀ x:Str,x≠"__name__"->mb x=h_ x
 nolimit:base.NoLimit
structure Cx where
 prog:aE
 w:aU
 K:a8
 mg:Str->Option a9
 base:bp
 A:b9
 N:List Str
 s₀:ac
 H₀:Hp
 env:Env
 outer:List Env
 stack:List Env
 ex:List ah
 fn:Str->Bool
 calm:Bool
 pn:List (ah×Obj)
 xe:a9->ac->Prop
def qc (l:List Env):List ah:=l.filterMap (·.frame)
abbrev Cx.fs (X:Cx):List ah:=qc X.outer
def JJ (sc:dw) (x:Str):Prop:=sc.names.lookup x=some .local\/sc.names.lookup x=some .cell\/sc.names.lookup x=some .free
def OU (sc:dw) (x:Str):Prop:=sc.names.lookup x=some .local\/sc.names.lookup x=some .cell
def Ur (env:Env) (h:bp) (m:Str->Option a9) (x:Str) (u:a9):Prop :=
 (env.kindOf x=some .local/\m x=some u)\/((env.kindOf x=some .cell\/env.kindOf x=some .free)/\∃ c,env.cells.lookup x=some c/\h.IsCell c (some u))
structure Cx.Ok (X:Cx):Prop where
 mod:Mod X.K X.mg X.base
 kind:X.env.scope.kind=.function
 glob:X.env.globals=bK
 blt:X.env.builtins=builtinsNs
 above:X.s₀.heap.objs.size<=X.env.locals
 inj:∀ x y c,X.env.cells.lookup x=some c->X.env.cells.lookup y=some c->x=y
 has:∀ x,(X.env.kindOf x=some .cell\/X.env.kindOf x=some .free)->∃ c,X.env.cells.lookup x=some c
 cab:∀ x c,X.fn x=true->X.env.cells.lookup x=some c->X.s₀.heap.objs.size<=c
 hd:X.calm=true->X.A.handled=none
 frames:X.A.frames=some X.stack
 stk:X.stack=X.outer\/(X.stack=X.env::X.outer/\X.env.frame=some X.env.locals)
 exf:∀ b∈X.ex,b≠X.env.locals/\∀ x c,X.env.cells.lookup x=some c->c≠b
 bs:∀ b o,X.base.get? b=some o->X.s₀.heap.get? b=some o/\X.H₀ b=none
 bsz:X.base.objs.size<=X.s₀.heap.objs.size
 noex:∀ b o,X.base.get? b=some o->b∉X.ex
 exfs:∀ b∈X.ex,b∉X.fs
 funs:X.s₀.heap.FunFrames X.base X.outer
 frf:∀ b∈X.fs,X.H₀ b=none
structure bQ (X:Cx) (pins:List (ah×Obj)) (σ:List (Option V)) (H:Hp) (s:ac):Prop where
 ok:X.Ok
 os:s.os=X.s₀.os
 bare:oP s.gens
 base:Un X.fs X.ex X.H₀ H X.s₀.heap s.heap
 loc:∃ m,s.heap.Ns X.env.locals m/\∀ (i:Nat) (x:Str) (v:V),X.N[i]?=some x->σ[i]?=some (some v)->JJ X.env.scope x->∃ u,cZ v u/\Ur X.env s.heap m x u
 cell:∀ x c,X.env.cells.lookup x=some c->∃ v,s.heap.IsCell c v
 free:H X.env.locals=none
 freeC:∀ x c,X.env.cells.lookup x=some c->H c=none
 pin:∀ p∈X.pn++pins,s.heap.get? p.1=some p.2/\H p.1=none/\p.1≠X.env.locals/\p.1∉X.fs/\∀ v,p.2.data≠.cell v
 hok:oA X.prog X.w H s.heap
 len:σ.length=X.N.length
section
variable {X:Cx}{pins:List (ah×Obj)}{σ:List (Option V)}{H H':Hp}{s:ac}{h':bp}
theorem Cx.Ok.nofr (ok:X.Ok) {b:ah}{o:Obj} (e:X.base.get? b=some o):b∉X.fs:=fun hb=>by
 have:=(ok.funs.mem hb).1
 rw [e] at this;cases this
theorem bQ.bs (I:bQ X pins σ H s):∀ b o,X.base.get? b=some o->s.heap.get? b=some o/\H b=none:=fun b o e =>
 ⟨I.base.keep b o (I.ok.bs b o e).1 (I.ok.bs b o e).2 (I.ok.nofr e) (I.ok.noex b o e),I.base.free b o (I.ok.bs b o e).1 (I.ok.bs b o e).2 (I.ok.noex b o e)⟩
theorem bQ.bk (I:bQ X pins σ H s):∀ b o,X.base.get? b=some o->s.heap.get? b=some o:=fun b o e=>(I.bs b o e).1
theorem bQ.mod (I:bQ X pins σ H s):Mod X.K X.mg X.base:=I.ok.mod
theorem bQ.kIn (I:bQ X pins σ H s):X.K.In s.heap:=I.ok.mod.kin.keeps I.bk
theorem bQ.fr (I:bQ X pins σ H s):∃ m,Fr X.base X.env.locals s.heap m :=
 let ⟨m,hn,_⟩:=I.loc
 ⟨m,hn,I.bk,bU I.ok.bsz I.ok.above⟩
theorem bQ.lt (I:bQ X pins σ H s):X.env.locals<s.heap.objs.size:=let ⟨_,hn,_⟩:=I.loc;hn.lt
theorem bQ.sz (I:bQ X pins σ H s):X.s₀.heap.objs.size<=s.heap.objs.size:=bU I.ok.above (cp I.lt)
theorem bQ.nofs (I:bQ X pins σ H s) {a:ah} (h:s.heap.objs.size<=a):a∉X.fs:=fun hb=>by
 obtain ⟨_,o,ho,_⟩:=I.ok.funs.mem hb
 exact absurd (aC (aq ho) (bU I.sz h)) (bv _)
theorem bQ.cne (I:bQ X pins σ H s):∀ x c,X.env.cells.lookup x=some c->c≠X.env.locals:=fun x c e z=>by
 obtain ⟨v,o,ho,hd⟩:=I.cell x c e
 obtain ⟨m,⟨o',es,ep,ho',hd',_⟩,_⟩:=I.loc
 rw [z,ho'] at ho;cases ho;rw [hd'] at hd;cases hd
theorem bQ.funs (I:bQ X pins σ H s):s.heap.FunFrames X.base X.outer:=by
 have all:∀ (l:List Env),(∀ b∈qc l,b∈X.fs)->X.s₀.heap.FunFrames X.base l->s.heap.FunFrames X.base l:=by
  intro l
  induction l with
  | nil=>intro _ _;trivial
  | cons env r ih =>
   intro hs hl
   obtain ⟨hk,⟨L,o,hf,hn,ho,hd⟩,hr⟩:=hl
   have hL:L∈X.fs:=hs L (by unfold qc;rw [sP,hf];exact am)
   obtain ⟨sl,e⟩:=I.base.slot L o ho (I.ok.frf L hL) hL fun z=>I.ok.exfs L z hL
   exact ⟨hk,⟨L,_,hf,hn,e,hd⟩,ih (fun b hb=>hs b (by unfold qc;rw [sP,hf];exact aj _ hb)) hr⟩
 exact all X.outer (fun _ hb=>hb) I.ok.funs
theorem bQ.stack (I:bQ X pins σ H s):s.heap.FunFrames X.base X.stack:=by
 rcases I.ok.stk with e | ⟨e,hf⟩
 ·rw [e];exact I.funs
 ·rw [e]
  obtain ⟨m,hn,_⟩:=I.loc
  refine .cons (by rw [I.ok.kind];decide) hf hn ?_ I.funs
  exact Heap.get?_none_of_le (bU I.ok.bsz I.ok.above)
theorem bQ.stkSub (I:bQ X pins σ H s):∀ b∈qc X.stack,b∈X.env.locals::X.fs:=fun b hb=>by
 rcases I.ok.stk with e | ⟨e,hf⟩
 ·rw [e] at hb;exact aj _ hb
 ·rw [e] at hb
  unfold qc at hb
  rw [sP,hf] at hb
  exact hb
theorem bQ.stkFree (I:bQ X pins σ H s):∀ b∈qc X.stack,H b=none:=fun b hb=>by
 rcases List.mem_cons.mp (I.stkSub b hb) with e | hb
 ·rw [e];exact I.free
 ·obtain ⟨_,o,ho,_⟩:=I.ok.funs.mem hb
  exact I.base.free b o ho (I.ok.frf b hb) fun z=>I.ok.exfs b z hb
theorem bQ.step {g':Array E8}{t':Nat}{d':I_}{ch:List ah} (I:bQ X pins σ H s)
  (hch:∀ b∈ch,(b∈X.ex\/X.s₀.heap.objs.size<=b)/\b≠X.env.locals/\(∀ x c,X.env.cells.lookup x=some c->c≠b)/\∀ p∈X.pn++pins,p.1≠b)
  (keep:∀ b o,b≠X.env.locals->b∉X.fs->b∉ch->s.heap.get? b=some o->H b=none->h'.get? b=some o)
  (slot:∀ b o,b≠X.env.locals->b∈X.fs->b∉ch->s.heap.get? b=some o->H b=none->∃ sl,h'.get? b=some { o with slots:=sl }) (free:∀ b o,b∉ch->s.heap.get? b=some o->H b=none->H' b=none)
  (there:∀ b o,b∉ch->s.heap.get? b=some o->∃ o',h'.get? b=some o')
  (tups:∀ b xs,H b=some (.tup xs)->H' b=some (.tup xs)) (frzs:∀ b o u,H b=some (.frz o u)->H' b=some (.frz o u)) (tbls:∀ b ps,H b=some (.tbl ps)->∃ more,H' b=some (.tbl (ps++more)))
  (ns:∀ m,s.heap.Ns X.env.locals m->h'.Ns X.env.locals m) (hok:oA X.prog X.w H' h') (hg:oP g') :
  bQ X pins σ H' { s with heap:=h',gens:=g',drawn:=d',toks:=t' }:=by
 have neL:∀ b o,X.s₀.heap.get? b=some o->b≠X.env.locals:=fun b o e=>aF (aC (aq e) I.ok.above)
 have neC:∀ b o,X.s₀.heap.get? b=some o->b∉X.ex->b∉ch:=fun b o e hx hb=>by
  rcases (hch b hb).1 with z | z
  ·exact hx z
  ·exact absurd (aC (aq e) z) (bv _)
 have cellK:∀ x c,X.env.cells.lookup x=some c->∀ v,s.heap.IsCell c v->h'.IsCell c v:=fun x c e v h_0=>by
  obtain ⟨o,ho,hd⟩:=h_0
  have nch:c∉ch:=fun z=>(hch c z).2.2.1 x c e rfl
  by_cases hc:c∈X.fs
  ·obtain ⟨sl,q⟩:=slot c o (I.cne x c e) hc nch ho (I.freeC x c e)
   exact ⟨_,q,hd⟩
  ·exact ⟨o,keep c o (I.cne x c e) hc nch ho (I.freeC x c e),hd⟩
 refine ⟨I.ok,I.os,hg,⟨fun b o e n hb hx=>?_,fun b o e n hb hx=>?_,fun b o e n hx=>?_,fun b o e hx=>?_,fun b xs e=>tups b xs (I.base.tups b xs e),fun b o xs e=>frzs b o xs (I.base.frzs b o xs e),fun b ps e=>?_⟩,?_,fun x c e=>?_,?_,fun x c e=>?_,fun p hp=>?_,hok,I.len⟩
 ·exact keep b o (neL b o e) hb (neC b o e hx) (I.base.keep b o e n hb hx) (I.base.free b o e n hx)
 ·obtain ⟨sl,e1⟩:=I.base.slot b o e n hb hx
  obtain ⟨sl',e2⟩:=slot b _ (neL b o e) hb (neC b o e hx) e1 (I.base.free b o e n hx)
  exact ⟨sl',e2⟩
 ·obtain ⟨o',e1⟩:=I.base.there b o e hx
  exact free b o' (neC b o e hx) e1 (I.base.free b o e n hx)
 ·obtain ⟨o',e1⟩:=I.base.there b o e hx
  exact there b o' (neC b o e hx) e1
 ·obtain ⟨m1,e1⟩:=I.base.tbls b ps e
  obtain ⟨m2,e2⟩:=tbls b _ e1
  exact ⟨m1++m2,by rw [e2,Hg]⟩
 ·obtain ⟨m,hn,hl⟩:=I.loc
  refine ⟨m,ns m hn,fun i x v e1 e2 e3=>?_⟩
  obtain ⟨u,r,l⟩:=hl i x v e1 e2 e3
  refine ⟨u,r,?_⟩
  rcases l with l | ⟨k,c,e,z⟩
  ·exact .inl l
  ·exact .inr ⟨k,c,e,cellK x c e _ z⟩
 ·obtain ⟨v,z⟩:=I.cell x c e
  exact ⟨v,cellK x c e v z⟩
 ·obtain ⟨m,⟨o,_,_,ho,_⟩,_⟩:=I.loc
  exact free _ o (fun z=>(hch _ z).2.1 rfl) ho I.free
 ·obtain ⟨v,o,ho,hd⟩:=I.cell x c e
  exact free c o (fun z=>(hch c z).2.2.1 x c e rfl) ho (I.freeC x c e)
 ·obtain ⟨e,n,ne,nf,d⟩:=I.pin p hp
  have nch:p.1∉ch:=fun z=>(hch p.1 z).2.2.2 p hp rfl
  exact ⟨keep p.1 p.2 ne nf nch e n,free p.1 p.2 nch e n,ne,nf,d⟩
theorem bQ.un {t':Nat} (I:bQ X pins σ H s) (u:Un X.fs [] H H' s.heap h') (hok:oA X.prog X.w H' h'):bQ X pins σ H' { s with heap:=h',toks:=t' }:=by
 obtain ⟨m,⟨o,es,ep,ho,r⟩,_⟩:=id I.loc
 obtain ⟨sl,hL⟩:=u.any ho I.free (by simp)
 exact I.step (g':=s.gens) (d':=s.drawn) (ch:=[]) (fun _ z=>nomatch z) (fun b o _ hb _ e n=>u.keep b o e n hb (by simp)) (fun b o _ hb _ e n=>u.slot b o e n hb (by simp)) (fun b o _ e n=>u.free b o e n (by simp)) (fun b o _ e=>u.there b o e (by simp)) u.tups u.frzs u.tbls (fun m' hm=>by
  obtain ⟨o',es',ep',ho',r'⟩:=hm
  rw [ho] at ho';cases ho'
  exact ⟨_,es',ep',hL,r'⟩) hok I.bare
theorem bQ.call {g':Array E8}{t':Nat}{d':I_}{ch:List ah} (I:bQ X pins σ H s) (u:Un (qc X.stack) ch H H' s.heap h') (hok:oA X.prog X.w H' h') (hg:oP g')
  (hch:∀ b∈ch,(b∈X.ex\/X.s₀.heap.objs.size<=b)/\b≠X.env.locals/\(∀ x c,X.env.cells.lookup x=some c->c≠b)/\∀ p∈X.pn++pins,p.1≠b) :
  bQ X pins σ H' { s with heap:=h',gens:=g',drawn:=d',toks:=t' }:=by
 obtain ⟨m,⟨o,es,ep,ho,r⟩,_⟩:=id I.loc
 obtain ⟨sl,hL⟩:=u.any ho I.free fun z=>(hch _ z).2.1 rfl
 exact I.step (ch:=ch) hch (fun b o hL hb hc e n=>u.keep b o e n (fun z=>(List.mem_cons.mp (I.stkSub b z)).elim hL hb) hc) (fun b o _ _ hc e n=>u.any e n hc) (fun b o hc e n=>u.free b o e n hc) (fun b o hc e=>u.there b o e hc) u.tups u.frzs u.tbls (fun m' hm=>by
  obtain ⟨o',es',ep',ho',r'⟩:=hm
  rw [ho] at ho';cases ho'
  exact ⟨_,es',ep',hL,r'⟩) hok hg
theorem bQ.turned {t':Nat}{it:ah} (I:bQ X pins σ H s) (k:∀ b o,b≠it->s.heap.get? b=some o->h'.get? b=some o) (hn:H it=none) (hL:it≠X.env.locals)
  (h1:it∈X.ex\/X.s₀.heap.objs.size<=it) (h2:∀ x c,X.env.cells.lookup x=some c->c≠it) (h3:∀ p∈X.pn++pins,p.1≠it):bQ X pins σ H { s with heap:=h',toks:=t' }:=by
 have nit:∀ b u,H b=some u->b≠it:=fun b u e z=>by rw [z,hn] at e;cases e
 refine I.step (g':=s.gens) (d':=s.drawn) (ch:=[it]) (fun b hb=>?_) (fun b o _ _ hc e _=>k b o (fun z=>hc (by simp [z])) e) (fun b o _ _ hc e _=>⟨o.slots,k b o (fun z=>hc (by simp [z])) e⟩) (fun _ _ _ _ n=>n)
  (fun b o hc e=>⟨o,k b o (fun z=>hc (by simp [z])) e⟩) (fun _ _ e=>e) (fun _ _ _ e=>e) (fun b ps e=>⟨#[],by rw [e];simp⟩) (fun m hm=>?_) (fun b u e=>?_) I.bare
 ·have e:b=it:=by simpa using hb
  subst e
  exact ⟨h1,hL,h2,h3⟩
 ·obtain ⟨o,es,ep,ho,r⟩:=hm
  exact ⟨o,es,ep,k _ o (cW hL) ho,r⟩
 ·refine (I.hok b u e).stay (fun c v hc q=>k c v ?_ q) (fun _ q=>q) fun _ _ q=>q
  rcases hc with z | z
  ·rw [z];exact nit b u e
  ·exact nit c _ z
theorem bQ.tok (I:bQ X pins σ H s) (t:Nat):bQ X pins σ H { s with toks:=t }:=I.un (h':=s.heap) (t':=t) Un.refl I.hok
theorem bQ.kept {t':Nat} (I:bQ X pins σ H s) (k:∀ b u,s.heap.get? b=some u->h'.get? b=some u):bQ X pins σ H { s with heap:=h',toks:=t' }:=I.un (Un.kept k) (I.hok.kept k)
theorem bQ.laid {a:ah}{o:HO}{t':Nat} (I:bQ X pins σ H s) (k:∀ b u,s.heap.get? b=some u->h'.get? b=some u) (hp:s.heap.objs.size<=a) (new:dk X.prog X.w (upd H a o) h' a o) :
  bQ X pins σ (upd H a o) { s with heap:=h',toks:=t' }:=I.un (Un.laid k hp (I.hok.fresh hp)) (I.hok.laid k hp new)
theorem bQ.write {x e:ah}{o:HO}{t':Nat} (I:bQ X pins σ H s) (mu:RZ (H x)) (he:e=x\/H e=some (.own x)) (k:∀ b u,b≠e->s.heap.get? b=some u->h'.get? b=some u) (heo:∃ u,h'.get? e=some u)
  (new:dk X.prog X.w (upd H x o) h' x o):bQ X pins σ (upd H x o) { s with heap:=h',toks:=t' }:=I.un (Un.write mu he k heo) (I.hok.write mu he k heo new)
theorem bQ.weak {σ':List (Option V)} (I:bQ X pins σ H s) (hl:σ'.length=σ.length) (w:∀ (i:Nat) v,σ'[i]?=some (some v)->σ[i]?=some (some v)):bQ X pins σ' H s :=
 ⟨I.ok,I.os,I.bare,I.base,let ⟨m,hn,hl'⟩:=I.loc;⟨m,hn,fun i x v e1 e2 e3=>hl' i x v e1 (w i v e2) e3⟩,I.cell,I.free,I.freeC,I.pin,I.hok,hl.trans I.len⟩
theorem bQ.pins_of {pins':List (ah×Obj)} (I:bQ X pins σ H s) (h:∀ p∈pins',s.heap.get? p.1=some p.2/\H p.1=none/\p.1≠X.env.locals/\p.1∉X.fs/\∀ v,p.2.data≠.cell v):bQ X pins' σ H s :=
 ⟨I.ok,I.os,I.bare,I.base,I.loc,I.cell,I.free,I.freeC,fun p hp=>(List.mem_append.mp hp).elim (fun z=>I.pin p (bf _ z)) (h p),I.hok,I.len⟩
theorem BX {N:List Str} (hN:N.Nodup) {i j:Nat}{x:Str} (a:N[i]?=some x) (b:N[j]?=some x):i=j:=by
 obtain ⟨h1,e1⟩:=List.getElem?_eq_some_iff.mp a
 obtain ⟨h2,e2⟩:=List.getElem?_eq_some_iff.mp b
 exact (List.getElem_inj hN).mp (e1.trans e2.symm)
theorem uz {M:ym}{A:b9}{E:a9->ac->Prop}{i:Nat}{x:Str}{v:V}{u:a9}{Q:Unit->ac->Prop} (I:bQ X pins σ H s) (hN:X.N.Nodup) (hi:X.N[i]?=some x) (hx:OU X.env.scope x) (r:cZ v u)
  (h:∀ s',bQ X pins (σ.set i (some v)) H s'->(∃ a,bA a s.heap s'.heap/\(a=X.env.locals\/X.env.cells.lookup x=some a))->Q () s') (hf:X.fn x=true\/X.env.scope.names.lookup x=some .local:=by first | exact .inl rfl | exact .inr rfl | assumption):ar M A (storeName X.env x u) Q E s:=by
 obtain ⟨m,hn,hl⟩:=id I.loc
 have hcls:(X.env.scope.kind == .class || (X.env.scope.kind == .module && X.env.locals != X.env.globals))=false:=by rw [I.ok.kind];rfl
 have hiσ:i<σ.length:=by rw [I.len];exact (List.getElem?_eq_some_iff.mp hi).1
 have cne:=I.cne
 have tracked:∀ {a:ah}{h':bp},(∃ o,s.heap.get? a=some o/\H a=none)->bA a s.heap h'->oA X.prog X.w H h':=fun {a h'} ha hs b ob e=>by
  obtain ⟨_,_,hfree⟩:=ha
  refine (I.hok b ob e).stay (fun c w' hc q=>(hs.2 c ?_).trans q) (fun _ q=>q) fun _ _ q=>q
  rintro rfl
  rcases hc with rfl | hc
  ·rw [hfree] at e;cases e
  ·rw [hfree] at hc;cases hc
 rcases hx with hk | hk
 ·refine wpAny_storeName_local hk hn (fun h' hn' hs=>?_) hcls
  obtain ⟨oL,_,_,hoL,_⟩:=id hn
  refine h _ ⟨I.ok,I.os,I.bare,⟨fun b o e n hb hx=>?_,fun b o e n hb hx=>?_,I.base.free,fun b o e hx=>?_,I.base.tups,I.base.frzs,I.base.tbls⟩,⟨_,hn',fun j y v' e1 e2 e3=>?_⟩,fun y c e=>?_,I.free,I.freeC,fun p hp=>?_,tracked ⟨oL,hoL,I.free⟩ hs,by simpa using I.len⟩ ⟨_,hs,.inl rfl⟩
  ·exact (hs.2 b (aF (aC (aq e) I.ok.above))).trans (I.base.keep b o e n hb hx)
  ·obtain ⟨sl,e1⟩:=I.base.slot b o e n hb hx
   exact ⟨sl,(hs.2 b (aF (aC (aq e) I.ok.above))).trans e1⟩
  ·obtain ⟨o',e1⟩:=I.base.there b o e hx
   exact ⟨o',(hs.2 b (aF (aC (aq e) I.ok.above))).trans e1⟩
  ·by_cases hj:j=i
   ·subst hj
    rw [hi] at e1;cases e1
    rw [aH hiσ] at e2
    cases e2
    exact ⟨u,r,.inl ⟨hk,by simp⟩⟩
   ·rw [al (cW hj)] at e2
    obtain ⟨u',r',q⟩:=hl j y v' e1 e2 e3
    refine ⟨u',r',?_⟩
    rcases q with ⟨k,e⟩ | ⟨k,c,e,z⟩
    ·refine .inl ⟨k,?_⟩
     have:y≠x:=fun e=>hj (BX hN e1 (e ▸ hi))
     simp [this,e]
    ·exact .inr ⟨k,c,e,z.sameBut hs (cne y c e)⟩
  ·obtain ⟨w',z⟩:=I.cell y c e
   exact ⟨w',z.sameBut hs (cne y c e)⟩
  ·obtain ⟨e,n,ne,nf,d⟩:=I.pin p hp
   exact ⟨(hs.2 p.1 ne).trans e,n,ne,nf,d⟩
 ·have hfn:X.fn x=true:=by
   rcases hf with z | z
   ·exact z
   ·rw [z] at hk;cases hk
  obtain ⟨c,hc⟩:=I.ok.has x (.inl hk)
  obtain ⟨w',z⟩:=I.cell x c hc
  refine wpAny_storeName_cell I.ok.kind hk hc z (fun h' hc' hs=>?_)
  obtain ⟨oc,hoc,hocd⟩:=id z
  refine h { s with heap:=h' } ⟨I.ok,I.os,I.bare,⟨fun b o e n hb hx=>?_,fun b o e n hb hx=>?_,I.base.free,fun b o e hx=>?_,I.base.tups,I.base.frzs,I.base.tbls⟩,⟨m,hn.sameBut hs (cW (cne x c hc)),fun j y v' e1 e2 e3=>?_⟩,fun y c' e=>?_,I.free,I.freeC,fun p hp=>?_,tracked ⟨oc,hoc,I.freeC x c hc⟩ hs,by simpa using I.len⟩ ⟨c,hs,.inr hc⟩
  ·exact (hs.2 b (aF (aC (aq e) (I.ok.cab x c hfn hc)))).trans (I.base.keep b o e n hb hx)
  ·obtain ⟨sl,e1⟩:=I.base.slot b o e n hb hx
   exact ⟨sl,(hs.2 b (aF (aC (aq e) (I.ok.cab x c hfn hc)))).trans e1⟩
  ·obtain ⟨o',e1⟩:=I.base.there b o e hx
   exact ⟨o',(hs.2 b (aF (aC (aq e) (I.ok.cab x c hfn hc)))).trans e1⟩
  ·by_cases hj:j=i
   ·subst hj
    rw [hi] at e1;cases e1
    rw [aH hiσ] at e2
    cases e2
    exact ⟨u,r,.inr ⟨.inl hk,c,hc,hc'⟩⟩
   ·rw [al (cW hj)] at e2
    obtain ⟨u',r',q⟩:=hl j y v' e1 e2 e3
    refine ⟨u',r',?_⟩
    rcases q with q | ⟨k,c',e,z'⟩
    ·exact .inl q
    ·refine .inr ⟨k,c',e,z'.sameBut hs ?_⟩
     rintro rfl
     exact hj (BX hN e1 (I.ok.inj _ _ _ e hc ▸ hi))
  ·by_cases hcc:c'=c
   ·subst hcc;exact ⟨_,hc'⟩
   ·obtain ⟨w2,z2⟩:=I.cell y c' e
    exact ⟨w2,z2.sameBut hs hcc⟩
  ·obtain ⟨e,n,ne,nf,d⟩:=I.pin p hp
   refine ⟨(hs.2 p.1 ?_).trans e,n,ne,nf,d⟩
   intro q
   rw [q,hoc] at e
   have q':oc=p.2:=bF e
   exact d w' (by rw [<- q'];exact hocd)
theorem t5 {M:ym}{A:b9}{E:a9->ac->Prop}{i:Nat}{x:Str}{v:V}{u:a9}{Q:Unit->ac->Prop} (I:bQ X pins σ H s) (hN:X.N.Nodup) (hi:X.N[i]?=some x) (hx:OU X.env.scope x) (r:cZ v u)
  (h:∀ s',bQ X pins (σ.set i (some v)) H s'->Q () s') (hf:X.fn x=true\/X.env.scope.names.lookup x=some .local:=by first | exact .inl rfl | exact .inr rfl | assumption):ar M A (storeName X.env x u) Q E s :=
 uz I hN hi hx r (fun s' I' _=>h s' I') hf
theorem bQ.call' {s':ac}{ch:List ah} (I:bQ X pins σ H s) (ho:s'.os=s.os) (u:Un (qc X.stack) ch H H' s.heap s'.heap) (hok:oA X.prog X.w H' s'.heap) (hg:oP s'.gens)
  (hch:∀ b∈ch,(b∈X.ex\/X.s₀.heap.objs.size<=b)/\b≠X.env.locals/\(∀ x c,X.env.cells.lookup x=some c->c≠b)/\∀ p∈X.pn++pins,p.1≠b):bQ X pins σ H' s':=by
 obtain ⟨h',g',d',t',o'⟩:=s'
 have e:o'=s.os:=ho
 subst e
 exact I.call (g':=g') (t':=t') (d':=d') u hok hg hch
end
abbrev XK:=a9->Option ah->Hp->Prop
abbrev St:=List (Option V)
abbrev VK:=V->Hp->Prop
abbrev TE:=St->Hp->VK->Prop
abbrev TT:=St->Hp->(Bool->Hp->Prop)->Prop
abbrev TA:=St->Hp->(List V->Hp->Prop)->Prop
structure t6 where
 nx:St->Hp->Prop
 rt:VK
 bk:St->Hp->Prop:=fun _ _=>False
 ct:St->Hp->Prop:=fun _ _=>False
abbrev TS:=t6->St->Hp->Prop
inductive EP (X:Cx) (pins:List (ah×Obj)) (σ:St) (Q:VK) (u:a9) (s':ac):Prop
 | mk (v H':_) (h0:bQ X pins σ H' s') (h1:cZ v u) (h2:Q v H'):EP X pins σ Q u s'
inductive TP (X:Cx) (pins:List (ah×Obj)) (σ:St) (Q:Bool->Hp->Prop) (b:Bool) (s':ac):Prop
 | mk (H':_) (h0:bQ X pins σ H' s') (h1:Q b H'):TP X pins σ Q b s'
inductive AP (X:Cx) (pins:List (ah×Obj)) (σ:St) (Q:List V->Hp->Prop) (us:List a9) (s':ac):Prop
 | mk (vs H':_) (h0:bQ X pins σ H' s') (h1:du vs us) (h2:Q vs H'):AP X pins σ Q us s'
inductive SN (X:Cx) (pins:List (ah×Obj)) (k:St->Hp->Prop) (s':ac):Prop
 | mk (σ':St) (H':Hp) (I:bQ X pins σ' H' s') (q:k σ' H'):SN X pins k s'
inductive SV (X:Cx) (pins:List (ah×Obj)) (k:V->Hp->Prop) (u:a9) (s':ac):Prop
 | mk (v:V) (σ':St) (H':Hp) (I:bQ X pins σ' H' s') (r:cZ v u) (q:k v H'):SV X pins k u s'
def SP (X:Cx) (pins:List (ah×Obj)) (D:t6) (f:Flow) (s':ac):Prop :=
 match f with
 | .next=>SN X pins D.nx s'
 | .brk=>SN X pins D.bk s'
 | .cont=>SN X pins D.ct s'
 | .ret u=>SV X pins D.rt u s'
def PE (X:Cx) (e:aQ) (t:TE):Prop :=
 ∀ (pins:List (ah×Obj)) (s:ac) (σ:St) (H:Hp) (Q:VK),bQ X pins σ H s->t σ H Q->ar (aG X.prog X.w) X.A (dU e X.env) (EP X pins σ Q) X.xe s
def PT (X:Cx) (e:aQ) (t:TT):Prop :=
 ∀ (pins:List (ah×Obj)) (s:ac) (σ:St) (H:Hp) (Q:Bool->Hp->Prop),bQ X pins σ H s->t σ H Q->ar (aG X.prog X.w) X.A (rm e X.env (dU e X.env)) (TP X pins σ Q) X.xe s
def PW (X:Cx) (e:aQ) (t:TT):Prop :=
 ∀ (whole:Sem a9) (pins:List (ah×Obj)) (s:ac) (σ:St) (H:Hp) (Q:Bool->Hp->Prop),bQ X pins σ H s->t σ H Q->ar (aG X.prog X.w) X.A (rm e X.env whole) (TP X pins σ Q) X.xe s
theorem PW.pt {X:Cx}{e:aQ}{t:TT} (h:PW X e t):PT X e t:=h _
def PA (X:Cx) (es:List aQ) (t:TA):Prop :=
 ∀ (pos:Pos) (pins:List (ah×Obj)) (s:ac) (σ:St) (H:Hp) (Q:List V->Hp->Prop),bQ X pins σ H s->t σ H Q->ar (aG X.prog X.w) X.A (spliced (iR pos (aK es X.env))) (AP X pins σ Q) X.xe s
def PS (X:Cx) (st:cA) (t:TS):Prop :=
 ∀ (pins:List (ah×Obj)) (s:ac) (σ:St) (H:Hp) (D:t6),bQ X pins σ H s->t D σ H->ar (aG X.prog X.w) X.A (exec st X.env) (SP X pins D) X.xe s
def FS (X:Cx) (st:List cA) (t:TS):Prop :=
 ∀ (pins:List (ah×Obj)) (s:ac) (σ:St) (H:Hp) (D:t6),bQ X pins σ H s->t D σ H->ar (aG X.prog X.w) X.A (execs st X.env) (SP X pins D) X.xe s
theorem eB {α:Type}{t:Sem α}{Q Q':α->ac->Prop}{M:ym}{A:b9}{E:a9->ac->Prop}{s:ac} (h:ar M A t Q E s) (hQ:∀ a s,Q a s->Q' a s):ar M A t Q' E s:=bi h hQ fun _ _ x=>x
end L2
namespace L2
open PySem PySem.Spec PyProof.Rows
section
variable {X:Cx}
inductive OV (i:Nat) (σ:St) (H:Hp) (Q:VK):Prop
 | mk (v:_) (h0:σ[i]?=some (some v)) (h1:Q v H):OV i σ H Q
def Q9 (i:Nat):TE:=OV i
def tC (v:V):TE:=fun _ H Q=>Q v H
theorem nA {i:Nat}{x:Str}{pos:Pos} (hN:X.N[i]?=some x) (hv:JJ X.env.scope x) (hd:(x == ("__debug__" : Str))=false:=by decide) (hcd:(x == ("__classdict__" : Str))=false:=by decide):PE X (.Name x pos) (Q9 i):=by
 intro pins s σ H Q I h
 obtain ⟨v,e,h⟩:=h
 obtain ⟨m,hn,hl⟩:=I.loc
 obtain ⟨u,r,l⟩:=hl i x v hN e hv
 have fin:EP X pins σ Q u s:=⟨v,H,I,r,h⟩
 rcases l with ⟨hk,hm⟩ | ⟨hk,c,hc,hcell⟩
 ·exact wpAny_Name (wpAny_loadName_local I.ok.kind hk hn hm fin) hd
 ·rcases hk with hk | hk
  ·exact wpAny_Name (wpAny_loadName_cell I.ok.kind hk hc hcell fin) hd
  ·exact wpAny_Name (wpAny_loadName_free I.ok.kind hk hc hcell fin hcd) hd
theorem Qa {i j pos}:PE X (.Constant (.int i) j pos) (tC (.int i)):=fun _ _ _ H _ I h=>wpAny_Constant_int ⟨.int i,H,I.tok _,⟨_,rfl⟩,h⟩
theorem R_ {b j pos}:PE X (.Constant (.bool b) j pos) (tC (.bl b)):=fun _ _ _ H _ I h=>Constant_bool ⟨.bl b,H,I,rfl,h⟩
theorem Qb {j pos}:PE X (.Constant .none j pos) (tC .non):=fun _ _ _ H _ I h=>Constant_none ⟨.non,H,I,rfl,h⟩
theorem Qc {x j pos}:PE X (.Constant (.str x) j pos) (tC (.str x)):=fun _ _ _ H _ I h=>Calls.Constant_str ⟨.str x,H,I.tok _,⟨_,rfl⟩,h⟩
def Gl (X:Cx) (x:Str):Prop:=X.env.kindOf x=some .globalImplicit
theorem Ai {E:a9->ac->Prop}{pins:List (ah×Obj)}{s:ac}{σ:St}{H:Hp}{x:Str}{u:a9}{pos:Pos}{Q:a9->ac->Prop} (I:bQ X pins σ H s) (hg:Gl X x) (hm:X.mg x=some u) (h:Q u s)
  (hd:(x == ("__debug__" : Str))=false:=by decide):ar (aG X.prog X.w) X.A (dU (.Name x pos) X.env) Q E s :=
 yn I.ok.kind hg (Calls.loadGlobal_global (by rw [I.ok.glob];exact I.mod.glob.keeps I.bk) hm h) hd
theorem uA {E:a9->ac->Prop}{pins:List (ah×Obj)}{s:ac}{σ:St}{H:Hp}{x:Str}{u:a9}{pos:Pos}{Q:a9->ac->Prop} (I:bQ X pins σ H s) (hg:Gl X x) (hm:X.mg x=none) (hv:h_ x=some u) (h:Q u s)
  (hn:x≠"__name__":=by decide) (hd:(x == ("__debug__" : Str))=false:=by decide):ar (aG X.prog X.w) X.A (dU (.Name x pos) X.env) Q E s:=by
 obtain ⟨mb,h1,h2⟩:=I.mod.blt
 exact yn I.ok.kind hg (Calls.loadGlobal_builtin (by rw [I.ok.glob];exact I.mod.glob.keeps I.bk) hm (by rw [I.ok.blt];exact h1.keeps I.bk) ((h2 x hn).trans hv) h) hd
theorem Nt {x:Str}{v:V}{u:a9}{pos:Pos} (hg:Gl X x) (hm:X.mg x=some u) (r:cZ v u) (hd:(x == ("__debug__" : Str))=false:=by decide):PE X (.Name x pos) (tC v) :=
 fun _ _ _ H _ I h=>Ai I hg hm ⟨v,H,I,r,h⟩ hd
theorem Nu {x:Str}{v:V}{u:a9}{pos:Pos} (hg:Gl X x) (hm:X.mg x=none) (hv:h_ x=some u) (r:cZ v u) (hn:x≠"__name__":=by decide) (hd:(x == ("__debug__" : Str))=false:=by decide):PE X (.Name x pos) (tC v) :=
 fun _ _ _ H _ I h=>uA I hg hm hv ⟨v,H,I,r,h⟩ hn hd
variable {a b:aQ}{ta tb:TE}{pos:Pos}
def PC (X:Cx) (op:v_) (a b:aQ) (t:TE):Prop :=
 ∀ (pins:List (ah×Obj)) (s:ac) (σ:St) (H:Hp) (Q:VK),bQ X pins σ H s->t σ H Q ->
  ar (aG X.prog X.w) X.A (dU a X.env) (fun v s₁=>ar (aG X.prog X.w) X.A (dU b X.env) (fun u s₂=>ar (aG X.prog X.w) X.A (bH op v u) (EP X pins σ Q) X.xe s₂) X.xe s₁) X.xe s
theorem JK (b:aQ) {op:v_} (h:op≠.In) (h2:op≠.NotIn):gn op b=false:=by
 have e1:(op == CmpOp.In)=false:=by cases op<;>first | rfl | exact absurd rfl h
 have e2:(op == CmpOp.NotIn)=false:=by cases op<;>first | rfl | exact absurd rfl h2
 cases b<;>simp [gn,e1,e2]
def tB (t:TE):TT:=fun σ H Q=>t σ H fun x H1=>∃ c,x=.bl c/\Q c H1
theorem Us {op:v_}{t:TE} (h:PC X op a b t) (h1:gn op b=false:=by first | exact JK _ (by decide) (by decide) | rfl):PT X (.Compare a [op] [b] pos) (tB t):=by
 intro pins s σ H Q I hw
 refine MF (eB (h pins s σ H _ I hw) fun v s1 h1=>eB h1 fun u s2 h2=>eB h2 fun c s3 ⟨x,H1,I1,r1,q1⟩=>?_) h1
 obtain ⟨d,rfl,q⟩:=q1
 cases r1
 exact cR ⟨H1,I1,q⟩
theorem Qd {e:aQ}{t:TE} (h:PE X e t) (he:∀ whole,rm e X.env whole=(do let v <- whole;vb e.pos;DX [v] (truthy v)):=by intro _;rfl):PT X e (tB t):=by
 intro pins s σ H Q I hw
 refine isTrue_plain (eB (h pins s σ H _ I hw) fun v s1 ⟨x,H1,I1,r1,q1⟩=>?_) (he _)
 obtain ⟨d,rfl,q⟩:=q1
 cases r1
 exact cR ⟨H1,I1,q⟩
variable {tA tB':TT}{bG:List aQ}
def Ut (t u:TT):TT:=fun σ H Q=>t σ H fun c H1=>if c=true then u σ H1 Q else Q false H1
def W2 (t u:TT):TT:=fun σ H Q=>t σ H fun c H1=>if c=true then Q true H1 else u σ H1 Q
def Uu (t:TT):TT:=fun σ H Q=>t σ H fun c H1=>Q (!c) H1
theorem Nv (ha:PT X a tA):PW X (.BoolOp .And [a] pos) tA:=by
 intro wh pins s σ H Q I h
 refine isTrue_and (eB (ha pins s σ H Q I h) fun c s1 e=>?_)
 cases c with
 | true=>exact isTrue_and_nil e
 | false=>exact e
theorem Qe (ha:PT X a tA):PW X (.BoolOp .Or [a] pos) tA:=by
 intro wh pins s σ H Q I h
 refine isTrue_or (eB (ha pins s σ H Q I h) fun c s1 e=>?_)
 cases c with
 | false=>exact isTrue_or_nil e
 | true=>exact e
theorem Qf (ha:PT X a tA) (hb:PW X (.BoolOp .And (b::bG) pos) tB'):PW X (.BoolOp .And (a::b::bG) pos) (Ut tA tB'):=by
 intro wh pins s σ H Q I h
 refine isTrue_and (eB (ha pins s σ H _ I h) fun c s1 ⟨H1,I1,q1⟩=>?_)
 cases c with
 | true=>exact hb wh pins s1 σ H1 Q I1 q1
 | false=>exact ⟨H1,I1,q1⟩
theorem S0 (ha:PT X a tA) (hb:PW X (.BoolOp .Or (b::bG) pos) tB'):PW X (.BoolOp .Or (a::b::bG) pos) (W2 tA tB'):=by
 intro wh pins s σ H Q I h
 refine isTrue_or (eB (ha pins s σ H _ I h) fun c s1 ⟨H1,I1,q1⟩=>?_)
 cases c with
 | true=>exact ⟨H1,I1,q1⟩
 | false=>exact hb wh pins s1 σ H1 Q I1 q1
theorem Qg (ha:PT X a tA):PT X (.UnaryOp .Not a pos) (Uu tA):=by
 intro pins s σ H Q I h
 exact isTrue_not (eB (ha pins s σ H (fun c H1=>Q (!c) H1) I h) fun _ _ x=>by obtain ⟨a,b,c⟩:=x;exact ⟨a,b,c⟩)
def S1 (ta tb:TE):TE:=fun σ H Q=>ta σ H fun x H1=>∃ c,x=.bl c/\if c=true then tb σ H1 Q else Q (.bl false) H1
def Uv (ta tb:TE):TE:=fun σ H Q=>ta σ H fun x H1=>∃ c,x=.bl c/\if c=true then Q (.bl true) H1 else tb σ H1 Q
def S2 (ta:TE):TE:=fun σ H Q=>ta σ H fun x H1=>∃ c,x=.bl c/\Q (.bl (!c)) H1
theorem Qh {op}{t:TE} (h:PE X a t):PE X (.BoolOp op [a] pos) t:=fun pins s σ H Q I hw=>BoolOp_one (h pins s σ H Q I hw)
theorem Qi (ha:PE X a ta) (hb:PE X (.BoolOp .And (b::bG) pos) tb):PE X (.BoolOp .And (a::b::bG) pos) (S1 ta tb):=by
 intro pins s σ H Q I h
 refine BoolOp_and (eB (ha pins s σ H _ I h) fun v s1 ⟨x,H1,I1,r1,q1⟩=>?_)
 obtain ⟨c,rfl,q1⟩:=q1
 cases r1
 refine cR ?_
 cases c with
 | true=>exact hb pins s1 σ H1 Q I1 q1
 | false=>exact ⟨.bl false,H1,I1,rfl,q1⟩
theorem S3 (ha:PE X a ta) (hb:PE X (.BoolOp .Or (b::bG) pos) tb):PE X (.BoolOp .Or (a::b::bG) pos) (Uv ta tb):=by
 intro pins s σ H Q I h
 refine BoolOp_or (eB (ha pins s σ H _ I h) fun v s1 ⟨x,H1,I1,r1,q1⟩=>?_)
 obtain ⟨c,rfl,q1⟩:=q1
 cases r1
 refine cR ?_
 cases c with
 | false=>exact hb pins s1 σ H1 Q I1 q1
 | true=>exact ⟨.bl true,H1,I1,rfl,q1⟩
theorem Qj (ha:PE X a ta):PE X (.UnaryOp .Not a pos) (S2 ta):=by
 intro pins s σ H Q I h
 refine UnaryOp_ (eB (ha pins s σ H _ I h) fun v s1 ⟨x,H1,I1,r1,q1⟩=>?_)
 obtain ⟨c,rfl,q1⟩:=q1
 cases r1
 exact not_of (cR ⟨.bl (!c),H1,I1,rfl,q1⟩)
end
end L2
namespace L2
open PySem PySem.Spec PyProof.Rows
inductive Vx (K:a8) (a:ah) (xs:List V):Prop
 | mk (o:Obj) (its:Array a9) (n:Nat) (h0:K.lookup a=some o) (h1:o.cls=.type "list") (h2:o.dict=none) (h3:o.data=.seq its n) (h4:its.size<=sizeLine) (h5:du xs its.toList):Vx K a xs
def nB (K:a8) (H:Hp) (a:ah) (xs:List V):Prop :=
 Rd H a (.lst xs)\/Vx K a xs
inductive Vy (K:a8) (a:ah) (xs:List V):Prop
 | mk (o:Obj) (its:Array a9) (n:Nat) (h0:K.lookup a=some o) (h1:o.cls=.type "tuple") (h3:o.data=.seq its n) (h4:its.size<=sizeLine) (h5:du xs its.toList):Vy K a xs
def jZ (K:a8) (H:Hp) (a:ah) (xs:List V):Prop :=
 Rd H a (.tup xs)\/Vy K a xs
def Uw:a9->Option V
 | .none=>some .non
 | .bool b=>some (.bl b)
 | .int i _=>some (.int i)
 | .str x _=>some (.str x)
 | .bytes b _=>some (.byt b)
 | .float b _=>some (.flt b)
 | .ref a=>some (.ref a)
 | .type n=>some (.ty n)
 | _=>none
theorem cZ.abs {x:V}{u:a9} (r:cZ x u):Uw u=some x:=by
 cases x with
 | non=>cases r;rfl
 | bl _=>cases r;rfl
 | int _=>obtain ⟨t,rfl⟩:=r;rfl
 | str _=>obtain ⟨t,rfl⟩:=r;rfl
 | byt _=>obtain ⟨t,rfl⟩:=r;rfl
 | flt _=>obtain ⟨t,rfl⟩:=r;rfl
 | ref _=>cases r;rfl
 | ty _=>cases r;rfl
theorem cZ.inj {x y:V}{u:a9} (r:cZ x u) (q:cZ y u):x=y:=bF (r.abs.symm.trans q.abs)
theorem du.inj {xs:List V}{us:List a9} (h:du xs us):∀ {ys:List V},du ys us->xs=ys:=by
 induction h with
 | nil=>intro ys k;cases k;rfl
 | cons r t ih=>intro ys k;cases k with | cons r' t'=>rw [r.inj r',ih t']
section
variable {X:Cx}{pins:List (ah×Obj)}{σ:St}{H:Hp}{s:ac}{a:ah}{xs ys:List V}
theorem nB.of {K:a8} (h:H a=some (.lst xs)):nB K H a xs:=.inl (.inl h)
theorem jZ.of {K:a8} (h:H a=some (.tup xs)):jZ K H a xs:=.inl (.inl h)
inductive Vz (h:bp) (a:ah) (xs:List V):Prop
 | mk (its:List a9) (r:du xs its) (p:PlainL h a its.toArray) (z:xs.length<=sizeLine):Vz h a xs
inductive VA (h:bp) (a:ah) (xs:List V):Prop
 | mk (its:List a9) (r:du xs its) (p:IsTup h a its.toArray) (z:xs.length<=sizeLine):VA h a xs
inductive VB (h:bp) (l:ah) (xs:List V):Prop
 | mk (z:xs.length<=sizeLine) (its:List a9) (n:Nat) (r:du xs its) (hl:xs.length=its.length) (e:h.get? l=some { cls:=.type "list",data:=.seq its.toArray n }):VB h l xs
theorem bQ.list (I:bQ X pins σ H s) (h:nB X.K H a xs):Vz s.heap a xs:=by
 rcases h with h | ⟨o,its,n,hk,hc,hd,hs,hz,r⟩
 ·obtain ⟨z,its,n,r,e⟩:=h.ok I.hok
  exact ⟨its,r,⟨_,n,e,rfl,rfl,rfl⟩,z⟩
 ·refine ⟨its.toList,r,⟨o,n,I.kIn a o hk,hc,hd,by simpa using hs⟩,?_⟩
  have e:=r.length
  simp only [av] at e
  omega
theorem bQ.tuple (I:bQ X pins σ H s) (h:jZ X.K H a xs):VA s.heap a xs:=by
 rcases h with h | ⟨o,its,n,hk,hc,hs,hz,r⟩
 ·obtain ⟨z,its,r,p⟩:=h.ok I.hok
  exact ⟨its,r,p,z⟩
 ·refine ⟨its.toList,r,⟨o,I.kIn a o hk,hc,n,by simpa using hs⟩,?_⟩
  have e:=r.length
  simp only [av] at e
  omega
theorem bQ.list_inj (I:bQ X pins σ H s) (h:nB X.K H a xs) (h':nB X.K H a ys):xs=ys:=by
 obtain ⟨its,r,⟨o,n,e,_,_,d⟩,_⟩:=I.list h
 obtain ⟨its',r',⟨o',n',e',_,_,d'⟩,_⟩:=I.list h'
 rw [e] at e';cases e'
 rw [d] at d'
 injection d' with d1 _
 have:its=its':=by simpa using congrArg Array.toList d1
 subst this
 exact r.inj r'
theorem bQ.tuple_inj (I:bQ X pins σ H s) (h:jZ X.K H a xs) (h':jZ X.K H a ys):xs=ys:=by
 obtain ⟨its,r,⟨o,e,_,n,d⟩,_⟩:=I.tuple h
 obtain ⟨its',r',⟨o',e',_,n',d'⟩,_⟩:=I.tuple h'
 rw [e] at e';cases e'
 rw [d] at d'
 injection d' with d1 _
 have:its=its':=by simpa using congrArg Array.toList d1
 subst this
 exact r.inj r'
end
abbrev Cx.wish (X:Cx) (E:a9->ac->Prop):Cx:={ X with xe:=E }
abbrev Cx.nox (X:Cx):Cx:=X.wish fun _ _=>False
theorem Cx.Ok.wish {X:Cx} (ok:X.Ok) (E:a9->ac->Prop):(X.wish E).Ok :=
 ⟨ok.mod,ok.kind,ok.glob,ok.blt,ok.above,ok.inj,ok.has,ok.cab,ok.hd,ok.frames,ok.stk,ok.exf,ok.bs,ok.bsz,ok.noex,ok.exfs,ok.funs,ok.frf⟩
theorem Cx.Ok.unwish {X:Cx}{E:a9->ac->Prop} (ok:(X.wish E).Ok):X.Ok :=
 ⟨ok.mod,ok.kind,ok.glob,ok.blt,ok.above,ok.inj,ok.has,ok.cab,ok.hd,ok.frames,ok.stk,ok.exf,ok.bs,ok.bsz,ok.noex,ok.exfs,ok.funs,ok.frf⟩
section
variable {X:Cx}{pins:List (ah×Obj)}{σ:St}{H:Hp}{s:ac}{E:a9->ac->Prop}
theorem bQ.wish (I:bQ X pins σ H s) (E:a9->ac->Prop):bQ (X.wish E) pins σ H s:=⟨I.ok.wish E,I.os,I.bare,I.base,I.loc,I.cell,I.free,I.freeC,I.pin,I.hok,I.len⟩
theorem bQ.unwish (I:bQ (X.wish E) pins σ H s):bQ X pins σ H s:=⟨I.ok.unwish,I.os,I.bare,I.base,I.loc,I.cell,I.free,I.freeC,I.pin,I.hok,I.len⟩
theorem SP.unwish {D:t6}{f:Flow}{s':ac} (h:SP (X.wish E) pins D f s'):SP X pins D f s':=by
 cases f with
 | next=>obtain ⟨σ',H',I,q⟩:=h;exact ⟨σ',H',I.unwish,q⟩
 | brk=>obtain ⟨σ',H',I,q⟩:=h;exact ⟨σ',H',I.unwish,q⟩
 | cont=>obtain ⟨σ',H',I,q⟩:=h;exact ⟨σ',H',I.unwish,q⟩
 | ret u=>obtain ⟨v,σ',H',I,r,q⟩:=h;exact ⟨v,σ',H',I.unwish,r,q⟩
end
section
variable {X:Cx}{st:cA}{bG:List cA}{t u:TS}{e:aQ}{te:TE}{pos:Pos}
def S4:TS:=fun D σ H=>D.nx σ H
def Ux (t u:TS):TS:=fun D σ H=>t { D with nx:=u D } σ H
theorem Nw:FS X [] S4:=fun _ _ σ H _ I h=>sQ ⟨σ,H,I,h⟩
theorem pf (h1:PS X st t) (h2:FS X bG u):FS X (st::bG) (Ux t u):=by
 intro pins s σ H D I h
 refine wpAny_execs_cons (eB (h1 pins s σ H { D with nx:=u D } I h) fun f s1 q=>?_)
 cases f with
 | next =>
  obtain ⟨σ',H',I',q⟩:=q
  exact h2 pins s1 σ' H' D I' q
 | ret v=>exact q
 | brk=>exact q
 | cont=>exact q
theorem Nx (h1:PS X st t):FS X [st] t:=by
 intro pins s σ H D I h
 refine wpAny_execs_cons (eB (h1 pins s σ H D I h) fun f s1 q=>?_)
 cases f with
 | next=>exact sQ q
 | ret v=>exact q
 | brk=>exact q
 | cont=>exact q
theorem bQ.quiet {pins:List (ah×Obj)}{σ:St}{H:Hp}{s:ac} (I:bQ X pins σ H s):interactive X.env=false:=by simp [interactive,I.ok.kind]
def S5 (te:TE):TS:=fun D σ H=>te σ H fun _ H1=>D.nx σ H1
theorem Aj (he:PE X e te) (hs:fD e none pos.line X.env=pure false:=by rfl):PS X (.Expr e pos) (S5 te):=by
 intro pins s σ H D I h
 exact wpAny_Expr_any (eB (he pins s σ H _ I h) fun v s1 h_7=>by obtain ⟨x,H1,I1,r1,q1⟩:=h_7;exact ⟨σ,H1,I1,q1⟩) I.quiet hs
def Uy (te:TE):TS:=fun D σ H=>te σ H D.rt
theorem Qk (he:PE X e te):PS X (.Return (some e) pos) (Uy te):=by
 intro pins s σ H D I h
 exact wpAny_Return_some (eB (he pins s σ H _ I h) fun v s1 h_8=>by obtain ⟨x,H1,I1,r1,q1⟩:=h_8;exact ⟨x,σ,H1,I1,r1,q1⟩)
def Uz (c:TT) (t u:TS):TS:=fun D σ H=>c σ H fun b H1=>if b=true then t D σ H1 else u D σ H1
theorem S6 {c:aQ}{a b:List cA}{tc:TT} (hc:PT X c tc) (ha:FS X a t) (hb:FS X b u):PS X (.If c a b pos) (Uz tc t u):=by
 intro pins s σ H D I h
 refine wpAny_If (eB (hc pins s σ H _ I h) fun d s1 ⟨H1,I1,q1⟩=>?_)
 cases d with
 | true=>exact ha pins s1 σ H1 D I1 q1
 | false=>exact hb pins s1 σ H1 D I1 q1
def Ql:TS:=fun _ _ _=>False
theorem qd {sts:List cA}:FS X sts Ql:=fun _ _ _ _ _ _ h=>h.elim
end
abbrev TG:=V->St->Hp->(St->Hp->Prop)->Prop
abbrev JL:=List V->St->Hp->(St->Hp->Prop)->Prop
def PG (X:Cx) (target:aQ) (t:TG):Prop :=
 ∀ (pins:List (ah×Obj)) (s:ac) (σ:St) (H:Hp) (v:V) (u:a9) (Q:St->Hp->Prop),bQ X pins σ H s->cZ v u->t v σ H Q ->
  ar (aG X.prog X.w) X.A (jx target X.env u) (fun _ s'=>SN X pins Q s') X.xe s
def OW (X:Cx) (ts:List aQ) (t:JL):Prop :=
 ∀ (pins:List (ah×Obj)) (s:ac) (σ:St) (H:Hp) (vs:List V) (us:List a9) (Q:St->Hp->Prop),bQ X pins σ H s->du vs us->t vs σ H Q ->
  ar (aG X.prog X.w) X.A (Hh ((i0 ts X.env).map (·.2)) us) (fun _ s'=>SN X pins Q s') X.xe s
section
variable {X:Cx}{pos:Pos}
def vj (i:Nat):TG:=fun v σ H Q=>Q (σ.set i (some v)) H
theorem cG {i:Nat}{x:Str} (hN:X.N.Nodup) (hi:X.N[i]?=some x) (hx:OU X.env.scope x) (hf:X.fn x=true\/X.env.scope.names.lookup x=some .local:=by first | exact .inl rfl | exact .inr rfl | assumption):PG X (.Name x pos) (vj i):=by
 intro pins s σ H v u Q I r h
 exact yo (t5 I hN hi hx r (fun s' I'=>⟨_,H,I',h⟩) hf)
def aM:JL:=fun vs σ H Q=>vs=[]/\Q σ H
inductive JM (t:TG) (u:JL) (vs:List V) (σ:St) (H:Hp) (Q:St->Hp->Prop):Prop
 | mk (v r:_) (h0:vs=v::r) (h1:t v σ H fun σ' H'=>u r σ' H' Q):JM t u vs σ H Q
def ag (t:TG) (u:JL):JL:=JM t u
theorem Ak:OW X [] aM:=by
 intro pins s σ H vs us Q I r h
 obtain ⟨e,h⟩:=h
 subst e
 cases r
 exact assignInOrder_nil ⟨σ,H,I,h⟩
theorem ph {e:aQ}{es:List aQ}{t:TG}{u:JL} (h1:PG X e t) (h2:OW X es u)
  (hs:(i0 (e::es) X.env).map (·.2)=jx e X.env::(i0 es X.env).map (·.2):=by rfl):OW X (e::es) (ag t u):=by
 intro pins s σ H vs us Q I r h
 obtain ⟨v,vr,e1,h⟩:=h
 subst e1
 cases r with
 | cons r rr =>
  rw [hs]
  refine wz (eB (h1 pins s σ H _ _ _ I r h) fun _ s1 ⟨σ1,H1,I1,q1⟩=>?_)
  exact h2 pins s1 σ1 H1 _ _ Q I1 rr q1
inductive OX (K:a8) (n:Nat) (t:JL) (v:V) (σ:St) (H:Hp) (Q:St->Hp->Prop):Prop
 | mk (a xs:_) (h0:v=.ref a) (h1:jZ K H a xs) (h2:xs.length=n) (h3:t xs σ H Q):OX K n t v σ H Q
def Qm (K:a8) (n:Nat) (t:JL):TG:=OX K n t
theorem Es {es:List aQ}{k:Nat}{t:JL}{n:Nat} (hc:X.calm=true) (h:OW X es t)
  (hn:(i0 es X.env).length=n:=by rfl) (hst:(i0 es X.env).findIdx? (·.1)=none:=by rfl):PG X (.Tuple es k pos) (Qm X.K n t):=by
 intro pins s σ H v u Q I r hw
 obtain ⟨a,xs,e1,hq,hl,hw⟩:=hw
 subst e1
 cases r
 obtain ⟨its,rv,ht,hz⟩:=I.tuple hq
 refine assign_Tuple_tuple (I.ok.hd hc) ht (by simp [hn,<- hl,rv.length]) hst fun h' hx=>?_
 have I1:bQ X pins σ H { s with heap:=h' }:=I.kept (t':=s.toks) fun b o e=>hx b o (aF (aq e)) e
 exact h pins _ σ H xs _ Q I1 (by simpa using rv) hw
def S7 (te:TE) (g:TG):TS:=fun D σ H=>te σ H fun x H1=>g x σ H1 D.nx
theorem JP {tg e:aQ}{te:TE}{g:TG} (he:PE X e te) (hg:PG X tg g) (hs:wa [tg] e pos.line X.env=pure false:=by rfl) (hw:wc [tg] e X.env=pure none:=by rfl)
  (h1:(i0 [tg] X.env).map (·.2)=[jx tg X.env]:=by rfl):PS X (.Assign [tg] e pos) (S7 te g):=by
 intro pins s σ H D I h
 refine wpAny_Assign_stores (eB (he pins s σ H _ I h) fun v s1 ⟨x,H1,I1,r1,q1⟩=>?_) hs hw
 rw [h1]
 exact eB (hg pins s1 σ H1 x v _ I1 r1 q1) fun _ s2 q=>q
theorem Et {i:Nat}{x:Str}{e:aQ}{te:TE}{pos':Pos} (hN:X.N.Nodup) (hi:X.N[i]?=some x) (hx:OU X.env.scope x) (he:PE X e te) (hs:fD e (some (.Name x pos')) pos.line X.env=pure false:=by rfl) (hf:X.fn x=true\/X.env.scope.names.lookup x=some .local:=by first | exact .inl rfl | exact .inr rfl | assumption) :
  PS X (.Assign [.Name x pos'] e pos) (S7 te (vj i)):=by
 intro pins s σ H D I h
 refine wpAny_Assign_Name (eB (he pins s σ H _ I h) fun v s1 ⟨y,H1,I1,r1,q1⟩=>?_) hs
 exact t5 I1 hN hi hx r1 (fun s2 I2=>⟨_,H1,I2,q1⟩) hf
def UA (i j:Nat) (ta:TA):TS:=fun D σ H=>ta σ H fun vs H1=>∃ v w,vs=[v,w]/\D.nx ((σ.set i (some v)).set j (some w)) H1
theorem Qn {i j:Nat}{x y:Str}{a b:aQ}{ta:TA}{px py pt:Pos}{kt k2 pt2} (hc:X.calm=true) (hN:X.N.Nodup) (hi:X.N[i]?=some x) (hj:X.N[j]?=some y) (hij:i≠j)
  (hx:X.env.scope.names.lookup x=some .local) (hy:X.env.scope.names.lookup y=some .local) (ha:PA X [a,b] ta)
  (hw:wc [.Tuple [.Name x px,.Name y py] kt pt] (.Tuple [a,b] k2 pt2) X.env=pure (some [x,y]))
  (hs:wa [.Tuple [.Name x px,.Name y py] kt pt] (.Tuple [a,b] k2 pt2) pos.line X.env=pure false:=by rfl) :
  PS X (.Assign [.Tuple [.Name x px,.Name y py] kt pt] (.Tuple [a,b] k2 pt2) pos) (UA i j ta):=by
 intro pins s σ H D I h
 rw [exec_Assign_arm]
 refine a7 (eF ?_)
 rw [hs]
 refine a7 (aa ?_)
 rw [if_neg (by decide)]
 refine a7 (Tuple_ (eB (ha _ pins s σ H _ I h) fun us s1 ⟨vs,H1,I1,r1,q1⟩=>?_))
 obtain ⟨v,w,e1,q1⟩:=q1
 subst e1
 obtain ⟨u1,u2,rfl,rv,rw'⟩:∃ u1 u2,us=[u1,u2]/\cZ v u1/\cZ w u2:=by
  cases r1 with
  | cons p q =>
   cases q with
   | cons p' q' =>
    cases q'
    exact ⟨_,_,rfl,p,p'⟩
 refine bL ?_ (by show 2<=sizeLine;decide)
 have I2:bQ X pins σ H1 { s1 with heap:=s1.heap.push { cls:=.type "tuple",data:=.seq [u1,u2].toArray } }:=I1.kept (t':=s1.toks) fun b o e=>ae _ e
 rw [hw]
 refine a7 (aa ?_)
 show ar (aG X.prog X.w) X.A (do rule "assign.swapped-stores";let items <- unpackItems (.ref s1.heap.objs.size) 2 none;Hh [fun v=>MR X.env y v,fun v=>MR X.env x v] items.reverse;pure Flow.next) _ _ _
 refine a7 (i3 (a7 (unpackItems_tuple (items:=#[u1,u2]) (I.ok.hd hc) (vK s1.heap _) fun h' hx'=>?_)))
 have I3:=I2.kept (h':=h') (t':=s1.toks) fun b o e=>hx' b o (aF (aq e)) e
 show ar _ _ (Hh [fun v=>MR X.env y v,fun v=>MR X.env x v] [u2,u1] >>= fun _=>pure Flow.next) _ _ _
 refine a7 (wz (wpAny_bindName (t5 I3 hN hj (.inl hy) rw' (fun s2 I4=>?_) (.inr hy))))
 refine wz (wpAny_bindName (t5 I4 hN hi (.inl hx) rv (fun s3 I5=>assignInOrder_nil (aa ?_)) (.inr hx)))
 rw [List.set_comm _ _ (cW hij)] at I5
 exact ⟨_,H1,I5,q1⟩
end
section
variable {X:Cx}{pos:Pos}
def Qo (c:TT) (tb:TS):TS:=fun D σ H=>∃ W:Nat->St->Hp->Prop,(∃ m,W m σ H)/\∀ m σ H,W m σ H ->
 c σ H fun b H1=>if b=true then ∃ N:St->Hp->Prop,(∀ σ' H',N σ' H'->∃ m',m'<m/\W m' σ' H')/\tb { D with nx:=N,ct:=N,bk:=D.nx } σ H1 else D.nx σ H1
theorem JQ {c:aQ}{body:List cA}{tc:TT}{tb:TS} (hp:PassesOwn (aG X.prog X.w) X.A X.env X.xe) (hc:PT X c tc) (hb:FS X body tb):PS X (.While c body [] pos) (Qo tc tb):=by
 intro pins s σ H D I h
 obtain ⟨W,⟨m0,w0⟩,turn⟩:=h
 refine wpAny_While (codeAny_whileLoop (fun n s'=>∃ σ' H',bQ X pins σ' H' s'/\W n σ' H') ?_ m0 ⟨σ,H,I,w0⟩)
 rintro n s1 ⟨σ1,H1,I1,w1⟩
 refine ik hp (eB (hc pins s1 σ1 H1 _ I1 (turn n σ1 H1 w1)) fun b s2 ⟨H2,I2,q2⟩=>?_)
 cases b with
 | true =>
  obtain ⟨N,hN,q2⟩:=q2
  rw [if_pos rfl]
  refine ik hp (eB (hb pins s2 σ1 H2 _ I2 q2) fun f s3 q3=>?_)
  cases f with
  | next =>
   obtain ⟨σ3,H3,I3,n3⟩:=q3
   obtain ⟨m',hm,w3⟩:=hN σ3 H3 n3
   exact ⟨m',hm,σ3,H3,I3,w3⟩
  | cont =>
   obtain ⟨σ3,H3,I3,n3⟩:=q3
   obtain ⟨m',hm,w3⟩:=hN σ3 H3 n3
   exact ⟨m',hm,σ3,H3,I3,w3⟩
  | brk=>exact q3
  | ret v=>exact q3
 | false =>
  rw [if_neg bq]
  exact sQ ⟨σ1,H2,I2,q2⟩
end
structure It where
 go:Nat->Hp->Prop
 yld:Nat->Hp->V->Hp->Prop
 stop:Nat->Hp->Prop
structure mU (X:Cx) (pins:List (ah×Obj)) (H:Hp) (b:ah):Prop where
 f0:H b=none
 f1:b≠X.env.locals
 f2:b∉X.fs
 f3:b∈X.ex\/X.s₀.heap.objs.size<=b
 f4:∀ x c,X.env.cells.lookup x=some c->c≠b
 f5:∀ p∈X.pn++pins,p.1≠b
theorem bQ.fpOk {X:Cx}{pins:List (ah×Obj)}{σ:St}{H H':Hp}{s:ac}{b:ah} (I:bQ X pins σ H s) (hb:s.heap.objs.size<=b) (hn:H' b=none):mU X pins H' b:=by
 refine ⟨hn,fY (aC I.lt hb),I.nofs hb,.inr (bU I.sz hb),fun x c e z=>?_,fun p hp z=>?_⟩
 ·obtain ⟨v,q⟩:=I.cell x c e
  exact absurd (aC q.lt (by rw [z];exact hb)) (bv _)
 ·exact absurd (aC (aq (I.pin p hp).1) (by rw [z];exact hb)) (bv _)
structure wI (P:aE) (w:aU) (K:a8) (tg:aQ) (J:It) (fp:List ah) (it:ah) (tn:Nat->bp->Prop):Prop where
 mem:it∈fp
 obj:∀ i h,tn i h->∀ b∈fp,∃ o,h.get? b=some o/\∀ v,o.data≠.cell v
 keep:∀ i h h',tn i h->(∀ b∈fp,∀ o,h.get? b=some o->h'.get? b=some o)->tn i h'
 item:∀ (X:Cx),X.prog=P->X.w=w->X.K=K->X.calm=true->∀ (i:Nat) (pins:List (ah×Obj)) (s:ac) (σ:St) (H:Hp) (E:a9->ac->Prop),bQ X pins σ H s->(∀ b∈fp,mU X pins H b)->tn i s.heap->J.go i H ->
  ar (aG P w) X.A (jy (.ref it)) (fun r s1=>∃ u,r=some u /\
   ar (aG P w) X.A (e_ tg (.ref it) u) (fun _ s2=>∃ x H',bQ X pins σ H' s2/\cZ x u/\J.yld i H x H'/\tn (i + 1) s2.heap/\∀ b∈fp,H' b=none) E s1) E s
 done:∀ (X:Cx),X.prog=P->X.w=w->X.K=K->X.calm=true->∀ (i:Nat) (pins:List (ah×Obj)) (s:ac) (σ:St) (H:Hp) (E:a9->ac->Prop),bQ X pins σ H s->(∀ b∈fp,mU X pins H b)->tn i s.heap->J.stop i H ->
  ar (aG P w) X.A (jy (.ref it)) (fun r s1=>r=none/\bQ X pins σ H s1) E s
 self:∀ (A:b9) (i:Nat) (s:ac) (Q:a9->ac->Prop) (E:a9->ac->Prop),tn i s.heap->Q (.ref it) s->ar (aG P w) A (wA (.ref it)) Q E s
abbrev TI:=St->Hp->(It->Hp->Prop)->Prop
inductive UB (X:Cx) (pins:List (ah×Obj)) (σ:St) (tg:aQ) (R:It->Hp->Prop) (itv:a9) (s2:ac):Prop
 | mk (it:ah) (fp:List ah) (tn:Nat->bp->Prop) (J:It) (H':Hp) (h0:itv=.ref it) (I:bQ X pins σ H' s2) (T:wI X.prog X.w X.K tg J fp it tn) (t0:tn 0 s2.heap) (f:∀ b∈fp,mU X pins H' b) (q:R J H'):UB X pins σ tg R itv s2
inductive UC (X:Cx) (pins:List (ah×Obj)) (tn:Nat->bp->Prop) (fp:List ah) (W:Nat->Nat->St->Hp->Prop) (n:Nat) (s':ac):Prop
 | mk (i:Nat) (σ':St) (H':Hp) (I:bQ X pins σ' H' s') (t:tn i s'.heap) (f:∀ b∈fp,H' b=none) (q:W i n σ' H'):UC X pins tn fp W n s'
def PI (X:Cx) (tg iter:aQ) (wi:TI):Prop :=
 ∀ (pins:List (ah×Obj)) (s:ac) (σ:St) (H:Hp) (R:It->Hp->Prop),bQ X pins σ H s->wi σ H R ->
  ar (aG X.prog X.w) X.A (dU iter X.env) (fun v s1=>ar (aG X.prog X.w) X.A (wA v) (UB X pins σ tg R) X.xe s1) X.xe s
theorem FT {M : ym} {A : b9} {E : a9 -> ac -> Prop} {s : ac} {tg : aQ} {it : ah} {u : a9} {o : Obj} {n : String} {vs : Array a9} {Q : Unit -> ac -> Prop} (ho : s.heap.get? it = some o) (hc : o.cls = .type n) (hd : o.data = .fields vs)
    (hn : ["enumerate", "zip", "dict_itemiterator", "dict_reverseitemiterator", "odict_iterator", "itertools.zip_longest", "itertools.pairwise"].contains n = false) (hQ : Q () s) : ar M A (e_ tg (.ref it) u) Q E s := by
  unfold e_
  cases tg <;> first
    | exact aa hQ
    | (cases u <;> first
        | exact aa hQ
        | (refine a7 (wpAny_load ho ?_)
           rw [hc, hd]
           show ar M A (if (["enumerate", "zip", "dict_itemiterator", "dict_reverseitemiterator", "odict_iterator", "itertools.zip_longest", "itertools.pairwise"].contains n && vs[0]? == some (cb _)) = true then _ else _) Q E s
           rw [if_neg (by intro h; rw [hn, zh] at h; cases h)]
           exact aa hQ))
def UD (K:a8) (a:ah):It :=
 ⟨fun i H=>∃ xs x,nB K H a xs/\xs[i]?=some x,fun i H x H'=>H'=H/\∀ xs,nB K H a xs->xs[i]?=some x,fun i H=>∃ xs,nB K H a xs/\xs.length<=i⟩
def UE (K:a8) (a:ah):It :=
 ⟨fun i H=>∃ xs x,jZ K H a xs/\xs[i]?=some x,fun i H x H'=>H'=H/\∀ xs,jZ K H a xs->xs[i]?=some x,fun i H=>∃ xs,jZ K H a xs/\xs.length<=i⟩
def U8 (lo:Int) (n:Nat):It:=⟨fun i _=>i<n,fun i H x H'=>H'=H/\x=.int (lo + i),fun i _=>n<=i⟩
theorem HD {P:aE}{w:aU}{K:a8}{tg:aQ} (a it:ah):wI P w K tg (UD K a) [it] it (fun i h=>h.IsListIter it a i) where
 mem:=by simp
 obj:=fun i h st b hb=>by
  have e:b=it:=by simpa using hb
  subst e
  obtain ⟨o,e,c,d⟩:=st
  exact ⟨o,e,fun v z=>by rw [d] at z;cases z⟩
 keep:=fun i h h' st k=>st.at fun o e=>k it (by simp) o e
 item:=by
  intro X hP hw hK hc i pins s σ H E I hf st hg
  subst hP hw hK
  obtain ⟨xs,x,hq,hx⟩:=hg
  obtain ⟨its,rv,p,hz⟩:=I.list hq
  obtain ⟨u,hu,ru⟩:=rv.get hx
  obtain ⟨f0,f1,f2,f3,f4,f5⟩:=hf it (by simp)
  refine wpAny_pyNext_list_item st p.isList (x:=u) (by simpa using hu) fun h' st' sb=>?_
  have I1:bQ X pins σ H { s with heap:=h' }:=I.turned (t':=s.toks) (fun b o hb e=>(sb.2 b hb).trans e) f0 f1 f3 f4 f5
  obtain ⟨o,e,c,d⟩:=id st'
  exact ⟨u,rfl,FT (s:={ s with heap:=h' }) e c d (by decide) ⟨x,H,I1,ru,⟨rfl,fun ys hy=>by rw [I.list_inj hy hq];exact hx⟩,st',fun b hb=>(hf b hb).1⟩⟩
 done:=by
  intro X hP hw hK hc i pins s σ H E I hf st hg
  subst hP hw hK
  obtain ⟨xs,hq,hx⟩:=hg
  obtain ⟨its,rv,p,hz⟩:=I.list hq
  obtain ⟨f0,f1,f2,f3,f4,f5⟩:=hf it (by simp)
  have hl:=rv.length
  exact wpAny_pyNext_list_end (I.ok.hd hc) st p.isList (by simp;omega) fun h' eb=>⟨rfl,I.turned (t':=s.toks) (fun b o hb e=>eb b o hb e) f0 f1 f3 f4 f5⟩
 self:=fun _ _ _ _ _ st h=>wpAny_pyIter_listiter st h
theorem Eu {P:aE}{w:aU}{K:a8}{tg:aQ} (a it:ah):wI P w K tg (UE K a) [it] it (fun i h=>h.IsTupleIter it a i) where
 mem:=by simp
 obj:=fun i h st b hb=>by
  have e:b=it:=by simpa using hb
  subst e
  obtain ⟨o,e,c,d⟩:=st
  exact ⟨o,e,fun v z=>by rw [d] at z;cases z⟩
 keep:=fun i h h' st k=>st.at fun o e=>k it (by simp) o e
 item:=by
  intro X hP hw hK hc i pins s σ H E I hf st hg
  subst hP hw hK
  obtain ⟨xs,x,hq,hx⟩:=hg
  obtain ⟨its,rv,p,hz⟩:=I.tuple hq
  obtain ⟨u,hu,ru⟩:=rv.get hx
  obtain ⟨f0,f1,f2,f3,f4,f5⟩:=hf it (by simp)
  refine wpAny_pyNext_tuple_item st (show s.heap.IsTuple a its.toArray from p) (x:=u) (by simpa using hu) fun h' st' sb=>?_
  have I1:bQ X pins σ H { s with heap:=h' }:=I.turned (t':=s.toks) (fun b o hb e=>(sb.2 b hb).trans e) f0 f1 f3 f4 f5
  obtain ⟨o,e,c,d⟩:=id st'
  exact ⟨u,rfl,FT (s:={ s with heap:=h' }) e c d (by decide) ⟨x,H,I1,ru,⟨rfl,fun ys hy=>by rw [I.tuple_inj hy hq];exact hx⟩,st',fun b hb=>(hf b hb).1⟩⟩
 done:=by
  intro X hP hw hK hc i pins s σ H E I hf st hg
  subst hP hw hK
  obtain ⟨xs,hq,hx⟩:=hg
  obtain ⟨its,rv,p,hz⟩:=I.tuple hq
  obtain ⟨f0,f1,f2,f3,f4,f5⟩:=hf it (by simp)
  have hl:=rv.length
  exact wpAny_pyNext_tuple_end (I.ok.hd hc) st (show s.heap.IsTuple a its.toArray from p) (by simp;omega) fun h' eb=>⟨rfl,I.turned (t':=s.toks) (fun b o hb e=>eb b o hb e) f0 f1 f3 f4 f5⟩
 self:=fun _ _ _ _ _ st h=>wpAny_pyIter_tupleiter st h
theorem Ev {P:aE}{w:aU}{K:a8}{tg:aQ} (it:ah) (lo:Int) (n:Nat):wI P w K tg (U8 lo n) [it] it (fun i h=>IsRangeIter h it (lo + (i:Nat) * 1) ((n:Int) - (i:Nat)) 1) where
 mem:=by simp
 obj:=fun i h st b hb=>by
  have e:b=it:=by simpa using hb
  subst e
  exact ⟨_,st,fun v z=>by
   have z':Data.fields _=Data.cell v:=z
   cases z'⟩
 keep:=fun i h h' st k=>k it (by simp) _ st
 item:=by
  intro X hP hw hK hc i pins s σ H E I hf st hg
  subst hP hw hK
  obtain ⟨f0,f1,f2,f3,f4,f5⟩:=hf it (by simp)
  have W:=Walks.range (prog:=X.prog) (w:=X.w) (I.ok.hd hc) it lo 1 n
  refine W.item i s _ _ hg st fun v h' tk hv st' kk=>?_
  obtain ⟨t,rfl⟩:=hv
  have I1:bQ X pins σ H { s with heap:=h',toks:=tk }:=I.turned (fun b o hb e=>kk b o (by simpa using hb) e) f0 f1 f3 f4 f5
  refine ⟨_,rfl,FT (s:={ s with heap:=h',toks:=tk }) (n:="range_iterator") st' rfl rfl (by decide) ⟨.int (lo + i),H,I1,⟨t,?_⟩,⟨rfl,rfl⟩,st',fun b hb=>(hf b hb).1⟩⟩
  rw [Int.mul_one]
 done:=by
  intro X hP hw hK hc i pins s σ H E I hf st hg
  subst hP hw hK
  obtain ⟨f0,f1,f2,f3,f4,f5⟩:=hf it (by simp)
  exact wpAny_pyNext_range_end (I.ok.hd hc) st (by have:n<=i:=hg;omega) fun h' eb=>⟨rfl,I.turned (t':=s.toks) (fun b o hb e=>eb b o hb e) f0 f1 f3 f4 f5⟩
 self:=fun _ _ _ _ _ st h=>wpAny_pyIter_rangeiter st h
end L2
namespace L2
open PySem PySem.Spec PyProof.Rows
section
variable {X:Cx}{tg:aQ}
def S8 (K:a8) (tl:TE):TI:=fun σ H R=>tl σ H fun x H1=>∃ a,x=.ref a/\(∃ xs,nB K H1 a xs)/\R (UD K a) H1
def UF (K:a8) (tl:TE):TI:=fun σ H R=>tl σ H fun x H1=>∃ a,x=.ref a/\(∃ xs,jZ K H1 a xs)/\R (UE K a) H1
theorem tf {l:aQ}{tl:TE} (hl:PE X l tl):PI X tg l (S8 X.K tl):=by
 intro pins s σ H R I h
 refine eB (hl pins s σ H _ I h) fun v s1 h_16=>?_
 obtain ⟨x,H1,I1,r1,q1⟩:=h_16
 obtain ⟨a,e,⟨xs,hq⟩,q⟩:=q1
 subst e
 cases r1
 obtain ⟨its,rv,p,hz⟩:=I1.list hq
 refine kf p.isList ?_
 refine ⟨s1.heap.objs.size,[s1.heap.objs.size],_,_,H1,rfl,I1.kept (t':=s1.toks) fun b o e=>ae _ e,HD a _,⟨_,ay _ rfl,rfl,rfl⟩,fun b hb=>?_,q⟩
 have e:b=s1.heap.objs.size:=by simpa using hb
 subst e
 exact I1.fpOk (au _) (I1.hok.fresh (au _))
theorem JR {l:aQ}{tl:TE} (hl:PE X l tl):PI X tg l (UF X.K tl):=by
 intro pins s σ H R I h
 refine eB (hl pins s σ H _ I h) fun v s1 h_17=>?_
 obtain ⟨x,H1,I1,r1,q1⟩:=h_17
 obtain ⟨a,e,⟨xs,hq⟩,q⟩:=q1
 subst e
 cases r1
 obtain ⟨its,rv,p,hz⟩:=I1.tuple hq
 refine fM (show s1.heap.IsTuple a its.toArray from p) ?_
 refine ⟨s1.heap.objs.size,[s1.heap.objs.size],_,_,H1,rfl,I1.kept (t':=s1.toks) fun b o e=>ae _ e,Eu a _,⟨_,ay _ rfl,rfl,rfl⟩,fun b hb=>?_,q⟩
 have e:b=s1.heap.objs.size:=by simpa using hb
 subst e
 exact I1.fpOk (au _) (I1.hok.fresh (au _))
theorem JU {pins:List (ah×Obj)}{σ:St}{H:Hp}{s:ac}{R:It->Hp->Prop}{E:a9->ac->Prop}{lo hi:Int}{t u v:Tok}{tk:Nat} (I:bQ X pins σ H s) (h1:-(2 ^ 62)<=lo) (h2:lo<2 ^ 62) (h3:-(2 ^ 62)<=hi) (h4:hi<2 ^ 62)
  (q:R (U8 lo (hi - lo).toNat) H):ar (aG X.prog X.w) X.A (wA (.ref s.heap.objs.size)) (UB X pins σ tg R) E { s with heap:=s.heap.push { cls:=.type "range",data:=.fields #[.int lo t,.int hi u,.int 1 v] },toks:=tk }:=by
 refine wpAny_pyIter_range (IsRange.new ..) (small_one h1 h2 h3 h4) ?_
 have I1:bQ X pins σ H { s with heap:=s.heap.push { cls:=.type "range",data:=.fields #[.int lo t,.int hi u,.int 1 v] },toks:=tk }:=I.kept fun b o e=>ae _ e
 refine ⟨(s.heap.push { cls:=.type "range",data:=.fields #[.int lo t,.int hi u,.int 1 v] }).objs.size,[(s.heap.push { cls:=.type "range",data:=.fields #[.int lo t,.int hi u,.int 1 v] }).objs.size],_,_,H,rfl,
  I1.kept (t':=tk) fun b o e=>ae _ e,Ev _ lo (hi - lo).toNat,?_,fun b hb=>?_,q⟩
 ·have e1:lo + ((0:Nat):Int) * 1=lo:=by simp
  have e2:(((hi - lo).toNat:Nat):Int) - ((0:Nat):Int)=Builtin.Range.rangeSize lo hi 1:=by rw [rangeSize_one];split<;>omega
  show IsRangeIter _ _ (lo + ((0:Nat):Int) * 1) ((((hi - lo).toNat:Nat):Int) - ((0:Nat):Int)) 1
  rw [e1,e2]
  exact ay _ rfl
 ·have e:b=(s.heap.push { cls:=.type "range",data:=.fields #[.int lo t,.int hi u,.int 1 v] }).objs.size:=by simpa using hb
  subst e
  exact I1.fpOk (au _) (I1.hok.fresh (au _))
def S9 (ta:TA):TI:=fun σ H R=>ta σ H fun vs H1=>∃ j:Int,vs=[.int j]/\-(2 ^ 62)<=j/\j<2 ^ 62/\R (U8 0 j.toNat) H1
theorem HE {a:aQ}{ta:TA}{p pos:Pos} (hg:Gl X "range") (hm:X.mg "range"=none) (ha:PA X [a] ta) (hs:aK [a] X.env=[(false,dU a X.env)]:=by rfl):PI X tg (.Call (.Name "range" p) [a] [] pos) (S9 ta):=by
 intro pins s σ H R I h
 refine Call_ (uA I hg hm boot_range (gq (eB (ha pos pins s σ H _ I h) fun us s1 ⟨vs,H1,I1,r1,q1⟩=>?_) hs rfl))
 obtain ⟨j,e,q1,q2,q⟩:=q1
 subst e
 cases r1 with
 | cons r rr =>
  cases rr
  obtain ⟨t,rfl⟩:=r
  exact call_range_1 (JU I1 (by omega) (by omega) q1 q2 (by simpa using q))
inductive UG (g:TG) (tb:TS) (D:t6) (σ:St) (J:It) (H1:Hp):Prop
 | mk (W:Nat->Nat->St->Hp->Prop) (w0:∃ m,W 0 m σ H1) (turn:∀ i m σ H,W i m σ H ->
 (J.stop i H/\D.nx σ H)\/(J.go i H/\∃ N:St->Hp->Prop,(∀ σ' H',N σ' H'->∃ m',m'<m/\W (i + 1) m' σ' H')/\∀ x H',J.yld i H x H'->g x σ H' fun σ2 H2=>tb { D with nx:=N,ct:=N,bk:=D.nx } σ2 H2)):UG g tb D σ J H1
def UH (wi:TI) (g:TG) (tb:TS):TS:=fun D σ H=>wi σ H (UG g tb D σ)
def rJ (fp:List ah) (h:bp):List (ah×Obj):=fp.filterMap fun b=>(h.get? b).map fun o=>(b,o)
theorem i6 {fp:List ah}{h:bp}{b:ah}{o:Obj} (hb:b∈fp) (e:h.get? b=some o):(b,o)∈rJ fp h:=List.mem_filterMap.mpr ⟨b,hb,by rw [e];rfl⟩
theorem HF {fp:List ah}{h:bp}{p:ah×Obj} (hp:p∈rJ fp h):p.1∈fp/\h.get? p.1=some p.2:=by
 obtain ⟨b,hb,e⟩:=List.mem_filterMap.mp hp
 cases q:h.get? b with
 | none=>rw [q] at e;cases e
 | some o =>
  rw [q] at e
  have e':(b,o)=p:=bF e
  subst e'
  exact ⟨hb,q⟩
theorem bQ.pinned {pins:List (ah×Obj)}{σ:St}{H:Hp}{s:ac}{fp:List ah} (I:bQ X pins σ H s) (hf:∀ b∈fp,mU X pins H b) (ho:∀ b∈fp,∃ o,s.heap.get? b=some o/\∀ v,o.data≠.cell v):bQ X (pins++rJ fp s.heap) σ H s :=
 I.pins_of fun p hp=>(List.mem_append.mp hp).elim (fun z=>I.pin p (az _ z)) fun z=>by
  obtain ⟨hb,e⟩:=HF z
  obtain ⟨f0,f1,f2,_⟩:=hf p.1 hb
  obtain ⟨o,e',d⟩:=ho p.1 hb
  rw [e] at e';cases e'
  exact ⟨e,f0,f1,f2,d⟩
theorem bQ.unpinned {pins pl:List (ah×Obj)}{σ:St}{H:Hp}{s:ac} (I:bQ X (pins++pl) σ H s):bQ X pins σ H s:=I.pins_of fun p hp=>I.pin p (az _ (bf _ hp))
theorem JV {iter:aQ}{body:List cA}{wi:TI}{g:TG}{tb:TS}{pos:Pos} (hp:PassesOwn (aG X.prog X.w) X.A X.env X.xe) (hc:X.calm=true) (hi:PI X tg iter wi) (hg:PG X tg g) (hb:FS X body tb)
  (hs:∀ x,cS iter X.env x=pure x:=by intro _;rfl):PS X (.For tg iter body [] pos) (UH wi g tb):=by
 intro pins s σ H D I h
 refine wpAny_For (eB (hi pins s σ H _ I h) fun v s1 h1=>eB h1 fun itv s2 h2=>?_) hs
 obtain ⟨it,fp,tn,J,H2,e,I2,T,st2,f2,W,⟨m0,w0⟩,turn⟩:=h2
 subst e
 have stat:∀ {H':Hp},(∀ b∈fp,H' b=none)->∀ b∈fp,mU X pins H' b:=fun hn b hb=>⟨hn b hb,(f2 b hb).f1,(f2 b hb).f2,(f2 b hb).f3,(f2 b hb).f4,(f2 b hb).f5⟩
 refine codeAny_forLoop_any (UC X pins tn fp W) ?_ m0 ⟨0,σ,H2,I2,st2,fun b hb=>(f2 b hb).1,w0⟩
 rintro n s3 ⟨i,σ3,H3,I3,st3,fr3,w3⟩
 rcases turn i n σ3 H3 w3 with ⟨stop,qn⟩ | ⟨go,N,hN,step⟩
 ·refine ik hp (eB (T.done X rfl rfl rfl hc i pins s3 σ3 H3 X.xe I3 (stat fr3) st3 stop) fun r s4 ⟨hr,I4⟩=>?_)
  subst hr
  exact sQ ⟨σ3,H3,I4,qn⟩
 ·refine ik hp (eB (T.item X rfl rfl rfl hc i pins s3 σ3 H3 X.xe I3 (stat fr3) st3 go) fun r s4 ⟨u,hr,h4⟩=>?_)
  subst hr
  refine ik hp (eB h4 fun _ s5 ⟨x,H5,I5,r5,y5,st5,fr5⟩=>?_)
  have I5':=I5.pinned (stat fr5) (T.obj _ _ st5)
  refine ik hp (eB (hg _ s5 σ3 H5 x u _ I5' r5 (step x H5 y5)) fun _ s6 ⟨σ6,H6,I6,q6⟩=>?_)
  refine ik hp (eB (hb _ s6 σ6 H6 _ I6 q6) fun f s7 q7=>?_)
  have again:∀ {σ7:St}{H7:Hp},bQ X (pins++rJ fp s5.heap) σ7 H7 s7->N σ7 H7->∃ m,m<n/\UC X pins tn fp W m s7:=fun {σ7 H7} I7 n7=>by
   obtain ⟨m',hm,w7⟩:=hN σ7 H7 n7
   refine ⟨m',hm,i + 1,σ7,H7,I7.unpinned,T.keep _ _ _ st5 fun b hb o e=>(I7.pin (b,o) (az _ (az _ (i6 hb e)))).1,fun b hb=>?_,w7⟩
   obtain ⟨o,e,d⟩:=T.obj _ _ st5 b hb
   exact (I7.pin (b,o) (az _ (az _ (i6 hb e)))).2.1
  cases f with
  | next=>obtain ⟨σ7,H7,I7,n7⟩:=q7;exact again I7 n7
  | cont=>obtain ⟨σ7,H7,I7,n7⟩:=q7;exact again I7 n7
  | brk=>obtain ⟨σ7,H7,I7,q7⟩:=q7;exact ⟨σ7,H7,I7.unpinned,q7⟩
  | ret v=>obtain ⟨x7,σ7,H7,I7,r7,q7⟩:=q7;exact ⟨x7,σ7,H7,I7.unpinned,r7,q7⟩
end
end L2
namespace L2
open PySem PySem.Spec PyProof.Rows
abbrev R2:=V->V->Hp->VK->Prop
def oX (X:Cx) (f:a9->a9->Sem a9) (r:R2):Prop :=
 ∀ (pins:List (ah×Obj)) (s:ac) (σ:St) (H:Hp) (x y:V) (v u:a9) (Q:VK),bQ X pins σ H s->cZ x v->cZ y u->r x y H Q ->
  ar (aG X.prog X.w) X.A (f v u) (EP X pins σ Q) X.xe s
def jb (X:Cx) (f:a9) (r:List V->Hp->VK->Prop):Prop :=
 ∀ (pins:List (ah×Obj)) (s:ac) (σ:St) (H:Hp) (xs:List V) (us:List a9) (Q:VK),bQ X pins σ H s->du xs us->r xs H Q ->
  ar (aG X.prog X.w) X.A (call f us) (EP X pins σ Q) X.xe s
def UI (X:Cx) (r:V->Hp->(Bool->Hp->Prop)->Prop):Prop :=
 ∀ (pins:List (ah×Obj)) (s:ac) (σ:St) (H:Hp) (x:V) (v:a9) (Q:Bool->Hp->Prop),bQ X pins σ H s->cZ x v->r x H Q ->
  ar (aG X.prog X.w) X.A (truthy v) (TP X pins σ Q) X.xe s
def Sc (r:R2) (ta tb:TE):TE:=fun σ H Q=>ta σ H fun x H1=>tb σ H1 fun y H2=>r x y H2 Q
inductive VC (C:Int->Int->Prop) (g:Int->Int->V) (x:V) (y:V) (H:Hp) (Q:VK):Prop
 | mk (i j:_) (h0:x=.int i) (h1:y=.int j) (h2:C i j) (h3:Q (g i j) H):VC C g x y H Q
def rI (C:Int->Int->Prop) (g:Int->Int->V):R2:=VC C g
inductive Sd (g:Int->Int->V) (x:V) (y:V) (H:Hp) (Q:VK):Prop
 | mk (i j:_) (h0:x=.int i) (h1:y=.int j) (h2:Q (g i j) H):Sd g x y H Q
def Qp (g:Int->Int->V):R2:=Sd g
section
variable {X:Cx}{a b c:aQ}{ta tb tc:TE}{pos:Pos}
theorem Qq (ha:PE X a ta) (hb:PE X b tb) {pins:List (ah×Obj)}{s:ac}{σ:St}{H:Hp}{R:V->V->Hp->Prop} (I:bQ X pins σ H s)
  (h:ta σ H fun x H1=>tb σ H1 fun y H2=>R x y H2) {Q:a9->ac->Prop}{f:a9->a9->Sem a9}
  (hf:∀ v u s2 x y H2,bQ X pins σ H2 s2->cZ x v->cZ y u->R x y H2->ar (aG X.prog X.w) X.A (f v u) Q X.xe s2) :
  ar (aG X.prog X.w) X.A (dU a X.env) (fun v s₁=>ar (aG X.prog X.w) X.A (dU b X.env) (fun u s₂=>ar (aG X.prog X.w) X.A (f v u) Q X.xe s₂) X.xe s₁) X.xe s:=by
 refine eB (ha pins s σ H _ I h) fun v s1 h_19=>?_
 obtain ⟨x,H1,I1,r1,q1⟩:=h_19
 refine eB (hb pins s1 σ H1 _ I1 q1) fun u s2 h_20=>?_
 obtain ⟨y,H2,I2,r2,q2⟩:=h_20
 exact hf v u s2 x y H2 I2 r1 r2 q2
theorem OY {op:MS}{r:R2} (ho:oX X (fN op) r) (ha:PE X a ta) (hb:PE X b tb):PE X (.BinOp a op b pos) (Sc r ta tb):=by
 intro pins s σ H Q I h
 exact wpAny_BinOp (Qq ha hb I h fun v u s2 x y H2 I2 rx ry q=>ho pins s2 σ H2 x y v u Q I2 rx ry q)
theorem UJ {f:a9->a9->Sem a9}{C:Int->Int->Prop}{g:Int->Int->Int}
  (rule:∀ (i j:Int) (t u:Tok) (s:ac) (Q:a9->ac->Prop) (E:a9->ac->Prop),C i j->Q (.int (g i j) s.toks) { s with toks:=s.toks + 1 }->ar (aG X.prog X.w) X.A (f (.int i t) (.int j u)) Q E s) :
  oX X f (rI C fun i j=>.int (g i j)):=by
 intro pins s σ H x y v u Q I rx ry h
 obtain ⟨i,j,rfl,rfl,hc,q⟩:=h
 obtain ⟨t,rfl⟩:=rx
 obtain ⟨t',rfl⟩:=ry
 exact rule i j t t' s _ _ hc ⟨.int (g i j),H,I.tok _,⟨_,rfl⟩,q⟩
theorem UK {f:a9->a9->Sem a9}{g:Int->Int->Int}
  (rule:∀ (i j:Int) (t u:Tok) (s:ac) (Q:a9->ac->Prop) (E:a9->ac->Prop),Q (.int (g i j) s.toks) { s with toks:=s.toks + 1 }->ar (aG X.prog X.w) X.A (f (.int i t) (.int j u)) Q E s) :
  oX X f (Qp fun i j=>.int (g i j)):=by
 intro pins s σ H x y v u Q I rx ry h
 obtain ⟨i,j,rfl,rfl,q⟩:=h
 obtain ⟨t,rfl⟩:=rx
 obtain ⟨t',rfl⟩:=ry
 exact rule i j t t' s _ _ ⟨.int (g i j),H,I.tok _,⟨_,rfl⟩,q⟩
theorem Qr {f:a9->a9->Sem a9}{g:Int->Int->Bool}
  (rule:∀ (i j:Int) (t u:Tok) (s:ac) (Q:a9->ac->Prop) (E:a9->ac->Prop),Q (.bool (g i j)) s->ar (aG X.prog X.w) X.A (f (.int i t) (.int j u)) Q E s) :
  oX X f (Qp fun i j=>.bl (g i j)):=by
 intro pins s σ H x y v u Q I rx ry h
 obtain ⟨i,j,rfl,rfl,q⟩:=h
 obtain ⟨t,rfl⟩:=rx
 obtain ⟨t',rfl⟩:=ry
 exact rule i j t t' s _ _ ⟨.bl (g i j),H,I,rfl,q⟩
def UL (i j:Int):Prop:=0<j/\j<1073741824
def Qs (i j:Int):Prop:=(-(2 ^ 64)<i/\i<2 ^ 64)\/(-(2 ^ 64)<j/\j<2 ^ 64)
theorem Qs.ok {i j:Int} (h:Qs i j):IntMulOk i j:=by
 rcases h with ⟨h1,h2⟩ | ⟨h1,h2⟩
 ·exact .of_left (intBits_le_64 h1 h2)
 ·exact .of_right (intBits_le_64 h1 h2)
theorem Qt:oX X (fN .Add) (Qp fun i j=>.int (i + j)):=UK fun _ _ _ _ _ _ _ q=>add_int q
theorem Qu:oX X (fN .Mult) (rI Qs fun i j=>.int (i * j)):=UJ fun _ _ _ _ _ _ _ hc q=>mul_int q hc.ok
theorem Ny:oX X (fN .FloorDiv) (rI UL fun i j=>.int (i / j)):=UJ fun i j _ _ _ _ _ hc q=>by
 have h1:(0:Int)<j:=hc.1
 have h2:j<1073741824:=hc.2
 exact floordiv_int (by omega) (by rw [Int.fdiv_eq_ediv_of_nonneg i (by omega)];exact q) (.inl (PyProof.noPylong_small (by omega)))
theorem Qv:oX X (fN .Mod) (rI (fun _ j=>0<j) fun i j=>.int (i % j)):=UJ fun i j _ _ _ _ _ hc q=>by
 have h1:(0:Int)<j:=hc
 exact mod_int' (by omega) (by rw [Int.fmod_eq_emod_of_nonneg i (by omega)];exact q)
end
section
variable {X:Cx}{a b c:aQ}{ta tb tc:TE}{pos:Pos}
theorem Al {pins:List (ah×Obj)}{σ:St}{H:Hp}{s:ac}{Q:VK}{k k':Bool} (I:bQ X pins σ H s) (q:Q (.bl k) H) (e:k=k'):EP X pins σ Q (.bool k') s:=by
 subst e
 exact ⟨.bl k,H,I,rfl,q⟩
theorem Se:oX X (bH .Lt) (Qp fun i j=>.bl (decide (i<j))):=Qr fun _ _ _ _ _ _ _ q=>lt_int q
theorem Sf:oX X (bH .LtE) (Qp fun i j=>.bl (decide (i<=j))):=Qr fun _ _ _ _ _ _ _ q=>le_int q
theorem Sg:oX X (bH .Gt) (Qp fun i j=>.bl (decide (j<i))):=Qr fun _ _ _ _ _ _ _ q=>gt_int q
theorem HG:oX X (bH .Lt) (fun x y H Q=>∃ i j,x=.str i/\y=.str j/\Q (.bl (decide (i.cps.toList<j.cps.toList))) H):=by
 intro pins s σ H x y v u Q I rx ry h
 obtain ⟨i,j,rfl,rfl,q⟩:=h
 obtain ⟨t,rfl⟩:=rx
 obtain ⟨t',rfl⟩:=ry
 exact lt_str (Al I q rfl)
theorem Qw:oX X (bH .Is) (fun x y H Q=>y=.non/\Q (.bl (decide (x=.non))) H):=by
 intro pins s σ H x y v u Q I rx ry h
 obtain ⟨rfl,q⟩:=h
 cases ry
 refine is_none_gen (Al I q ?_)
 cases x<;>first
  | (cases rx;rfl)
  | (obtain ⟨t,rfl⟩:=rx;rfl)
theorem Nz:oX X (bH .IsNot) (fun x y H Q=>y=.non/\Q (.bl (!decide (x=.non))) H):=by
 intro pins s σ H x y v u Q I rx ry h
 obtain ⟨rfl,q⟩:=h
 cases ry
 refine isnot_none_gen (Al I q ?_)
 cases x<;>first
  | (cases rx;rfl)
  | (obtain ⟨t,rfl⟩:=rx;rfl)
theorem JX (b:aQ) {op:v_} (h:op≠.In:=by decide) (h2:op≠.NotIn:=by decide):gn op b=false:=by
 have e1:(op == CmpOp.In)=false:=by cases op<;>first | rfl | exact absurd rfl h
 have e2:(op == CmpOp.NotIn)=false:=by cases op<;>first | rfl | exact absurd rfl h2
 cases b<;>simp [gn,e1,e2]
theorem NA {op:v_}{r:R2} (ho:oX X (bH op) r) (ha:PE X a ta) (hb:PE X b tb) (hm:gn op b=false):PE X (.Compare a [op] [b] pos) (Sc r ta tb):=by
 intro pins s σ H Q I h
 exact wpAny_Compare1 (Qq ha hb I h fun v u s2 x y H2 I2 rx ry q=>ho pins s2 σ H2 x y v u Q I2 rx ry q) hm
def OZ (t:TE):TT:=fun σ H Q=>t σ H fun x H'=>∃ k,x=.bl k/\Q k H'
theorem NB {op:v_}{r:R2} (ho:oX X (bH op) r) (ha:PE X a ta) (hb:PE X b tb) (hm:gn op b=false):PT X (.Compare a [op] [b] pos) (OZ (Sc r ta tb)):=by
 intro pins s σ H Q I h
 refine MF (eB (ha pins s σ H _ I h) fun v s1 ⟨x,H1,I1,r1,q1⟩=>eB (hb pins s1 σ H1 _ I1 q1) fun u s2 ⟨y,H2,I2,r2,q2⟩ =>
  eB (ho pins s2 σ H2 x y v u _ I2 r1 r2 q2) fun c s3 ⟨z,H3,I3,r3,k,e,q3⟩=>?_) hm
 subst e
 cases r3
 exact cR ⟨H3,I3,q3⟩
def Ew (r r':R2) (ta tb tc:TE):TE:=fun σ H Q=>ta σ H fun x H1=>tb σ H1 fun y H2=>r x y H2 fun z H3=>∃ k,z=.bl k /\
 (if k=true then tc σ H3 fun w' H4=>r' y w' H4 Q else Q (.bl false) H3)
theorem JY {op op':v_}{r r':R2} (ho:oX X (bH op) r) (ho':oX X (bH op') r') (ha:PE X a ta) (hb:PE X b tb) (hc:PE X c tc)
  (hm:J4 [op,op'] [b,c]=false:=by with_unfolding_all rfl):PE X (.Compare a [op,op'] [b,c] pos) (Ew r r' ta tb tc):=by
 intro pins s σ H Q I h
 refine Compare_chain (eB (ha pins s σ H _ I h) fun v s1 ⟨x,H1,I1,r1,q1⟩=>chain_link (eB (hb pins s1 σ H1 _ I1 q1) fun u s2 ⟨y,H2,I2,r2,q2⟩ =>
  eB (ho pins s2 σ H2 x y v u _ I2 r1 r2 q2) fun d s3 ⟨z,H3,I3,r3,k,e,q3⟩=>?_)) hm
 subst e
 cases r3
 refine cR ?_
 cases k with
 | false=>exact ite_ff ⟨.bl false,H3,I3,rfl,q3⟩
 | true=>exact ite_tt (chain_last (eB (hc pins s3 σ H3 _ I3 q3) fun w' s4 h_22=>by obtain ⟨z',H4,I4,r4,q4⟩:=h_22;exact ho' pins s4 σ H4 y z' u w' Q I4 r2 r4 q4))
theorem JZ {op op':v_}{r r':R2} (ho:oX X (bH op) r) (ho':oX X (bH op') r') (ha:PE X a ta) (hb:PE X b tb) (hc:PE X c tc)
  (hm:J4 [op,op'] [b,c]=false:=by with_unfolding_all rfl):PT X (.Compare a [op,op'] [b,c] pos) (OZ (Ew r r' ta tb tc)):=by
 intro pins s σ H Q I h
 refine isTrue_chain (eB (ha pins s σ H _ I h) fun v s1 ⟨x,H1,I1,r1,q1⟩=>test_link (eB (hb pins s1 σ H1 _ I1 q1) fun u s2 ⟨y,H2,I2,r2,q2⟩ =>
  eB (ho pins s2 σ H2 x y v u _ I2 r1 r2 q2) fun d s3 ⟨z,H3,I3,r3,k,e,q3⟩=>?_)) hm
 subst e
 cases r3
 refine cR ?_
 cases k with
 | false =>
  obtain ⟨k',e',q'⟩:=q3
  cases e'
  exact ite_ff ⟨H3,I3,q'⟩
 | true =>
  refine ite_tt (test_last (eB (hc pins s3 σ H3 _ I3 q3) fun w' s4 ⟨z',H4,I4,r4,q4⟩=>eB (ho' pins s4 σ H4 y z' u w' _ I4 r2 r4 q4) fun d' s5 ⟨z2,H5,I5,r5,k2,e2,q5⟩=>?_))
  subst e2
  cases r5
  exact cR ⟨H5,I5,q5⟩
def Sh (K:a8) (x:V) (H:Hp) (k:Bool):Prop :=
 match x with
 | .non=>k=false
 | .bl b=>k=b
 | .int i=>k=(i != 0)
 | .str y=>y.length<=sizeLine/\k=((y.length:Int) != 0)
 | .byt y=>y.size<=sizeLine/\k=((y.size:Int) != 0)
 | .ref p=>(∃ xs,nB K H p xs/\k=!xs.isEmpty)\/(∃ xs,jZ K H p xs/\k=!xs.isEmpty)\/∃ kvs,H p=some (.dK kvs)/\k=!kvs.isEmpty
 | _=>False
theorem Ex {κ:Type}{kvs:List (κ×V)}{vs:List (κ×a9)} (r:KV kvs vs):(!vs.isEmpty)=!kvs.isEmpty:=by
 cases r<;>rfl
theorem wJ {xs:List V}{its:List a9} (r:du xs its):(!its.toArray.isEmpty)=!xs.isEmpty:=by
 cases r<;>simp
theorem uB:(sizeLine:Nat)<2 ^ 63:=by rw [BG];decide
theorem Qx:UI X (fun x H Q=>∃ k,Sh X.K x H k/\Q k H):=by
 intro pins s σ H x v Q I rx h
 obtain ⟨k,e,q⟩:=h
 have hl:=uB
 have hs:sizeLine=16777216:=BG
 cases x with
 | non =>
  cases rx
  have e':k=false:=e
  subst e'
  exact truthy_none ⟨H,I,q⟩
 | bl b =>
  cases rx
  have e':k=b:=e
  subst e'
  exact cR ⟨H,I,q⟩
 | int i =>
  obtain ⟨t,rfl⟩:=rx
  have e':k=(i != 0):=e
  subst e'
  exact PySem.P.truthy_int ⟨H,I,q⟩
 | str y =>
  obtain ⟨t,rfl⟩:=rx
  obtain ⟨hy,e'⟩:y.length<=sizeLine/\k=((y.length:Int) != 0):=e
  subst e'
  exact PySem.P.truthy_str (by omega) ⟨H,I.tok _,q⟩
 | byt y =>
  obtain ⟨t,rfl⟩:=rx
  obtain ⟨hy,e'⟩:y.size<=sizeLine/\k=((y.size:Int) != 0):=e
  subst e'
  exact PySem.W.truthy_bytes (by omega) ⟨H,I.tok _,q⟩
 | ref p =>
  cases rx
  have e':(∃ xs,nB X.K H p xs/\k=!xs.isEmpty)\/(∃ xs,jZ X.K H p xs/\k=!xs.isEmpty)\/∃ kvs,H p=some (.dK kvs)/\k=!kvs.isEmpty:=e
  rcases e' with ⟨xs,hx,e'⟩ | ⟨xs,hx,e'⟩ | ⟨kvs,hx,e'⟩
  ·subst e'
   obtain ⟨its,r,pl,hz⟩:=I.list hx
   have hlen:=r.length
   exact wpAny_truthy_list pl.isList (by simp only [aR];omega) ⟨H,I.tok _,by rw [wJ r];exact q⟩
  ·subst e'
   obtain ⟨its,r,pl,hz⟩:=I.tuple hx
   have hlen:=r.length
   exact truthy_tuple pl (by simp only [aR];omega) ⟨H,I.tok _,by rw [wJ r];exact q⟩
  ·subst e'
   obtain ⟨hz,hS,vs,r,m⟩:kvs.length<=sizeLine/\(p == eZ)=false/\∃ vs,KV kvs vs/\s.heap.DictOf (ej X.prog X.w) p vs:=I.hok p _ hx
   have hlen:kvs.length=vs.length:=gO r
   exact wpAny_truthy_dict hS m (by omega) ⟨H,I.tok _,by rw [Ex r];exact q⟩
 | _=>exact (show False from e).elim
theorem J_ (ha:PE X a ta) (he:∀ whole,rm a X.env whole=(do let v <- whole;vb a.pos;DX [v] (truthy v))) :
  PT X a (fun σ H Q=>ta σ H fun x H'=>∃ k,Sh X.K x H' k/\Q k H'):=by
 intro pins s σ H Q I h
 exact isTrue_plain (eB (ha pins s σ H _ I h) fun v s1 h_23=>by obtain ⟨x,H1,I1,r1,q1⟩:=h_23;exact Qx pins s1 σ H1 x v Q I1 r1 q1) (he _)
theorem Ey:oX X (fN .Add) (fun x y H Q=>∃ i j,x=.str i/\y=.str j/\i.length + j.length<=sizeLine/\Q (.str (i++j)) H):=by
 intro pins s σ H x y v u Q I rx ry h
 obtain ⟨i,j,rfl,rfl,hz,q⟩:=h
 obtain ⟨t,rfl⟩:=rx
 obtain ⟨t',rfl⟩:=ry
 exact add_str (fun t' tk=>⟨.str (i++j),H,I.tok _,⟨_,rfl⟩,q⟩) hz
theorem kz {x:V}{us:List a9} (r:du [x] us):∃ u,us=[u]/\cZ x u:=by
 cases r with
 | cons r1 r2=>cases r2;exact ⟨_,rfl,r1⟩
theorem O_ {x y:V}{us:List a9} (r:du [x,y] us):∃ u w',us=[u,w']/\cZ x u/\cZ y w':=by
 cases r with
 | cons r1 r2 =>
  cases r2 with
  | cons r3 r4=>cases r4;exact ⟨_,_,rfl,r1,r3⟩
end
end L2
namespace L2
open PySem PySem.Spec PyProof.Rows
structure Qy (h:bp) (x dx C:ah) (mA:Str->Option a9):Prop where
 obj:h.get? x=some (vJ C dx)
 ns:h.Ns1 dx mA
 ne:dx≠x
theorem HH {h:bp}{dx:ah}{mA:Str->Option a9} (n:h.Ns1 dx mA):∃ od,h.get? dx=some od/\∀ name,wB name od=some (mA name):=by
 obtain ⟨o,es,ep,ho,hd,hk,_,hm⟩:=n
 refine ⟨o,ho,fun name=>?_⟩
 have e:=hm name
 unfold nsFind findBy at e
 rw [<- Hi] at e
 unfold wB
 rw [hd]
 dsimp only
 split
 ·rename_i y q
  rw [q] at e
  exact congrArg some e
 ·rename_i q
  rw [q] at e
  have a:es.toList.any (·.refKey)=false:=by
   rw [Jn]
   intro y hy
   obtain ⟨z,t,hkey⟩:=hk y (Array.mem_toList_iff.mp hy)
   simp [DictEntry.refKey,hkey]
  have a':¬ es.toList.any (·.refKey)=true:=by rw [a];exact bq
  rw [if_neg a']
  exact congrArg some e
theorem Qy.look {h:bp}{x dx C:ah}{mA:Str->Option a9} (I:Qy h x dx C mA):∃ od,PySem.W.InstAt h x (vJ C dx) C (some od)/\∀ name,wB name od=some (mA name) :=
 let ⟨od,ho,hl⟩:=HH I.ns
 ⟨od,⟨I.obj,rfl,rfl,ho⟩,hl⟩
section
variable {prog:aE}{w:aU}{A:b9}{E:a9->ac->Prop}{s:ac}{K:a8}{x dx C f:ah}{mA:Str->Option a9}{name:Str}{v:a9}
end
theorem wH.some_of {v:V}{o:Option a9} (r:wH (some v) o):∃ u,o=some u/\cZ v u:=by
 cases o with
 | none=>exact (show False from r).elim
 | some u=>exact ⟨u,rfl,r⟩
section
variable {P:aE}{w:aU}{H H':Hp}{h h':bp}{a C dx:ah}{fs fs':List (Str×V)}
theorem NC (hok:oA P w H h) (e:H a=some (.ins C dx fs)):∃ mA,Qy h a dx C mA/\(∀ f,wH (fs.lookup f) (mA f))/\PySem.Within mA (fs.map (·.1))/\fs.length<=1000/\H dx=some (.own a):=by
 obtain ⟨d,z,ne,ob,mA,n,r,q⟩:=(show dk P w H h a (.ins C dx fs) from hok a _ e)
 exact ⟨mA,⟨ob,n,ne⟩,r,q,z,d⟩
end
structure UM (K:a8) (C:ah):Prop where
 pg:Hj K C Str.empty=true
 hd:PySem.W.hasDictIn K C=true
 po:PySem.W.plainOver K C=true
 sa:ll K (.ref C) "__setattr__"=some (some (.builtin "object.__setattr__"))
theorem UM.get {K:a8}{C:ah} (c:UM K C) (f:Str):Hj K C f=true:=c.pg
section
variable {X:Cx}{pins:List (ah×Obj)}{σ:St}{H:Hp}{s:ac}{a C dx:ah}{fs:List (Str×V)}{f:Str}{v:V}{A:b9}{E:a9->ac->Prop}
end
def Si (X:Cx) (op:MS) (rd:V->V->Hp->VK->Prop):Prop :=
 ∀ (pins:List (ah×Obj)) (s:ac) (σ:St) (H:Hp) (x y:V) (u v:a9) (Q:VK),bQ X pins σ H s->cZ x u->cZ y v->rd x y H Q->ar (aG X.prog X.w) X.A (inplaceOp op u v) (EP X pins σ Q) X.xe s
section
variable {X:Cx}{o e value:aQ}{f:Str}{pos pos' tpos:Pos}{ta tv:TE}
def UN:V->V->Hp->VK->Prop:=fun x y H Q=>∃ i j,x=.int i/\y=.int j/\Q (.int (i + j)) H
theorem Qz:Si X .Add UN:=by
 rintro pins s σ H x y u v Q I rx ry ⟨i,j,rfl,rfl,q⟩
 obtain ⟨t,rfl⟩:=(show ∃ t,u=j7 i t from rx)
 obtain ⟨t',rfl⟩:=(show ∃ t',v=j7 j t' from ry)
 exact PyProof.Rows.iadd_int ⟨.int (i + j),H,I.tok _,⟨_,rfl⟩,q⟩
end
section
variable {X:Cx}{pins:List (ah×Obj)}{σ:St}{H:Hp}{s:ac}{A:b9}{E:a9->ac->Prop}{Q:a9->ac->Prop}{c:a9}{b:Bool}
inductive vP (K:a8) (H:Hp):V->a9->Prop where
 | non:vP K H .non (.type "NoneType")
 | bl (x:Bool):vP K H (.bl x) (.type "bool")
 | int (i:Int):vP K H (.int i) (.type "int")
 | str (x:Str):vP K H (.str x) (.type "str")
 | flt (x:UInt64):vP K H (.flt x) (.type "float")
 | lst {a:ah}{xs:List V} (e:H a=some (.lst xs)):vP K H (.ref a) (.type "list")
 | frz {a:ah}{o:Obj}{xs:List V} (e:H a=some (.frz o (.lst xs))):vP K H (.ref a) (.type "list")
 | tup {a:ah}{xs:List V} (e:H a=some (.tup xs)):vP K H (.ref a) (.type "tuple")
 | dK {a:ah}{kvs:List (dv×V)} (e:H a=some (.dK kvs)):vP K H (.ref a) (.type "dict")
 | dT {a:ah}{kvs:List (List dv×V)} (e:H a=some (.dT kvs)):vP K H (.ref a) (.type "dict")
 | ins {a C dx:ah}{fs:List (Str×V)} (e:H a=some (.ins C dx fs)) (cl:UM K C) (ha:ll K (.ref C) "__class__"=some (some (.builtin "object.__class__")))
   (hn:FK K (.builtin "object.__class__") "__get__"=some (some (.builtin "getset_descriptor.__get__"))) (htk:J5 K (.builtin "object.__class__")=some true)
   (hm:dh K C (.type "object")=some true):vP K H (.ref a) (.ref C)
theorem qe {x:V}{u t:a9} (I:bQ X pins σ H s) (rx:cZ x u) (ty:vP X.K H x t) (e:oY X.K t c=some b) (h:∀ tk,Q (.bool b) { s with toks:=tk }) :
  ar (aG X.prog X.w) A (call (.builtin "isinstance") [u,c]) Q E s:=by
 cases ty with
 | non=>cases (show u=dS from rx);exact cB PySem.W.kitx_none I.kIn iw e (fun z=>nomatch z) h
 | bl y=>cases (show u=Hf y from rx);exact cB PySem.W.kitx_bool I.kIn iw e (fun z=>nomatch z) h
 | int i=>obtain ⟨t,q⟩:=(show ∃ t,u=j7 i t from rx);cases q;exact cB PySem.W.kitx_int I.kIn iw e (fun z=>nomatch z) h
 | str y=>obtain ⟨t,q⟩:=(show ∃ t,u=j8 y t from rx);cases q;exact cB PySem.W.kitx_str I.kIn iw e (fun z=>nomatch z) h
 | flt y=>obtain ⟨t,q⟩:=(show ∃ t,u=Value.float y t from rx);cases q;exact cB PySem.W.kitx_float I.kIn iw e (fun z=>nomatch z) h
 | @lst a xs ea =>
  cases (show u=bO a from rx)
  obtain ⟨_,_,n,_,h1⟩:=(show dk X.prog X.w H s.heap a (.lst xs) from I.hok a _ ea)
  exact cB sV I.kIn ⟨_,h1,rfl⟩ e (fun z=>nomatch z) h
 | @frz a ob xs ea =>
  cases (show u=bO a from rx)
  obtain ⟨_,_,_,n,_,h1⟩:=(show dk X.prog X.w H s.heap a (.frz ob (.lst xs)) from I.hok a _ ea)
  exact cB sV I.kIn ⟨_,h1,rfl⟩ e (fun z=>nomatch z) h
 | @tup a xs ea =>
  cases (show u=bO a from rx)
  obtain ⟨_,_,_,p⟩:=(show dk X.prog X.w H s.heap a (.tup xs) from I.hok a _ ea)
  obtain ⟨o,h1,h2,_⟩:=p
  exact cB E9 I.kIn ⟨o,h1,h2⟩ e (fun z=>nomatch z) h
 | @dK a kvs ea =>
  cases (show u=bO a from rx)
  obtain ⟨_,_,vs,_,p⟩:=(show dk X.prog X.w H s.heap a (.dK kvs) from I.hok a _ ea)
  obtain ⟨o,es,ep,h1,h2,_⟩:=p
  exact cB FL I.kIn ⟨o,h1,h2.1⟩ e (fun z=>nomatch z) h
 | @dT a kvs ea =>
  cases (show u=bO a from rx)
  obtain ⟨_,_,xs,_,o,es,ep,h1,h2,_⟩:=(show dk X.prog X.w H s.heap a (.dT kvs) from I.hok a _ ea)
  exact cB FL I.kIn ⟨o,h1,h2.1⟩ e (fun z=>nomatch z) h
 | @ins a C dx fs ea cl ha hn htk hm =>
  cases (show u=bO a from rx)
  obtain ⟨mA,O,_⟩:=NC I.hok ea
  obtain ⟨od,J,_⟩:=O.look
  exact cB (PySem.W.kitx_own (cl.get _) cl.hd ha hn htk hm) I.kIn J e (fun z=>nomatch z) h
end
end L2
namespace L2
open PySem PySem.Spec PyProof.Rows
structure lv (k:Nat) (A:b9):Prop where
 hd:A.handled=none
 dp:A.depth + 3 * k + 5<recursionLimit
 un:A.units + 16 * k + 200<iE
theorem lv.mono {j k:Nat}{A:b9} (r:lv k A) (h:j<=k):lv j A:=⟨r.hd,by have:=r.dp;omega,by have:=r.un;omega⟩
theorem lv.deeper {k:Nat}{A:b9} (r:lv (k + 1) A) (env:Env):lv k (A.deeper env) :=
 ⟨r.hd,by have:=r.dp;show A.depth + 1 + 3 * k + 5<_;omega,by have:=r.un;show A.units + 3 + 16 * k + 200<_;omega⟩
theorem lv.depth {k:Nat}{A:b9} (r:lv k A):A.depth<recursionLimit:=by have:=r.dp;omega
theorem lv.units {k:Nat}{A:b9} (r:lv k A):A.units + 64<iE:=by have:=r.un;omega
def QA:TA:=fun _ H Q=>Q [] H
def K0 (ta:TE) (tr:TA):TA:=fun σ H Q=>ta σ H fun x H1=>tr σ H1 fun xs H2=>Q (x::xs) H2
section
variable {X:Cx}{e:aQ}{es:List aQ}{te:TE}{t:TA}{pos:Pos}
theorem jC:PA X [] QA:=fun _ _ _ _ H Q I h=>Calls.spliced_nil ⟨[],H,I,.nil,h⟩
theorem im (ha:PE X e te) (hr:PA X es t) (hs:aK (e::es) X.env=(false,dU e X.env)::aK es X.env:=by rfl):PA X (e::es) (K0 te t):=by
 intro pos pins s σ H Q I h
 rw [hs]
 show ar _ _ (spliced ((false,dU e X.env)::iR pos (aK es X.env))) _ _ s
 refine Calls.spliced_cons (eB (ha pins s σ H _ I h) fun u s1 ⟨x,H1,I1,r1,q1⟩=>?_)
 exact eB (hr pos pins s1 σ H1 _ I1 q1) fun us s2 h_25=>by obtain ⟨xs,H2,I2,r2,q2⟩:=h_25;exact ⟨x::xs,H2,I2,.cons r1 r2,q2⟩
def UO (t:TA):TE:=fun σ H Q=>t σ H fun xs H1=>xs.length<=sizeLine/\∀ p,H1 p=none->Q (.ref p) (upd H1 p (.tup xs))
def UP (t:TA):TE:=fun σ H Q=>t σ H fun xs H1=>xs.length<=sizeLine/\∀ p,H1 p=none->Q (.ref p) (upd H1 p (.lst xs))
theorem QB {x1} (h:PA X es t):PE X (.Tuple es x1 pos) (UO t):=by
 intro pins s σ H Q I hq
 refine wpAny_Tuple_spliced (eB (h pos pins s σ H _ I hq) fun us s1 ⟨xs,H1,I1,r,z,q⟩=>⟨by rw [<- r.length];exact z,?_⟩)
 have hf:H1 s1.heap.objs.size=none:=I1.hok.fresh (au _)
 refine ⟨.ref s1.heap.objs.size,upd H1 s1.heap.objs.size (.tup xs),I1.laid (t':=s1.toks) (fun b u e=>ae _ e) (au _) ?_,rfl,q _ hf⟩
 exact ⟨z,us,r,⟨_,ay _ rfl,rfl,_,rfl⟩⟩
theorem rK (h:PA X es t):PE X (.List es pos) (UP t):=by
 intro pins s σ H Q I hq
 refine wpAny_List_spliced (eB (h pos pins s σ H _ I hq) fun us s1 ⟨xs,H1,I1,r,z,q⟩=>⟨by rw [<- r.length];exact z,?_⟩)
 have hf:H1 s1.heap.objs.size=none:=I1.hok.fresh (au _)
 refine ⟨.ref s1.heap.objs.size,upd H1 s1.heap.objs.size (.lst xs),I1.laid (t':=s1.toks) (fun b u e=>ae _ e) (au _) ?_,rfl,q _ hf⟩
 exact ⟨z,us,0,r,ay _ rfl⟩
end
abbrev Sp:=List V->Hp->VK->XK->Prop
abbrev Jg:=List Env->Hp->ac->XK->a9->ac->Prop
structure ND (P:aE) (w:aU) (K:a8) (mg:Str->Option a9) (base:bp) (A:b9) (outer:List Env) (s:ac) (H:Hp):Prop where
 frames:A.frames=some outer
 mod:Mod K mg base
 bs:∀ b o,base.get? b=some o->s.heap.get? b=some o/\H b=none
 bsz:base.objs.size<=s.heap.objs.size
 funs:s.heap.FunFrames base outer
 frf:∀ b∈qc outer,H b=none
 hok:oA P w H s.heap
 bare:oP s.gens
inductive CE (outer:List Env) (P:aE) (w:aU) (H:Hp) (s:ac) (Q:VK) (u:a9) (s':ac):Prop
 | mk (v H':_) (h0:s'.os=s.os) (h1:oP s'.gens) (h2:Un (qc outer) [] H H' s.heap s'.heap) (h3:oA P w H' s'.heap) (h4:cZ v u) (h5:Q v H'):CE outer P w H s Q u s'
def CR (CX:Jg) (outer:List Env) (P:aE) (w:aU) (H:Hp) (s:ac) (Q:VK) (E:XK) (r:oZ) (s':ac):Prop :=
 match r with
 | .ok (.ret u)=>CE outer P w H s Q u s'
 | .ok _=>False
 | .error e=>CX outer H s E e s'
structure uC (P:aE) (w:aU) (K:a8) (mg:Str->Option a9) (base:bp) (CX:Jg) (k:Nat) (f:ah) (fd:eK) (ps:List Str) (sp:Sp):Prop where
 len:∀ vs H Q E,sp vs H Q E->vs.length=ps.length
 run:∀ (A:b9) (outer:List Env) (s:ac) (H:Hp) (args:Args) (us:List a9) (vs:List V) (Q:VK) (E:XK),lv k A->ND P w K mg base A outer s H->yp s fd args (ps.zip us)->du vs us->sp vs H Q E ->
  gN (aG P w) A (.call (.ref f) args) (CR CX outer P w H s Q E) s
theorem uC.imp {P:aE}{w:aU}{K:a8}{mg:Str->Option a9}{base:bp}{CX:Jg}{k:Nat}{f:ah}{fd:eK}{ps:List Str}{sp sp':Sp} (F:uC P w K mg base CX k f fd ps sp)
  (h:∀ vs H Q E,sp' vs H Q E->sp vs H Q E):uC P w K mg base CX k f fd ps sp' :=
 ⟨fun vs H Q E q=>F.len vs H Q E (h _ _ _ _ q),fun A outer s H args us vs Q E hr he hb hv hs=>F.run A outer s H args us vs Q E hr he hb hv (h _ _ _ _ hs)⟩
section
variable {X:Cx}{pins:List (ah×Obj)}{σ:St}{H:Hp}{s s':ac}
theorem bQ.env0 (I:bQ X pins σ H s):ND X.prog X.w X.K X.mg X.base X.A X.stack s H :=
 ⟨I.ok.frames,I.ok.mod,I.bs,bU I.ok.bsz I.sz,I.stack,I.stkFree,I.hok,I.bare⟩
theorem bQ.after {Q:VK}{u:a9} (I:bQ X pins σ H s) (h:CE X.stack X.prog X.w H s Q u s'):EP X pins σ Q u s':=by
 obtain ⟨v,H',os,bare,un,hok,r,q⟩:=h
 obtain ⟨hh,g,d,t,os'⟩:=s'
 obtain rfl:os'=s.os:=os
 exact ⟨v,H',I.call (h':=hh) (g':=g) (d':=d) (t':=t) (ch:=[]) un hok bare (fun b z=>absurd z (by simp)),r,q⟩
end
def Sj (sp:Sp) (dvs:List V) (E:XK) (t:TA):TE:=fun σ H Q=>t σ H fun vs H1=>sp (vs++dvs) H1 Q E
def mV (K:a8) (fd:eK) (ps:List Str) (ds:List a9):Prop :=
 ∀ (s:ac) (us:List a9),K.In s.heap->(us++ds).length=ps.length->yp s fd ⟨us,[]⟩ (ps.zip (us++ds))
theorem mV.all {K:a8}{fd:eK}{ps:List Str} (h:∀ us:List a9,us.length=ps.length->MT fd ⟨us,[]⟩=pure (ps.zip us)):mV K fd ps []:=fun s us _ hl=>by
 rw [bZ] at hl ⊢
 exact .of_eq (h us hl)
def rL (CX:Jg) (X:Cx) (E:XK):Prop:=∀ (pins:List (ah×Obj)) (σ:St) (H:Hp) (s:ac) (e:a9) (s':ac),bQ X pins σ H s->CX X.stack H s E e s'->X.xe e s'
section
variable {X:Cx}{CX:Jg}{k:Nat}{f C:ah}{fd:eK}{ps:List Str}{sp:Sp}{dvs:List V}{ds:List a9}{E:XK}{x m:Str}{p pos apos:Pos}{e o:aQ}{es:List aQ}{ta:TE}{t:TA}
theorem QC {pins:List (ah×Obj)}{σ:St}{H:Hp}{s:ac}{Q:VK}{us:List a9}{vs:List V} (F:uC X.prog X.w X.K X.mg X.base CX k f fd ps sp) (hr:lv k X.A) (hb:mV X.K fd ps ds) (hd:du dvs ds) (hx:rL CX X E)
  (I:bQ X pins σ H s) (r:du vs us) (h:sp (vs++dvs) H Q E):ar (aG X.prog X.w) X.A (call (.ref f) us) (EP X pins σ Q) X.xe s:=by
 have r2:du (vs++dvs) (us++ds):=r.append hd
 have hl:(us++ds).length=ps.length:=by rw [<- r2.length];exact F.len _ _ _ _ h
 refine wpAny_call (rn (F.run X.A X.stack s H ⟨us,[]⟩ (us++ds) (vs++dvs) Q E hr I.env0 (hb s us I.kIn hl) r2 h) fun r s' hq=>?_)
 cases r with
 | error e=>exact hx pins σ H s e s' I hq
 | ok fl =>
  cases fl with
  | ret u=>exact I.after hq
  | next=>exact il hq
  | brk=>exact il hq
  | cont=>exact il hq
theorem NE (F:uC X.prog X.w X.K X.mg X.base CX k f fd ps sp) (hr:lv k X.A) (hg:Gl X x) (hm:X.mg x=some (.ref f)) (hk:j9 X.K (.ref f)=true) (hb:mV X.K fd ps ds) (hd:du dvs ds) (hx:rL CX X E)
  (ha:PA X (e::es) t) (hdb:(x == ("__debug__" : Str))=false:=by decide) (he:aK (e::es) X.env=(false,dU e X.env)::aK es X.env:=by rfl) (hpl:(iR pos (aK es X.env)).any (·.1)=false:=by rfl) :
  PE X (.Call (.Name x p) (e::es) [] pos) (Sj sp dvs E t):=by
 intro pins s σ H Q I h
 refine wC (Ai I hg hm ?_ hdb)
 refine PySem.W.callWith_K (h₀:=X.base) I.ok.mod.kin hk (eB (ha pos pins s σ H _ I h) fun us s1 ⟨vs,H1,I1,r,q⟩=>⟨I1.kIn,?_⟩) he hpl
 exact QC F hr hb hd hx I1 r q
end
section
variable {X:Cx}{CX:Jg}{k:Nat}{f C:ah}{fd:eK}{ps ks:List Str}{sp:Sp}{E:XK}{x m:Str}{p pos apos kpos:Pos}{e o:aQ}{es:List aQ}{kws:List yq}{te ta:TE}{t tk:TA}{nm:Option Str}
variable {g:List a9->List a9->List a9}{gV:List V->List V->List V}
end
structure bN (N P:List Str) (sc:dw):Prop where
 kind:sc.kind=.function
 co:sc.isCoroutine=false
 gen:sc.isGenerator=false
 nd:N.Nodup
 pre:N.take P.length=P
 par:∀ x∈P,sc.names.lookup x=some .local\/sc.names.lookup x=some .cell
 nofree:∀ y∈sc.names,y.2≠.free
theorem zo {kindOf:Str->Option jq}{x:Str}:∀ {binds:List (Str×a9)}{m:Str->Option a9},(∀ v,(x,v)∉binds)->J6 kindOf binds m x=m x
 | [],_,_=>rfl
 | (n,v)::r,m,h=>by
  unfold J6
  rw [zo fun w hw=>h w (aj _ hw)]
  split
  ·have:x≠n:=by rintro rfl;exact h v am
   simp [this]
  ·rfl
theorem zq {kindOf:Str->Option jq}{x:Str}:∀ {binds:List (Str×a9)}{m:Str->Option a9},(∀ v,(x,v)∉binds)->J7 kindOf binds m x=m x
 | [],_,_=>rfl
 | (n,v)::r,m,h=>by
  unfold J7
  rw [zq fun w hw=>h w (aj _ hw)]
  split
  ·rfl
  ·have:x≠n:=by rintro rfl;exact h v am
   simp [this]
theorem zr {kindOf:Str->Option jq}{x:Str}{v:a9}:∀ {P:List Str}{vs:List a9}{i:Nat}{m:Str->Option a9},P.Nodup->P[i]?=some x->vs[i]?=some v->kindOf x=some .local ->
  J6 kindOf (P.zip vs) m x=some v
 | [],_,_,_,_,h,_,_=>by simp at h
 | _::_,[],_,_,_,_,h,_=>by simp at h
 | p::P,w::vs,0,m,nd,h1,h2,hk=>by
  simp at h1 h2;subst h1;subst h2
  show J6 kindOf ((p,w)::P.zip vs) m p=_
  unfold J6
  rw [zo fun v hv=>(List.nodup_cons.mp nd).1 (yh hv).1,if_pos hk]
  simp
 | p::P,w::vs,i + 1,m,nd,h1,h2,hk=>by
  show J6 kindOf ((p,w)::P.zip vs) m x=_
  unfold J6
  exact zr (i:=i) (List.nodup_cons.mp nd).2 (by simpa using h1) (by simpa using h2) hk
theorem zt {kindOf:Str->Option jq}{x:Str}{v:a9}:∀ {P:List Str}{vs:List a9}{i:Nat}{m:Str->Option a9},P.Nodup->P[i]?=some x->vs[i]?=some v->kindOf x≠some .local ->
  J7 kindOf (P.zip vs) m x=some v
 | [],_,_,_,_,h,_,_=>by simp at h
 | _::_,[],_,_,_,_,h,_=>by simp at h
 | p::P,w::vs,0,m,nd,h1,h2,hk=>by
  simp at h1 h2;subst h1;subst h2
  show J7 kindOf ((p,w)::P.zip vs) m p=_
  unfold J7
  rw [zq fun v hv=>(List.nodup_cons.mp nd).1 (yh hv).1,if_neg hk]
  simp
 | p::P,w::vs,i + 1,m,nd,h1,h2,hk=>by
  show J7 kindOf ((p,w)::P.zip vs) m x=_
  unfold J7
  exact zt (i:=i) (List.nodup_cons.mp nd).2 (by simpa using h1) (by simpa using h2) hk
def start (N:List Str) (vs:List V):St:=vs.map some++qU (N.length - vs.length) none
def js (CX:Jg) (P:aE) (w:aU) (K:a8) (mg:Str->Option a9) (base:bp) (N:List Str) (qual:Str) (scope:dw) (f:ah) (cd:a9) (A:b9) (outer:List Env) (s:ac) (H:Hp) (E:XK):Cx where
 prog:=P
 w:=w
 K:=K
 mg:=mg
 base:=base
 A:=A.deeper (ro qual scope s.heap.objs.size f cd)
 N:=N
 s₀:=s
 H₀:=H
 env:=ro qual scope s.heap.objs.size f cd
 outer:=outer
 stack:=ro qual scope s.heap.objs.size f cd::outer
 ex:=[]
 calm:=true
 fn:=fun _=>true
 pn:=[]
 xe:=fun e s'=>ar (aG P w) (A.deeper (ro qual scope s.heap.objs.size f cd)) (leaving (ro qual scope s.heap.objs.size f cd) e) (fun _ s''=>CX outer H s E e s'') (fun e' s''=>CX outer H s E e' s'') s'
theorem BY {sc:dw}{n:Nat}{x:Str} (h:sc.names.lookup x=some .cell):∃ c,(aP n sc.names []).lookup x=some c:=by
 have q:=gx sc.names n [] (.inl h)
 exact Option.isSome_iff_exists.mp q
theorem HI {CX:Jg}{P:aE}{w:aU}{K:a8}{mg:Str->Option a9}{base:bp}{N ps:List Str}{qual:Str}{scope:dw}{f:ah}{cd:a9}{A:b9}{outer:List Env}{s s1:ac}{H:Hp}{E:XK}{us:List a9}{vs:List V}
  (S:bN N ps scope) (hd:A.handled=none) (e0:ND P w K mg base A outer s H) (hl:vs.length=ps.length) (r:du vs us)
  (x:InCallC s s.heap.objs.size (J6 (ro qual scope s.heap.objs.size f cd).kindOf (ps.zip us) fun _=>none) (aP (s.heap.objs.size + 1) scope.names []) (J7 (ro qual scope s.heap.objs.size f cd).kindOf (ps.zip us) fun _=>none) s1) :
  bQ (js CX P w K mg base N qual scope f cd A outer s H E) [] (start N vs) H s1:=by
 have hpl:ps.length<=N.length:=by have:=congrArg qV S.pre;rw [we] at this;omega
 obtain ⟨h1,tk,rfl,hk⟩:=x.done
 have noA:∀ b:ah,b∉(js CX P w K mg base N qual scope f cd A outer s H E).ex:=fun b z=>absurd (show b∈([] : List ah) from z) (by simp)
 refine ⟨⟨e0.mod,S.kind,rfl,rfl,au _,fun y z c h1 h2=>?_,fun y hy=>?_,fun y c _ h=>?_,fun _=>hd,Around.frames_deeper e0.frames,.inr ⟨rfl,rfl⟩,fun b z=>absurd z (noA b),e0.bs,e0.bsz,fun b _ _=>noA b,fun b z=>absurd z (noA b),e0.funs,e0.frf⟩,
  rfl,e0.bare,Un.kept hk,⟨_,x.toInCall.ns,fun i y v h1 h2 h3=>?_⟩,fun y c h=>⟨_,x.cell y c h⟩,e0.hok.fresh (au _),fun y c h=>?_,fun p hp=>absurd (show p∈([] : List (ah×Obj)) from hp) (by simp),e0.hok.kept hk,?_⟩
 ·exact name_of_addr x.apart (de h1) (de h2)
 ·have hy:scope.names.lookup y=some .cell\/scope.names.lookup y=some .free:=hy
  rcases hy with hy | hy
  ·exact BY hy
  ·exact absurd rfl (S.nofree _ (de hy))
 ·exact cp (x.above y c (de h))
 ·have hi:i<vs.length:=by
   unfold start at h2
   by_cases hi:i<vs.length
   ·exact hi
   ·rw [bc (by simpa using hi)] at h2
    rw [bY] at h2
    split at h2<;>cases h2
  have ha:vs[i]?=some v:=by
   unfold start at h2
   rw [aW (by simpa using hi),aX] at h2
   cases e:vs[i]? with
   | none=>rw [e] at h2;cases h2
   | some a=>rw [e] at h2;cases h2;rfl
  obtain ⟨u,hu,rv⟩:=r.get ha
  have hp:ps[i]?=some y:=by
   rw [<- S.pre,List.getElem?_take_of_lt (by omega)];exact h1
  have ndP:ps.Nodup:=by rw [<- S.pre];exact S.nd.sublist (List.take_sublist _ _)
  refine ⟨u,rv,?_⟩
  rcases S.par y (dE hp) with k | k
  ·exact .inl ⟨k,zr ndP hp hu k⟩
  ·obtain ⟨c,e⟩:=BY (n:=s.heap.objs.size + 1) k
   refine .inr ⟨.inl k,c,e,?_⟩
   have q:=x.cell y c e
   rw [zt ndP hp hu (by show scope.names.lookup y≠_;rw [k];decide)] at q
   exact q
 ·exact e0.hok.fresh (cp (x.above y c (de h)))
 ·unfold start
  show _=N.length
  rw [aN,ao,cJ]
  omega
theorem Sk {CX:Jg}{P:aE}{w:aU}{K:a8}{mg:Str->Option a9}{base:bp}{k:Nat}{f:ah}{name qual:Str}{params:Arguments}{body:List cA}{scope:dw}{dV kV doc pm cdv ct oc:a9}{an od:Option ah}
  {osl:Array (Option a9)}{N ps:List Str}{sp:Sp} (lk:K.lookup f=some ⟨oc,od,.func (fE name qual params body scope dV kV doc pm an cdv ct),osl⟩) (hcd:lm K cdv qual=true) (S:bN N ps scope)
  (len:∀ vs H Q E,sp vs H Q E->vs.length=ps.length)
  (hbody:∀ (A:b9) (outer:List Env) (s:ac) (H:Hp) (vs:List V) (Q:VK) (E:XK),lv k (A.deeper (ro qual scope s.heap.objs.size f cdv))->sp vs H Q E ->
   ∃ t,FS (js CX P w K mg base N qual scope f cdv A outer s H E) body t/\t { nx:=fun _ H'=>Q .non H',rt:=Q } (start N vs) H) :
  uC P w K mg base CX (k + 1) f (fE name qual params body scope dV kV doc pm an cdv ct) ps sp:=by
 refine ⟨len,fun A outer s H args us vs Q E hr e0 hb r hsp=>?_⟩
 have hl:=len _ _ _ _ hsp
 have KX:K.In s.heap:=e0.mod.kin.keeps fun b o e=>(e0.bs b o e).1
 have lim:s.heap.NoLimit:=e0.mod.nolimit.keeps fun b o e=>(e0.bs b o e).1
 have hkind:∀ y∈ps.zip us,scope.names.lookup y.1=some .local\/(scope.names.lookup y.1=some .cell/\((aP (s.heap.objs.size + 1) scope.names []).lookup y.1).isSome=true):=fun ⟨n,v⟩ hy=>by
  rcases S.par n (yh hy).1 with q | q
  ·exact .inl q
  ·exact .inr ⟨q,gx _ _ _ (.inl q)⟩
 refine codeAny_call_function hr.depth (KX _ _ lk) rfl S.co S.gen rfl (Ea KX hcd) (hb _ _ _ _ ?_)
 refine wpAny_newFunctionEnv_cells S.kind hkind fun env he s1 x=>?_
 subst he
 refine ⟨lim.keeps x.toInCall.keep,codeAny_func ?_⟩
 obtain ⟨t,ht,hq⟩:=hbody A outer s H vs Q E (hr.deeper _) hsp
 have I:bQ (js CX P w K mg base N qual scope f cdv A outer s H E) [] (start N vs) H s1:=HI S hr.hd e0 hl r x
 refine bi (ht [] s1 (start N vs) H _ I hq) (fun fl s' hs=>?_) fun e s' hs=>hs
 have fin:∀ {σ':St}{H':Hp}{v:V}{u:a9},bQ (js CX P w K mg base N qual scope f cdv A outer s H E) [] σ' H' s'->cZ v u->Q v H'->CE outer P w H s Q u s' :=
  fun {σ' H' v u} J rv q=>⟨v,H',J.os,J.bare,J.base,J.hok,rv,q⟩
 cases fl with
 | ret u =>
  obtain ⟨v,σ',H',J,rv,q⟩:=hs
  exact fin J rv q
 | next =>
  obtain ⟨σ',H',J,q⟩:=hs
  exact fin (v:=V.non) (u:=dS) J rfl q
 | brk =>
  obtain ⟨_,_,_,q⟩:=hs
  exact il q
 | cont =>
  obtain ⟨_,_,_,q⟩:=hs
  exact il q
end L2
namespace L2
open PySem PySem.Spec PyProof.Rows
section
variable {X:Cx}{x:Str}{p pos:Pos}{e:aQ}{es:List aQ}{t:TA}{id T:String}{r:List V->Hp->VK->Prop}
def Sm (r:List V->Hp->VK->Prop) (t:TA):TE:=fun σ H Q=>t σ H fun vs H1=>r vs H1 Q
theorem tj (hc:jb X (.builtin id) r) (hg:Gl X x) (hm:X.mg x=none) (hv:h_ x=some (.builtin id)) (ha:PA X (e::es) t) (hn:x≠"__name__":=by decide) (hdb:(x == ("__debug__" : Str))=false:=by decide)
  (he:aK (e::es) X.env=(false,dU e X.env)::aK es X.env:=by rfl) (hpl:(iR pos (aK es X.env)).any (·.1)=false:=by rfl):PE X (.Call (.Name x p) (e::es) [] pos) (Sm r t):=by
 intro pins s σ H Q I h
 refine wC (uA I hg hm hv ?_ hn hdb)
 exact PyProof.Rows.callWith_builtin1 (eB (ha pos pins s σ H _ I h) fun us s1 h_27=>by obtain ⟨vs,H1,I1,r1,q1⟩:=h_27;exact hc pins s1 σ H1 vs us Q I1 r1 q1) he hpl
theorem zu (hc:jb X (.type T) r) (hg:Gl X x) (hm:X.mg x=none) (hv:h_ x=some (.type T)) (ha:PA X (e::es) t) (hn:x≠"__name__":=by decide) (hdb:(x == ("__debug__" : Str))=false:=by decide)
  (he:aK (e::es) X.env=(false,dU e X.env)::aK es X.env:=by rfl) (hpl:(iR pos (aK es X.env)).any (·.1)=false:=by rfl):PE X (.Call (.Name x p) (e::es) [] pos) (Sm r t):=by
 intro pins s σ H Q I h
 refine wC (uA I hg hm hv ?_ hn hdb)
 exact gq (eB (ha pos pins s σ H _ I h) fun us s1 h_28=>by obtain ⟨vs,H1,I1,r1,q1⟩:=h_28;exact hc pins s1 σ H1 vs us Q I1 r1 q1) he hpl
end
end L2
namespace HT
open PySem PyProof.Rows
section
open PySem.SeqAt
open PySem.AutoSeq1 (wpAny_loadPart')
open PySem.MeetsSeq PySem.MeetsSeq2 PySem.MeetsSeq3
end
section
variable {prog:aE}{w:aU}{A:b9}{E:a9->ac->Prop}{s:ac}
theorem NF {t b:ah}{vs ws:List a9}{Q:a9->ac->Prop} (ht:IsTup s.heap t vs.toArray) (hb:IsTup s.heap b ws.toArray) (hv:vs≠[])
  (h1:ws=[]->Q (.ref t) s) (h2:ws≠[]->Q (.ref s.heap.objs.size) { s with heap:=s.heap.push { cls:=.type "tuple",data:=.seq (vs++ws).toArray } })
  (hsz:vs.length + ws.length<=sizeLine):ar (aG prog w) A (fN .Add (.ref t) (.ref b)) Q E s:=by
 obtain ⟨⟨cls,dd,data,sl⟩,ho,hc,n,hd⟩:=id ht
 obtain ⟨⟨cls2,dd2,data2,sl2⟩,ho2,hc2,n2,hd2⟩:=id hb
 simp only at hc hd hc2 hd2
 subst hc hd hc2 hd2
 have e:vs.toArray++ws.toArray=(vs++ws).toArray:=by simp
 by_cases hw:ws=[]
 ·exact yr ⟨_,ho,rfl⟩ ⟨_,ho2,rfl⟩ Ad Hk nw mT (mD _ _)
   (tuple_addW1 t b vs.toArray ws.toArray n n2 dd dd2 sl sl2 (by simpa using hv) (by simp [hw])) ⟨ho,ho2,h1 hw⟩
 ·refine yr ⟨_,ho,rfl⟩ ⟨_,ho2,rfl⟩ Ad Hk nw mT (mD _ _)
   (tuple_addW2 t b vs.toArray ws.toArray n n2 dd dd2 sl sl2 (by simpa using hv) (by simpa using hw) (by rw [aR,aR];exact hsz)) ⟨ho,ho2,?_⟩
  rw [e]
  exact h2 hw
def iz (n d:Nat):Option Int->Nat
 | none=>d
 | some v=>if v<0 then (v + (n:Int)).toNat else min v.toNat n
theorem BZ (n d:Nat):iz n d none=d:=rfl
theorem FU (n d k:Nat):iz n d (some (k:Int))=min k n:=by
 show (if (k:Int)<0 then ((k:Int) + (n:Int)).toNat else min (k:Int).toNat n)=min k n
 rw [if_neg (by omega),jz]
theorem QD (n d:Nat) (hd:d<=n) (o:Option Int):iz n d o<=n:=by
 cases o with
 | none=>exact hd
 | some v =>
  show (if v<0 then (v + (n:Int)).toNat else min v.toNat n)<=n
  by_cases hv:v<0
  ·rw [if_pos hv];omega
  ·rw [if_neg hv];exact oM _ _
theorem FV (v:Int) (n d:Nat):(if v<0 then max (v + (n:Int)) 0 else min v (n:Int))=((iz n d (some v):Nat):Int):=by
 show (if v<0 then max (v + (n:Int)) 0 else min v (n:Int))=(((if v<0 then (v + (n:Int)).toNat else min v.toNat n):Nat):Int)
 by_cases hv:v<0
 ·simp only [if_pos hv];omega
 ·simp only [if_neg hv];omega
theorem Ez (lo hi:Option Int) (n:Nat):kg lo hi 1 (n:Int)=(((iz n 0 lo:Nat):Int),((iz n n hi:Nat):Int)):=by
 have h1:¬ ((1:Int)<0):=by omega
 unfold kg
 simp only [h1,if_false]
 refine Prod.ext ?_ ?_
 ·cases lo with
  | none=>rfl
  | some v=>exact FV v n 0
 ·cases hi with
  | none=>rfl
  | some v=>exact FV v n n
theorem EA (i j:Nat):gY (i:Int) (j:Int) 1=j - i:=by
 unfold gY
 have h1:(1:Int) > 0:=by omega
 simp only [h1,if_true,Int.ediv_one]
 split<;>omega
theorem wK {v:a9}{o:Option Int}{Q:Option Int->ac->Prop} (p:ur v o) (h:Q o s):ar (aG prog w) A (Builtin.Slice.slicePartIndex v) Q E s:=by
 cases p with
 | none=>exact slicePart_none h
 | int i t=>exact slicePart_int h
theorem mW {sl:ah}{vl vu:a9}{lo hi:Option Int}{n:Nat}{Q:Int×Int×Nat->ac->Prop} (hs:s.heap.IsSliceOf sl vl vu .none) (pl:ur vl lo) (pu:ur vu hi)
  (h:Q (((iz n 0 lo:Nat):Int),1,iz n n hi - iz n 0 lo) s):ar (aG prog w) A (sW (.ref sl) (pure (n:Int))) Q E s:=by
 obtain ⟨os,hos,hcs,hds⟩:=id hs
 unfold sW Builtin.Slice.sliceFields
 refine a7 (a7 (dz hos hds (x:=vl) rfl (a7 (dz hos hds (x:=vu) rfl (a7 (dz hos hds (x:=.none) rfl (aa ?_)))))))
 refine a7 (slicePart_none ?_)
 show ar _ _ (if ((1:Int) == 0)=true then _ else _) _ _ s
 rw [if_neg (by decide)]
 refine a7 (wK pl (a7 (wK pu (a7 (aa ?_)))))
 show ar _ _ (match kg lo hi 1 (n:Int) with | (lo,hi)=>pure (lo,(1:Int),gY lo hi 1)) _ _ s
 rw [Ez lo hi n]
 show ar _ _ (pure (((iz n 0 lo:Nat):Int),(1:Int),gY ((iz n 0 lo:Nat):Int) ((iz n n hi:Nat):Int) 1)) _ _ s
 rw [EA]
 exact aa h
theorem K1 (xs:Array a9) (i k:Nat):((bD k).filterMap fun (m:Nat)=>xs[((i:Int) + (m:Int) * 1).toNat]?).toArray=((xs.toList.drop i).take k).toArray:=by
 have e:(fun (m:Nat)=>xs[((i:Int) + (m:Int) * 1).toNat]?)=fun m=>xs[i + m]?:=by
  funext m
  have:((i:Int) + (m:Int) * 1).toNat=i + m:=by omega
  rw [this]
 rw [e]
 have:=pick_run xs i k
 rw [lT] at this
 have e2:((fun x=>xs[x]?)∘fun x=>i + x)=fun m=>xs[i + m]?:=rfl
 rw [e2] at this
 rw [this]
theorem tm {t sl:ah}{items:Array a9}{vl vu:a9}{lo hi:Option Int}{Q:a9->ac->Prop} (ht:IsTup s.heap t items) (hs:s.heap.IsSliceOf sl vl vu .none) (pl:ur vl lo) (pu:ur vu hi)
  (hw:¬ (iz items.size 0 lo=0/\iz items.size items.size hi=items.size))
  (h:Q (.ref s.heap.objs.size) { s with heap:=s.heap.push { cls:=.type "tuple",data:=.seq ((items.toList.drop (iz items.size 0 lo)).take (iz items.size items.size hi - iz items.size 0 lo)).toArray } })
  (hsz:items.size<=sizeLine):ar (aG prog w) A (oQ (.ref t) (.ref sl)) Q E s:=by
 have htake:sizeOk (.seq ((items.toList.drop (iz items.size 0 lo)).take (iz items.size items.size hi - iz items.size 0 lo)).toArray):=by
  show ((items.toList.drop (iz items.size 0 lo)).take (iz items.size items.size hi - iz items.size 0 lo)).toArray.size<=sizeLine
  rw [aR,we,wf,av]
  omega
 have hj:iz items.size items.size hi<=items.size:=QD _ _ (au _) hi
 obtain ⟨os,hos,hcs,hds⟩:=id hs
 have hTs:s.TypeIs (.ref sl) "slice":=⟨os,hos,hcs⟩
 unfold oQ
 try with_reducible refine db ?_
 first | refine a7 (aa ?_) | skip
 refine a7 (wpAny_sequenceKey ht.typeIs (by decide) ?_)
 refine a7 (cc (name:=fZ "__getitem__") ht.typeIs ft
  (b_ ft ht.typeIs entry_tuple_getitem ?_ (args_tuple_getitem _ _)))
 show ar _ _ (sX (.ref t) >>= _) _ _ s
 refine a7 (tupleItemsOf_ ht ?_)
 refine a7 (rq hTs ?_)
 rw [if_pos (by decide)]
 refine a7 (mW hs pl pu ?_)
 have hno:¬ ((((iz items.size 0 lo:Nat):Int) == 0 && (1:Int) == 1 && (iz items.size items.size hi - iz items.size 0 lo) == items.size)=true):=by
  intro q
  rw [aO,aO] at q
  have q1:((iz items.size 0 lo:Nat):Int)=0:=eq_of_beq q.1.1
  have q2:iz items.size items.size hi - iz items.size 0 lo=items.size:=eq_of_beq q.2
  exact hw ⟨by omega,by omega⟩
 show ar _ _ (if (((iz items.size 0 lo:Nat):Int) == 0 && (1:Int) == 1 && (iz items.size items.size hi - iz items.size 0 lo) == items.size)=true then _ else _) _ _ s
 rw [if_neg hno,K1]
 first
  | exact a7 (m:=i4 _) (bL (aa ⟨_,rfl,aa h⟩) htake)
  | exact a7 (m:=i4 _) (bL (a7 (aa (aa ⟨_,rfl,aa h⟩))) htake)
  | exact a7 (a7 (m:=i4 _) (bL (aa (aa ⟨_,rfl,aa h⟩)) htake))
  | exact a7 (a7 (m:=i4 _) (bL (aa ⟨_,rfl,aa h⟩) htake))
end
end HT
namespace L2
open PySem PySem.Spec PyProof.Rows
abbrev TO:=St->Hp->(Option Int->Hp->Prop)->Prop
def PO (X:Cx) (e:Option aQ) (t:TO):Prop :=
 ∀ (pins:List (ah×Obj)) (s:ac) (σ:St) (H:Hp) (Q:Option Int->Hp->Prop),bQ X pins σ H s->t σ H Q ->
  ar (aG X.prog X.w) X.A (evalPart e X.env) (fun u s'=>∃ o H',bQ X pins σ H' s'/\ur u o/\Q o H') X.xe s
def NG:TO:=fun _ H Q=>Q none H
def Sn (t:TE):TO:=fun σ H Q=>t σ H fun x H1=>∃ i,x=.int i/\Q (some i) H1
section
variable {X:Cx}{e:aQ}{te:TE}{lo hi:Option aQ}{tl th:TO}{pos p2:Pos}
theorem NH:PO X none NG:=by
 intro pins s σ H Q I h
 rw [evalPart_none]
 exact aa ⟨none,H,I,.none,h⟩
theorem NI (h:PE X e te):PO X (some e) (Sn te):=by
 intro pins s σ H Q I hw
 rw [evalPart_some]
 refine eB (h pins s σ H _ I hw) fun u s1 h_29=>?_
 obtain ⟨x,H1,I1,r1,q1⟩:=h_29
 obtain ⟨i,rfl,q⟩:=q1
 obtain ⟨t,rfl⟩:=r1
 exact ⟨some i,H1,I1,.int i t,q⟩
def So (X:Cx) (r:V->Option Int->Option Int->Hp->VK->Prop):Prop :=
 ∀ (pins:List (ah×Obj)) (s:ac) (σ:St) (H:Hp) (x:V) (v vl vu:a9) (lo hi:Option Int) (sl:ah) (Q:VK),bQ X pins σ H s->cZ x v->s.heap.IsSliceOf sl vl vu .none->ur vl lo->ur vu hi->r x lo hi H Q ->
  ∃ T id,typeLookup (.type T) "__getitem__"=pure (some (.builtin id))/\s.TypeIs v T/\ar (aG X.prog X.w) X.A (oQ v (.ref sl)) (EP X pins σ Q) X.xe s
def W3 (r:V->Option Int->Option Int->Hp->VK->Prop) (te:TE) (tl th:TO):TE:=fun σ H Q=>te σ H fun x H1=>tl σ H1 fun l H2=>th σ H2 fun u H3=>r x l u H3 Q
theorem K2 {r:V->Option Int->Option Int->Hp->VK->Prop} (hr:So X r) (he:PE X e te) (hl:PO X lo tl) (hu:PO X hi th):PE X (.Subscript e (.Slice lo hi none p2) pos) (W3 r te tl th):=by
 intro pins s σ H Q I h
 refine Subscript_ (eB (he pins s σ H _ I h) fun v s1 ⟨x,H1,I1,r1,q1⟩=>?_)
 refine wpAny_Slice (eB (hl pins s1 σ H1 _ I1 q1) fun vl s2 ⟨l,H2,I2,pl,q2⟩=>eB (hu pins s2 σ H2 _ I2 q2) fun vu s3 ⟨u,H3,I3,pu,q3⟩=>?_)
 rw [evalPart_none]
 refine aa ?_
 have I4:bQ X pins σ H3 { s3 with heap:=s3.heap.push { cls:=.type "slice",data:=.fields #[vl,vu,.none] } }:=I3.kept (t':=s3.toks) fun b ob q=>ae _ q
 obtain ⟨T,id,hT,ht,hg⟩:=hr pins { s3 with heap:=s3.heap.push { cls:=.type "slice",data:=.fields #[vl,vu,.none] } } σ H3 x v vl vu l u s3.heap.objs.size Q I4 r1 (Heap.IsSliceOf.new ..) pl pu q3
 show ar (aG X.prog X.w) X.A (Hl e (.Slice lo hi none p2) v (.ref s3.heap.objs.size)) (EP X pins σ Q) X.xe { s3 with heap:=s3.heap.push { cls:=.type "slice",data:=.fields #[vl,vu,.none] } }
 exact tail_any (ops:=[.ref s3.heap.objs.size,v]) ht hT hg (by with_unfolding_all rfl)
def B_ (xs:List V) (lo hi:Option Int):List V:=(xs.drop (HT.iz xs.length 0 lo)).take (HT.iz xs.length xs.length hi - HT.iz xs.length 0 lo)
theorem vk (xs:List V) (lo hi:Option Int):(B_ xs lo hi).length<=xs.length:=by
 unfold B_
 rw [we,wf]
 omega
def UQ (K:a8):V->Option Int->Option Int->Hp->VK->Prop:=fun x lo hi H Q=>∃ a xs,x=.ref a/\jZ K H a xs /\
 ¬ (HT.iz xs.length 0 lo=0/\HT.iz xs.length xs.length hi=xs.length)/\∀ p,H p=none->Q (.ref p) (upd H p (.tup (B_ xs lo hi)))
theorem QE:So X (UQ X.K):=by
 intro pins s σ H x v vl vu lo hi sl Q I rx hs pl pu h
 obtain ⟨a,xs,rfl,hx,hw,q⟩:=h
 cases rx
 obtain ⟨its,r,ht,hz⟩:=I.tuple hx
 have hlen:its.toArray.size=xs.length:=by rw [aR];exact r.length.symm
 refine ⟨"tuple",_,PyProof.Rows.slot_tuple_getitem.lookup,ht.typeIs,?_⟩
 refine HT.tm ht hs pl pu (by rw [hlen];exact hw) ?_ (by rw [hlen];exact hz)
 rw [hlen]
 refine ⟨.ref s.heap.objs.size,_,I.laid (t':=s.toks) (o:=.tup (B_ xs lo hi)) (fun b ob q=>ae _ q) (au _) ?_,rfl,q _ (I.hok.fresh (au _))⟩
 exact ⟨bU (vk xs lo hi) hz,_,(r.drop (HT.iz xs.length 0 lo)).take (HT.iz xs.length xs.length hi - HT.iz xs.length 0 lo),vK _ _⟩
inductive K3 (K:a8) (x:V) (y:V) (H:Hp) (Q:VK):Prop
 | mk (a b xs ys:_) (h0:x=.ref a) (h1:y=.ref b) (h2:jZ K H a xs) (h3:jZ K H b ys) (h4:xs≠[]) (h5:xs.length + ys.length<=sizeLine) (h6:(ys=[]->Q (.ref a) H)) (h7:(ys≠[]->∀ p,H p=none->Q (.ref p) (upd H p (.tup (xs++ys))))):K3 K x y H Q
def Sq (K:a8):R2:=K3 K
theorem du.nil_iff {xs:List V}{us:List a9} (r:du xs us):us=[]↔xs=[]:=by
 cases r with
 | nil=>simp
 | cons _ _=>simp
theorem NJ:oX X (fN .Add) (Sq X.K):=by
 intro pins s σ H x y v u Q I rx ry h
 obtain ⟨a,b,xs,ys,rfl,rfl,ha,hb,hx,hz,q1,q2⟩:=h
 cases rx
 cases ry
 obtain ⟨its,r1,p1,_⟩:=I.tuple ha
 obtain ⟨its2,r2,p2,_⟩:=I.tuple hb
 refine HT.NF p1 p2 (fun z=>hx (r1.nil_iff.mp z)) (fun z=>⟨.ref a,H,I,rfl,q1 (r2.nil_iff.mp z)⟩) (fun z=>?_) (by rw [<- r1.length,<- r2.length];exact hz)
 refine ⟨.ref s.heap.objs.size,_,I.laid (t':=s.toks) (o:=.tup (xs++ys)) (fun b ob q=>ae _ q) (au _) ?_,rfl,q2 (fun w=>z (r2.nil_iff.mpr w)) _ (I.hok.fresh (au _))⟩
 exact ⟨by rw [aN];exact hz,_,r1.append r2,vK _ _⟩
end
end L2
namespace L2
open PySem PySem.Spec PyProof.Rows
def QF (n:Nat) (i:Int):Option Nat:=if 0<=i then (if i<n then some i.toNat else none) else if -(n:Int)<=i then some (i + n).toNat else none
def EB {α:Type} (xs:List α) (i:Int):Option α:=(QF xs.length i).bind fun j=>xs[j]?
theorem NK {n:Nat}{i:Int}{j:Nat} (h:QF n i=some j):seqIndex? i n=some j/\j<n/\-(n:Int)<=i/\i<n:=by
 unfold QF at h
 by_cases h0:0<=i
 ·rw [if_pos h0] at h
  by_cases h1:i<n
  ·rw [if_pos h1] at h
   have e:i.toNat=j:=bF h
   exact ⟨by rw [seqIndex_of h0 h1,e],by omega,by omega,h1⟩
  ·rw [if_neg h1] at h;cases h
 ·rw [if_neg h0] at h
  by_cases h1:-(n:Int)<=i
  ·rw [if_pos h1] at h
   have e:(i + n).toNat=j:=bF h
   exact ⟨by rw [seqIndex_neg (by omega) h1,e],by omega,h1,by omega⟩
  ·rw [if_neg h1] at h;cases h
theorem Am {α:Type}{xs:List α}{i:Int}{v:α} (h:EB xs i=some v):∃ j,seqIndex? i xs.length=some j/\xs[j]?=some v/\j<xs.length/\-(xs.length:Int)<=i/\i<xs.length:=by
 unfold EB at h
 cases e:QF xs.length i with
 | none=>rw [e] at h;cases h
 | some j =>
  rw [e] at h
  obtain ⟨h1,h2,h3,h4⟩:=NK e
  exact ⟨j,h1,h,h2,h3,h4⟩
theorem tq {α:Type}{xs:List α}{j:Nat}{v:α} (h:xs[j]?=some v):EB xs (j:Int)=some v:=by
 have hj:j<xs.length:=(List.getElem?_eq_some_iff.mp h).1
 have e:QF xs.length (j:Int)=some j:=by
  unfold QF
  rw [if_pos (by omega),if_pos (by omega)];simp
 unfold EB;rw [e];exact h
def tu (b:aQ):Prop:=∀ o i,BH b false o i=operate [o,i] (oQ o i)
def Sr (X:Cx) (r:R2):Prop :=
 ∀ (value slice:aQ) (pins:List (ah×Obj)) (s:ac) (σ:St) (H:Hp) (x y:V) (v u:a9) (Q:VK),bQ X pins σ H s->cZ x v->cZ y u->r x y H Q ->
  BH slice false v u=operate [v,u] (oQ v u)->ar (aG X.prog X.w) X.A (Hl value slice v u) (EP X pins σ Q) X.xe s
def W4 (X:Cx) (id:String) (r:V->List V->Hp->VK->Prop):Prop :=
 ∀ (pins:List (ah×Obj)) (s:ac) (σ:St) (H:Hp) (x:V) (xs:List V) (v:a9) (us:List a9) (Q:VK),bQ X pins σ H s->cZ x v->du xs us->r x xs H Q ->
  ar (aG X.prog X.w) X.A (call (.builtin id) (v::us)) (EP X pins σ Q) X.xe s
section
variable {X:Cx}{a b:aQ}{ta tb:TE}{pos:Pos}
theorem P0 {r:R2} (hr:Sr X r) (ha:PE X a ta) (hb:PE X b tb) (hs:tu b):PE X (.Subscript a b pos) (Sc r ta tb):=by
 intro pins s σ H Q I h
 exact Subscript_ (Qq ha hb I h fun v u s2 x y H2 I2 rx ry q=>hr a b pins s2 σ H2 x y v u Q I2 rx ry q (hs _ _))
inductive P1 (K:a8) (x:V) (y:V) (H:Hp) (Q:VK):Prop
 | mk (p xs i v:_) (h0:x=.ref p) (h1:y=.int i) (h2:nB K H p xs) (h3:EB xs i=some v) (h4:Q v H):P1 K x y H Q
def UR (K:a8):R2:=P1 K
inductive P2 (K:a8) (x:V) (y:V) (H:Hp) (Q:VK):Prop
 | mk (p xs i v:_) (h0:x=.ref p) (h1:y=.int i) (h2:jZ K H p xs) (h3:EB xs i=some v) (h4:Q v H):P2 K x y H Q
def US (K:a8):R2:=P2 K
inductive P3 (x:V) (y:V) (H:Hp) (Q:VK):Prop
 | mk (z i c:_) (h0:x=.str z) (h1:y=.int i) (h2:z.length<=sizeLine) (h3:EB z.cps.toList i=some c) (h4:Q (.str ⟨#[c]⟩) H):P3  x y H Q
def UT:R2:=P3
theorem tw:Sr X (UR X.K):=by
 intro value slice pins s σ H x y v u Q I rx ry h hs
 obtain ⟨p,xs,i,z,rfl,rfl,hq,he,q⟩:=h
 cases rx
 obtain ⟨t,rfl⟩:=ry
 obtain ⟨its,r,pl,hz⟩:=I.list hq
 obtain ⟨j,h1,h2,h3,h4,h5⟩:=Am he
 obtain ⟨w,ew,rw'⟩:=r.get h2
 have hl:=r.length
 have hn:=uB
 have fin:EP X pins σ Q w s:=⟨z,H,I,rw',q⟩
 by_cases h0:0<=i
 ·have hj:i.toNat=j:=by
   rw [seqIndex_of h0 h5] at h1
   exact bF h1
  exact item_listR pl.isList h0 (by omega) (by rw [hj];simpa using ew) fin hs
 ·have hj:(i + (its.toArray.size:Int)).toNat=j:=by
   rw [seqIndex_neg (by omega) h4] at h1
   rw [aR,<- hl]
   exact bF h1
  exact Jo (x:=w) pl.isList.typeIs slot_list_getitem.lookup
   (wpAny_getItem_list_neg (Q:=fun r s'=>r=w/\EP X pins σ Q r s') pl.isList (by omega) (by rw [aR]<;>omega) (by omega) (by rw [hj];simpa using ew) ⟨rfl,fin⟩) hs
theorem QG:Sr X (US X.K):=by
 intro value slice pins s σ H x y v u Q I rx ry h hs
 obtain ⟨p,xs,i,z,rfl,rfl,hq,he,q⟩:=h
 cases rx
 obtain ⟨t,rfl⟩:=ry
 obtain ⟨its,r,pl,hz⟩:=I.tuple hq
 obtain ⟨j,h1,h2,h3,h4,h5⟩:=Am he
 obtain ⟨w,ew,rw'⟩:=r.get h2
 have hl:=r.length
 have hn:=uB
 have fin:EP X pins σ Q w s:=⟨z,H,I,rw',q⟩
 exact Jo (x:=w) pl.typeIs slot_tuple_getitem.lookup
  (getItem_tuple (j:=j) (Q:=fun r s'=>r=w/\EP X pins σ Q r s') pl (by omega) (by omega) (by rw [aR,<- hl];exact h1) (by simpa using ew) ⟨rfl,fin⟩) hs
theorem QH:Sr X UT:=by
 intro value slice pins s σ H x y v u Q I rx ry h hs
 obtain ⟨z,i,c,rfl,rfl,hz,he,q⟩:=h
 obtain ⟨t,rfl⟩:=rx
 obtain ⟨t',rfl⟩:=ry
 obtain ⟨j,h1,h2,h3,h4,h5⟩:=Am he
 have hl:z.cps.toList.length=z.length:=by simp [Str.length]
 rw [hl] at h1 h4 h5
 have hn:=uB
 exact tail_any (typeIs_str s z t) slot_str_getitem.lookup (getItem_str (c:=c) (by
  have e1:decide (i < -(2 ^ 63:Int))=false:=decide_eq_false (by omega)
  have e2:decide (i ≥ 2 ^ 63)=false:=decide_eq_false (by omega)
  rw [e1,e2,Bool.or_false]) (by rw [h1];simpa using h2) ⟨.str ⟨#[c]⟩,H,I.tok _,⟨_,rfl⟩,q⟩) hs
theorem An (lo hi:Option Int) (n:Nat):(lP lo hi none n).1=((HT.iz n 0 lo:Nat):Int)/\(lP lo hi none n).2.1=((HT.iz n n hi:Nat):Int)/\(lP lo hi none n).2.2=1:=by
 refine ⟨?_,?_,rfl⟩
 ·cases lo with
  | none=>simp [lP,HT.iz]
  | some i =>
   simp only [lP,HT.iz,gg,show (1:Int) > 0 by decide,if_true]
   by_cases h:i<0
   ·simp only [h,if_true]<;>omega
   ·simp only [h,if_false]<;>omega
 ·cases hi with
  | none=>simp [lP,HT.iz]
  | some i =>
   simp only [lP,HT.iz,gg,show (1:Int) > 0 by decide,if_true]
   by_cases h:i<0
   ·simp only [h,if_true]<;>omega
   ·simp only [h,if_false]<;>omega
theorem yC (its:List a9) (lo hi:Option Int):slicePick its.toArray lo hi none=((its.drop (HT.iz its.length 0 lo)).take (HT.iz its.length its.length hi - HT.iz its.length 0 lo)).toArray:=by
 obtain ⟨h1,h2,h3⟩:=An lo hi its.toArray.size
 unfold slicePick
 rw [h1,h2,h3]
 simp only [sliceRange_one,pick_run,aR]<;>rfl
def UU (K:a8):V->Option Int->Option Int->Hp->VK->Prop:=fun x lo hi H Q=>∃ a xs,x=.ref a/\nB K H a xs/\∀ p,H p=none->Q (.ref p) (upd H p (.lst (B_ xs lo hi)))
theorem NL:So X (UU X.K):=by
 intro pins s σ H x v vl vu lo hi sl Q I rx hs pl pu h
 obtain ⟨a,xs,rfl,hx,q⟩:=h
 cases rx
 obtain ⟨its,r,ht,hz⟩:=I.list hx
 have hlen:=r.length
 refine ⟨"list",_,slot_list_getitem.lookup,ht.isList.typeIs,?_⟩
 refine wpAny_getItem_list_slice ht.isList hs pl pu .none (by simp) ?_ (by rw [aR]<;>omega)
 rw [yC,<- hlen]
 refine ⟨.ref s.heap.objs.size,_,I.laid (t':=s.toks) (o:=.lst (B_ xs lo hi)) (fun b ob q=>ae _ q) (au _) ?_,rfl,q _ (I.hok.fresh (au _))⟩
 exact ⟨bU (vk xs lo hi) hz,_,0,(r.drop (HT.iz xs.length 0 lo)).take (HT.iz xs.length xs.length hi - HT.iz xs.length 0 lo),ay _ rfl⟩
def pi:V->Bool
 | .non=>true
 | .bl _=>true
 | .int _=>true
 | .str _=>true
 | _=>false
def NM:V->V->Bool
 | .non,.non=>true
 | .bl a,.bl b=>a == b
 | .bl a,.int b=>(if a then 1 else 0) == b
 | .int a,.bl b=>a == (if b then 1 else 0)
 | .int a,.int b=>a == b
 | .str a,.str b=>a == b
 | _,_=>false
theorem QI {A:b9}{s:ac}{y x:V}{u v:a9} (ry:cZ y u) (rx:cZ x v) (fy:pi y=true) (fx:pi x=true):SeqAt.EqAt A s u v (NM y x):=by
 cases y with
 | non =>
  cases ry
  cases x with
  | non=>cases rx;exact SeqAt.EqAt.same _
  | bl b=>cases rx;exact SeqAt.EqAt.none_bool b
  | int b=>obtain ⟨t,rfl⟩:=rx;exact SeqAt.EqAt.none_int b t
  | str b=>obtain ⟨t,rfl⟩:=rx;exact SeqAt.EqAt.none_str b t
  | _=>exact absurd (show false=true from fx) bq
 | bl a =>
  cases ry
  cases x with
  | non=>cases rx;exact SeqAt.EqAt.bool_none a
  | bl b=>cases rx;exact SeqAt.EqAt.bool_bool a b
  | int b=>obtain ⟨t,rfl⟩:=rx;exact SeqAt.EqAt.bool_int a b t
  | str b=>obtain ⟨t,rfl⟩:=rx;exact SeqAt.EqAt.bool_str a b t
  | _=>exact absurd (show false=true from fx) bq
 | int a =>
  obtain ⟨t',rfl⟩:=ry
  cases x with
  | non=>cases rx;exact SeqAt.EqAt.int_none a t'
  | bl b=>cases rx;exact SeqAt.EqAt.int_bool a t' b
  | int b=>obtain ⟨t,rfl⟩:=rx;exact SeqAt.EqAt.int_int a t' b t
  | str b=>obtain ⟨t,rfl⟩:=rx;exact BE a t' b t
  | _=>exact absurd (show false=true from fx) bq
 | str a =>
  obtain ⟨t',rfl⟩:=ry
  cases x with
  | non=>cases rx;exact SeqAt.EqAt.str_none a t'
  | bl b=>cases rx;exact SeqAt.EqAt.str_bool a t' b
  | int b=>obtain ⟨t,rfl⟩:=rx;exact BF a t' b t
  | str b=>obtain ⟨t,rfl⟩:=rx;exact SeqAt.EqAt.str_str a t' b t
  | _=>exact absurd (show false=true from fx) bq
 | _=>exact absurd (show false=true from fy) bq
def EC (x:V) (u:a9):Bool:=match u with
 | .none=>NM .non x
 | .bool b=>NM (.bl b) x
 | .int i _=>NM (.int i) x
 | .str z _=>NM (.str z) x
 | _=>false
theorem K4 {x y:V}{u:a9} (r:cZ y u) (f:pi y=true):EC x u=NM y x:=by
 cases y with
 | non=>cases r;rfl
 | bl b=>cases r;rfl
 | int i=>obtain ⟨t,rfl⟩:=r;rfl
 | str z=>obtain ⟨t,rfl⟩:=r;rfl
 | _=>exact absurd (show false=true from f) bq
theorem tE {x:V}:∀ {xs:List V}{us:List a9},du xs us->xs.all pi=true->us.any (EC x)=xs.any fun y=>NM y x
 | _,_,.nil,_=>rfl
 | y::xs,u::us,.cons r t,f=>by
  rw [sY,aO] at f
  rw [dW,dW,K4 r f.1,tE t f.2]
theorem pj {A:b9}{s:ac}{x:V}{v:a9} (rx:cZ x v) (fx:pi x=true):∀ {xs:List V}{us:List a9},du xs us->xs.all pi=true->∀ u∈us,SeqAt.EqAt A s u v (EC x u)
 | _,_,.nil,_=>fun u hu=>by cases hu
 | y::xs,u::us,.cons r t,f=>fun u' hu=>by
  rw [sY,aO] at f
  rcases List.mem_cons.mp hu with rfl | hu
  ·rw [K4 r f.1];exact QI r rx f.1 fx
  ·exact pj rx fx t f.2 u' hu
def U9 (x:V) (xs:List V):Bool:=xs.any fun y=>NM y x
inductive Ss (K:a8) (neg:Bool) (x:V) (y:V) (H:Hp) (Q:VK):Prop
 | mk (p xs:_) (h0:y=.ref p) (h1:(nB K H p xs\/jZ K H p xs)) (h2:pi x=true) (h3:xs.all pi=true) (h4:Q (.bl (if neg then !U9 x xs else U9 x xs)) H):Ss K neg x y H Q
def UV (K:a8) (neg:Bool):R2:=Ss K neg
theorem HJ:oX X (bH .In) (UV X.K false):=by
 intro pins s σ H x y v u Q I rx ry h
 obtain ⟨p,xs,rfl,hq,fx,fs,q⟩:=h
 cases ry
 rcases hq with hq | hq
 ·obtain ⟨its,r,pl,hz⟩:=I.list hq
  refine SeqAt.in_listAt (EC x) pl.isList (fun w hw=>pj rx fx r fs w (by simpa using hw)) ⟨.bl _,H,I,rfl,?_⟩
  rw [show its.toArray.any (EC x)=its.any (EC x) by simp,tE r fs]
  exact q
 ·obtain ⟨its,r,pl,hz⟩:=I.tuple hq
  refine SeqAt.in_tupleAt (EC x) pl (fun w hw=>pj rx fx r fs w (by simpa using hw)) ⟨.bl _,H,I,rfl,?_⟩
  rw [show its.toArray.any (EC x)=its.any (EC x) by simp,tE r fs]
  exact q
theorem Ao:oX X (bH .NotIn) (UV X.K true):=by
 intro pins s σ H x y v u Q I rx ry h
 obtain ⟨p,xs,rfl,hq,fx,fs,q⟩:=h
 cases ry
 rcases hq with hq | hq
 ·obtain ⟨its,r,pl,hz⟩:=I.list hq
  refine SeqAt.notIn_listAt (EC x) pl.isList (fun w hw=>pj rx fx r fs w (by simpa using hw)) ⟨.bl _,H,I,rfl,?_⟩
  rw [show its.toArray.any (EC x)=its.any (EC x) by simp,tE r fs]
  exact q
 ·obtain ⟨its,r,pl,hz⟩:=I.tuple hq
  refine SeqAt.notIn_tupleAt (EC x) pl (fun w hw=>pj rx fx r fs w (by simpa using hw)) ⟨.bl _,H,I,rfl,?_⟩
  rw [show its.toArray.any (EC x)=its.any (EC x) by simp,tE r fs]
  exact q
theorem tF:jb X (.builtin "len") (fun xs H Q=>∃ p ys,xs=[.ref p]/\(nB X.K H p ys\/jZ X.K H p ys)/\Q (.int ys.length) H):=by
 intro pins s σ H xs us Q I r h
 obtain ⟨p,ys,rfl,hq,q⟩:=h
 obtain ⟨u,rfl,rx⟩:=kz r
 cases rx
 have hn:=uB
 rcases hq with hq | hq
 ·obtain ⟨its,r',pl,hz⟩:=I.list hq
  have hlen:=r'.length
  exact Calls.call_len_list pl.isList (by simp only [aR]<;>omega) ⟨.int ys.length,H,I.tok _,⟨s.toks + 1,by rw [aR,hlen]⟩,q⟩
 ·obtain ⟨its,r',pl,hz⟩:=I.tuple hq
  have hlen:=r'.length
  exact len_tuple pl (by simp only [aR]<;>omega) ⟨.int ys.length,H,I.tok _,⟨s.toks + 1,by rw [aR,hlen]⟩,q⟩
theorem Ap:jb X (.builtin "len") (fun xs H Q=>∃ z,xs=[.str z]/\z.length<=sizeLine/\Q (.int z.length) H):=by
 intro pins s σ H xs us Q I r h
 obtain ⟨z,rfl,hz,q⟩:=h
 obtain ⟨u,rfl,t,rfl⟩:=kz r
 have hn:=uB
 exact len_str (by omega) ⟨.int z.length,H,I.tok _,⟨_,rfl⟩,q⟩
theorem tG:jb X (.type "list") (fun xs H Q=>∃ p ys,xs=[.ref p]/\(nB X.K H p ys\/jZ X.K H p ys)/\∀ l,H l=none->Q (.ref l) (upd H l (.lst ys))):=by
 intro pins s σ H xs us Q I r h
 obtain ⟨p,ys,rfl,hq,q⟩:=h
 obtain ⟨u,rfl,rx⟩:=kz r
 cases rx
 have fin:∀ (its:List a9),du ys its->ys.length<=sizeLine->∀ (h':bp) (c':Nat),(∀ b o',s.heap.get? b=some o'->h'.get? b=some o') ->
   h'.get? s.heap.objs.size=some { cls:=.type "list",dict:=none,data:=.seq its.toArray c',slots:=#[] }->EP X pins σ Q (.ref s.heap.objs.size) { s with heap:=h' }:=fun its r' hz h' c' kp e =>
  ⟨.ref s.heap.objs.size,_,I.laid (t':=s.toks) kp (au _) (show dk X.prog X.w _ h' _ (.lst ys) from ⟨hz,its,c',r',e⟩),rfl,q _ (I.hok.fresh (au _))⟩
 rcases hq with hq | hq
 ·obtain ⟨its,r',pl,hz⟩:=I.list hq
  have hlen:=r'.length
  obtain ⟨o,ho,hc,n,hd⟩:=pl.isList
  exact call_list_seq p (.inl rfl) ho hc hd (fun h' c' kp e=>fin its r' hz h' c' kp e) (by simp only [aR]<;>omega)
 ·obtain ⟨its,r',pl,hz⟩:=I.tuple hq
  have hlen:=r'.length
  obtain ⟨o,ho,hc,n,hd⟩:=pl
  exact call_list_seq p (.inr rfl) ho hc hd (fun h' c' kp e=>fin its r' hz h' c' kp e) (by simp only [aR]<;>omega)
theorem q_:jb X (.type "tuple") (fun xs H Q=>∃ p ys,xs=[.ref p]/\((nB X.K H p ys/\∀ l,H l=none->Q (.ref l) (upd H l (.tup ys)))\/(jZ X.K H p ys/\Q (.ref p) H))):=by
 intro pins s σ H xs us Q I r h
 obtain ⟨p,ys,rfl,h⟩:=h
 obtain ⟨u,rfl,rx⟩:=kz r
 cases rx
 rcases h with ⟨hq,q⟩ | ⟨hq,q⟩
 ·obtain ⟨its,r',pl,hz⟩:=I.list hq
  have hlen:=r'.length
  refine call_tuple_list pl.isList (fun h' kp=>?_) (by simp only [aR]<;>omega)
  have I1:bQ X pins σ H { s with heap:=h' }:=I.kept (t':=s.toks) kp
  have I2:bQ X pins σ (upd H h'.objs.size (.tup ys)) { s with heap:=h'.push { cls:=.type "tuple",data:=.seq its.toArray } } :=
   I1.laid (t':=s.toks) (fun b o e=>ae _ e) (au _) (show dk X.prog X.w _ _ _ (.tup ys) from ⟨hz,its,r',vK _ _⟩)
  exact ⟨.ref h'.objs.size,_,I2,rfl,q _ (I1.hok.fresh (au _))⟩
 ·obtain ⟨its,r',pl,hz⟩:=I.tuple hq
  exact call_tuple_same pl ⟨.ref p,H,I,rfl,q⟩
def VD (K:a8) (T:String) (x:V) (H:Hp):Prop:=match x with
 | .str _=>T="str"
 | .int _=>T="int"
 | .ref p=>(T="list"/\∃ xs,nB K H p xs)\/(T="tuple"/\∃ o,K.lookup p=some o/\o.cls=.type "tuple"/\o.dict=none) \/
   (T="dict"/\((∃ kvs,H p=some (.dK kvs))\/∃ kvs,H p=some (.dT kvs)))\/(T="set"/\∃ S n,H p=some (.set S n))
 | _=>False
theorem QJ {pins:List (ah×Obj)}{σ:St}{H:Hp}{s:ac}{T:String}{x:V}{v:a9} (I:bQ X pins σ H s) (r:cZ x v) (ty:VD X.K T x H) :
  s.TypeIs v T/\∀ a,v=.ref a->∃ ob,s.heap.get? a=some ob/\ob.dict=none:=by
 cases x with
 | str z =>
  obtain ⟨t,rfl⟩:=r
  cases (show T="str" from ty)
  exact ⟨typeIs_str s z t,fun _ e=>nomatch e⟩
 | int i =>
  obtain ⟨t,rfl⟩:=r
  cases (show T="int" from ty)
  exact ⟨typeIs_int s i t,fun _ e=>nomatch e⟩
 | ref p =>
  cases r
  rcases ty with ⟨rfl,xs,hq⟩ | ⟨rfl,o,hk,hc,hd⟩ | ⟨rfl,hk⟩ | ⟨rfl,S,n,hk⟩
  ·obtain ⟨its,_,pl,_⟩:=I.list hq
   refine ⟨pl.isList.typeIs,fun a e=>?_⟩
   cases e
   obtain ⟨o,n,e,c,hd,_⟩:=pl
   exact ⟨o,e,hd⟩
  ·refine ⟨⟨o,I.kIn p o hk,hc⟩,fun a e=>?_⟩
   cases e
   exact ⟨o,I.kIn _ o hk,hd⟩
  ·have z:∃ o,s.heap.get? p=some o/\o.ExactDict:=by
    rcases hk with ⟨kvs,hk⟩ | ⟨kvs,hk⟩
    ·obtain ⟨_,_,_,_,o,_,_,e,ex,_⟩:=I.hok p _ hk
     exact ⟨o,e,ex⟩
    ·obtain ⟨_,_,_,_,o,_,_,e,ex,_⟩:=I.hok p _ hk
     exact ⟨o,e,ex⟩
   obtain ⟨o,e,ex⟩:=z
   refine ⟨⟨o,e,ex.1⟩,fun a e2=>?_⟩
   cases e2
   exact ⟨o,e,ex.2.1⟩
  ·obtain ⟨o,_,_,_,e,ex,_⟩:=I.hok p _ hk
   refine ⟨⟨o,e,ex.1⟩,fun a e2=>?_⟩
   cases e2
   exact ⟨o,e,ex.2.1⟩
 | _=>exact il ty
def W5 (K:a8) (T:String) (r:V->List V->Hp->VK->Prop) (to:TE) (t:TA):TE:=fun σ H Q=>to σ H fun x H1=>VD K T x H1/\t σ H1 fun xs H2=>r x xs H2 Q
variable {o e:aQ}{es:List aQ}{to:TE}{t:TA}{name:Str}{apos cpos:Pos}{T id:String}{r:V->List V->Hp->VK->Prop}
theorem P4 (pa:PlainAttrs T) (slot:Slot T name id) (hty:typeOf (.builtin id)=pure (.type "method_descriptor")) (hm:W4 X id r) (ho:PE X o to) (ha:PA X (e::es) t)
  (hbase:Hm o name X.env (dU o X.env)=dU o X.env:=by rfl)
  (hfew:((iR cpos (aK (e::es) X.env)).all (fun x=>!x.1) && (backToKw cpos (MU [] X.env)).all (fun x=>x.1.isSome)
   && decide ((e::es).length + ([] : List yq).length + (if ([] : List yq).isEmpty then 0 else 1)<30))=true:=by rfl)
  (hline:(apos.endLine == cpos.line)=true:=by rfl) (hs:aK (e::es) X.env=(false,dU e X.env)::aK es X.env:=by rfl) (hplain:(iR cpos (aK es X.env)).any (·.1)=false:=by rfl) :
  PE X (.Call (.Attribute o name apos) (e::es) [] cpos) (W5 X.K T r to t):=by
 intro pins s σ H Q I h
 refine wpAny_Call_method_late hbase hfew hline rfl (eB (ho pins s σ H _ I h) fun v s1 ⟨x,H1,I1,r1,ty,q1⟩=>?_)
 obtain ⟨h1,h2⟩:=QJ I1 r1 ty
 refine ⟨T,id,pa,slot,hty,h1,h2,?_⟩
 have hA:=ha cpos pins s1 σ H1 _ I1 q1
 rw [hs] at hA ⊢
 refine Calls.callWith_builtin (by show (false || (iR cpos (aK es X.env)).any (·.1))=false;rw [hplain]<;>rfl) (Eb ?_)
 exact eB hA fun us s2 h_30=>by obtain ⟨vs,H2,I2,r2,q2⟩:=h_30;exact hm pins s2 σ H2 x vs v us Q I2 r1 r2 q2
end
end L2
namespace L2
open PySem PySem.Spec PyProof.Rows
def W6 (X:Cx) (id:String) (r:V->List V->Hp->VK->Prop):Prop :=
 ∀ (pins:List (ah×Obj)) (s:ac) (σ:St) (H:Hp) (x:V) (xs:List V) (v:a9) (us:List a9) (Q:VK),bQ X pins σ H s->cZ x v->du xs us->r x xs H Q ->
  ar (aG X.prog X.w) X.A (call (.builtin id) (v::us)) (EP X pins σ Q) X.xe s
theorem du.one {x:V}{us:List a9} (h:du [x] us):∃ u,us=[u]/\cZ x u:=by
 cases h with | cons r t=>cases t;exact ⟨_,rfl,r⟩
section
variable {X:Cx}{pins:List (ah×Obj)}{σ:St}{H:Hp}{s:ac}{l b:ah}{xs ys zs:List V}
theorem bQ.lset {its its':List a9}{n:Nat}{f:Array a9->Array a9}{t':Nat} (I:bQ X pins σ H s) (hH:H l=some (.lst xs))
  (e:s.heap.get? l=some { cls:=.type "list",data:=.seq its.toArray n }) (hf:f its.toArray=its'.toArray) (hv:du ys its') (hz:ys.length<=sizeLine) :
  bQ X pins σ (upd H l (.lst ys)) { s with heap:=s.heap.update l (kh f),toks:=t' }:=by
 have q:=PySem.IsL.update e f
 rw [hf] at q
 refine I.write (x:=l) (e:=l) (by rw [hH];exact trivial) (.inl rfl) (fun b' u hb hu=>(oR s.heap (kh f) (cW hb)).trans hu) ⟨_,q⟩ ?_
 exact ⟨hz,its',_,hv,q⟩
theorem bQ.lnew {its:List a9}{t':Nat} (I:bQ X pins σ H s) (hv:du ys its) (hz:ys.length<=sizeLine) :
  bQ X pins σ (upd H s.heap.objs.size (.lst ys)) { s with heap:=s.heap.push { cls:=.type "list",data:=.seq its.toArray },toks:=t' } :=
 I.laid (fun _ _ q=>ae _ q) (au _) ⟨hz,its,0,hv,ay _ rfl⟩
theorem bQ.fresh (I:bQ X pins σ H s):H s.heap.objs.size=none:=I.hok.fresh (au _)
theorem bQ.lstM (I:bQ X pins σ H s) (hH:H l=some (.lst xs)):VB s.heap l xs:=by
 obtain ⟨z,its,n,r,e⟩:=I.hok l _ hH
 exact ⟨z,its,n,r,r.length,e⟩
end
section
variable {X:Cx}
inductive C0 (x:V) (vs:List V) (H:Hp) (Q:VK):Prop
 | mk (l xs y:_) (h0:x=.ref l) (h1:vs=[y]) (h2:H l=some (.lst xs)) (h3:xs.length<sizeLine) (h4:Q .non (upd H l (.lst (xs++[y])))):C0  x vs H Q
def NN:V->List V->Hp->VK->Prop:=C0
theorem zv:W6 X "list.append" NN:=by
 intro pins s σ H x vs v us Q I rx rv h
 obtain ⟨l,xs,y,rfl,rfl,hH,hz,q⟩:=h
 cases rx
 obtain ⟨u,rfl,ru⟩:=rv.one
 obtain ⟨z,its,n,r,hl,e⟩:=I.lstM hH
 refine call_meets F.slot_list_append ⟨_,e,rfl⟩ F.entry_list_append (F.args_list_append_2 _ _) (PySem.list_append l its.toArray n u (by rw [aR];omega)) ⟨e,?_⟩
 refine ⟨.non,_,I.lset (its':=its++[u]) hH e (by simp) (r.append (.cons ru .nil)) ?_,rfl,q⟩
 rw [aN,cK]
 omega
end
section
variable {prog:aE}{w:aU}{A:b9}{E:a9->ac->Prop}{s:ac}
end
section
variable {X:Cx}
end
end L2
namespace Att
open PySem PySem.W PySem.Calls PyProof.Rows
theorem vQ {P:Params}{h:bp}:∀ (ns:List Int) (vs:List a9),WellAll P h vs (ns.map WData.int)->Jp vs ns:=by
 intro ns
 induction ns with
 | nil =>
  intro vs w
  rw [dA] at w
  cases w
  exact .nil
 | cons n ns ih =>
  intro vs w
  rw [ap] at w
  cases w with
  | cons a b =>
   cases a
   exact .cons _ _ (ih _ b)
theorem HK {l:OpenLaw}{n:Nat} (hn:l.most=some n) {P:Params}{h:bp}{args:List WData}{vals:List a9}
  (hpre:l.row.toRowW.claim.pre args=true) (hwl:WellAll P h vals args) :
  ∃ a vs ns,vals=[bO a]/\args=[WData.list (ns.map WData.int)]/\h.get? a=some { cls:=.type "list",data:=.seq vs.toArray }/\Jp vs ns/\ns.length<=n:=by
 have hsh:WShape.hasAll [] args [.list .int]=true:=(pre_splitW hpre).1
 have hc:l.pre.holds [] { args:=args }=true:=(pre_splitW hpre).2
 obtain ⟨d,r,rfl,h1,h2⟩:=hasAllW_cons hsh
 obtain rfl:=hasAllW_nil h2
 obtain ⟨xs,rfl,h3⟩:=hasW_list h1
 obtain ⟨ns,rfl⟩:=items_int h3
 have hlen:ns.length<=n:=by
  unfold OpenLaw.pre at hc
  have h4:(WTm.not (.lt (.lit (.int (n:Int))) (.len (.arg 0)))).holds [] { args:=[.list (ns.map .int)] }=true:=by
   have h4:=(holds_andW hc).1
   rw [hn] at h4
   exact h4
  have h5:=condW_of h4 (w_not (w_lt w_lit (w_len_list (w_arg rfl))))
  rw [ao] at h5
  refine MV fun q=>?_
  have q':(n:Int)<((ns.length:Nat):Int):=by omega
  first
   | (rw [decide_eq_true q'] at h5;exact absurd h5 (by decide))
   | (simp at h5;omega)
 cases hwl with
 | cons w1 w2 =>
  cases w2
  cases w1 with
  | list ho hall=>exact ⟨_,_,ns,rfl,rfl,ho,vQ ns _ hall,hlen⟩
theorem HL (l:OpenLaw) (args:List WData):l.row.toRowW.claim.post args (.bool true) args=true :=
 postW_of (r:=l.row.toRowW) (X:=(true == true))
  (show WShape.has [] (.bool true) .bool=true by first | rfl | decide | simp [WShape.has,WShape.arms,WShape.armsAll])
  (show (WTm.eq .res (.lit (.bool true))).value [] { args:=args,res:=some (.bool true),after:=args }=some (.bool (true == true)) from w_eq_bool (w_res rfl) w_lit) rfl
theorem attach_call {l:OpenLaw}{n:Nat}{q:aE}{loose:List Str}{XP:(Str->Option a9)->bp->Prop}{YP:aU->bp->Prop}{d:DefRec}
  (hn:l.most=some n) (hdf:d.params.defaults=[])
  (call:∀ (w:aU) (s₀ s₁:ac) (mg mb:Str->Option a9) (fa:ah) (o:Obj) (pm cd doc:a9) (a:ah) (vs:List a9) (ns:List Int),
   Ground q loose [] XP w s₀ mg mb s₁.heap->YP w s₁.heap ->
   s₁.heap.get? fa=some o->o.data=.func (docDef d.name d.params d.body d.scope pm cd doc)->s₁.heap.CodeRec cd d.name->mg d.name=some (.ref fa) ->
   s₁.heap.get? a=some { cls:=.type "list",data:=.seq vs.toArray }->Jp vs ns->ns.length<=n->s₁.gens=#[] ->
   gN (aG l.prog w) vc (.call (.ref fa) ⟨[.ref a],[]⟩) (fun r s'=>r=.ok (.ret (.bool true))/\OldK s₁.heap s'.heap/\s'.os=s₁.os/\oP s'.gens) s₁) :
  WalkO q loose XP YP l.row.toRowW d [] (fun f vs=>Ho f vs):=by
 intro w s₀ s₁ mg mb G Y fa o pm cd doc dV kV ho hd hcd hD hmg hg args vals as hpre hlay hrd hwl hlo
 obtain rfl:dV=.none:=Dflts.none hD hdf
 obtain rfl:kV=.none:=Dflts.noKw hD
 obtain ⟨a,vs,ns,rfl,rfl,hobj,hints,hlen⟩:=HK hn hpre hwl
 refine enter_call (rn (call w s₀ s₁ mg mb fa o pm cd doc a vs ns G Y ho (fd_plain hd) hcd hmg hobj hints hlen hg) fun r s' hq=>?_)
 obtain ⟨rfl,h2,h3,h4⟩:=hq
 exact ⟨.inl ⟨.bool true,.bool true,[],rfl,fun _=>rfl,.bool true,HL l _,fun _=>⟨zi,fun _ hm=>(nomatch hm)⟩⟩,h2,h3,h4⟩
section
variable {prog:aE}{w:aU}{A:b9}{E:a9->ac->Prop}{s:ac}{K:Frag}
def UW (h:bp) (L d:ah):List (ah×Obj):=(bD h.objs.size).filterMap fun a=>if a=L\/a=d then none else (h.get? a).map fun o=>(a,o)
end
end Att
namespace L2
open PySem PySem.Spec PyProof.Rows
theorem HM {vs:List a9}{ns:List Int} (h:Jp vs ns):du (ns.map V.int) vs:=by
 induction h with
 | nil=>exact .nil
 | cons n t h ih=>exact .cons ⟨t,rfl⟩ ih
def QK (H:Hp):Prop:=∀ b,H b=none\/∃ o xs,H b=some (.frz o (.lst xs))
theorem K5 {P:aE}{w:aU}{K:a8}{mg mb:Str->Option a9}{CX:Jg}{k:Nat}{fa a:ah}{fd:eK}{x:Str}{sp:Sp}{s₁:ac}{vs:List a9}{ns:List Int}
  (KX:K.In s₁.heap) (hns:s₁.heap.Ns bK mg) (hb:s₁.heap.Ns builtinsNs mb) (hbb:∀ x:Str,x≠"__name__"->mb x=h_ x) (hlim:s₁.heap.NoLimit) (hg:s₁.gens=#[])
  (ha:s₁.heap.get? a=some { cls:=.type "list",data:=.seq vs.toArray }) (hi:Jp vs ns) (hl:ns.length<=sizeLine) (hr:lv k vc)
  (F:∀ base:bp,K.In base->base.Ns bK mg->uC P w K mg base CX k fa fd [x] sp) (hbind:∀ (s:ac) (u:a9),yp s fd ⟨[u],[]⟩ [(x,u)])
  (hsp:∀ H:Hp,QK H->nB K H a (ns.map V.int)->sp [.ref a] H (fun v _=>v=.bl true) fun _ _ _=>False)
  (hCX:∀ H e s',CX [] H s₁ (fun _ _ _=>False) e s'->False) :
  gN (aG P w) vc (.call (.ref fa) ⟨[.ref a],[]⟩) (fun r s'=>r=.ok (.ret (.bool true))/\OldK s₁.heap s'.heap/\s'.os=s₁.os/\oP s'.gens) s₁:=by
 have rv:=HM hi
 have lenV:=hi.length
 have core:∀ H:Hp,QK H->nB K H a (ns.map V.int)->oA P w H s₁.heap->(∀ b,H b≠none->b=a)->(H a≠none->K.lookup a=none) ->
   gN (aG P w) vc (.call (.ref fa) ⟨[.ref a],[]⟩) (fun r s'=>r=.ok (.ret (.bool true))/\OldK s₁.heap s'.heap/\s'.os=s₁.os/\oP s'.gens) s₁:=by
  intro H hO hS hok hA hK
  have base_of:∀ {b:ah}{o:Obj},s₁.heap.get? b=some o->H b=none->(Ah s₁.heap H).get? b=some o:=fun e n=>JH e n
  have noA:∀ {b:ah}{o:Obj}{es:Array vd}{ep:Nat},s₁.heap.get? b=some o->o.data=.dict es ep->H b=none:=fun {b o es ep} e d=>by
   cases q:H b with
   | none=>rfl
   | some u =>
    have e':b=a:=hA b (by rw [q];simp)
    subst e'
    rw [ha] at e;cases e
    have d':Data.seq vs.toArray _=Data.dict es ep:=d
    cases d'
  have nsK:∀ {b:ah}{m:Str->Option a9},s₁.heap.Ns b m->(Ah s₁.heap H).Ns b m:=fun {b m} ⟨o,es,ep,e,d,r⟩=>⟨o,es,ep,base_of e (noA e d),d,r⟩
  have hKb:K.In (Ah s₁.heap H):=fun b o e=>base_of (KX b o e) (by
   cases q:H b with
   | none=>rfl
   | some u =>
    have e':b=a:=hA b (by rw [q];simp)
    subst e'
    rw [hK (by rw [q];simp)] at e;cases e)
  have hM:Mod K mg (Ah s₁.heap H):=⟨hKb,nsK hns,⟨mb,nsK hb,hbb⟩,let ⟨mc,h1,h2⟩:=hlim;⟨mc,nsK h1,h2⟩⟩
  have e0:ND P w K mg (Ah s₁.heap H) vc [] s₁ H:=⟨rfl,hM,fun b o e=>Nq e,Ec (HC _ _),trivial,fun b hb=>absurd (show b∈([] : List ah) from hb) (by simp),hok,.of_eq hg⟩
  refine rn ((F _ hKb (nsK hns)).run vc [] s₁ H ⟨[.ref a],[]⟩ [.ref a] [.ref a] _ _ hr e0 (hbind s₁ (.ref a)) (.cons rfl .nil) (hsp H hO hS)) fun r s' h=>?_
  cases r with
  | error e=>exact (hCX H e s' h).elim
  | ok fl =>
   cases fl with
   | next=>exact il h
   | brk=>exact il h
   | cont=>exact il h
   | ret u =>
    obtain ⟨v,H',os,bare,un,hok',r',q⟩:=h
    have q':v=.bl true:=q
    subst q'
    obtain rfl:u=Hf true:=r'
    refine ⟨rfl,OldK.of_keep fun b o e=>?_,os,bare⟩
    cases q:H b with
    | none=>exact un.keep b o e q (by intro z;exact absurd (show b∈([] : List ah) from z) (by simp)) (by simp)
    | some u =>
     rcases hO b with z | ⟨ob,xs,z⟩
     ·rw [q] at z;cases z
     ·have z2:=un.frzs b ob _ z
      obtain ⟨e1,_⟩:=hok b _ z
      obtain ⟨e2,_⟩:=hok' b _ z2
      rw [e] at e1;cases e1
      exact e2
 cases hk:K.lookup a with
 | some o =>
  have e:=KX a o hk
  rw [ha] at e
  cases e
  refine core (fun _=>none) (fun _=>.inl rfl) (.inr ⟨_,vs.toArray,_,hk,rfl,rfl,rfl,by rw [aR,lenV];exact hl,by simpa using rv⟩) (fun b u z=>by have z':(none:Option HO)=some u:=z;cases z') (fun b z=>absurd rfl z) fun z=>absurd rfl z
 | none =>
  refine core (fun b=>if b=a then some (.frz { cls:=.type "list",data:=.seq vs.toArray } (.lst (ns.map V.int))) else none) (fun b=>?_) (.inl (.inr ⟨{ cls:=.type "list",data:=.seq vs.toArray },if_pos rfl⟩)) (fun b u z=>?_) (fun b z=>?_) fun _=>hk
  ·by_cases hb:b=a
   ·exact .inr ⟨_,_,if_pos hb⟩
   ·exact .inl (if_neg hb)
  ·by_cases hb:b=a
   ·have z':=(if_pos hb).symm.trans z
    cases z'
    subst hb
    exact ⟨ha,by rw [ao];exact hl,vs,_,rv,ha⟩
   ·have z':=(if_neg hb).symm.trans z
    cases z'
  ·by_cases hb:b=a
   ·exact hb
   ·exact absurd (if_neg hb) z
end L2
namespace L2
open PySem PySem.Spec PyProof.Rows
abbrev Wd {K:a8}{h:bp} (_:K.In h):a8:=K
theorem NO {l:vL}{n k:Nat}{q:aE}{loose:List Str}{XP:(Str->Option a9)->bp->Prop}{YP:aU->bp->Prop}{d:DefRec}{K:Params->a8}{CX:aU->Jg}{sp:aU->Sp}{x:Str}
  (hn:l.most=some n) (hn2:n<=sizeLine) (hdf:d.params.defaults=[]) (hr:lv k vc)
  (hY:∀ (w:aU) (h:bp),YP w h->(K w.params).In h)
  (F:∀ (w:aU) (mg:Str->Option a9) (fa:ah) (h:bp),(K w.params).In h->h.Ns bK mg->mg d.name=some (.ref fa) ->
   ∃ fd:eK,(∀ (s:ac) (u:a9),yp s fd ⟨[u],[]⟩ [(x,u)]) /\
    ∀ base:bp,(K w.params).In base->base.Ns bK mg->uC l.prog w (K w.params) mg base (CX w) k fa fd [x] (sp w))
  (hsp:∀ (w:aU) (H:Hp) (a:ah) (ns:List Int),ns.length<=n->QK H->nB (K w.params) H a (ns.map V.int)->sp w [.ref a] H (fun v _=>v=.bl true) fun _ _ _=>False)
  (hCX:∀ (w:aU) (H:Hp) (s:ac) (e:a9) (s':ac),CX w [] H s (fun _ _ _=>False) e s'->False) :
  MG q loose XP YP l.row.toRowW d [] (fun f vs=>Ho f vs):=by
 refine Att.attach_call hn hdf fun w s₀ s₁ mg mb fa o pm cd doc a vs ns G Y ho hd hcd hmg hobj hints hlen hg=>?_
 have KX:=hY w _ Y
 obtain ⟨fd,hb,hF⟩:=F w mg fa _ KX G.T.g hmg
 exact K5 KX G.T.g G.T.b G.T.builtins G.T.nolimit hg hobj hints (bU hlen hn2) hr hF hb (fun H hO hS=>hsp w H a ns hlen hO hS) fun H e s'=>hCX w H s₁ e s'
end L2
namespace L2
open PySem PySem.Spec PyProof.Rows
def jO (s:cA):Arguments:=match s with
 | .FunctionDef _ a _ _ _ _ _ _ _ _=>a
 | _=>{ posonlyargs:=[],args:=[],vararg:=none,kwonlyargs:=[],kw_defaults:=[],kwarg:=none,defaults:=[] }
def g_ (s:cA):List cA:=match s with
 | .FunctionDef _ _ b _ _ _ _ _ _ _=>b
 | _=>[]
def aA (s:cA):dw:=match s with
 | .FunctionDef _ _ _ _ _ _ sc _ _ _=>sc
 | _=>{ kind:=.function,names:=[],isGenerator:=false,isCoroutine:=false }
abbrev E0:XK:=fun _ _ _=>False
structure HN (K:a8) (x qual:Str) (st:cA) (f:ah) (fd:eK):Prop where
 ex:∃ (oc:a9) (od:Option ah) (kV doc pm:a9) (an:Option ah) (cdv ct:a9) (osl:Array (Option a9)),
  fd=fE x qual (jO st) (g_ st) (aA st) .none kV doc pm an cdv ct/\K.lookup f=some ⟨oc,od,.func fd,osl⟩/\lm K cdv qual=true
 kp:j9 K (.ref f)=true
section
variable {P:aE}{w:aU}{K:a8}{mg:Str->Option a9}{base:bp}
theorem HN.binds {x qual:Str}{st:cA}{f:ah}{fd:eK}{ps:List Str} (F:HN K x qual st f fd)
  (h:∀ (kV doc pm:a9) (an:Option ah) (cdv ct:a9) (us:List a9),us.length=ps.length->MT (fE x qual (jO st) (g_ st) (aA st) .none kV doc pm an cdv ct) ⟨us,[]⟩=pure (ps.zip us)):mV K fd ps []:=by
 obtain ⟨oc,od,kV,doc,pm,an,cdv,ct,osl,rfl,lk,hcd⟩:=F.ex
 exact .all (h kV doc pm an cdv ct)
theorem K6 {x qual:Str}{st:cA}{f:ah}{oc:a9}{od an:Option ah}{osl:Array (Option a9)}{kV doc pm cdv ct:a9} (l:K.lookup f=some ⟨oc,od,.func (fE x qual (jO st) (g_ st) (aA st) .none kV doc pm an cdv ct),osl⟩)
  (c:lm K cdv qual=true) (k:j9 K (.ref f)=true):HN K x qual st f (fE x qual (jO st) (g_ st) (aA st) .none kV doc pm an cdv ct):=⟨⟨oc,od,kV,doc,pm,an,cdv,ct,osl,rfl,l,c⟩,k⟩
end
theorem iA {A:b9}{k:Nat} (hr:lv k A):A.units + 1<iE:=ut (Nat.add_le_add_left (by decide:1<=64) _) hr.units
theorem dg {n:Nat} (h:n<=1000):n<sizeLine:=ut h (by decide)
section
variable {X:Cx}
theorem pv (i:Nat) {x:Str}{pos:Pos} (hN:X.N[i]?=some x:=by rfl) (hv:JJ X.env.scope x:=by first | exact gj rfl | exact dQ (gj rfl) | exact dQ (dQ rfl)) (hd:(x == ("__debug__" : Str))=false:=by decide)
  (hcd:(x == ("__classdict__" : Str))=false:=by decide):PE X (.Name x pos) (Q9 i):=nA hN hv hd hcd
end
theorem yD {A B:Prop} (h:B):if false=true then A else B:=by
 rw [if_neg bq]
 exact h
theorem yE {A B:Prop} (h:A):if true=true then A else B:=by
 rw [if_pos rfl]
 exact h
def dB (H H':Hp):Prop:=∀ b o,H b=some o->H' b=some o
theorem dB.refl (H:Hp):dB H H:=fun _ _ h=>h
theorem dB.trans {H H1 H2:Hp} (a:dB H H1) (b:dB H1 H2):dB H H2:=fun c o h=>b c o (a c o h)
theorem dB.free {H H':Hp} (e:dB H H') {l:ah} (h:H' l=Option.none):H l=Option.none:=by
 cases q:H l with
 | none=>rfl
 | some o =>
  rw [e l o q] at h
  cases h
theorem dB.seq {K:a8}{H H':Hp}{a:ah}{xs:List V} (e:dB H H') (h:nB K H a xs):nB K H' a xs:=by
 rcases h with (h | ⟨o,h⟩) | h
 ·exact .inl (.inl (e _ _ h))
 ·exact .inl (.inr ⟨o,e _ _ h⟩)
 ·exact .inr h
end L2
end
section
namespace L2
open PySem PySem.Spec PyProof.Rows
section
variable {κ:Type} [DecidableEq κ]
def mX (kvs:List (κ×V)) (k:κ):Option V:=(kvs.find? fun kv=>decide (kv.1=k)).map (·.2)
def kC (kvs:List (κ×V)) (k:κ) (v:V):List (κ×V) :=
 if (kvs.any fun kv=>decide (kv.1=k))=true then kvs.map (fun kv=>if kv.1=k then (kv.1,v) else kv) else kvs++[(k,v)]
def K7 (kvs:List (κ×V)) (k:κ):List (κ×V):=kvs.filter fun kv=>decide (kv.1≠k)
theorem wL {p:κ×V}{r:List (κ×V)}{k:κ} (e:p.1=k):mX (p::r) k=some p.2:=by simp [mX,bT,e]
theorem wM {p:κ×V}{r:List (κ×V)}{k:κ} (e:¬ p.1=k):mX (p::r) k=mX r k:=by simp [mX,bT,e]
theorem C1 (k:κ):∀ kvs:List (κ×V),(kvs.any fun kv=>decide (kv.1=k))=(mX kvs k).isSome
 | []=>rfl
 | p::r=>by
  rw [dW]
  by_cases e:p.1=k
  ·simp only [wL e,decide_eq_true e,Bool.true_or,FM]
  ·rw [wM e,decide_eq_false e,sZ];exact C1 k r
theorem j_ (kvs:List (κ×V)) (k:κ) (v:V):(kC kvs k v).length<=kvs.length + 1:=by
 unfold kC
 split
 ·rw [ao];omega
 ·rw [aN,bd,cq];omega
theorem wH.isSome_eq {o:Option V}{u:Option a9} (r:wH o u):o.isSome=u.isSome:=by
 cases o with
 | none=>cases u with
  | none=>rfl
  | some _=>exact (show False from r).elim
 | some _=>cases u with
  | none=>exact (show False from r).elim
  | some _=>rfl
theorem KV.val {kvs:List (κ×V)}{vs:List (κ×a9)} (r:KV kvs vs) (k:κ):wH (mX kvs k) (yt vs k):=by
 unfold KV at r
 induction r with
 | nil=>exact iw
 | @cons p q ps qs h t ih =>
  obtain ⟨h1,h2⟩:=h
  by_cases e:p.1=k
  ·have e':q.1=k:=h1.symm.trans e
   have b:yt (q::qs) k=some q.2:=by simp [yt,bT,e']
   rw [wL e,b];exact h2
  ·have e':¬ q.1=k:=fun z=>e (h1.trans z)
   have b:yt (q::qs) k=yt qs k:=by simp [yt,bT,e']
   rw [wM e,b];exact ih
theorem KV.any {kvs:List (κ×V)}{vs:List (κ×a9)} (r:KV kvs vs) (k:κ):(kvs.any fun kv=>decide (kv.1=k))=vs.any fun kv=>decide (kv.1=k):=by
 unfold KV at r
 induction r with
 | nil=>rfl
 | cons h t ih=>rw [dW,dW,ih,h.1]
theorem KV.repl {kvs:List (κ×V)}{vs:List (κ×a9)} (r:KV kvs vs) (k:κ) {y:V}{u:a9} (ry:cZ y u) :
  KV (kvs.map fun kv=>if kv.1=k then (kv.1,y) else kv) (vs.map fun kv=>if kv.1=k then (kv.1,u) else kv):=by
 unfold KV at r ⊢
 induction r with
 | nil=>exact .nil
 | @cons p q ps qs h t ih =>
  rw [ap,ap]
  refine .cons ?_ ih
  obtain ⟨h1,h2⟩:=h
  by_cases e:p.1=k
  ·rw [if_pos e,if_pos (h1.symm.trans e)];exact ⟨h1,ry⟩
  ·rw [if_neg e,if_neg (fun z=>e (h1.trans z))];exact ⟨h1,h2⟩
theorem KV.put {kvs:List (κ×V)}{vs:List (κ×a9)} (r:KV kvs vs) (k:κ) {y:V}{u:a9} (ry:cZ y u):KV (kC kvs k y) (stored vs k u):=by
 unfold kC stored
 rw [r.any k]
 by_cases e:(vs.any fun kv=>decide (kv.1=k))=true
 ·rw [if_pos e,if_pos e];exact r.repl k ry
 ·rw [if_neg e,if_neg e];exact Paired.snoc r ⟨rfl,ry⟩
theorem KV.length {kvs:List (κ×V)}{vs:List (κ×a9)} (r:KV kvs vs):kvs.length=vs.length:=gO r
end
theorem C2 {P:aE}{w:aU}{k:dv}{u:a9} (r:cZ (kV k) u):(ej P w).is k u=true:=by
 cases k with
 | inl i=>obtain ⟨t,e⟩:=(show ∃ t,u=j7 i t from r);subst e;exact BV P w i t
 | inr x=>obtain ⟨t,e⟩:=(show ∃ t,u=j8 x t from r);subst e;exact BW P w x t
theorem zw {P:aE}{w:aU}:∀ {ks:List dv}{us:List a9},du (ks.map kV) us->ItemsAre (ej P w) ks us
 | [],_,r=>by rw [dA] at r;cases r;exact .nil
 | k::ks,_,r=>by
  rw [ap] at r
  cases r with
  | cons h t=>exact .cons (C2 h) (zw t)
abbrev KT (H:Hp):List (List dv×V)->List (List dv×ah×a9)->Prop:=E6 fun p q=>p.1=q.1/\H q.2.1=some (.tup (p.1.map kV))/\cZ p.2 q.2.2
theorem KT.val {H:Hp}{kvs:List (List dv×V)}{xs:List (List dv×ah×a9)} (r:KT H kvs xs) (k:List dv):wH (mX kvs k) ((Ed xs k).map (·.2)):=by
 induction r with
 | nil=>exact iw
 | @cons p q ps qs h t ih =>
  obtain ⟨h1,_,h2⟩:=h
  by_cases e:p.1=k
  ·have e':q.1=k:=h1.symm.trans e
   have b:Ed (q::qs) k=some q.2:=by simp [Ed,bT,e']
   rw [wL e,b];exact h2
  ·have e':¬ q.1=k:=fun z=>e (h1.trans z)
   have b:Ed (q::qs) k=Ed qs k:=by simp [Ed,bT,e']
   rw [wM e,b];exact ih
theorem KT.repl {H:Hp}{kvs:List (List dv×V)}{xs:List (List dv×ah×a9)} (r:KT H kvs xs) (k:List dv) {y:V}{u:a9} (ry:cZ y u) :
  KT H (kvs.map fun kv=>if kv.1=k then (kv.1,y) else kv) (xs.map (putAt k u)):=by
 induction r with
 | nil=>exact .nil
 | @cons p q ps qs h t ih =>
  rw [ap,ap]
  refine .cons ?_ ih
  obtain ⟨h1,h2,h3⟩:=h
  unfold putAt
  by_cases e:p.1=k
  ·rw [if_pos e,if_pos (h1.symm.trans e)];exact ⟨h1,h2,ry⟩
  ·rw [if_neg e,if_neg (fun z=>e (h1.trans z))];exact ⟨h1,h2,h3⟩
theorem KT.put {H:Hp}{kvs:List (List dv×V)}{xs:List (List dv×ah×a9)} (r:KT H kvs xs) (k:List dv) {b:ah}{y:V}{u:a9} (hb:H b=some (.tup (k.map kV))) (ry:cZ y u) :
  KT H (kC kvs k y) (storedH xs k b u):=by
 have e:(kvs.any fun kv=>decide (kv.1=k))=(Ed xs k).isSome:=by
  rw [C1,(r.val k).isSome_eq,um]
 unfold kC storedH
 rw [e]
 by_cases q:(Ed xs k).isSome=true
 ·rw [if_pos q,if_pos q];exact r.repl k ry
 ·rw [if_neg q,if_neg q];exact Paired.snoc r ⟨rfl,hb,ry⟩
theorem KT.keeps {H H':Hp}{kvs:List (List dv×V)}{xs:List (List dv×ah×a9)} (r:KT H kvs xs) (ht:∀ b ys,H b=some (.tup ys)->H' b=some (.tup ys)):KT H' kvs xs :=
 Paired.mapP r fun _ _ z=>⟨z.1,ht _ _ z.2.1,z.2.2⟩
section
variable {P:aE}{w:aU}{H:Hp}{h:bp}{a:ah}
theorem P5 {u:HO} (ok:oA P w H h) (e:Rd H a u):dk P w H h a u:=e.ok ok
theorem C3 {kvs:List (dv×V)} (ok:oA P w H h) (e:Rd H a (.dK kvs)):kvs.length<=sizeLine/\(a == eZ)=false/\∃ vs,KV kvs vs/\h.DictOf (ej P w) a vs :=
 show dk P w H h a (.dK kvs) from P5 ok e
theorem Su {kvs:List (dv×V)} (ok:oA P w H h) (e:H a=some (.dK kvs)):kvs.length<=sizeLine/\(a == eZ)=false/\∃ vs,KV kvs vs/\h.DictOf (ej P w) a vs:=C3 ok (.inl e)
theorem pp {ks:List dv} (ok:oA P w H h) (e:H a=some (.tup (ks.map kV))):(j0 (ej P w)).is h ks a:=by
 obtain ⟨_,its,r,o,h1,h2,n,h3⟩:=(show dk P w H h a (.tup (ks.map kV)) from ok a _ e)
 exact ⟨o,its.toArray,n,h1,h2,h3,by simpa using zw r⟩
theorem C4 {kvs:List (List dv×V)} (ok:oA P w H h) (e:Rd H a (.dT kvs)):kvs.length<=sizeLine/\(a == eZ)=false /\
  ∃ xs,KT H kvs xs/\h.DictOfH (j0 (ej P w)) a xs:=by
 obtain ⟨z,y,xs,r,o,es,ep,h1,h2,h3,h4,h5⟩:=(show dk P w H h a (.dT kvs) from P5 ok e)
 refine ⟨z,y,xs,r,o,es,ep,h1,h2,h3,h4,fun x hx=>?_,h5⟩
 have all:∀ {l:List (List dv×V)}{m:List (List dv×ah×a9)},KT H l m->∀ x∈m,(j0 (ej P w)).is h x.1 x.2.1:=by
  intro l m q
  induction q with
  | nil=>intro x hx;exact nomatch hx
  | @cons p q ps qs hq t ih =>
   intro x hx
   rcases List.mem_cons.mp hx with e | hx
   ·subst e
    exact pp ok (by rw [<- hq.1];exact hq.2.1)
   ·exact ih x hx
 exact all r x hx
theorem P6 {kvs:List (List dv×V)} (ok:oA P w H h) (e:H a=some (.dT kvs)):kvs.length<=sizeLine/\(a == eZ)=false /\
  ∃ xs,KT H kvs xs/\h.DictOfH (j0 (ej P w)) a xs:=C4 ok (.inl e)
end
def tH (H:Hp) (a:ah) (y:V) (r:Option V):Prop :=
 (∃ kvs k,Rd H a (.dK kvs)/\y=kV k/\r=mX kvs k)\/∃ kvs k b,Rd H a (.dT kvs)/\y=.ref b/\H b=some (.tup (k.map kV))/\r=mX kvs k
def yF (H:Hp) (a:ah) (y v:V) (H':Hp):Prop :=
 (∃ kvs k,H a=some (.dK kvs)/\y=kV k/\kvs.length<sizeLine/\H'=upd H a (.dK (kC kvs k v))) \/
 ∃ kvs k b,H a=some (.dT kvs)/\y=.ref b/\H b=some (.tup (k.map kV))/\kvs.length<sizeLine/\H'=upd H a (.dT (kC kvs k v))
theorem tH.k {H:Hp}{a:ah}{kvs:List (dv×V)}{k:dv} (e:H a=some (.dK kvs)):tH H a (kV k) (mX kvs k):=.inl ⟨kvs,k,.inl e,rfl,rfl⟩
theorem tH.t {H:Hp}{a b:ah}{kvs:List (List dv×V)}{k:List dv} (e:H a=some (.dT kvs)) (eb:H b=some (.tup (k.map kV))):tH H a (.ref b) (mX kvs k):=.inr ⟨kvs,k,b,.inl e,rfl,eb,rfl⟩
theorem yF.k {H:Hp}{a:ah}{kvs:List (dv×V)}{k:dv}{v:V} (e:H a=some (.dK kvs)) (hl:kvs.length<sizeLine):yF H a (kV k) v (upd H a (.dK (kC kvs k v))):=.inl ⟨kvs,k,e,rfl,hl,rfl⟩
theorem yF.t {H:Hp}{a b:ah}{kvs:List (List dv×V)}{k:List dv}{v:V} (e:H a=some (.dT kvs)) (eb:H b=some (.tup (k.map kV))) (hl:kvs.length<sizeLine) :
  yF H a (.ref b) v (upd H a (.dT (kC kvs k v))):=.inr ⟨kvs,k,b,e,rfl,eb,hl,rfl⟩
section
variable {X:Cx}{pins:List (ah×Obj)}{σ:St}{H:Hp}{s:ac}{a:ah}{y v:V}{u r:a9}{o:Option V}{A:b9}{E:a9->ac->Prop}
theorem bQ.big (I:bQ X pins σ H s):eZ<s.heap.objs.size:=by
 have h:bK<s.heap.objs.size:=(I.mod.glob.keeps I.bk).lt
 exact Nat.lt_trans (by decide) h
theorem zx {Q:a9->ac->Prop} (hu:A.units + 1<iE) (I:bQ X pins σ H s) (g:tH H a y (some v)) (ry:cZ y u) (h:∀ w' s',bQ X pins σ H s'->cZ v w'->Q w' s') :
  ar (aG X.prog X.w) A (oQ (.ref a) u) Q E s:=by
 rcases g with ⟨kvs,k,e,ey,l⟩ | ⟨kvs,k,b,e,ey,eb,l⟩
 ·subst ey
  obtain ⟨z,hd,vs,rel,dd⟩:=C3 I.hok e
  obtain ⟨w',hw,rw'⟩:=wH.some_of (v:=v) (o:=yt vs k) (by rw [l];exact rel.val k)
  exact wpAny_getItem_of (C2 ry) dd.mapOf hw (h w' _ (I.tok _) rw')
 ·subst ey
  cases (show u=bO b from ry)
  obtain ⟨z,hd,xs,rel,dd⟩:=C4 I.hok e
  obtain ⟨w',hw,rw'⟩:=wH.some_of (v:=v) (o:=(Ed xs k).map (·.2)) (by rw [l];exact rel.val k)
  obtain ⟨p,hp,hp2⟩:=Option.map_eq_some_iff.mp hw
  refine wpAny_getItem_heap (ny hu) (pp I.hok eb) dd hp ?_
  rw [hp2]
  exact h w' _ (I.tok _) rw'
theorem d_in {Q:a9->ac->Prop} (hu:A.units + 1<iE) (I:bQ X pins σ H s) (g:tH H a y o) (ry:cZ y u) (h:∀ s',bQ X pins σ H s'->Q (.bool o.isSome) s') :
  ar (aG X.prog X.w) A (bH .In u (.ref a)) Q E s:=by
 rcases g with ⟨kvs,k,e,ey,l⟩ | ⟨kvs,k,b,e,ey,eb,l⟩
 ·subst ey
  obtain ⟨z,hd,vs,rel,dd⟩:=C3 I.hok e
  refine wpAny_in_of (C2 ry) hd dd.mapOf ?_
  rw [<- (rel.val k).isSome_eq,<- l]
  exact h _ (I.tok _)
 ·subst ey
  cases (show u=bO b from ry)
  obtain ⟨z,hd,xs,rel,dd⟩:=C4 I.hok e
  refine wpAny_in_heap (ny hu) (pp I.hok eb) hd dd ?_
  have q:=(rel.val k).isSome_eq
  rw [um] at q
  rw [<- q,<- l]
  exact h _ (I.tok _)
theorem NQ {Q:a9->ac->Prop} (hu:A.units + 1<iE) (I:bQ X pins σ H s) (g:tH H a y o) (ry:cZ y u) (h:∀ s',bQ X pins σ H s'->Q (.bool (!o.isSome)) s') :
  ar (aG X.prog X.w) A (bH .NotIn u (.ref a)) Q E s:=by
 rcases g with ⟨kvs,k,e,ey,l⟩ | ⟨kvs,k,b,e,ey,eb,l⟩
 ·subst ey
  obtain ⟨z,hd,vs,rel,dd⟩:=C3 I.hok e
  refine wpAny_notIn_of (C2 ry) hd dd.mapOf ?_
  rw [<- (rel.val k).isSome_eq,<- l]
  exact h _ (I.tok _)
 ·subst ey
  cases (show u=bO b from ry)
  obtain ⟨z,hd,xs,rel,dd⟩:=C4 I.hok e
  refine wpAny_notIn_heap (ny hu) (pp I.hok eb) hd dd ?_
  have q:=(rel.val k).isSome_eq
  rw [um] at q
  rw [<- q,<- l]
  exact h _ (I.tok _)
theorem Aq {h':bp}{t':Nat}{ob:HO} (I:bQ X pins σ H s) (mu:RZ (H a)) (hs:bA a s.heap h') (he:∃ q,h'.get? a=some q) (new:dk X.prog X.w (upd H a ob) h' a ob) :
  bQ X pins σ (upd H a ob) { s with heap:=h',toks:=t' } :=
 I.write (x:=a) (e:=a) mu (.inl rfl) (fun b q hb z=>(hs.2 b hb).trans z) he new
theorem QL {P:aE}{w:aU}{H':Hp}{h':bp}{kvs:List (dv×V)}{vs:List (dv×a9)} (z:kvs.length<=sizeLine) (hd:(a == eZ)=false) (rel:KV kvs vs) (dd:h'.DictOf (ej P w) a vs) :
  dk P w H' h' a (.dK kvs):=⟨z,hd,vs,rel,dd⟩
theorem zy {H':Hp}{Q:Unit->ac->Prop} (hu:A.units + 1<iE) (I:bQ X pins σ H s) (g:yF H a y v H') (ry:cZ y u) (rv:cZ v r) (h:∀ s',bQ X pins σ H' s'->Q () s') :
  ar (aG X.prog X.w) A (setItem (.ref a) u r) Q E s:=by
 rcases g with ⟨kvs,k,e,ey,l,eH⟩ | ⟨kvs,k,b,e,ey,eb,l,eH⟩
 ·subst ey eH
  obtain ⟨z,hd,vs,rel,dd⟩:=Su I.hok e
  have hz:vs.length<=sizeLine:=by rw [<- rel.length];exact z
  have hl:(kC kvs k v).length<=sizeLine:=by have:=j_ kvs k v;omega
  refine wpAny_setItem_pairs (hsz:=hz) (C2 ry) dd fun h' dd' hs=>h _ ?_
  have he:∃ q,h'.get? a=some q:=let ⟨q,_,_,hq,_⟩:=dd';⟨q,hq⟩
  exact Aq I (by rw [e];exact iw) hs he (QL hl hd (rel.put k rv) dd')
 ·subst ey eH
  cases (show u=bO b from ry)
  obtain ⟨z,hd,xs,rel,dd⟩:=P6 I.hok e
  have hz:xs.length<=sizeLine:=by rw [<- gO rel];exact z
  have hl:(kC kvs k v).length<=sizeLine:=by have:=j_ kvs k v;omega
  refine wpAny_setItem_heap (hsz:=hz) (ny hu) (pp I.hok eb) dd fun h' dd' hs=>h _ ?_
  obtain ⟨q,es,ep,hq,h2,h3,h4,_,h5⟩:=dd'
  refine Aq I (by rw [e];exact iw) hs ⟨q,hq⟩ ⟨hl,hd,_,(rel.put k eb rv).keeps fun c ys ec=>?_,q,es,ep,hq,h2,h3,h4,h5⟩
  rw [bg (JF ec e (fun z=>nomatch z))]
  exact ec
end
section
variable {X:Cx}{pins:List (ah×Obj)}{σ:St}{H:Hp}{s:ac}{a:ah}{kvs:List (dv×V)}{k:dv}{u:a9}{A:b9}{E:a9->ac->Prop}
end
def Sv (i:aQ):Prop:=∀ ov iv,BH i false ov iv=operate [ov,iv] (oQ ov iv)
theorem NR {prog:aE}{w:aU}{A:b9}{E:a9->ac->Prop}{s:ac}{env:Env}{value slice:aQ}{pos:Pos}{T id:String}{Q:a9->ac->Prop}
  (hl:typeLookup (.type T) "__getitem__"=pure (some (.builtin id))) (hs:Sv slice)
  (h:ar (aG prog w) A (dU value env) (fun o s₁=>ar (aG prog w) A (dU slice env) (fun i s₂=>s₂.TypeIs o T/\ar (aG prog w) A (oQ o i) Q E s₂) E s₁) E s) :
  ar (aG prog w) A (dU (.Subscript value slice pos) env) Q E s:=by
 refine Subscript_ (bi h (fun o s₁ h₁=>bi h₁ (fun i s₂ h₂=>?_) fun _ _ x=>x) fun _ _ x=>x)
 obtain ⟨hT,h₂⟩:=h₂
 unfold Hl
 refine a7 ?_
 rw [getitemInPython_of_ne hT.not_modules]
 refine a7 (wpAny_specialOf hT hl ?_)
 have fin:ar (aG prog w) A (BH slice false o i) (fun r s₃=>ar (aG prog w) A (letTemporaryGo value o r >>= fun _=>pure r) Q E s₃) E s₂:=by
  rw [hs o i]
  exact wpAny_operating (bi h₂ (fun r s₃ h₃=>a7 (wpAny_letTemporaryGo (aa h₃))) fun _ _ x=>x)
 first
  | exact aa (a7 fin)
  | exact a7 (aa (a7 fin))
  | exact a7 fin
theorem C5 {X:Cx}{pins:List (ah×Obj)}{σ:St}{H:Hp}{s:ac}{a:ah}{y:V}{o:Option V} (I:bQ X pins σ H s) (g:tH H a y o):s.TypeIs (.ref a) "dict":=by
 rcases g with ⟨kvs,k,e,_,_⟩ | ⟨kvs,k,b,e,_,_,_⟩
 ·obtain ⟨_,_,vs,_,dd⟩:=C3 I.hok e
  exact dd.typeIs
 ·obtain ⟨_,_,xs,_,dd⟩:=C4 I.hok e
  exact dd.typeIs
def Sw (td ty:TE):TE:=fun σ H Q=>td σ H fun x H1=>ty σ H1 fun y H2=>∃ a v,x=.ref a/\tH H2 a y (some v)/\Q v H2
def P7 (td ty tv:TE):TS:=fun D σ H=>tv σ H fun v H1=>td σ H1 fun x H2=>ty σ H2 fun y H3=>∃ a H4,x=.ref a/\yF H3 a y v H4/\D.nx σ H4
def Sx (td ty tv:TE) (rd:V->V->Hp->VK->Prop):TS:=fun D σ H=>td σ H fun x H1=>ty σ H1 fun y H2=>∃ a v,x=.ref a/\tH H2 a y (some v) /\
 tv σ H2 fun y2 H3=>rd v y2 H3 fun z H4=>∃ H5,yF H4 a y z H5/\D.nx σ H5
section
variable {X:Cx}{o i e value:aQ}{pos pos' tpos:Pos}{td ty tv:TE}
theorem FW (hu:X.A.units + 1<iE) (ho:PE X o td) (hi:PE X i ty) (hs:Sv i):PE X (.Subscript o i pos) (Sw td ty):=by
 intro pins s σ H Q I h
 refine NR PySem.F.slot_dict_getitem.lookup hs (eB (ho pins s σ H _ I h) fun u s1 ⟨x,H1,I1,rx,q1⟩=>eB (hi pins s1 σ H1 _ I1 q1) fun iv s2 ⟨y,H2,I2,ry,a,v,ex,g,q2⟩=>?_)
 subst ex
 obtain rfl:u=bO a:=rx
 exact ⟨C5 I2 g,zx hu I2 g ry fun w' s3 I3 rw'=>⟨v,H2,I3,rw',q2⟩⟩
theorem FX (hu:X.A.units + 1<iE) (ho:PE X o td) (hi:PE X i ty) (hv:PE X value tv) (hs:fD value (some (.Subscript o i pos')) pos.line X.env=pure false) :
  PS X (.Assign [.Subscript o i pos'] value pos) (P7 td ty tv):=by
 intro pins s σ H D I h
 refine wpAny_Assign_Subscript (eB (hv pins s σ H _ I h) fun r s1 ⟨v,H1,I1,rv,q1⟩=>eB (ho pins s1 σ H1 _ I1 q1) fun u s2 ⟨x,H2,I2,rx,q2⟩=>eB (hi pins s2 σ H2 _ I2 q2) fun iv s3 ⟨y,H3,I3,ry,a,H4,ex,g,q3⟩=>?_) hs
 subst ex
 obtain rfl:u=bO a:=rx
 exact zy hu I3 g ry rv fun s4 I4=>⟨σ,H4,I4,q3⟩
theorem NS {op:MS}{rd:V->V->Hp->VK->Prop} (hu:X.A.units + 1<iE) (ho:PE X o td) (hi:PE X i ty) (hv:PE X value tv) (hop:Si X op rd)
  (ha:∀ ov iv new,augStore i ov iv new=(do DX [new,ov,iv] (setItem ov iv new);release [new,ov,iv] [];pure .next)):PS X (.AugAssign (.Subscript o i tpos) op value pos) (Sx td ty tv rd):=by
 intro pins s σ H D I h
 refine wpAny_AugAssign_SubscriptAny (eB (ho pins s σ H _ I h) fun u s1 ⟨x,H1,I1,rx,q1⟩=>eB (hi pins s1 σ H1 _ I1 q1) fun iv s2 ⟨y,H2,I2,ry,a,v,ex,g,q2⟩=>?_) ha
 subst ex
 obtain rfl:u=bO a:=rx
 refine zx hu I2 g ry fun w' s3 I3 rw'=>eB (hv pins s3 σ H2 _ I3 q2) fun w2 s4 ⟨y2,H3,I4,ry2,q3⟩=>eB (hop pins s4 σ H3 v y2 w' w2 _ I4 rw' ry2 q3) fun w3 s5 h_2=>?_
 obtain ⟨z,H4,I5,rz,H5,g5,q4⟩:=h_2
 exact zy hu I5 g5 ry rz fun s6 I6=>⟨σ,H5,I6,q4⟩
end
theorem K8 {P:aE}{w:aU}{H:Hp} (h:bp) (hb:eZ<h.objs.size):dk P w H (h.push { cls:=.type "dict",data:=.dict #[] }) h.objs.size (.dK []) :=
 ⟨cn _,beq_eq_false_iff_ne.mpr (cW (aF hb)),[],.nil,Heap.DictOf.new h⟩
theorem K9 {P:aE}{w:aU}{H:Hp} (h:bp) (hb:eZ<h.objs.size):dk P w H (h.push { cls:=.type "dict",data:=.dict #[] }) h.objs.size (.dT []) :=
 ⟨cn _,beq_eq_false_iff_ne.mpr (cW (aF hb)),[],.nil,_,#[],0,ay _ rfl,⟨rfl,rfl,rfl⟩,rfl,rfl,fm⟩
def QM:TE:=fun _ H Q=>∀ p,H p=none->Q (.ref p) (upd H p (.dK []))
section
variable {X:Cx}{pos:Pos}
theorem Ka:PE X (.Dict [] [] pos) QM:=fun pins s σ H Q I h =>
 wpAny_Dict_empty ⟨.ref s.heap.objs.size,_,I.laid (a:=s.heap.objs.size) (o:=.dK []) (t':=s.toks) (fun _ _ q=>ae _ q) (au _) (K8 s.heap I.big),rfl,h _ (I.hok.fresh (au _))⟩
end
section
variable {X:Cx}{pins:List (ah×Obj)}{σ:St}{H:Hp}{s:ac}{a:ah}{y d:V}{u r:a9}{o:Option V}{A:b9}{E:a9->ac->Prop}
end
section
variable {X:Cx}{o e f:aQ}{apos cpos:Pos}{td ty tx:TE}
end
section
variable {X:Cx}{pins:List (ah×Obj)}{σ:St}{H:Hp}{s:ac}{a:ah}{kvs:List (dv×V)}{A:b9}{E:a9->ac->Prop}
end
section
variable {X:Cx}{pins:List (ah×Obj)}{σ:St}{H:Hp}{s:ac}{a:ah}{y:V}{u:a9}{A:b9}{E:a9->ac->Prop}
end
end L2
namespace L2
open PySem PySem.Spec PyProof.Rows
section
variable {X:Cx}
end
section
variable {κ:Type} [DecidableEq κ]
theorem wo:∀ {l:List κ}{k:κ},l.Nodup->¬ k∈l->(l++[k]).Nodup
 | [],k,_,_=>by simp
 | a::r,k,h,hk=>by
  obtain ⟨h1,h2⟩:=List.nodup_cons.mp h
  show (a::(r++[k])).Nodup
  refine List.nodup_cons.mpr ⟨fun m=>?_,wo h2 fun m=>hk (List.mem_cons.mpr (dQ m))⟩
  rcases List.mem_append.mp m with q | q
  ·exact h1 q
  ·exact hk (List.mem_cons.mpr (gj (List.mem_singleton.mp q).symm))
end
end L2
end
namespace L2
open PySem PySem.Spec PyProof.Rows
section
section
variable {prog:aE}{w:aU}{A:b9}{R:oZ->ac->Prop}{s:ac}
theorem Ar {elt target iter:aQ}{ifs:List aQ}{scope:dw}{pos:Pos}{it acc:a9}{env:Env} (I:Nat->ac->Prop)
  (turn:∀ n s,I n s->ar (aG prog w) A (jy it) (fun r s₁=>match r with
   | none=>R (.ok .next) s₁
   | some v=>ar (aG prog w) A (e_ target it v) (fun _ s₁'=>ar (aG prog w) A (jx target env v) (fun _ s₂ =>
     ar (aG prog w) A (forIn ifs true fun c r=>if r=true then do let ok <- rm c env (dU c env);pure (dR ok) else pure (dR r)) (fun ok s₃ =>
      if ok=true then ar (aG prog w) A (dU elt env) (fun x s₄ =>
       ar (aG prog w) A (call (.builtin "list.append") [acc,x]) (fun _ s₅=>∃ m,m<n/\I m s₅) (fun _ _=>False) s₄) (fun _ _=>False) s₃
      else ∃ m,m<n/\I m s₃) (fun _ _=>False) s₂) (fun _ _=>False) s₁') (fun _ _=>False) s₁) (fun _ _=>False) s)
  (n:Nat) (h:I n s) :
  gN (aG prog w) A (.compLoop (.ListComp elt [⟨target,iter,ifs,0⟩] scope pos) 0 it acc env) R s:=by
 refine Jq rfl I (fun n s hI=>?_) n h
 show ar _ A ((MW (.ListComp elt [⟨target,iter,ifs,0⟩] scope pos) 0 it acc env).onRaise (fun x=>do J8 x env;BN x)) _ _ s
 refine MX ?_
 rw [compTurn_list]
 have nf:∀ {α:Type}{t:Sem α}{Q:α->ac->Prop}{E':a9->ac->Prop}{s:ac},ar (aG prog w) A t Q (fun _ _=>False) s->ar (aG prog w) A t Q E' s :=
  fun h=>bi h (fun _ _ q=>q) fun _ _ f=>f.elim
 refine a7 (eF (a7 (nf (bi (turn n s hI) (fun r s₁ h₁=>?_) fun _ _ h'=>h'))))
 cases r with
 | none=>exact aa h₁
 | some v =>
  refine a7 (nf (bi h₁ (fun _ s₁' h₁'=>?_) fun _ _ h'=>h'))
  refine a7 (nf (bi h₁' (fun _ s₂ h₂=>a7 (nf (bi h₂ (fun ok s₃ h₃=>?_) fun _ _ h'=>h'))) fun _ _ h'=>h'))
  cases ok with
  | false=>exact aa ⟨rfl,h₃⟩
  | true =>
   exact a7 (a7 (nf (bi h₃ (fun x s₄ h₄=>a7 (nf (bi h₄ (fun _ s₅ h₅=>aa (aa ⟨rfl,h₅⟩)) fun _ _ h'=>h'))) fun _ _ h'=>h')))
end
theorem ED {env : Env} (names : List (Str × jq)) : ∀ (cs : List (Str × ah)), (∀ y ∈ names, y.2 = .free -> ∃ c, env.cells.lookup y.1 = some c) ->
    (∀ x c, cs.lookup x = some c -> env.cells.lookup x = some c) ->
    ∃ cl, (forIn names cs fun (x : Str × jq) (cs : List (Str × ah)) => match x with
        | (name, kind) => if (kind == cg) = true then do let a <- cellOf env name; pure (dR ((name, a) :: cs)) else pure (dR cs) : Sem (List (Str × ah))) = pure cl /\
      (∀ x c, cl.lookup x = some c -> env.cells.lookup x = some c) /\ (∀ y ∈ names, y.2 = .free -> ∃ c, cl.lookup y.1 = some c) /\ (∀ x c, cs.lookup x = some c -> ∃ c', cl.lookup x = some c') := by
  induction names with
  | nil => intro cs _ h2; exact ⟨cs, rfl, h2, fun _ h => absurd h (by simp), fun x c h => ⟨c, h⟩⟩
  | cons nk r ih =>
    obtain ⟨n, k⟩ := nk
    intro cs h1 h2
    by_cases hk : k = .free
    · subst hk
      obtain ⟨a, ha⟩ := h1 (n, .free) am rfl
      have h2' : ∀ x c, ((n, a) :: cs).lookup x = some c -> env.cells.lookup x = some c := fun x c h => by
        rw [cF] at h
        cases e : x == n with
        | true => rw [e] at h; have : x = n := by simpa using e
                  subst this; cases h; exact ha
        | false => rw [e] at h; exact h2 x c h
      obtain ⟨cl, e1, e2, e3, e4⟩ := ih ((n, a) :: cs) (fun y hy => h1 y (aj _ hy)) h2'
      refine ⟨cl, ?_, e2, fun y hy hf => ?_, fun x c h => ?_⟩
      · rw [j3]
        have hc : cellOf env n = pure a := by unfold cellOf; rw [ha]
        simp only [beq_self_eq_true, if_true, hc]
        exact e1
      · rcases List.mem_cons.mp hy with rfl | hy
        · exact e4 n a (by simp)
        · exact e3 y hy hf
      · cases e : x == n with
        | true => exact e4 x a (by rw [cF, e])
        | false => exact e4 x c (by rw [cF, e]; exact h)
    · obtain ⟨cl, e1, e2, e3, e4⟩ := ih cs (fun y hy => h1 y (aj _ hy)) h2
      refine ⟨cl, ?_, e2, fun y hy hf => ?_, e4⟩
      · rw [j3]
        have hk' : (k == cg) = false := by simpa using hk
        simp only [hk', bS, if_false]
        exact e1
      · rcases List.mem_cons.mp hy with rfl | hy
        · exact absurd hf hk
        · exact e3 y hy hf
theorem nC {scope:dw}{env:Env} (h:∀ y∈scope.names,y.2=.free->∃ c,env.cells.lookup y.1=some c):∃ cl,closureFor scope env=pure cl /\
  (∀ x c,cl.lookup x=some c->env.cells.lookup x=some c)/\(∀ y∈scope.names,y.2=.free->∃ c,cl.lookup y.1=some c):=by
 obtain ⟨cl,e1,e2,e3,_⟩:=ED (env:=env) scope.names [] h (fun x c h=>by simp at h)
 refine ⟨cl,?_,e2,e3⟩
 simp only [closureFor]
 rw [show (forIn scope.names ([] : List (Str×ah)) fun x r=>_)=(pure cl:Sem (List (Str×ah))) from e1]
 rfl
end
section
def bM (X:Cx) (N':List Str) (scope:dw) (cl:List (Str×ah)) (C:ah) (s₀:ac) (H₀:Hp) (ex:List ah) (pn:List (ah×Obj)):Cx :=
 { X with N:=N',s₀:=s₀,H₀:=H₀,env:=MY scope cl C X.env,outer:=X.stack,stack:=X.stack,ex:=ex,fn:=fun y=>scope.names.lookup y == some .cell,pn:=pn,xe:=fun _ _=>False }
def HP (X:Cx) (ifs:List aQ) (t:TT):Prop :=
 ∀ (pins:List (ah×Obj)) (s:ac) (σ:St) (H:Hp) (Q:Bool->Hp->Prop),bQ X pins σ H s->t σ H Q ->
  ar (aG X.prog X.w) X.A (forIn ifs true fun c r=>if r=true then do let ok <- rm c X.env (dU c X.env);pure (dR ok) else pure (dR r)) (TP X pins σ Q) X.xe s
def UX:TT:=fun _ H Q=>Q true H
theorem NT {X:Cx}:HP X [] UX:=fun pins s σ H Q I h=>wpAny_tests_nil ⟨H,I,h⟩
theorem NU {X:Cx}{c:aQ}{t:TT} (h:PT X c t):HP X [c] t:=fun pins s σ H Q I hw=>wpAny_tests_one (h pins s σ H Q I hw)
structure jD (X:Cx) (scope:dw) (N':List Str) (nt:Nat) (ix:List Nat):Prop where
 kind:scope.kind=.function
 cel:∀ y∈scope.names,y.2=.cell->scope.names.lookup y.1=some .cell
 loc:∀ y∈scope.names,y.2=.local->scope.names.lookup y.1=some .local
 free:∀ y∈scope.names,y.2=.free->X.env.scope.names.lookup y.1=some .cell\/X.env.scope.names.lookup y.1=some .free
 cap:∀ k i,ix[k]?=some i->∃ x,X.N[i]?=some x/\N'[nt + k]?=some x/\scope.names.lookup x=some .free
 len:N'.length=nt + ix.length
def gL (nt:Nat) (ix:List Nat) (σ:St):St:=qU nt none++ix.map fun i=>(σ[i]?).join
theorem qQ {env:Env}{x:Str}{names:List (Str×jq)}:names.lookup x=some .free ->
  (names.map fun (n,k)=>if (k == cg && env.scope.kind == .function && env.kindOf n == some .cell) then (n,dG) else (n,k)).lookup x=some .free \/
  (names.map fun (n,k)=>if (k == cg && env.scope.kind == .function && env.kindOf n == some .cell) then (n,dG) else (n,k)).lookup x=some .cell:=by
 induction names with
 | nil=>intro h;simp at h
 | cons nk r ih =>
  obtain ⟨n,k⟩:=nk
  intro h
  show wD x ((if (k == cg && env.scope.kind == .function && env.kindOf n == some .cell)=true then (n,dG) else (n,k))::_)=_ \/
   wD x ((if (k == cg && env.scope.kind == .function && env.kindOf n == some .cell)=true then (n,dG) else (n,k))::_)=_
  cases hx:x == n with
  | true =>
   simp only [cF,hx] at h
   cases h
   by_cases hc:(cg == cg && env.scope.kind == .function && env.kindOf n == some .cell)=true
   ·rw [if_pos hc];right;simp [cF,hx]
   ·rw [if_neg hc];left;simp [cF,hx]
  | false =>
   simp only [cF,hx] at h
   by_cases hc:(k == cg && env.scope.kind == .function && env.kindOf n == some .cell)=true
   ·rw [if_pos hc];simp only [cF,hx];exact ih h
   ·rw [if_neg hc];simp only [cF,hx];exact ih h
theorem tJ {env:Env}{x:Str}{names:List (Str×jq)} :
  ((names.map fun (n,k)=>if (k == cg && env.scope.kind == .function && env.kindOf n == some .cell) then (n,dG) else (n,k)).lookup x=some .free \/
  (names.map fun (n,k)=>if (k == cg && env.scope.kind == .function && env.kindOf n == some .cell) then (n,dG) else (n,k)).lookup x=some .cell) ->
  (x,cg)∈names\/(x,dG)∈names:=by
 induction names with
 | nil=>intro h;simp at h
 | cons nk r ih =>
  obtain ⟨n,k⟩:=nk
  intro h
  have h:wD x ((if (k == cg && env.scope.kind == .function && env.kindOf n == some .cell)=true then (n,dG) else (n,k))::_)=_ \/
   wD x ((if (k == cg && env.scope.kind == .function && env.kindOf n == some .cell)=true then (n,dG) else (n,k))::_)=_:=h
  cases hx:x == n with
  | true =>
   have e:x=n:=by simpa using hx
   subst e
   by_cases hc:(k == cg && env.scope.kind == .function && env.kindOf x == some .cell)=true
   ·have:k=.free:=by simp at hc;exact hc.1.1
    subst this;left;exact am
   ·rw [if_neg hc] at h;simp only [cF,hx] at h
    rcases h with h | h
    ·cases h;left;exact am
    ·cases h;right;exact am
  | false =>
   have h':=ih (by
    by_cases hc:(k == cg && env.scope.kind == .function && env.kindOf n == some .cell)=true
    ·rw [if_pos hc] at h;simp only [cF,hx] at h;exact h
    ·rw [if_neg hc] at h;simp only [cF,hx] at h;exact h)
   rcases h' with h' | h'
   ·left;exact aj _ h'
   ·right;exact aj _ h'
inductive P8 (nt:Nat) (ix:List Nat) (g:TG) (tt:TT) (te:TE) (σ:St) (Q:VK) (J:It) (H1:Hp):Prop
 | mk (W:Nat->Nat->List V->Hp->Prop) (w0:∃ m,W 0 m [] H1) (turn:∀ i m acc H,W i m acc H ->
 (J.stop i H/\∀ p,H p=none->Q (.ref p) (upd H p (.lst acc))) \/
 (J.go i H/\acc.length<sizeLine/\∀ x H',J.yld i H x H'->g x (gL nt ix σ) H' fun σ2 H2=>tt σ2 H2 fun b H3 =>
  if b=true then te σ2 H3 fun y H4=>∃ m',m'<m/\W (i + 1) m' (acc++[y]) H4 else ∃ m',m'<m/\W (i + 1) m' acc H3)):P8 nt ix g tt te σ Q J H1
def Kb (nt:Nat) (ix:List Nat) (wi:TI) (g:TG) (tt:TT) (te:TE):TE:=fun σ H Q=>wi σ H (P8 nt ix g tt te σ Q)
theorem iK:∀ (names:List (Str×jq)) (n:Nat) (acc:List (Str×ah)),aP n names acc=aP n names []++acc
 | [],_,_=>rfl
 | (y,k)::r,n,acc=>by
  unfold aP
  split
  ·rw [iK r (n + 1) ((y,n)::acc),iK r (n + 1) [(y,n)],eG];rfl
  ·exact iK r n acc
theorem mH {x:Str}{c:ah}:∀ (names:List (Str×jq)) (n:Nat) (acc:List (Str×ah)),(x,c)∈aP n names acc->(x,dG)∈names\/(x,c)∈acc
 | [],_,_,h=>.inr h
 | (y,k)::r,n,acc,h=>by
  unfold aP at h
  split at h
  ·rename_i hk
   have hk:k=.cell:=by simpa using hk
   rcases mH r _ _ h with z | z
   ·exact .inl (aj _ z)
   ·rcases List.mem_cons.mp z with z | z
    ·cases z;subst hk;exact .inl am
    ·exact .inr z
  ·exact (mH r _ _ h).imp (aj _) id
theorem jd {names:List (Str×jq)}{n:Nat}{cl:List (Str×ah)}{x:Str}{c:ah} (h:(aP n names cl).lookup x=some c) :
  (x,c)∈aP n names []\/((aP n names []).lookup x=none/\cl.lookup x=some c):=by
 rw [iK,J9] at h
 cases e:(aP n names []).lookup x with
 | some d=>rw [e] at h;cases h;exact .inl (de e)
 | none=>rw [e] at h;exact .inr ⟨rfl,h⟩
theorem As {M:ym}{A:b9}{E:a9->ac->Prop}{s:ac}{scope:dw}{globals:ah}{cl:List (Str×ah)}{qual:Str}{func:Option ah}{code:a9}{outer:Env}{builtins:ah}{Q:Env->ac->Prop}
  (hQ:∀ h₁,h₁=pushCells (s.heap.push { cls:=.type "dict",data:=.dict #[] }) scope.names->Q (newEnv scope s.heap.objs.size globals (aP (s.heap.objs.size + 1) scope.names cl) qual func code (some outer) builtins) { s with heap:=h₁ }) :
  ar M A (nz scope globals cl [] qual func code (some outer) builtins) Q E s:=by
 simp only [nz,FM,if_true]
 refine a7 (MZ ?_)
 refine a7 (wpAny_layCells _ (fun name kind cells=>by cases hkc:kind == dG<;>simp [hkc]) _ _ _ _ ?_)
 rw [show ({ s with heap:=s.heap.push { cls:=.type "dict",data:=.dict #[] } }:ac).heap.objs.size=s.heap.objs.size + 1 from c9 ..]
 refine a7 ?_
 rw [lU]
 exact aa (aa (hQ _ rfl))
theorem uD (h:bp) (names:List (Str×jq)):Jr (pushCells (h.push { cls:=.type "dict",data:=.dict #[] }) names) (h.objs.size + 1) (aP (h.objs.size + 1) names []):=by
 have ok:=cellsFrom_ok names (h.push { cls:=.type "dict",data:=.dict #[] }) (h.objs.size + 1) [] ⟨fun _ _ hm=>(nomatch hm),zi⟩ (by rw [c9];exact au _)
 rw [c9] at ok
 exact ok
section
variable {X:Cx}{pins:List (ah×Obj)}{σ:St}{H:Hp}{s:ac}
theorem wN {scope:dw}{N':List Str}{nt:Nat}{ix:List Nat}{cl:List (Str×ah)}{C:ah}{fp:List ah}{h₁:bp}{t':Nat}{m:Str->Option a9}
  (S:jD X scope N' nt ix) (I:bQ X pins σ H s) (c1:∀ x c,cl.lookup x=some c->X.env.cells.lookup x=some c) (c2:∀ y∈scope.names,y.2=.free->∃ c,cl.lookup y.1=some c)
  (hf:∀ b∈fp,mU X pins H b) (ff:∀ b∈fp,b<s.heap.objs.size) (hC:s.heap.objs.size<=C) (hns:h₁.Ns C m) (old:∀ b o,s.heap.get? b=some o->h₁.get? b=some o) (ok:Jr h₁ (C + 1) (aP (C + 1) scope.names [])) :
  bQ (bM X N' scope (aP (C + 1) scope.names cl) C s H fp (X.pn++pins)) [] (gL nt ix σ) H { s with heap:=h₁,toks:=t' }:=by
 have cellOld:∀ {c v},s.heap.IsCell c v->h₁.IsCell c v:=fun {c v} ⟨o,ho,hd⟩=>⟨o,old _ _ ho,hd⟩
 have up:∀ {x c},(x,c)∈aP (C + 1) scope.names []->s.heap.objs.size<c:=fun {x c} h=>aC (ic hC) (ok.empty x c h).2
 have low:∀ {x c},cl.lookup x=some c->c<s.heap.objs.size:=fun {x c} h=>by
  obtain ⟨v,q⟩:=I.cell x c (c1 x c h)
  exact q.lt
 refine ⟨⟨I.ok.mod,S.kind,I.ok.glob,I.ok.blt,hC,fun x y c h1 h2=>?_,fun x hx=>?_,fun x c h h2=>?_,I.ok.hd,I.ok.frames,.inl rfl,fun b hb=>⟨?_,fun x c h=>?_⟩,I.bs,bU I.ok.bsz I.sz,fun b o h hb=>?_,fun b hb z=>?_,I.stack,I.stkFree⟩,
  rfl,I.bare,Un.kept old,⟨m,hns,fun i x v h1 h2 h3=>?_⟩,fun x c h=>?_,I.hok.fresh hC,fun x c h=>?_,fun p hp=>?_,I.hok.kept old,?_⟩
 ·rcases jd h1 with a | ⟨_,a⟩<;>rcases jd h2 with b | ⟨_,b⟩
  ·exact name_of_addr ok.apart a b
  ·exact absurd (up a) (o_ (low b))
  ·exact absurd (up b) (o_ (low a))
  ·exact I.ok.inj x y c (c1 x c a) (c1 y c b)
 ·have hx':(x,cg)∈scope.names\/(x,dG)∈scope.names:=tJ (env:=X.env) (hx.elim .inr .inl)
  have hs:((aP (C + 1) scope.names cl).lookup x).isSome=true:=by
   rcases hx' with z | z
   ·obtain ⟨c,e⟩:=c2 _ z rfl
    exact gx _ _ _ (.inr (by rw [e];rfl))
   ·exact gx _ _ _ (.inl (S.cel _ z rfl))
  exact Option.isSome_iff_exists.mp hs
 ·rcases jd h2 with a | ⟨a,_⟩
  ·exact cp (up a)
  ·have:=gx (x:=x) scope.names (C + 1) [] (.inl (by simpa [bM] using h))
   rw [a] at this;cases this
 ·exact aF (aC (ff b hb) hC)
 ·rcases jd h with a | ⟨_,a⟩
  ·exact fY (Nat.lt_trans (ff b hb) (up a))
  ·exact (hf b hb).f4 x c (c1 x c a)
 ·rcases (hf b hb).f3 with z | z
  ·exact I.ok.noex b o h z
  ·exact absurd (aC (aq h) (bU I.ok.bsz z)) (bv _)
 ·rcases List.mem_cons.mp (I.stkSub b z) with e | e
  ·exact (hf b hb).f1 e
  ·exact (hf b hb).f2 e
 ·have hnt:nt<=i:=by
   refine MV fun hlt=>?_
   have h2':(gL nt ix σ)[i]?=some (some v):=h2
   unfold gL at h2'
   rw [aW (by simpa using hlt),bY,if_pos hlt] at h2'
   cases h2'
  have h2':(gL nt ix σ)[i]?=some (some v):=h2
  unfold gL at h2'
  rw [bc (by simpa using hnt),cJ,aX] at h2'
  cases e:ix[i - nt]? with
  | none=>rw [e] at h2';cases h2'
  | some j =>
   rw [e] at h2'
   have hj:σ[j]?=some (some v):=by
    have q:(σ[j]?).join=some v:=bF h2'
    cases e3:σ[j]? with
    | none=>rw [e3] at q;cases q
    | some o=>rw [e3] at q;cases o with
     | none=>cases q
     | some v'=>cases q;rfl
   obtain ⟨x',n1,n2,fr⟩:=S.cap _ _ e
   rw [Nat.add_sub_cancel' hnt] at n2
   have h1':N'[i]?=some x:=h1
   rw [h1'] at n2
   cases n2
   obtain ⟨mm,hn,hl⟩:=I.loc
   have hfree:=S.free (x,.free) (de fr) rfl
   obtain ⟨u,r,l⟩:=hl j x v n1 hj (hfree.elim (fun z=>.inr (.inl z)) fun z=>.inr (.inr z))
   refine ⟨u,r,?_⟩
   rcases l with ⟨k,_⟩ | ⟨k,c,hc,hcell⟩
   ·have k:X.env.scope.names.lookup x=some .local:=k
    rcases hfree with z | z<;>(rw [z] at k;cases k)
   ·obtain ⟨c',hc'⟩:=c2 _ (de fr) rfl
    have:=c1 x c' hc'
    rw [hc] at this
    cases this
    have hno:(aP (C + 1) scope.names []).lookup x=none:=by
     cases e:(aP (C + 1) scope.names []).lookup x with
     | none=>rfl
     | some d =>
      rcases mH _ _ _ (de e) with z | z
      ·have q:=S.cel _ z rfl
       rw [fr] at q;cases q
      ·cases z
    refine .inr ⟨?_,c,by show (aP (C + 1) scope.names cl).lookup x=some c;rw [iK,J9,hno];exact hc',cellOld hcell⟩
    rcases qQ (env:=X.env) fr with z | z
    ·exact .inr z
    ·exact .inl z
 ·rcases jd h with a | ⟨_,a⟩
  ·exact ⟨none,(ok.empty x c a).1⟩
  ·obtain ⟨v,q⟩:=I.cell x c (c1 x c a)
   exact ⟨v,cellOld q⟩
 ·rcases jd h with a | ⟨_,a⟩
  ·exact I.hok.fresh (cp (up a))
  ·exact I.freeC x c (c1 x c a)
 ·have hp:p∈X.pn++pins:=(List.mem_append.mp hp).elim id fun z=>absurd z (by simp)
  obtain ⟨e,n,ne,nf,d⟩:=I.pin p hp
  refine ⟨old _ _ e,n,aF (aC (aq e) hC),fun z=>?_,d⟩
  rcases List.mem_cons.mp (I.stkSub p.1 z) with e | e
  ·exact ne e
  ·exact nf e
 ·show (gL nt ix σ).length=N'.length
  rw [S.len];simp [gL]
end
end
section
theorem Un.grow {fs ex:List ah}{H H1:Hp}{h h1 h2:bp} (u:Un fs ex H H1 h h1) {C D:ah}{o:HO} (sb:bA C h1 h2) (hC:h.objs.size<=C) (hD:h.objs.size<=D) (hn:H1 D=none):Un fs ex H (upd H1 D o) h h2 where
 keep:=fun b ob q n hb hx=>(sb.2 b (aF (aC (aq q) hC))).trans (u.keep b ob q n hb hx)
 slot:=fun b ob q n hb hx=>by
  obtain ⟨sl,e⟩:=u.slot b ob q n hb hx
  exact ⟨sl,(sb.2 b (aF (aC (aq q) hC))).trans e⟩
 free:=fun b ob q n hx=>by rw [bg (aF (aC (aq q) hD))];exact u.free b ob q n hx
 there:=fun b ob q hx=>by
  obtain ⟨o',e⟩:=u.there b ob q hx
  exact ⟨o',(sb.2 b (aF (aC (aq q) hC))).trans e⟩
 tups:=fun b xs q=>by have z:=u.tups b xs q;rw [bg (bR z hn)];exact z
 frzs:=fun b ob xs q=>by have z:=u.frzs b ob xs q;rw [bg (bR z hn)];exact z
 tbls:=fun b ps q=>by
  obtain ⟨m,z⟩:=u.tbls b ps q
  exact ⟨m,by rw [bg (bR z hn)];exact z⟩
theorem wO {P:aE}{w:aU}{H:Hp}{h h':bp}{C:ah} (k:oA P w H h) (hC:H C=none) (sb:bA C h h'):oA P w H h':=fun b ob e=>by
 refine (k b ob e).stay (fun c w' hc q=>(sb.2 c ?_).trans q) (fun _ q=>q) fun _ _ q=>q
 rintro rfl
 rcases hc with rfl | hc
 ·rw [hC] at e;cases e
 ·rw [hC] at hc;cases hc
theorem qf {P:aE}{w:aU}{H:Hp}{h:bp}{D:ah}{o:HO} (k:oA P w H h) (hD:H D=none) (new:dk P w (upd H D o) h D o):oA P w (upd H D o) h:=fun b ob e=>by
 by_cases hb:b=D
 ·subst hb;rw [bj] at e;cases e;exact new
 ·rw [bg hb] at e
  exact (k b ob e).stay (fun c w' hc q=>q) (fun c q=>by rw [bg (bR q hD)];exact q) fun c x q=>by rw [bg (bR q hD)];exact q
theorem nf {M:ym}{A:b9}{α:Type}{t:Sem α}{Q:α->ac->Prop}{E':a9->ac->Prop}{s:ac} (h:ar M A t Q (fun _ _=>False) s):ar M A t Q E' s :=
 bi h (fun _ _ q=>q) fun _ _ f=>f.elim
theorem bQ.pin1 {X:Cx}{σ:St}{H:Hp}{s:ac}{D:ah}{o:Obj} (I:bQ X [] σ H s) (e:s.heap.get? D=some o) (n:H D=none) (ne:D≠X.env.locals) (nf:D∉X.fs) (d:∀ v,o.data≠.cell v):bQ X [(D,o)] σ H s :=
 I.pins_of fun p hp=>by
  have:p=(D,o):=by simpa using hp
  subst this
  exact ⟨e,n,ne,nf,d⟩
def MO (nt:Nat) (g:TG):Prop:=∀ x σ0 H (Q:St->Hp->Prop),g x σ0 H Q->g x σ0 H (fun σ2 H2=>Q σ2 H2/\σ2.length=σ0.length/\∀ j,nt<=j->σ2[j]?=σ0[j]?)
theorem Kc {nt i:Nat} (h:i<nt):MO nt (vj i):=fun x σ0 H Q q=>⟨q,by simp,fun j hj=>al (by omega)⟩
theorem NV {nt i k n:Nat}{K:a8} (h:i<nt) (h':k<nt):MO nt (Qm K n (ag (vj i) (ag (vj k) aM))):=by
 rintro x σ0 H Q ⟨a,xs,rfl,sq,hl,v,r,rfl,v',r',rfl,rfl,q⟩
 exact ⟨a,_,rfl,sq,hl,v,_,rfl,v',_,rfl,rfl,q,by simp,fun j hj=>by rw [al (by omega),al (by omega)]⟩
inductive VE (X:Cx) (pins:List (ah×Obj)) (N':List Str) (scope:dw) (cl:List (Str×ah)) (C:ah) (s2:ac) (H2:Hp) (fp:List ah) (nt:Nat) (ix:List Nat) (σ:St) (tn:Nat->bp->Prop) (W:Nat->Nat->List V->Hp->Prop) (n:Nat) (s':ac):Prop
 | mk (i:Nat) (acc:List V) (its:List a9) (nn:Nat) (H':Hp) (I:bQ (bM X N' scope cl C s2 H2 fp (X.pn++pins)) [(s2.heap.objs.size,{ cls:=.type "list",data:=.seq its.toArray nn })] (gL nt ix σ) H' s') (v:du acc its) (l:acc.length<=sizeLine) (t:tn i s'.heap) (f:∀ b∈fp,H' b=none) (w:W i n acc H'):VE X pins N' scope cl C s2 H2 fp nt ix σ tn W n s'
theorem wP {X:Cx}{elt tg iter:aQ}{ifs:List aQ}{scope:dw}{pos:Pos}{g:TG}{tt:TT}{te:TE}{N':List Str}{nt:Nat}{ix:List Nat}
  (hc:X.calm=true) (S:jD X scope N' nt ix) (lo:MO nt g)
  (hb:∀ cl C s₀ H₀ ex pn,PG (bM X N' scope cl C s₀ H₀ ex pn) tg g/\HP (bM X N' scope cl C s₀ H₀ ex pn) ifs tt/\PE (bM X N' scope cl C s₀ H₀ ex pn) elt te)
  {cl:List (Str×ah)} (c1:∀ x c,cl.lookup x=some c->X.env.cells.lookup x=some c) (c2:∀ y∈scope.names,y.2=.free->∃ c,cl.lookup y.1=some c)
  {pins:List (ah×Obj)}{σ:St}{H2:Hp}{s2:ac}{it:ah}{fp:List ah}{tn:Nat->bp->Prop}{J:It}{Q:VK}{E:a9->ac->Prop}
  (I2:bQ X pins σ H2 s2) (T:wI X.prog X.w X.K tg J fp it tn) (st2:tn 0 s2.heap) (f2:∀ b∈fp,mU X pins H2 b)
  {W:Nat->Nat->List V->Hp->Prop} (w0:∃ m,W 0 m [] H2)
  (turn:∀ i m acc H,W i m acc H->(J.stop i H/\∀ p,H p=none->Q (.ref p) (upd H p (.lst acc))) \/
   (J.go i H/\acc.length<sizeLine/\∀ x H',J.yld i H x H'->g x (gL nt ix σ) H' fun σ2 H2=>tt σ2 H2 fun b H3 =>
    if b=true then te σ2 H3 fun y H4=>∃ m',m'<m/\W (i + 1) m' (acc++[y]) H4 else ∃ m',m'<m/\W (i + 1) m' acc H3))
  {RR:a9->ah->oZ->ac->Prop}
  (hRR:∀ D C m s' (acc:List V) H',H' D=none->mU X pins (upd H' D (.lst acc)) C->Q (.ref D) (upd H' D (.lst acc))->s'.heap.Ns C m->(∀ h',bA C s'.heap h'->bQ X pins σ (upd H' D (.lst acc)) { s' with heap:=h' })->RR (.ref D) C (.ok .next) s') :
  ar (aG X.prog X.w) X.A (newList []) (fun acc s₃=>ar (aG X.prog X.w) X.A (nz scope X.env.globals cl [] X.env.qual none .none (some X.env)) (fun cenv s₄ =>
   gN (aG X.prog X.w) X.A (.compStart (.ListComp elt [⟨tg,iter,ifs,0⟩] scope pos) 0 (.ref it) acc { cenv with scope:=relabel scope X.env }) (RR acc cenv.locals) s₄) E s₃) E s2:=by
 refine bL (As fun h₁ hh₁=>?_)
 dsimp only at hh₁ ⊢
 generalize hG2:s2.heap.push { cls:=.type "list",dict:=none,data:=.seq ([] : List a9).toArray }=G2 at hh₁ ⊢
 have hC:G2.objs.size=s2.heap.objs.size + 1:=by rw [<- hG2,c9]
 have hDC:s2.heap.objs.size≠G2.objs.size:=by rw [hC];exact aF (da _)
 have hCle:s2.heap.objs.size<=G2.objs.size:=by rw [hC];exact jp _
 have below:∀ b,b<s2.heap.objs.size->b≠G2.objs.size:=fun b hb=>by rw [hC];exact aF (dY hb)
 have kp:∀ b o,G2.get? b=some o->h₁.get? b=some o:=fun b o e=>by rw [hh₁];exact ju _ _ b o (ae _ e)
 have hns₁:h₁.Ns G2.objs.size (fun _=>none):=by rw [hh₁];exact (BO G2 (.type "dict")).keeps (ju _ _)
 have ok₁:Jr h₁ (G2.objs.size + 1) (aP (G2.objs.size + 1) scope.names []):=by rw [hh₁];exact uD G2 scope.names
 have cne:∀ x c,(aP (G2.objs.size + 1) scope.names cl).lookup x=some c->X.env.cells.lookup x=some c\/s2.heap.objs.size<c:=fun x c e=>by
  rcases jd e with a | ⟨_,a⟩
  ·exact .inr (aC (ic hCle) (ok₁.empty x c a).2)
  ·exact .inl (c1 x c a)
 have old:∀ b o,s2.heap.get? b=some o->h₁.get? b=some o:=fun b o e=>kp b o (hG2 ▸ ae _ e)
 have hacc:h₁.get? s2.heap.objs.size=some { cls:=.type "list",dict:=none,data:=.seq ([] : List a9).toArray }:=kp _ _ (hG2 ▸ ay _ rfl)
 have ff:∀ b∈fp,b<s2.heap.objs.size:=fun b hb=>by
  obtain ⟨o,e,_⟩:=T.obj _ _ st2 b hb
  exact aq e
 have I3:bQ (bM X N' scope (aP (G2.objs.size + 1) scope.names cl) G2.objs.size s2 H2 fp (X.pn++pins)) [] (gL nt ix σ) H2 { s2 with heap:=h₁,toks:=s2.toks }:=wN S I2 c1 c2 f2 ff hCle hns₁ old ok₁
 obtain ⟨pg,pt,pe⟩:=hb (aP (G2.objs.size + 1) scope.names cl) G2.objs.size s2 H2 fp (X.pn++pins)
 have hDfs:s2.heap.objs.size∉qc X.stack:=fun z=>by
  rcases List.mem_cons.mp (I2.stkSub _ z) with e | e
  ·exact absurd I2.lt (by rw [<- e];exact bv _)
  ·exact I2.nofs (au _) e
 have nod:∀ (its:List a9) (n:Nat) v,({ cls:=.type "list",data:=.seq its.toArray n }:Obj).data≠.cell v:=fun _ _ _ z=>nomatch z
 have st1:tn 0 h₁:=T.keep _ _ _ st2 fun b _ o e=>old b o e
 have hDf:s2.heap.objs.size∉fp:=fun z=>absurd (ff _ z) (bv _)
 have stat:∀ {H':Hp}{pl:List (ah×Obj)},(∀ p∈pl,p.1∉fp)->(∀ b∈fp,H' b=none)->∀ b∈fp,mU (bM X N' scope (aP (G2.objs.size + 1) scope.names cl) G2.objs.size s2 H2 fp (X.pn++pins)) pl H' b:=fun hpl hn b hb=>by
  obtain ⟨f0,f1,f2',f3,f4,f5⟩:=f2 b hb
  refine ⟨hn b hb,below b (ff b hb),fun z=>?_,.inl hb,fun x c e=>(cne x c e).elim (f4 x c) fun q z=>o_ q (by rw [z];exact ff b hb),fun p hp z=>?_⟩
  ·rcases List.mem_cons.mp (I2.stkSub _ z) with e | e
   ·exact f1 e
   ·exact f2' e
  ·rcases List.mem_append.mp hp with q | q
   ·exact f5 p q z
   ·exact hpl p q (z ▸ hb)
 obtain ⟨m0,w0⟩:=w0
 have loop:gN (aG X.prog X.w) X.A (.compLoop (.ListComp elt [⟨tg,iter,ifs,0⟩] scope pos) 0 (.ref it) (.ref s2.heap.objs.size) (MY scope (aP (G2.objs.size + 1) scope.names cl) G2.objs.size X.env))
    (RR (.ref s2.heap.objs.size) G2.objs.size) { s2 with heap:=h₁,toks:=s2.toks }:=by
  refine Ar (VE X pins N' scope (aP (G2.objs.size + 1) scope.names cl) G2.objs.size s2 H2 fp nt ix σ tn W) ?_ m0
   ⟨0,[],[],0,H2,I3.pin1 hacc (I2.hok.fresh (au _)) hDC hDfs (nod _ _),.nil,cn _,st1,fun b hb=>(f2 b hb).1,w0⟩
  rintro n s3 ⟨i,acc,its,nn,H3,J3,rv,hz,st3,fr3,w3⟩
  have plD:∀ p∈[(s2.heap.objs.size,({ cls:=.type "list",data:=.seq its.toArray nn }:Obj))],p.1∉fp:=fun p hp=>by
   have:p=(s2.heap.objs.size,({ cls:=.type "list",data:=.seq its.toArray nn }:Obj)):=by simpa using hp
   rw [this];exact hDf
  rcases turn i n acc H3 w3 with ⟨stop,qn⟩ | ⟨go,hlt,step⟩
  ·refine eB (T.done (bM X N' scope (aP (G2.objs.size + 1) scope.names cl) G2.objs.size s2 H2 fp (X.pn++pins)) rfl rfl rfl hc i _ s3 _ H3 _ J3 (stat plD fr3) st3 stop) fun r s4 h_0=>?_
   obtain ⟨hr,I4⟩:=h_0
   subst hr
   obtain ⟨pD,pN,_⟩:=I4.pin (s2.heap.objs.size,_) (az _ (List.mem_singleton.mpr rfl))
   obtain ⟨mm,hn,_⟩:=I4.loc
   have hCn:H3 G2.objs.size=none:=I4.free
   refine hRR _ _ mm s4 acc H3 pN (I2.fpOk hCle (by rw [bg (cW hDC)];exact hCn)) (qn _ pN) hn fun h' sb=>?_
   have hu:Un (qc X.stack) fp H2 (upd H3 s2.heap.objs.size (.lst acc)) s2.heap h':=Un.grow I4.base sb hCle (au _) pN
   refine I2.call' (s':={ s4 with heap:=h' }) (ch:=fp) I4.os hu ?_ I4.bare fun b hb=>?_
   ·refine qf (wO I4.hok hCn sb) pN ⟨hz,its,nn,rv,(sb.2 _ hDC).trans pD⟩
   ·obtain ⟨_,f1,_,f3,f4,f5⟩:=f2 b hb
    exact ⟨f3,f1,f4,f5⟩
  ·refine eB (T.item (bM X N' scope (aP (G2.objs.size + 1) scope.names cl) G2.objs.size s2 H2 fp (X.pn++pins)) rfl rfl rfl hc i _ s3 _ H3 _ J3 (stat plD fr3) st3 go) fun r s4 h_1=>?_
   obtain ⟨u,hr,h4⟩:=h_1
   subst hr
   refine eB h4 fun _ s5 h_2=>?_
   obtain ⟨x,H5,I5,r5,y5,st5,fr5⟩:=h_2
   have I5':=I5.pinned (stat plD fr5) (T.obj _ _ st5)
   refine eB (pg _ s5 _ H5 x u _ I5' r5 (lo _ _ _ _ (step x H5 y5))) fun _ s6 h_3=>?_
   obtain ⟨σ6,H6,I6,q6,l6,k6⟩:=h_3
   have hw:∀ (j:Nat) v,(gL nt ix σ)[j]?=some (some v)->σ6[j]?=some (some v):=fun j v e=>by
    by_cases hj:nt<=j
    ·rw [k6 j hj];exact e
    ·unfold gL at e
     rw [aW (by simpa using hj),bY,if_pos (by omega)] at e
     cases e
   refine eB (pt _ s6 σ6 H6 _ I6 q6) fun b s7 h_4=>?_
   obtain ⟨H7,I7,q7⟩:=h_4
   have fpk:∀ {s8:ac}{σ8:St}{H8:Hp},bQ (bM X N' scope (aP (G2.objs.size + 1) scope.names cl) G2.objs.size s2 H2 fp (X.pn++pins)) ([(s2.heap.objs.size,{ cls:=.type "list",data:=.seq its.toArray nn })]++rJ fp s5.heap) σ8 H8 s8 ->
     tn (i + 1) s8.heap/\∀ b∈fp,H8 b=none:=fun {s8 σ8 H8} I8=>by
    refine ⟨T.keep _ _ _ st5 fun b hb o e=>(I8.pin (b,o) (az _ (az _ (i6 hb e)))).1,fun b hb=>?_⟩
    obtain ⟨o,e,d⟩:=T.obj _ _ st5 b hb
    exact (I8.pin (b,o) (az _ (az _ (i6 hb e)))).2.1
   cases b with
   | false =>
    simp only [bS,if_false] at q7 ⊢
    obtain ⟨m',hm,w7⟩:=q7
    obtain ⟨t7,f7⟩:=fpk I7
    exact ⟨m',hm,i + 1,acc,its,nn,H7,(I7.weak l6.symm hw).unpinned,rv,hz,t7,f7,w7⟩
   | true =>
    simp only [if_true] at q7 ⊢
    refine eB (pe _ s7 σ6 H7 _ I7 q7) fun u8 s8 h_5=>?_
    obtain ⟨y,H8,I8,r8,m',hm,w8⟩:=h_5
    obtain ⟨t8,f8⟩:=fpk I8
    obtain ⟨pD,pN,_⟩:=I8.pin (s2.heap.objs.size,_) (az _ (bf _ (List.mem_singleton.mpr rfl)))
    have hl:=rv.length
    refine wpAny_list_append_plain ⟨nn,pD⟩ (hsz:=by rw [aR];omega) ?_
    intro h9 pl9 sb9
    obtain ⟨n9,e9⟩:=pl9
    have e9':h9.get? s2.heap.objs.size=some { cls:=.type "list",data:=.seq (its++[u8]).toArray n9 }:=by rw [e9];simp
    refine ⟨m',hm,i + 1,acc++[y],its++[u8],n9,H8,?_,rv.append (.cons r8 .nil),by rw [aN,cK];omega,T.keep _ _ _ t8 fun b hb o e=>sb9.extBut b o (fun z=>hDf (z ▸ hb)) e,f8,w8⟩
    have I8':bQ (bM X N' scope (aP (G2.objs.size + 1) scope.names cl) G2.objs.size s2 H2 fp (X.pn++pins)) [] (gL nt ix σ) H8 s8:=(I8.weak l6.symm hw).pins_of fun p hp=>absurd hp (by simp)
    have I9:bQ (bM X N' scope (aP (G2.objs.size + 1) scope.names cl) G2.objs.size s2 H2 fp (X.pn++pins)) [] (gL nt ix σ) H8 { s8 with heap:=h9,toks:=s8.toks } :=
     I8'.turned (it:=s2.heap.objs.size) (fun b o hb e=>sb9.extBut b o hb e) pN hDC (.inr (au _)) (fun x c e z=>by
      rcases cne x c e with e | e
      ·obtain ⟨v,q⟩:=I2.cell x c e
       exact absurd q.lt (by rw [z];exact bv _)
      ·exact absurd e (by rw [z];exact bv _)) fun p hp z=>by
      have hp:p∈X.pn++pins:=(List.mem_append.mp hp).elim id fun z=>absurd z (by simp)
      exact absurd (aq (I2.pin p hp).1) (by rw [z];exact bv _)
    exact I9.pin1 e9' pN hDC hDfs (nod _ _)
 exact codeAny_compStart_list loop (T.self _ 0 _ _ _ st1 loop)
end
section
theorem C6 {X:Cx}{elt tg iter:aQ}{ifs:List aQ}{scope:dw}{pos:Pos}{wi:TI}{g:TG}{tt:TT}{te:TE}{N':List Str}{nt:Nat}{ix:List Nat}
  (hc:X.calm=true) (S:jD X scope N' nt ix) (lo:MO nt g) (hi:PI X tg iter wi)
  (hb:∀ cl C s₀ H₀ ex pn,PG (bM X N' scope cl C s₀ H₀ ex pn) tg g/\HP (bM X N' scope cl C s₀ H₀ ex pn) ifs tt/\PE (bM X N' scope cl C s₀ H₀ ex pn) elt te)
  (hs:∀ x,cS iter X.env x=pure x:=by intro _;rfl):PE X (.ListComp elt [⟨tg,iter,ifs,0⟩] scope pos) (Kb nt ix wi g tt te):=by
 intro pins s σ H Q I h
 obtain ⟨cl,hcl,c1,c2⟩:=nC (scope:=scope) (env:=X.env) fun y hy hf=>I.ok.has y.1 (S.free y hy hf)
 rw [eval_ListComp]
 refine jr (use:=none) rfl hs hcl S.kind S.loc (eB (hi pins s σ H _ I h) fun v s1 h1=>eB h1 fun itv s2 h2=>?_)
 obtain ⟨it,fp,tn,J,H2,e,I2,T,st2,f2,W,w0,turn⟩:=h2
 subst e
 refine wP (RR:=fun acc C=>M_ (aG X.prog X.w) X.A X.xe none (EP X pins σ Q) acc C) hc S lo hb c1 c2 I2 T st2 f2 w0 turn ?_
 intro D C m s' acc H' hD _ q hn hI
 exact ⟨m,hn,fun h' sb=>⟨.ref D,_,hI h' sb,rfl,q⟩⟩
def P9 (i:Nat) (te:TE):TS:=fun D σ H=>te σ H fun x H1=>D.nx (σ.set i (some x)) H1
theorem EE {X:Cx}{elt tg iter:aQ}{ifs:List aQ}{scope:dw}{pos spos py:Pos}{wi:TI}{g:TG}{tt:TT}{te:TE}{N':List Str}{nt:Nat}{ix:List Nat}{i:Nat}{y:Str}
  (hN:X.N.Nodup) (hiN:X.N[i]?=some y) (hy:X.env.scope.names.lookup y=some .local)
  (hc:X.calm=true) (S:jD X scope N' nt ix) (lo:MO nt g) (hi:PI X tg iter wi)
  (hb:∀ cl C s₀ H₀ ex pn,PG (bM X N' scope cl C s₀ H₀ ex pn) tg g/\HP (bM X N' scope cl C s₀ H₀ ex pn) ifs tt/\PE (bM X N' scope cl C s₀ H₀ ex pn) elt te)
  (hsw:fD (.ListComp elt [⟨tg,iter,ifs,0⟩] scope pos) (some (.Name y py)) spos.line X.env=pure true:=by rfl)
  (hs:∀ x,cS iter X.env x=pure x:=by intro _;rfl):PS X (.Assign [.Name y py] (.ListComp elt [⟨tg,iter,ifs,0⟩] scope pos) spos) (P9 i (Kb nt ix wi g tt te)):=by
 intro pins s σ H D I h
 obtain ⟨cl,hcl,c1,c2⟩:=nC (scope:=scope) (env:=X.env) fun y hy hf=>I.ok.has y.1 (S.free y hy hf)
 rw [MH _ _ _ _ hsw]
 refine a7 (eF (a7 ?_))
 show ar _ X.A (do let _ <- Hq (.ListComp elt [⟨tg,iter,ifs,0⟩] scope pos) scope X.env _ (newList []) false (dU iter X.env) (some (jx (.Name y py) X.env))) _ _ s
 refine a7 (bi (jr (use:=some (jx (.Name y py) X.env)) (Q:=fun _ s'=>SP X pins D .next s') rfl hs hcl S.kind S.loc
  (eB (hi pins s σ H _ I h) fun v s1 h1=>eB h1 fun itv s2 h2=>?_)) (fun _ s' hq=>aa (aa hq)) fun _ _ e=>e)
 obtain ⟨it,fp,tn,J,H2,e,I2,T,st2,f2,W,w0,turn⟩:=h2
 subst e
 refine wP (Q:=fun x H1=>D.nx (σ.set i (some x)) H1) (RR:=fun acc C=>M_ (aG X.prog X.w) X.A X.xe (some (jx (.Name y py) X.env)) (fun _ s'=>SP X pins D .next s') acc C) hc S lo hb c1 c2 I2 T st2 f2 w0 turn ?_
 intro L C m s' acc H' hD fC q hn hI
 show ar _ X.A (jx (.Name y py) X.env (.ref L)) _ _ _
 have I3:bQ X pins σ (upd H' L (.lst acc)) s':=hI s'.heap (.refl ..)
 refine yo (uz I3 hN hiN (.inl hy) (v:=.ref L) rfl (fun s4 I4 ⟨a,sb,ha⟩=>?_) (.inr hy))
 obtain ⟨g0,g1,g2,g3,g4,g5⟩:=fC
 have hCa:C≠a:=by
  rcases ha with z | z
  ·rw [z];exact g1
  ·exact fun e=>g4 y a z e.symm
 refine ⟨m,hn.sameBut sb hCa,fun h5 sb5=>?_⟩
 exact ⟨_,_,I4.turned (t':=s4.toks) (fun b o hb e=>(sb5.2 b hb).trans e) g0 g1 g3 g4 g5,q⟩
end
section
def jt (e:Int×a9):Str:=match e.2 with
 | .str x _=>x
 | _=>⟨#[]⟩
def rM (w:aU) (e:Int×a9):Prop:=∃ x tk,e=(hashStr w x,j8 x tk)
structure cH (w:aU) (h:bp) (a:ah) (es:Array (Int×a9)) (ep:Nat) (t:e6):Prop where
 at_:h.get? a=some { cls:=.type "set",dict:=none,data:=.set es ep t }
 txt:∀ e∈es.toList,rM w e
 nd:(es.toList.map jt).Nodup
 few:es.size<iy
 fits:t.fits es.size=true
 led:t.led=!w.params.followText "set-order"
 pl:es.size=0\/t.plain=false
inductive kj (w:aU) (h:bp) (a:ah) (ss:List Str):Prop
 | mk (es ep t:_) (h0:cH w h a es ep t) (h1:(es.toList.map jt).Perm ss):kj w h a ss
theorem EF (t:e6) (es:Array (Int×a9)) (h:Int) (x:a9):(layNew t es h x).2.1.led=t.led:=by
 unfold layNew
 cases t.freeSlot h with
 | none=>rfl
 | some p =>
  obtain ⟨slot,d⟩:=p
  show ((t.put slot).1.orStandIn _).led=_
  unfold DY
  split<;>rfl
theorem At (t:e6) (es:Array (Int×a9)) (h:Int) (x:a9):t.plain=false->(layNew t es h x).2.1.plain=false:=by
 intro hp
 unfold layNew
 cases t.freeSlot h with
 | none=>rfl
 | some p =>
  obtain ⟨slot,d⟩:=p
  show ((t.put slot).1.orStandIn _).plain=_
  unfold DY
  split
  ·exact hp
  ·rfl
theorem C7 {t t':e6}{hs:Array Int}{n:Nat}{o:Array Nat} (h:t.relaid hs n=some (t',o)):t'.led=t.led/\t'.plain=t.plain:=by
 unfold Hr yi at h
 cases e:sR (cj n - 1) hs with
 | none=>rw [e] at h;cases h
 | some ow =>
  rw [e] at h
  have h:=bF h
  have h1:=congrArg Prod.fst h
  subst h1
  exact ⟨rfl,rfl⟩
theorem HQ (t:e6) (es:Array (Int×a9)) (n:Nat):(uu t es n).2.1.led=t.led/\(t.plain=false->(uu t es n).2.1.plain=false):=by
 unfold uu
 cases e:t.relaid (es.map (·.1)) n with
 | none=>exact ⟨rfl,fun _=>rfl⟩
 | some p =>
  obtain ⟨t',o⟩:=p
  obtain ⟨h1,h2⟩:=C7 e
  dsimp only
  split
  ·exact ⟨h1,fun h=>h2.trans h⟩
  ·exact ⟨rfl,fun _=>rfl⟩
theorem Kd {w:aU}{P:aE}{l:List (Int×a9)} (h:∀ e∈l,rM w e):ElemsOf (strKind P w) l:=fun e he=>by
 obtain ⟨x,tk,rfl⟩:=h e he
 exact ⟨⟨x,by simp [PySem.strKind,sO],rfl⟩,rfl⟩
theorem Ua (P:aE) (w:aU) (x:Str) (tk:Tok):(strKind P w).is x (.str x tk)=true:=by simp [PySem.strKind,sO]
theorem FY {P:aE}{w:aU}{e:Int×a9} (h:rM w e) (x:Str):(strKind P w).is x e.2=true↔jt e=x:=by
 obtain ⟨y,tk,rfl⟩:=h
 constructor
 ·intro q
  have:=(strKind P w).inj _ _ _ q (Ua P w y tk)
  rw [this];rfl
 ·rintro rfl
  exact Ua P w _ tk
section
variable {P:aE}{w:aU}{A:b9}{E:a9->ac->Prop}{s:ac}
theorem qg {h:bp}{a:ah}{es es':Array (Int×a9)}{ep:Nat}{t t':e6} (I:cH w h a es ep t):(h.update a (p7 es' t')).get? a=some { cls:=.type "set",dict:=none,data:=.set es' (ep + 1) t' }:=by
 have q:=fu (p7 es' t') I.at_ rfl
 exact q
theorem zz {a:ah}{ss:List Str}{x:Str}{tk:Tok}{Q:Bool->ac->Prop} (hS:kj w s.heap a ss) (hr:ss.length + 1<iy)
  (h:∀ h' tk',bA a s.heap h'->kj w h' a (if x∈ss then ss else ss++[x])->Q (!decide (x∈ss)) { s with heap:=h',toks:=tk' }) :
  ar (aG P w) A (setAddHashed a (.str x tk) ((strKind P w).hash x)) Q E s:=by
 obtain ⟨es,ep,t,I,pm⟩:=hS
 have hlen:es.size=ss.length:=by rw [<- pm.length_eq,ao,av]
 have hel:ElemsOf (strKind P w) es.toList:=Kd I.txt
 unfold setAddHashed setAddHashedIn
 refine db (a7 (bt (s:=s) I.at_ rfl I.fits ?_))
 dsimp only
 rw [byScan_of rfl I.few hel]
 rw [if_pos rfl]
 unfold setAddByScan
 refine a7 (a7 (i3 (a7 (wpAny_setScan_of (s:=s) (Ua P w x tk) I.at_ rfl I.fits hel ?_))))
 have inmem:x∈ss↔∃ e∈es.toList,(strKind P w).is x e.2=true:=by
  rw [<- pm.mem_iff,DZ]
  constructor
  ·rintro ⟨e,he,q⟩;exact ⟨e,he,(FY (I.txt e he) x).mpr q⟩
  ·rintro ⟨e,he,q⟩;exact ⟨e,he,(FY (I.txt e he) x).mp q⟩
 cases hf:List.findIdx? (fun e=>(strKind P w).is x e.2) es.toList with
 | some j =>
  obtain ⟨hj,hp,_⟩:=List.findIdx?_eq_some_iff_getElem.mp hf
  have hin:x∈ss:=inmem.mpr ⟨_,iF hj,hp⟩
  have q:=h s.heap s.toks (.refl ..) (by rw [if_pos hin];exact ⟨es,ep,t,I,pm⟩)
  rw [decide_eq_true hin] at q
  exact aa (aa q)
 | none =>
  have hout:x∉ss:=fun z=>by
   obtain ⟨e,he,q⟩:=inmem.mp z
   rw [List.findIdx?_eq_none_iff.mp hf e he] at q
   cases q
  have h:=fun h' tk' sb=>h h' tk' sb
  rw [decide_eq_false hout,if_neg hout] at h
  have p1:=layNew_perm t es ((strKind P w).hash x) (.str x tk)
  have f1:=layNew_fits t es ((strKind P w).hash x) (.str x tk)
  have l1:=EF t es ((strKind P w).hash x) (.str x tk)
  have q1:=At t es ((strKind P w).hash x) (.str x tk)
  generalize layNew t es ((strKind P w).hash x) (.str x tk)=L at p1 f1 l1 q1 ⊢
  obtain ⟨es1,t1,wd,gv⟩:=L
  dsimp only at p1 f1 l1 q1 ⊢
  rw [Ja] at p1
  have tx1:∀ e∈es1.toList,rM w e:=fun e he=>by
   rcases List.mem_append.mp (p1.mem_iff.mp he) with z | z
   ·exact I.txt e z
   ·rw [dC] at z;exact ⟨x,tk,z⟩
  have km:(es1.toList.map jt).Perm (ss++[x]):=(p1.map jt).trans (by rw [aV];exact pm.append_right _)
  have nd1:(ss++[x]).Nodup:=by
   rw [Js]
   exact ⟨pm.nodup_iff.mp I.nd,by simp,fun y hy z hz e=>hout (by rw [dC] at hz;rw [<- hz,<- e];exact hy)⟩
  have sz1:es1.size=es.size + 1:=by rw [<- av,p1.length_eq,aN,av];rfl
  have few1:es1.size<iy:=by omega
  have gw:∀ (b:Bool) {s₁:ac}{Q':Unit->ac->Prop},Q' () s₁->ar (aG P w) A (match b with | true=>rule "set.scan.the-table-gave-way" | false=>pure ()) Q' E s₁ :=
   fun b _ _ z=>by cases b<;>first | exact aa z | exact i3 z
  have tail:∀ t2:e6,t2.fits es1.size=true->t2.led=t.led->t2.plain=false->ar (aG P w) A (do
    storeSet a es1 t2
    if (!wd && t2.tooFull)=true then do
      (match (uu t2 es1 (hG es1.size)).2.2 with | true=>rule "set.scan.the-table-gave-way" | false=>pure ())
      storeSet a (uu t2 es1 (hG es1.size)).1 (uu t2 es1 (hG es1.size)).2.1
      pure (some true)
     else pure (some true)) (fun r s'=>r=some true/\Q true s') E s:=fun t2 f2 l2 n2=>by
   refine a7 (iG (s:=s) I.at_ rfl ?_ (eY few1))
   have at1:=qg (es':=es1) (t':=t2) I
   have sb1:=bE s.heap a (p7 es1 t2)
   have I1:cH w (s.heap.update a (p7 es1 t2)) a es1 (ep + 1) t2:=⟨at1,tx1,km.nodup_iff.mpr nd1,few1,f2,l2.trans I.led,.inr n2⟩
   split
   ·have p2:=relayAll_perm t2 es1 (hG es1.size)
    have f3:=relayAll_fits t2 es1 (hG es1.size)
    have l3:=HQ t2 es1 (hG es1.size)
    generalize uu t2 es1 (hG es1.size)=R3 at p2 f3 l3 ⊢
    obtain ⟨es2,t3,gv2⟩:=R3
    dsimp only at p2 f3 l3 ⊢
    have few2:es2.size<iy:=by rw [<- av,p2.length_eq,av];exact few1
    have km2:=(p2.map jt).trans km
    refine a7 (gw _ (a7 (iG (s:={ s with heap:=s.heap.update a (p7 es1 t2) }) I1.at_ rfl ?_ (eY few2))))
    refine aa ⟨rfl,h _ _ (sb1.trans (bE _ a _)) ⟨es2,ep + 1 + 1,t3,⟨qg I1,fun e he=>tx1 e (p2.mem_iff.mp he),km2.nodup_iff.mpr nd1,few2,f3,l3.1.trans (l2.trans I.led),.inr (l3.2 n2)⟩,km2⟩⟩
   ·exact aa ⟨rfl,h _ _ sb1 ⟨es1,ep + 1,t2,I1,km⟩⟩
  refine a7 (gw gv ?_)
  cases hp:t1.plain with
  | true =>
   simp only [if_true]
   rw [hashByValue_scannable 8 (x:=.str x tk) rfl]
   refine a7 (aa ?_)
   refine bi (tail { t1 with plain:=false } (by cases t1;exact f1) l1 rfl) (fun r s' z=>?_) fun _ _ z=>z
   obtain ⟨rfl,z⟩:=z
   exact aa z
  | false =>
   simp only [bS,if_false]
   refine a7 (aa ?_)
   refine bi (tail t1 f1 l1 hp) (fun r s' z=>?_) fun _ _ z=>z
   obtain ⟨rfl,z⟩:=z
   exact aa z
theorem C8 {a:ah}{ss:List Str}{x:Str}{tk:Tok}{Q:Bool->ac->Prop} (hS:kj w s.heap a ss) (hr:ss.length + 1<iy)
  (h:∀ h' tk',bA a s.heap h'->kj w h' a (if x∈ss then ss else ss++[x])->Q (!decide (x∈ss)) { s with heap:=h',toks:=tk' }) :
  ar (aG P w) A (setAdd a (.str x tk)) Q E s:=by
 unfold setAdd
 refine db (a7 ((strKind P w).pyHash (k:=x) (Ua P w x tk) ?_))
 exact zz (s:={ s with toks:=s.toks + 1 }) hS hr h
end
end
section
abbrev eN (w:aU):Obj:={ cls:=.type "set",dict:=none,data:=.set #[] 0 (.fresh 0 0 (!w.params.followText "set-order")) }
theorem zA (w:aU) {h:bp}{a:ah} (e:h.get? a=some (eN w)):kj w h a [] :=
 ⟨#[],0,_,⟨e,fun e he=>by simp at he,by simp,by decide,rfl,rfl,.inl rfl⟩,by simp⟩
def c_:List Str->List Str->List Str
 | acc,[]=>acc
 | acc,x::r=>c_ (if x∈acc then acc else acc++[x]) r
theorem io:∀ (l acc:List Str) (x:Str),x∈c_ acc l↔x∈acc\/x∈l
 | [],acc,x=>by simp [c_]
 | y::r,acc,x=>by
  rw [c_,io r]
  by_cases h:y∈acc
  ·rw [if_pos h];simp only [bx]
   constructor
   ·exact fun z=>z.elim .inl fun z=>.inr (.inr z)
   ·rintro (z | z | z)
    ·exact .inl z
    ·exact .inl (z ▸ h)
    ·exact .inr z
  ·rw [if_neg h];simp [yj,or_assoc]
theorem i7:∀ (l acc:List Str),acc.Nodup->(c_ acc l).Nodup
 | [],acc,h=>h
 | y::r,acc,h=>by
  rw [c_]
  refine i7 r _ ?_
  by_cases hy:y∈acc
  ·rw [if_pos hy];exact h
  ·rw [if_neg hy,Js]
   exact ⟨h,by simp,fun a ha b hb e=>hy (by rw [dC] at hb;rw [<- hb,<- e];exact ha)⟩
theorem fG:∀ (l acc:List Str),(c_ acc l).length<=acc.length + l.length
 | [],acc=>by simp [c_]
 | y::r,acc=>by
  rw [c_]
  have:=fG r (if y∈acc then acc else acc++[y])
  by_cases hy:y∈acc
  ·rw [if_pos hy] at this ⊢;simp only [bd];omega
  ·rw [if_neg hy] at this ⊢;simp only [bd,aN,cK,cq] at this ⊢;omega
section
variable {prog:aE}{w:aU}{A:b9}{E:a9->ac->Prop}{s:ac}{R:oZ->ac->Prop}
theorem kj.keep {h h':bp}{a:ah}{ss:List Str} (x:kj w h a ss) (k:∀ o,h.get? a=some o->h'.get? a=some o):kj w h' a ss :=
 let ⟨es,ep,t,I,p⟩:=x;⟨es,ep,t,⟨k _ I.at_,I.txt,I.nd,I.few,I.fits,I.led,I.pl⟩,p⟩
theorem yG {I:ah}{fp wr:List ah}{n:Nat}{Pv:Nat->a9->Prop}{St:Nat->bp->Prop} (W:N0 prog w A.in1 I fp wr n Pv St) (D:ah) (hD:D∉fp) (xs:List Str) (hx:xs.length=n)
  (hv:∀ i v,Pv i v->∃ x t,xs[i]?=some x/\v=.str x t) (hb:n + 1<iy) :
  ∀ (k i:Nat) (s:ac) (acc:List Str),n - i=k->i<=n->acc.length<=i->St i s.heap->kj w s.heap D acc ->
   (∀ h' tk,(∀ b o,b∉D::wr->s.heap.get? b=some o->h'.get? b=some o)->kj w h' D (c_ acc (xs.drop i))->R (.ok (.ret .none)) { s with heap:=h',toks:=tk }) ->
   gN (aG prog w) A (.builtin "set.update.loop" ⟨[.ref D,.ref I],[]⟩) R s:=by
 have hDw:D∉wr:=fun z=>hD (W.sub _ z)
 intro k
 induction k with
 | zero =>
  intro i s acc hk hi hl st hS hR
  obtain rfl:i=n:=by omega
  refine jv nl ?_
  rw [ig gZ _]
  show ar _ A.in1 (jy (.ref I) >>= _) _ _ s
  refine a7 (W.done s _ _ st fun h' tk kp=>?_)
  refine aa (hR h' tk (fun b o hb e=>kp b o (fun z=>hb (aj _ z)) e) ?_)
  rw [List.drop_of_length_le (by omega)]
  exact hS.keep fun o e=>kp D o hDw e
 | succ k ih =>
  intro i s acc hk hi hl st hS hR
  have hlt:i<n:=by omega
  refine jv nl ?_
  rw [ig gZ _]
  show ar _ A.in1 (jy (.ref I) >>= _) _ _ s
  refine a7 (W.item i s _ _ hlt st fun v h' tk hP st' kp=>?_)
  obtain ⟨x,t,hxi,rfl⟩:=hv i v hP
  have hS':kj w h' D acc:=hS.keep fun o e=>kp D o hDw e
  refine a7 (db (C8 (s:={ s with heap:=h',toks:=tk }) hS' (by omega) fun h2 tk2 sb hS2=>?_))
  refine aa ⟨wg gZ _,ih (i + 1) _ (if x∈acc then acc else acc++[x]) (by omega) hlt ?_ (W.frame _ _ _ st' fun b hb o e=>?_) hS2 fun h3 tk3 k3 hS3=>?_⟩
  ·by_cases z:x∈acc
   ·rw [if_pos z];omega
   ·rw [if_neg z,aN,cK];omega
  ·rw [sb.2 b fun z=>hD (z ▸ hb)];exact e
  ·refine hR h3 tk3 (fun b o hb e=>k3 b o hb ?_) ?_
   ·rw [sb.2 b fun z=>hb (by rw [z];exact am)]
    exact kp b o (fun z=>hb (aj _ z)) e
   ·have hd:xs.drop i=x::xs.drop (i + 1):=by
     obtain ⟨h1,h2⟩:=List.getElem?_eq_some_iff.mp hxi
     rw [List.drop_eq_getElem_cons h1,h2]
    rw [hd,c_];exact hS3
theorem Ke (a:a9) {Q₁:a9->ac->Prop} (h:Q₁ (.ref s.heap.objs.size) { s with heap:=s.heap.push (eN w) }) :
  gN (aG prog w) A (.call (.builtin "set.__new__") ⟨[.type "set",a],[]⟩) (wants Q₁ E) s:=by
 refine BP ?_
 show ar _ A.in1 (do checkBuiltinCall "set.__new__" ⟨[.type "set",a],[]⟩;again (.builtin "set.__new__" ⟨[.type "set",a],[]⟩)) _ _ s
 refine a7 (eL (F.newCall_set_1 a) (aa ⟨wg F.plain_set_new _,jv F.entry_set_new ?_⟩))
 rw [ig F.plain_set_new _]
 unfold lM.«set.__new__» N1
 have hsub:=Jt
 obtain ⟨hp,g,d,tk,os⟩:=s
 dsimp only
 wp_walk
 refine gP (aa ?_)
 dsimp only
 simp only [newObj]
 refine a7 (MZ (aa ?_))
 exact aa h
structure QN (prog:aE) (w:aU) (A:b9) (T:String) (l:ah) (o:Obj) (items:Array a9):Prop where
 ty:o.cls=.type T
 s1:isSubtype (.type T) (.type "set")=pure false
 s2:isSubtype (.type T) (.type "frozenset")=pure false
 nd:(ij T == ij "dict")=false
 iter:∀ (s:ac) (Q:a9->ac->Prop) (E:a9->ac->Prop),s.heap.get? l=some o ->
  (∀ ob St,N0 prog w A.in1 s.heap.objs.size [s.heap.objs.size,l] [s.heap.objs.size] items.size (fun i v=>items[i]?=some v) St->St 0 (s.heap.push ob)->Q (.ref s.heap.objs.size) { s with heap:=s.heap.push ob })->ar (aG prog w) A (wA (.ref l)) Q E s
theorem tK {T:String}{l:ah}{ol:Obj}{items:Array a9}{xs:List Str}{Q:a9->ac->Prop}
  (src:QN prog w A.in1.in1 T l ol items) (hol:s.heap.get? l=some ol) (hi:∀ (i:Nat) (v:a9),items[i]?=some v->∃ x t,xs[i]?=some x/\v=j8 x t) (hx:xs.length=items.size) (hb:items.size + 1<iy)
  (h:∀ (h':bp) (tk:Nat),kj w h' s.heap.objs.size (c_ [] xs)->(∀ b o,s.heap.get? b=some o->h'.get? b=some o)->Q (.ref s.heap.objs.size) { s with heap:=h',toks:=tk }) :
  ar (aG prog w) A (call (.type "set") [.ref l]) Q E s:=by
 obtain ⟨c,tl,hmro⟩:=F.called_set.mro
 have hmade:=F.called_set.made
 have hsub:=F.called_set.sub
 refine wpAny_call (BP ?_)
 show ar _ _ (callAny (.type "set") _) _ _ _
 refine aa ⟨Code.quiet_builtin _ (by decide +kernel),jv F.entry_type_call ?_⟩
 rw [Around.under_plain (weight_type_call_type "set" [.ref l] []) rfl]
 have h1:=F.called_set.notType
 have h2:=F.called_set.canCreate
 have hct:=F.typeCall_set_1 (.ref l)
 repeat (any_goals (first | assumption | wp_step))
 refine rn (Ke (.ref l) (E:=E) (Q₁:=fun obj s₁=>obj=.ref s.heap.objs.size/\s₁={ s with heap:=s.heap.push (eN w) }) ⟨rfl,rfl⟩) fun r s₁ hr=>?_
 cases r with
 | error e=>exact hr
 | ok fl =>
  cases fl with
  | ret obj =>
   obtain ⟨rfl,rfl⟩:=hr
   have hS:(s.heap.push (eN w)).get? s.heap.objs.size=some (eN w):=ay _ rfl
   have hT:N5 { s with heap:=s.heap.push (eN w) } (.ref s.heap.objs.size) "set":=⟨_,hS,rfl⟩
   have hli:=F.called_set.init.lookup
   have hbi:=F.called_set.init.bind (.ref s.heap.objs.size)
   repeat (any_goals (first | assumption | wp_step))
   refine rn (codeAny_call_builtin (R:=wants (fun r s₂=>r=.none/\∃ h' tk,s₂={ s with heap:=h',toks:=tk }/\kj w h' s.heap.objs.size (c_ [] xs) /\
     (∀ b o,s.heap.get? b=some o->h'.get? b=some o)) E) F.called_set.init.plain F.entry_set_init (check_set_init_1 hT ?_)) fun r₂ s₂ hr₂=>?_
   ·obtain ⟨oc,od,odt,os'⟩:=ol
    obtain ⟨ty,s1,s2,nd,iter⟩:=src
    have ty:oc=.type T:=ty
    subst ty
    have hol':(s.heap.push (eN w)).get? l=some { cls:=.type T,dict:=od,data:=odt,slots:=os' }:=ae _ hol
    unfold lM.«set.__init__» noKeywords j4
    generalize hPI:wA=PI
    wp_walk
    subst hPI
    refine iter { s with heap:=s.heap.push (eN w) } _ _ hol' fun ob St W st=>?_
    have hlS:l<s.heap.objs.size:=aq hol
    refine a7 (wpAny_runValue ?_)
    have szp:(s.heap.push (eN w)).objs.size=s.heap.objs.size + 1:=c9 ..
    refine yG (A:=A.in1.in1) W s.heap.objs.size (by rw [szp];simp only [bx,bn,or_false,not_or];exact ⟨aF (da _),fY hlS⟩) xs hx hi hb items.size 0 _ [] (by omega) (cn _) (au _) st (zA w (ae _ hS)) fun h' tk kp hS'=>?_
    show ar _ _ _ _ _ _
    refine aa ?_
    show ar _ _ (ret dS) _ _ _
    refine aa ⟨rfl,h',tk,rfl,hS',fun b o e=>kp b o ?_ (ae _ (ae _ e))⟩
    have:=aq e
    rw [szp]
    simp only [bx,bn,or_false,not_or]
    exact ⟨aF this,aF (dY this)⟩
   ·cases r₂ with
    | error e=>exact hr₂
    | ok fl₂ =>
     cases fl₂ with
     | ret r =>
      obtain ⟨rfl,h',tk,rfl,hS',hk'⟩:=hr₂
      repeat (any_goals (first | assumption | wp_step))
      exact h _ _ hS' hk'
     | next=>exact hr₂.elim
     | brk=>exact hr₂.elim
     | cont=>exact hr₂.elim
  | next=>exact hr.elim
  | brk=>exact hr.elim
  | cont=>exact hr.elim
theorem Kf {l:ah}{o:Obj}{its:List a9} (hh:A.handled=none) (e0:o.cls=.type "list") (e1:∃ n,o.data=.seq its.toArray n):QN prog w A "list" l o its.toArray :=
 ⟨e0,F.sub_list_set,F.sub_list_frozenset,by decide,fun s Q E e h=>kf ⟨_,e,e0,e1⟩
  (h _ _ (yu (by simpa using hh) _ l (aF (aq e)) its.toArray) ⟨⟨_,ay _ rfl,rfl,rfl⟩,⟨_,ae _ e,e0,e1⟩⟩)⟩
theorem NW {l:ah}{o:Obj}{its:List a9} (hh:A.handled=none) (e0:o.cls=.type "tuple") (e1:∃ n,o.data=.seq its.toArray n):QN prog w A "tuple" l o its.toArray :=
 ⟨e0,F.sub_tuple_set,F.sub_tuple_frozenset,by decide,fun s Q E e h=>fM ⟨_,e,e0,e1⟩
  (h _ _ (Walks.tuple (by simpa using hh) _ l (aF (aq e)) its.toArray) ⟨⟨_,ay _ rfl,rfl,rfl⟩,⟨_,ae _ e,e0,e1⟩⟩)⟩
end
end
end L2
section
namespace L2
open PySem PySem.Spec PyProof.Rows
namespace SI
theorem entry_iter:N6 table "set.__iter__"=some lM.«frozenset.__iter__» :=
 Ee (id':="frozenset.__iter__") (by kernel_rfl) rfl (by decide +kernel) (by kernel_rfl)
theorem slot_next:Slot "set_iterator" "__next__" "set_iterator.__next__":=by
 refine .of (owner:="set_iterator") (n:="__next__") ?_ ?_ ?_ ?_ ?_ ?_
 ·rw [typeLookup_type,MI];kernel_rfl
 ·decide +kernel
 ·decide +kernel
 ·decide +kernel
 ·first
   | exact .inl (by decide +kernel)
   | exact .inr (by decide +kernel)
 ·rw [Ef];kernel_rfl
theorem entry_next:N6 table "set_iterator.__next__"=some lM.«set_iterator.__next__» :=
 entryFor_of_tree (by kernel_rfl)
theorem C9:Manifest.owners.lookup (String.ofList ['r','o','t','a','r','e','t','i','_','t','e','s'].reverse)=some Manifest.sig_set_iterator:=by kernel_rfl
theorem args_next (a:a9):argsOk "set_iterator.__next__" ⟨[a],[]⟩:=by
 unfold argsOk
 rw [signature?_of (id:="set_iterator.__next__") (n:=['_','_','t','x','e','n','_','_']) (o:=['r','o','t','a','r','e','t','i','_','t','e','s']) (by kernel_rfl) C9]
 kernel_rfl
theorem args_iter (a:a9):argsOk "set_iterator.__iter__" ⟨[a],[]⟩:=by
 unfold argsOk
 rw [signature?_of (id:="set_iterator.__iter__") (n:=['_','_','r','e','t','i','_','_']) (o:=['r','o','t','a','r','e','t','i','_','t','e','s']) (by kernel_rfl) C9]
 kernel_rfl
theorem entry_self:N6 table "set_iterator.__iter__"=some lM.«dict_keyiterator.__iter__» :=
 Ee (id':="dict_keyiterator.__iter__") (by kernel_rfl) rfl (by decide +kernel) (by kernel_rfl)
theorem slot_iter:Slot "set_iterator" "__iter__" "set_iterator.__iter__":=by
 refine .of (owner:="set_iterator") (n:="__iter__") ?_ ?_ ?_ ?_ ?_ ?_
 ·rw [typeLookup_type,MI];kernel_rfl
 ·decide +kernel
 ·decide +kernel
 ·decide +kernel
 ·first
   | exact .inl (by decide +kernel)
   | exact .inr (by decide +kernel)
 ·rw [Ef];kernel_rfl
end SI
end L2
end
namespace L2
open PySem PySem.Spec PyProof.Rows
section
theorem rN {α:Type}:∀ {l:List α}{i:Nat} (h:i<l.length),(l[i]::l.eraseIdx i).Perm l
 | x::r,0,_=>.refl _
 | x::r,i + 1,h=>by
  have q:=rN (l:=r) (i:=i) (by simpa using h)
  rw [List.getElem_cons_succ,List.eraseIdx_cons_succ]
  exact (List.Perm.swap _ _ _).trans (q.cons x)
section
variable {M:ym}{A:b9}{E:a9->ac->Prop}{s:ac}
theorem HR {src:Source}{n:Nat}{Q:Nat->ac->Prop} (hn:n≠0) (h:∀ i d,i<n->Q i { s with drawn:=d }):ar M A (choose src n) Q E s :=
 fun _ _ _=>⟨hn,h _ _ (Ae _ (Nat.pos_of_ne_zero hn))⟩
theorem tL {α:Type}:∀ (n:Nat) (xs:List α) (s:ac) (Q:List α->ac->Prop),n=xs.length->(∀ ys d,ys.Perm xs->Q ys { s with drawn:=d })->ar M A (drawOrder n xs) Q E s
 | 0,xs,s,Q,hn,h=>by
  obtain rfl:xs=[]:=List.length_eq_zero_iff.mp hn.symm
  exact aa (h [] s.drawn .nil)
 | n + 1,[],s,Q,hn,h=>by cases hn
 | n + 1,x::r,s,Q,hn,h=>by
  show ar M A (choose .order (x::r).length >>= _) Q E s
  refine a7 (HR (by simp) fun i d hi=>?_)
  rw [aY hi]
  refine a7 (tL n _ _ _ (by rw [zj hi];omega) fun ys d' p=>aa ?_)
  exact h _ _ ((p.cons _).trans (rN hi))
end
theorem FZ {α:Type} (next:Nat->Nat):∀ (n k:Nat) (left:List α) (out:Array α),n=left.length->(yv next n k left out).toList.Perm (out.toList++left)
 | 0,k,left,out,hn=>by
  obtain rfl:left=[]:=List.length_eq_zero_iff.mp hn.symm
  rw [yv,bZ]
 | n + 1,k,left,out,hn=>by
  have hl:next k % left.length<left.length:=Ae _ (by omega)
  rw [yv,aY hl]
  refine (FZ next n (k + 1) _ _ (by rw [zj hl];omega)).trans ?_
  rw [Ja,eG]
  exact (rN hl).append_left _
theorem uE {α:Type} (next:Nat->Nat) (xs:Array α):(nq next xs).toList.Perm xs.toList:=by
 have:=FZ next xs.size 0 xs.toList #[] (by simp)
 simpa [nq] using this
def Au (h:bp) (I S:ah) (first:a9) (i n ep:Nat):Prop:=h.get? I=some { cls:=.type "set_iterator",data:=.fields #[first,.int i 0,.ref S,.int n 0,.int ep 0] }
section
variable {prog:aE}{w:aU}{A:b9}{E:a9->ac->Prop}{s:ac}{I S:ah}{es:Array (Int×a9)}{ep:Nat}{t:e6}{i n:Nat}{first:a9}
theorem Au.put {f f':a9}{j j':Nat}{k:Nat}{x:a9}{h:bp} (hit:Au h I S f j n ep) (e:(#[f,.int j 0,.ref S,.int n 0,.int ep 0] : Array a9).setIfInBounds k x=#[f',.int j' 0,.ref S,.int n 0,.int ep 0]) :
  Au (h.update I (dX (·.setIfInBounds k x))) I S f' j' n ep:=by
 have q:=fu (dX (·.setIfInBounds k x)) hit rfl
 unfold Au
 rw [q]
 show some ({ cls:=.type "set_iterator",data:=.fields ((#[f,.int j 0,.ref S,.int n 0,.int ep 0] : Array a9).setIfInBounds k x) }:Obj)=_
 rw [e]
theorem qh {Q:Option a9->ac->Prop} (hit:Au s.heap I S first i n ep) (hS:cH w s.heap S es ep t) (hn:n=es.size)
  (h:ar (aG prog w) A.in1 (do
   if let .int slot _:=first then
    match <- Ju S slot.toNat i ep with
    | some (x,next) =>
     gQ (.ref I) 0 (cb next)
     gQ (.ref I) 1 (cb (i + 1))
     ret x
    | none=>gQ (.ref I) 2 .none;qM (<- rA (.type "StopIteration") [])
   else
    let some places <- Jb first | N7 "internal:set_iterator"
    match places[i]? with
    | some (.int place _) =>
     let x <- setNextDrawn S place.toNat ep
     gQ (.ref I) 1 (cb (i + 1))
     ret x
    | some _=>N7 "internal:set_iterator"
    | none=>gQ (.ref I) 0 (cb 0);gQ (.ref I) 2 .none;qM (<- rA (.type "StopIteration") []))
   (fun fin s'=>∃ v,fin=.done (.ret v)/\Q (some v) s') (fun e s'=>ar (aG prog w) A (isInstance e (.type "StopIteration")) (fun b s''=>b=true/\Q none s'') E s') s) :
  ar (aG prog w) A (jy (.ref I)) Q E s:=by
 unfold jy
 refine a7 (lN ?_)
 refine cc (name:=fZ "__next__") ⟨_,hit,rfl⟩ SI.slot_next ?_
 refine b_ SI.slot_next ⟨_,hit,rfl⟩ SI.entry_next ?_ (SI.args_next _)
 show ar _ _ (fieldsOf (.ref I) >>= _) _ _ s
 refine a7 (Eg hit rfl ?_)
 show ar _ _ (setEntries S >>= _) _ _ s
 refine a7 (wpAny_setEntries_of hS.at_ rfl hS.fits ?_)
 rw [if_neg (by rw [hn];simp)]
 refine bi h (fun fin s' z=>?_) fun e s' z=>?_
 ·obtain ⟨v,rfl,q⟩:=z
  exact ⟨v,rfl,aa q⟩
 ·refine a7 (bi z (fun b s'' ⟨hb,q⟩=>?_) fun _ _ z=>z)
  subst hb
  exact aa q
theorem Av {B:b9}{Q:Option a9->ac->Prop}{Q':Fin->ac->Prop}{o:Obj}{vs:Array a9} (hh:B.handled=none) (ho:s.heap.get? I=some o) (hd:o.data=.fields vs) (hz:2<vs.size)
  (h:∀ h',FO I s.heap h'->Q none { s with heap:=h' }) :
  ar (aG prog w) B (do gQ (.ref I) 2 .none;qM (<- rA (.type "StopIteration") []))
   Q' (fun e s'=>ar (aG prog w) A (isInstance e (.type "StopIteration")) (fun b s''=>b=true/\Q none s'') E s') s:=by
 refine a7 (fO ho hd hz ?_)
 show ar _ _ (rA (.type "StopIteration") [] >>= _) _ _ _
 refine a7 ?_
 simp only [rA,N8]
 refine a7 (bL ?_ (by size_fits))
 refine a7 (m:=ki _ _) (eL (a:=dS) ?_ ?_)
 ·first
   | rfl
   | (simp only [ki];rfl)
 refine bL ?_ (by size_fits)
 simp only [qM]
 refine a7 (Ht ?_)
 rw [hh]
 refine a7 (aa (N9 ?_))
 refine gR (T:="StopIteration") (b:=true) ⟨_,ay _ rfl,rfl⟩ uv ⟨rfl,?_⟩
 exact h _ (((bE ..).extBut.push _).push _)
end
end
section
section
variable {prog:aE}{w:aU}{A:b9}{E:a9->ac->Prop}{s:ac}{I S:ah}{es:Array (Int×a9)}{ep:Nat}{t:e6}{i n:Nat}{first:a9}
theorem cH.keep {h h':bp} (x:cH w h S es ep t) (k:∀ o,h.get? S=some o->h'.get? S=some o):cH w h' S es ep t:=⟨k _ x.at_,x.txt,x.nd,x.few,x.fits,x.led,x.pl⟩
theorem Aw {Q:a9->ac->Prop} (hit:Au s.heap I S first i n ep) (h:Q (.ref I) s):ar (aG prog w) A (wA (.ref I)) Q E s:=by
 refine yw ⟨_,hit,rfl⟩ SI.slot_iter (b_ SI.slot_iter ⟨_,hit,rfl⟩ SI.entry_self ?_ (SI.args_iter _))
 show ar _ _ (ret (.ref I)) _ _ s
 exact aa ⟨_,rfl,"set_iterator",_,⟨_,hit,rfl⟩,SI.slot_next.lookup,h⟩
theorem eR {Q:Bool->ac->Prop}{B:b9} (h:Q (w.params.followText "set-order") s):ar (aG prog w) B setsByText Q E s:=by
 unfold setsByText
 exact a7 (gP (aa h))
theorem Kg {B:b9}{Q':Fin->ac->Prop}{x:a9}{nx:Nat}{E':a9->ac->Prop} (hit:Au s.heap I S first i n ep)
  (h:∀ h',Au h' I S (.int nx 0) (i + 1) n ep->bA I s.heap h'->Q' (.done (.ret x)) { s with heap:=h' }) :
  ar (aG prog w) B (do gQ (.ref I) 0 (cb nx);gQ (.ref I) 1 (cb (i + 1));ret x) Q' E' s:=by
 refine a7 (fO hit rfl (by simp) ?_)
 have h1:Au (s.heap.update I (dX (·.setIfInBounds 0 (cb nx)))) I S (.int nx 0) i n ep:=hit.put (by simp [cb])
 refine a7 (fO h1 rfl (by simp) ?_)
 have h2:Au ((s.heap.update I (dX (·.setIfInBounds 0 (cb nx)))).update I (dX (·.setIfInBounds 1 (cb (i + 1))))) I S (.int nx 0) (i + 1) n ep:=h1.put (by simp [cb])
 exact aa (h _ h2 ((bE ..).trans (bE ..)))
theorem uF (f:Nat->Nat) (es:Array (Int×a9)):(nq f es).size=es.size:=by
 rw [<- av,(uE f es).length_eq,av]
theorem EG (hh:A.handled=none) (hw:w.params.followText "set-order"=true) (hne:S≠I) :
  N0 prog w A I [I,S] [I] es.size (fun i v=>((nq (w.params.setOrder S ep) es).toList.map (·.2))[i]?=some v) (fun i h=>Au h I S (.int 0 0) i es.size ep/\cH w h S es ep t) where
 sub:=fun b hb=>by simp at hb;simp [hb]
 frame:=fun i h h' st k=>⟨k I (by simp) _ st.1,st.2.keep fun o e=>k S (by simp) o e⟩
 item:=fun i s Q E hi st hQ=>by
  obtain ⟨hit,hS⟩:=st
  refine qh hit hS rfl ?_
  dsimp only
  unfold Ju setWalk
  refine a7 (a7 (bt hS.at_ rfl hS.fits (a7 (eR ?_))))
  rw [hw]
  simp only [if_true,bne_self_eq_false,bS,if_false]
  refine a7 (a7 (bt hS.at_ rfl hS.fits (a7 (eR ?_))))
  rw [hw]
  simp only [if_true]
  refine a7 (gP (aa (aa ?_)))
  have hi':i<(nq (w.params.setOrder S ep) es).size:=by rw [uF];exact hi
  show ar _ _ (match ((nq (w.params.setOrder S ep) es)[i]?).map fun e=>(e.2,(0:Int).toNat) with
   | some (x,next)=>do gQ (.ref I) 0 (cb next);gQ (.ref I) 1 (cb (i + 1));ret x
   | none=>do gQ (.ref I) 2 .none;qM (<- rA (.type "StopIteration") [])) _ _ s
  rw [getElem?_pos _ i hi']
  refine Kg (nx:=0) hit fun h' h1 sb=>⟨_,rfl,hQ _ h' s.toks ?_ ⟨h1,hS.keep fun o e=>(sb.2 S hne).trans e⟩ fun b o hb e=>(sb.2 b fun z=>hb (by simp [z])).trans e⟩
  simp [hi']
 done:=fun s Q E st hQ=>by
  obtain ⟨hit,hS⟩:=st
  refine qh hit hS rfl ?_
  dsimp only
  unfold Ju setWalk
  refine a7 (a7 (bt hS.at_ rfl hS.fits (a7 (eR ?_))))
  rw [hw]
  simp only [if_true,bne_self_eq_false,bS,if_false]
  refine a7 (a7 (bt hS.at_ rfl hS.fits (a7 (eR ?_))))
  rw [hw]
  simp only [if_true]
  refine a7 (gP (aa (aa ?_)))
  show ar _ _ (match ((nq (w.params.setOrder S ep) es)[es.size]?).map fun e=>(e.2,(0:Int).toNat) with
   | some (x,next)=>do gQ (.ref I) 0 (cb next);gQ (.ref I) 1 (cb (es.size + 1));ret x
   | none=>do gQ (.ref I) 2 .none;qM (<- rA (.type "StopIteration") [])) _ _ s
  rw [getElem?_neg _ es.size (by rw [uF];exact bv _)]
  exact Av (by simpa using hh) hit rfl (by simp) fun h' eb=>hQ h' s.toks fun b o hb e=>eb b o (fun z=>hb (by simp [z])) e
 self:=fun i s Q E st h=>Aw st.1 h
inductive UY (h:bp) (T:ah) (ps:List Nat):Prop
 | mk (o k:_) (h0:h.get? T=some o) (h1:o.data=.seq (ps.map fun (p:Nat)=>j7 (p:Int) 0).toArray k):UY h T ps
theorem Ca (hh:A.handled=none) {T:ah}{ps:List Nat} (hne:S≠I) (hT:T≠I) (hp:∀ p∈ps,p<es.size) (hn:ps.length=es.size) :
  N0 prog w A I [I,S,T] [I] es.size (fun i v=>(ps.map fun p=>(es.getD p (0,.none)).2)[i]?=some v) (fun i h=>Au h I S (.ref T) i es.size ep/\cH w h S es ep t/\UY h T ps) where
 sub:=fun b hb=>by simp at hb;simp [hb]
 frame:=fun i h h' st k=>⟨k I (by simp) _ st.1,st.2.1.keep fun o e=>k S (by simp) o e,let ⟨o,q,e,d⟩:=st.2.2;⟨o,q,k T (by simp) o e,d⟩⟩
 item:=fun i s Q E hi st hQ=>by
  obtain ⟨hit,hS,o,q,e,d⟩:=st
  refine qh hit hS rfl ?_
  dsimp only
  refine a7 (eM e d ?_)
  have hi':i<ps.length:=by omega
  dsimp only
  rw [show ((ps.map fun (p:Nat)=>j7 (p:Int) 0).toArray)[i]?=some (.int (ps[i] : Nat) 0) by simp [hi']]
  dsimp only
  unfold setNextDrawn
  refine a7 (a7 (bt hS.at_ rfl hS.fits ?_))
  have hlt:=hp ps[i] (iF hi')
  simp only [bne_self_eq_false,bS,if_false,jz]
  rw [getElem?_pos es ps[i] hlt]
  refine aa ?_
  refine a7 (fO hit rfl (by simp) ?_)
  have h1:Au (s.heap.update I (dX (·.setIfInBounds 1 (cb (i + 1))))) I S (.ref T) (i + 1) es.size ep:=hit.put (by simp [cb])
  have sb:bA I s.heap (s.heap.update I (dX (·.setIfInBounds 1 (cb (i + 1))))):=bE ..
  refine aa ⟨_,rfl,hQ _ _ s.toks ?_ ⟨h1,hS.keep fun o e=>(sb.2 S hne).trans e,o,q,(sb.2 T hT).trans e,d⟩ fun b o hb e=>(sb.2 b fun z=>hb (by simp [z])).trans e⟩
  simp [hi',hlt]
 done:=fun s Q E st hQ=>by
  obtain ⟨hit,hS,o,q,e,d⟩:=st
  refine qh hit hS rfl ?_
  dsimp only
  refine a7 (eM e d ?_)
  dsimp only
  rw [show ((ps.map fun (p:Nat)=>j7 (p:Int) 0).toArray)[es.size]?=none by simp [<- hn]]
  dsimp only
  refine a7 (fO hit rfl (by simp) ?_)
  have h1:Au (s.heap.update I (dX (·.setIfInBounds 0 (cb 0)))) I S (.int 0 0) es.size es.size ep:=hit.put (by simp [cb])
  have sb:bA I s.heap (s.heap.update I (dX (·.setIfInBounds 0 (cb 0)))):=bE ..
  exact Av (s:={ s with heap:=s.heap.update I (dX (·.setIfInBounds 0 (cb 0))) }) (by simpa using hh) h1 rfl (by simp) fun h' eb=>hQ h' s.toks fun b o hb e=>eb b o (fun z=>hb (by simp [z])) ((sb.2 b fun z=>hb (by simp [z])).trans e)
 self:=fun i s Q E st h=>Aw st.1 h
theorem Kh {p:Array Nat}{j:Nat} (h:p=#[j]):hJ p 0=0:=by subst h;simp [hJ,yx]
theorem Ki {p:Array Nat}{j:Nat} (h:p=#[j]):hJ p (j + 1)=1:=by subst h;simp [hJ,yx]
theorem HS {t : e6} (h : t.fits 1 = true) : ∃ j, t.place = #[j] := by
  have h1 : t.place.size = 1 := by
    simp only [lV, aO, beq_iff_eq] at h; exact h.1
  exact ⟨t.place[0], by apply Array.ext; · simp [h1]
                        · intro i h2 h3; have : i = 0 := by omega
                          subst this; simp⟩
theorem QO {B:b9}{k:Unit->Sem (Option (a9×Nat))}{Q:Option (a9×Nat)->ac->Prop} (hl:t.led=true) (h:ar (aG prog w) B (k ()) Q E s) :
  ar (aG prog w) B ((if (!t.led && !es.isEmpty)=true then N7 "set:maker-not-led" else pure ()) >>= k) Q E s:=by
 rw [if_neg (by rw [hl];simp)]
 exact a7 (aa h)
theorem tM {B:b9}{slot g:Nat}{Q:Option (a9×Nat)->ac->Prop} (hw:w.params.followText "set-order"=false) (hS:cH w s.heap S es ep t) (h1:es.size<=1)
  (h:Q (match es[hJ t.place slot]?,t.place[hJ t.place slot]? with | some (_,x),some j=>some (x,j + 1) | _,_=>none) s):ar (aG prog w) B (Ju S slot g ep) Q E s:=by
 unfold Ju
 refine a7 (bt hS.at_ rfl hS.fits (a7 (eR ?_)))
 rw [hw]
 simp only [bS,if_false]
 split
 ·rename_i z
  exact absurd (show (!t.plain && decide (es.size > 1))=true from z) (by simp;omega)
 ·have hl:t.led=true:=by rw [hS.led,hw];rfl
  exact QO hl (aa h)
theorem HU (hh:A.handled=none) (hw:w.params.followText "set-order"=false) (hne:S≠I) (h1:es.size<=1) :
  N0 prog w A I [I,S] [I] es.size (fun i v=>(es.toList.map (·.2))[i]?=some v)
   (fun i h=>∃ k,Au h I S (.int (k:Nat) 0) i es.size ep/\cH w h S es ep t/\(i=0->k=0)/\(i=1->es.size=1->∃ j,t.place=#[j]/\k=j + 1)) where
 sub:=fun b hb=>by simp at hb;simp [hb]
 frame:=fun i h h' st k=>let ⟨c,a1,a2,a3⟩:=st;⟨c,k I (by simp) _ a1,a2.keep fun o e=>k S (by simp) o e,a3⟩
 item:=fun i s Q E hi st hQ=>by
  obtain ⟨c,hit,hS,c0,c1⟩:=st
  have hi0:i=0:=by omega
  subst hi0
  obtain rfl:c=0:=c0 rfl
  have e1:es.size=1:=by omega
  obtain ⟨j,hj⟩:=HS (t:=t) (by rw [<- e1];exact hS.fits)
  refine qh hit hS rfl ?_
  dsimp only
  refine a7 (tM hw hS h1 ?_)
  rw [show (((0:Nat):Int).toNat)=0 from rfl,Kh hj,getElem?_pos es 0 (by omega),hj]
  refine Kg (nx:=j + 1) hit fun h' h1 sb=>⟨_,rfl,hQ _ h' s.toks ?_ ⟨j + 1,h1,hS.keep fun o e=>(sb.2 S hne).trans e,by simp,fun _ _=>⟨j,hj,rfl⟩⟩ fun b o hb e=>(sb.2 b fun z=>hb (by simp [z])).trans e⟩
  simp [e1]
 done:=fun s Q E st hQ=>by
  obtain ⟨c,hit,hS,c0,c1⟩:=st
  refine qh hit hS rfl ?_
  dsimp only
  refine a7 (tM hw hS h1 ?_)
  have hz:es[hJ t.place ((c:Nat):Int).toNat]?=none:=by
   rcases Nat.eq_zero_or_pos es.size with z | z
   ·rw [getElem?_neg];omega
   ·have e1:es.size=1:=by omega
    obtain ⟨j,hj,hc⟩:=c1 e1 e1
    rw [hc,show (((j + 1:Nat):Int).toNat)=j + 1 from rfl,Ki hj,getElem?_neg];omega
  rw [hz]
  exact Av (by simpa using hh) hit rfl (by simp) fun h' eb=>hQ h' s.toks fun b o hb e=>eb b o (fun z=>hb (by simp [z])) e
 self:=fun i s Q E st h=>let ⟨_,a1,_⟩:=st;Aw a1 h
theorem EH {Q:a9->ac->Prop} (hh:A.handled=none) (hS:cH w s.heap S es ep t)
  (h:∀ (I:ah) (fp:List ah) (ord:List a9) (St:Nat->bp->Prop) (h':bp) (d:I_),s.heap.objs.size<=I->(∀ b∈fp,b=S\/s.heap.objs.size<=b)->(∀ b∈fp,b<h'.objs.size)->ord.Perm (es.toList.map (·.2))->(∀ B:b9,B.handled=none->N0 prog w B I fp [I] ord.length (fun i v=>ord[i]?=some v) St)->St 0 h' ->
   (∀ b o,s.heap.get? b=some o->h'.get? b=some o)->N5 { s with heap:=h',drawn:=d } (.ref I) "set_iterator"->Q (.ref I) { s with heap:=h',drawn:=d }):ar (aG prog w) A (wA (.ref S)) Q E s:=by
 have hT:s.TypeIs (.ref S) "set":=⟨_,hS.at_,rfl⟩
 have hlt:=aq hS.at_
 refine yw hT F.slot_set_iter (b_ F.slot_set_iter hT SI.entry_iter ?_ (F.args_set_iter_1 _))
 show ar _ _ (rE S >>= _) _ _ s
 unfold rE
 refine a7 (a7 (wpAny_setEntries_of hS.at_ rfl hS.fits (aa ?_)))
 show ar _ _ (setDrawn S >>= _) _ _ s
 unfold setDrawn
 refine a7 (a7 (bt hS.at_ rfl hS.fits (a7 (eR (aa ?_)))))
 have fin:∀ (first:a9) (fp:List ah) (ord:List a9) (St:Nat->bp->Prop) (h':bp) (d:I_),(∀ b o,s.heap.get? b=some o->h'.get? b=some o)->s.heap.objs.size<=h'.objs.size ->
   (∀ b∈fp,b=S\/b=h'.objs.size\/(s.heap.objs.size<=b/\b<h'.objs.size))->ord.Perm (es.toList.map (·.2))->(∀ B:b9,B.handled=none->N0 prog w B h'.objs.size fp [h'.objs.size] ord.length (fun i v=>ord[i]?=some v) St) ->
   (∀ h'':bp,(∀ b o,h'.get? b=some o->h''.get? b=some o)->Au h'' h'.objs.size S first 0 es.size ep->St 0 h'') ->
   ar (aG prog w) A.in1 (setEpoch S >>= fun e=>newFields "set_iterator" [first,cb 0,.ref S,cb es.size,cb e] >>= fun x=>ret x) (fun fin s'=>∃ v,fin=.done (.ret v)/\∃ T' r,s'.TypeIs v T'/\typeLookup (.type T') "__next__"=pure (some r)/\Q v s') E { s with heap:=h',drawn:=d }:=by
  intro first fp ord St h' d kp hsz hfp pm W st
  have hS':cH w h' S es ep t:=hS.keep fun o e=>kp S o e
  refine a7 (wpAny_setEpoch_of (s:={ s with heap:=h',drawn:=d }) hS'.at_ rfl hS'.fits ?_)
  refine a7 (bL ?_ (by size_fits))
  have gp:∀ b o,h'.get? b=some o->(h'.push { cls:=.type "set_iterator",dict:=none,data:=.fields #[first,cb 0,.ref S,cb es.size,cb ep] }).get? b=some o:=fun b o e=>ae _ e
  have it:(h'.push { cls:=.type "set_iterator",dict:=none,data:=.fields #[first,cb 0,.ref S,cb es.size,cb ep] }).get? h'.objs.size=some { cls:=.type "set_iterator",dict:=none,data:=.fields #[first,cb 0,.ref S,cb es.size,cb ep] }:=ay _ rfl
  refine aa ⟨_,rfl,"set_iterator",_,⟨_,it,rfl⟩,SI.slot_next.lookup,h h'.objs.size fp ord St _ d hsz (fun b hb=>?_) (fun b hb=>?_) pm W (st _ gp it) (fun b o e=>gp b o (kp b o e)) ⟨_,it,rfl⟩⟩
  ·rcases hfp b hb with z | z | z
   ·exact .inl z
   ·exact .inr (by rw [z];exact hsz)
   ·exact .inr z.1
  ·rw [c9]
   rcases hfp b hb with z | z | z
   ·rw [z];exact dY (aC hlt hsz)
   ·rw [z];exact da _
   ·exact dY z.2
 dsimp only
 split
 ·rename_i z
  have z:(!w.params.followText "set-order" && (!t.plain && decide (es.size > 1)))=true:=z
  refine a7 (tL _ _ _ _ (by simp) fun ys d pm=>?_)
  simp only [N8]
  have hyl:ys.length=es.size:=by have:=pm.length_eq;rwa [eI] at this
  have zl:=eY hS.few
  refine a7 (bL ?_ (by show (ys.map fun (i:Nat)=>cb i).toArray.size<=sizeLine;simp;omega))
  have tp:∀ ob:Obj,(s.heap.push ob).objs.size=s.heap.objs.size + 1:=fun ob=>c9 ..
  refine fin (.ref s.heap.objs.size) [s.heap.objs.size + 1,S,s.heap.objs.size] (ys.map fun p=>(es.getD p (0,.none)).2)
   (fun i h=>Au h (s.heap.objs.size + 1) S (.ref s.heap.objs.size) i es.size ep/\cH w h S es ep t/\UY h s.heap.objs.size ys) (s.heap.push _) d
   (fun b o e=>ae _ e) (by rw [tp];exact jp _) (fun b hb=>?_) ?_ (fun B hB=>?_) (fun h'' k it=>⟨by rw [tp] at it;exact it,hS.keep fun o e=>k S o (ae _ e),_,_,k _ _ (ay _ rfl),rfl⟩)
  ·simp only [bx,bn,or_false] at hb
   rcases hb with y | y | y
   ·exact .inr (.inl (by rw [tp];exact y))
   ·exact .inl y
   ·exact .inr (.inr ⟨by rw [y];exact au _,by rw [tp,y];exact da _⟩)
  ·refine (pm.map _).trans (.of_eq ?_)
   apply wj
   ·simp
   ·intro k h1 h2
    have:k<es.size:=by simpa using h1
    simp [this]
  ·rw [ao,hyl,tp]
   exact Ca hB (aF (dY hlt)) (aF (da _)) (fun p hp=>List.mem_range.mp (pm.mem_iff.mp hp)) hyl
 ·rename_i z
  have z:¬ (!w.params.followText "set-order" && (!t.plain && decide (es.size > 1)))=true:=z
  refine a7 (aa ?_)
  have hne:S≠s.heap.objs.size:=aF hlt
  cases hw:w.params.followText "set-order" with
  | true =>
   refine fin (cb 0) [s.heap.objs.size,S] ((nq (w.params.setOrder S ep) es).toList.map (·.2)) (fun i h=>Au h s.heap.objs.size S (.int 0 0) i es.size ep/\cH w h S es ep t) s.heap s.drawn (fun _ _ e=>e) (au _) (fun b hb=>?_) ((uE _ es).map _) (fun B hB=>?_) (fun h'' k it=>⟨it,hS.keep fun o e=>k S o e⟩)
   ·simp only [bx,bn,or_false] at hb
    exact hb.elim (fun z=>.inr (.inl z)) .inl
   ·rw [ao,av,uF]
    exact EG hB hw hne
  | false =>
   have h1:es.size<=1:=by
    rw [hw] at z
    rcases hS.pl with y | y
    ·omega
    ·rw [y] at z;simpa using z
   refine fin (cb 0) [s.heap.objs.size,S] (es.toList.map (·.2)) (fun i h=>∃ k,Au h s.heap.objs.size S (.int (k:Nat) 0) i es.size ep/\cH w h S es ep t/\(i=0->k=0)/\(i=1->es.size=1->∃ j,t.place=#[j]/\k=j + 1)) s.heap s.drawn (fun _ _ e=>e) (au _) (fun b hb=>?_) (.refl _) (fun B hB=>?_) (fun h'' k it=>⟨0,it,hS.keep fun o e=>k S o e,fun _=>rfl,fun y=>by cases y⟩)
   ·simp only [bx,bn,or_false] at hb
    exact hb.elim (fun z=>.inr (.inl z)) .inl
   ·rw [ao,av]
    exact HU hB hw hne h1
end
end
section
section
variable {prog:aE}{w:aU}{A:b9}{E:a9->ac->Prop}{s:ac}{S:ah}{es:Array (Int×a9)}{ep:Nat}{t:e6}
theorem Cb {Q:List a9->ac->Prop} (hh:A.handled=none) (hS:cH w s.heap S es ep t)
  (h:∀ (ord:List a9) (h':bp) (d:I_) (tk:Nat),ord.Perm (es.toList.map (·.2))->(∀ b o,s.heap.get? b=some o->h'.get? b=some o)->s.heap.objs.size<=h'.objs.size->Q ord { s with heap:=h',drawn:=d,toks:=tk }) :
  ar (aG prog w) A (collect (.ref S)) Q E s:=by
 have hlt:=aq hS.at_
 unfold collect
 refine a7 (wpAny_runValue (jv F.entry_proto_collect ?_))
 rw [ig F.plain_proto_collect _]
 show ar _ A.in1 (newList [] >>= fun l=>again (.builtin "list.__iadd__" ⟨[l,.ref S],[]⟩)) _ _ s
 refine a7 (bL ?_)
 refine aa ⟨wg F.plain_list_iadd _,jv F.entry_list_iadd ?_⟩
 rw [ig F.plain_list_iadd _]
 let s1:ac:={ s with heap:=s.heap.push { cls:=.type "list",data:=.seq ([] : List a9).toArray } }
 have sz1:s1.heap.objs.size=s.heap.objs.size + 1:=c9 ..
 have at1:s1.heap.get? s.heap.objs.size=some { cls:=.type "list",data:=.seq ([] : List a9).toArray }:=ay _ rfl
 have hS1:cH w s1.heap S es ep t:=hS.keep fun o e=>ae _ e
 show ar _ A.in1 (s_ (.ref s.heap.objs.size) (.ref S) (.ref s.heap.objs.size)) _ _ s1
 have hT1:s1.TypeIs (.ref S) "set":=⟨_,hS1.at_,rfl⟩
 unfold s_
 refine a7 (rq hT1 ?_)
 have e1:ve (.ref s.heap.objs.size) (.ref S)=false:=by simp [ve,fY hlt]
 have e2:(ij "set" == ij "list")=false:=by decide
 have e3:(ij "set" == ij "tuple")=false:=by decide
 simp only [e1,e2,e3,Bool.or_false,bS,if_false]
 refine a7 (EH (A:=A.in1) (by simpa using hh) hS1 fun I fp ord St h' d hI hfp hfl pm W st kp tI=>?_)
 let s2:ac:={ s1 with heap:=h',drawn:=d }
 have hS2:cH w s2.heap S es ep t:=hS1.keep fun o e=>kp S o e
 have hT2:s2.TypeIs (.ref S) "set":=⟨_,hS2.at_,rfl⟩
 refine a7 (db ?_)
 unfold Builtin.List.listLengthHint
 refine a7 (wpAny_specialOf (s:=s2) hT2 F.slot_set_len.lookup ?_)
 dsimp only
 rw [show splitId "set.__len__"=some ("set","__len__") from by decide +kernel]
 dsimp only
 refine a7 (gR (b:=true) (s:=s2) hT2 (by rw [Ef];kernel_rfl) ?_)
 rw [if_neg (by decide),if_pos (by decide)]
 refine a7 (rq (s:=s2) hT2 (aa ?_))
 rw [if_pos (by decide)]
 refine a7 (i3 ?_)
 have nS:s.heap.objs.size∉fp:=fun z=>by
  rcases hfp _ z with q | q
  ·exact absurd hlt (by rw [<- q];exact bv _)
  ·rw [sz1] at q;exact absurd q (Nat.not_succ_le_self _)
 have at2:s2.heap.get? s.heap.objs.size=some { cls:=.type "list",data:=.seq ([] : List a9).toArray }:=kp _ _ at1
 refine a7 ?_
 show ar _ A.in1 (updateSeq s.heap.objs.size (·.push .none) >>= fun _=>updateSeq s.heap.objs.size (·.pop)) _ _ s2
 refine a7 (wpAny_updateSeq at2 rfl ?_)
 have at3:=fu (kh (·.push dS)) at2 rfl
 refine wpAny_updateSeq at3 rfl ?_
 have at4:=fu (kh (·.pop)) at3 rfl
 have oth:∀ b o,b≠s.heap.objs.size->s2.heap.get? b=some o->((s2.heap.update s.heap.objs.size (kh (·.push dS))).update s.heap.objs.size (kh (·.pop))).get? b=some o :=
  fun b o hb e=>(oR _ _ (cW hb)).trans ((oR _ _ (cW hb)).trans e)
 have zl:ord.length<=sizeLine:=by rw [pm.length_eq,ao,av];exact eY hS.few
 have W1:=W A.in1 (by simpa using hh)
 refine aa ⟨wg F.plain_extend_loop _,codeAny_extend_loopS (A:=A) W1.toS zl _ nS _ ord.length 0 { s2 with heap:=(s2.heap.update s.heap.objs.size (kh (·.push dS))).update s.heap.objs.size (kh (·.pop)) } _ _ rfl (cn _) (W1.frame 0 _ _ st fun b hb o e=>oth b o (fun z=>nS (z ▸ hb)) e) at4 (ItemsOf.nil _) fun s' acc' c' hm hS' hacc=>?_⟩
 show ar _ A (load s.heap.objs.size >>= _) _ _ s'
 refine a7 (wpAny_load hS' (aa ?_))
 have hacc':acc'.toList=ord:=by
  apply List.ext_getElem?
  intro j
  rw [dm]
  by_cases hj:j<acc'.size
  ·have:=hacc.2 j acc'[j] (by simp [hj])
   rw [this];simp [hj]
  ·rw [getElem?_neg acc' j hj,cm (by rw [<- hacc.1];omega)]
 rw [hacc']
 obtain ⟨h3,g3,d3,t3,o3⟩:=s'
 obtain rfl:g3=s.gens:=hm.gens
 obtain rfl:d3=d:=hm.drawn
 obtain rfl:o3=s.os:=hm.os
 have old:∀ b o,s.heap.get? b=some o->h3.get? b=some o:=fun b o e=>by
  have hb:=aq e
  refine hm.heap b o ?_ (oth b o (aF hb) (kp b o (ae _ e)))
  simp only [bx,bn,or_false,not_or]
  exact ⟨aF hb,aF (aC hb (by have q:=hI;rw [sz1] at q;exact Nat.le_of_succ_le q))⟩
 refine h ord h3 _ t3 pm old ?_
 have:=aq (show h3.get? s.heap.objs.size=some _ from hS')
 exact cp this
theorem Cc {x:a9}{Q:a9->ac->Prop} (hc:ar (aG prog w) A.in1 (collect x) (fun vs s1=>∃ ss,rF vs ss/\vs.length<64 /\
   ∀ (h':bp) (vs':List a9) (ss':List Str) (e:Nat),(∀ b o,s1.heap.get? b=some o->h'.get? b=some o)->h'.get? s1.heap.objs.size=some (seqObj "list" vs'.toArray e)->rF vs' ss'->ss'.Perm ss->sortedS ss'=true ->
    Q (.ref s1.heap.objs.size) { s1 with heap:=h' }) E s):ar (aG prog w) A (call (.builtin "sorted") [x]) Q E s:=by
 refine zk kind_sorted plain_sorted entry_sorted (args_sorted1 _) ?_
 unfold lM.«sorted»
 refine a7 (m:=checkCount "sorted" 1 1 _) (aa ?_)
 refine a7 (bi hc (fun vs s1 z=>?_) fun _ _ z=>z)
 obtain ⟨ss,hss,h64,hq⟩:=z
 refine a7 (wpAny_newList ?_)
 have at1:(s1.heap.push (seqObj "list" vs.toArray 0)).get? s1.heap.objs.size=some (seqObj "list" vs.toArray 0):=ay _ rfl
 show ar _ _ _ _ _ { s1 with heap:=s1.heap.push (seqObj "list" vs.toArray 0) }
 refine a7 (db (b_ slot_list_sort ⟨_,at1,rfl⟩ entry_list_sort (list_sort_treeK strKind_oneLt at1 hss.keysOf (fun v₁ v₂ bG e=>keyKind_strs (by rw [<- e];exact hss)) h64 fun st' a1 a2=>⟨_,rfl,?_⟩) (args_list_sort _)))
 obtain ⟨ss',p1,p2,p3⟩:=sorted_out_str hss a1 a2
 obtain ⟨e,at2⟩:=sortedHeap_at (out:=(arrOf st').map (·.2)) at1
 refine aa ⟨_,rfl,hq _ _ ss' e (fun b o q=>?_) at2 p1 p2 p3⟩
 have hb:=aq q
 rw [sortedHeap_old (aF hb) (by rw [c9];exact dY hb)]
 exact ae _ q
end
end
section
def oB (x y:Str):Bool:=decide (x.cps.toList<y.cps.toList)
def EI (x:Str):List Str->List Str
 | []=>[x]
 | y::r=>if oB y x then y::EI x r else x::y::r
def jf:List Str->List Str
 | []=>[]
 | x::r=>EI x (jf r)
theorem uG (x:Str):∀ l,(EI x l).Perm (x::l)
 | []=>.refl _
 | y::r=>by
  rw [EI]
  split
  ·exact ((uG x r).cons y).trans (.swap ..)
  ·exact .refl _
theorem gz:∀ l,(jf l).Perm l
 | []=>.refl _
 | x::r=>(uG x _).trans ((gz r).cons x)
theorem rO (x:Str):oB x x=false:=decide_eq_false (List.lt_irrefl _)
theorem qi {x y z:Str} (h1:oB x y=true) (h2:oB y z=true):oB x z=true :=
 decide_eq_true (List.lt_trans (of_decide_eq_true h1) (of_decide_eq_true h2))
theorem wp {x y:Str} (h1:oB x y=false) (h2:oB y x=false):x=y:=by
 have h1:¬ x.cps.toList<y.cps.toList:=of_decide_eq_false h1
 have h2:¬ y.cps.toList<x.cps.toList:=of_decide_eq_false h2
 have:x.cps.toList=y.cps.toList:=List.le_antisymm (List.not_lt.mp h2) (List.not_lt.mp h1)
 cases x;cases y
 exact congrArg Str.mk (Array.toList_inj.mp this)
abbrev MP (l:List Str):Prop:=l.Pairwise fun a b=>oB b a=false
theorem Kj (x:Str):∀ l,MP l->MP (EI x l)
 | [],_=>by simp [EI,MP]
 | y::r,h=>by
  obtain ⟨h1,h2⟩:=List.pairwise_cons.mp h
  rw [EI]
  split
  ·rename_i hy
   refine List.pairwise_cons.mpr ⟨fun z hz=>?_,Kj x r h2⟩
   rcases List.mem_cons.mp ((uG x r).mem_iff.mp hz) with e | e
   ·subst e
    cases q:oB z y with
    | false=>rfl
    | true=>exact absurd (qi q hy) (by rw [rO];decide)
   ·exact h1 z e
  ·rename_i hy
   have hy:oB y x=false:=by simpa using hy
   refine List.pairwise_cons.mpr ⟨fun z hz=>?_,h⟩
   rcases List.mem_cons.mp hz with e | e
   ·subst e;exact hy
   ·cases q:oB z x with
    | false=>rfl
    | true =>
     have hzy:=h1 z e
     cases q2:oB x y with
     | true=>rw [qi q q2] at hzy;cases hzy
     | false=>rw [<- wp hy q2,hzy] at q;cases q
theorem pq:∀ l,MP (jf l)
 | []=>.nil
 | x::r=>Kj x _ (pq r)
theorem tN:∀ (p:Str) (l:List Str),risingS p l=true->MP (p::l)
 | p,[],_=>by simp [MP]
 | p,x::r,h=>by
  rw [risingS,aO] at h
  obtain ⟨h1,h2⟩:=h
  have h1:oB x p=false:=by
   rw [ltCps_eq] at h1
   simpa [oB] using h1
  have ih:=tN x r h2
  refine List.pairwise_cons.mpr ⟨fun z hz=>?_,ih⟩
  rcases List.mem_cons.mp hz with e | e
  ·rw [e];exact h1
  ·have hzx:=(List.pairwise_cons.mp ih).1 z e
   cases q:oB z p with
   | false=>rfl
   | true =>
    cases q2:oB p x with
    | true=>rw [qi q q2] at hzx;cases hzx
    | false=>rw [wp q2 h1,hzx] at q;cases q
theorem Ax:∀ (l:List Str),sortedS l=true->MP l
 | [],_=>.nil
 | x::r,h=>tN x r h
theorem zB:∀ {l l':List Str},l.Perm l'->MP l->MP l'->l=l'
 | [],l',p,_,_=>by rw [List.nil_perm.mp p]
 | x::r,[],p,_,_=>by have:=p.length_eq;simp at this
 | x::r,y::r',p,h,h'=>by
  obtain ⟨a1,a2⟩:=List.pairwise_cons.mp h
  obtain ⟨b1,b2⟩:=List.pairwise_cons.mp h'
  have e:x=y:=by
   have hx:x∈y::r':=p.mem_iff.mp am
   have hy:y∈x::r:=p.mem_iff.mpr am
   rcases List.mem_cons.mp hx with e | e
   ·exact e
   ·rcases List.mem_cons.mp hy with e' | e'
    ·exact e'.symm
    ·exact wp (b1 x e) (a1 y e')
  subst e
  rw [zB (List.Perm.cons_inv p) a2 b2]
theorem Cd {l l':List Str} (p:l'.Perm l) (h:sortedS l'=true):l'=jf l:=zB (p.trans (gz l).symm) (Ax _ h) (pq l)
theorem uH {l:List Str} (h:MP l) (nd:l.Nodup):l.Pairwise fun a b=>oB a b=true:=by
 induction l with
 | nil=>exact .nil
 | cons x r ih =>
  obtain ⟨a1,a2⟩:=List.pairwise_cons.mp h
  obtain ⟨n1,n2⟩:=List.nodup_cons.mp nd
  refine List.pairwise_cons.mpr ⟨fun y hy=>?_,ih a2 n2⟩
  cases q:oB x y with
  | true=>rfl
  | false=>exact absurd (wp q (a1 y hy) ▸ hy) n1
theorem kE:∀ {ss:List Str}{us:List a9},du (ss.map V.str) us->rF us ss
 | [],_,.nil=>.nil
 | x::r,_,.cons h t=>by obtain ⟨tk,rfl⟩:=h;exact .cons x tk (kE t)
theorem nD:∀ {ss:List Str}{us:List a9},rF us ss->du (ss.map V.str) us
 | _,_,.nil=>.nil
 | _,_,.cons x t h=>.cons ⟨t,rfl⟩ (nD h)
theorem fc:∀ {ss:List Str}{us:List a9},rF us ss->us.length=ss.length
 | _,_,.nil=>rfl
 | _,_,.cons x t h=>by simp [fc h]
theorem wQ {ss:List Str}{us:List a9} (h:rF us ss) (i:Nat) (v:a9) (e:us[i]?=some v):∃ x t,ss[i]?=some x/\v=j8 x t:=by
 induction h generalizing i with
 | nil=>simp at e
 | cons y t _ ih =>
  cases i with
  | zero=>simp at e;exact ⟨y,t,by simp,e.symm⟩
  | succ i=>simp at e;simpa using ih i e
theorem tO {w:aU}:∀ {l:List (Int×a9)},(∀ e∈l,rM w e)->rF (l.map (·.2)) (l.map jt)
 | [],_=>.nil
 | e::r,h=>by
  obtain ⟨x,tk,rfl⟩:=h e am
  exact .cons x tk (tO fun e he=>h e (aj _ he))
theorem Ay {us us':List a9}{ss:List Str} (h:rF us ss) (p:us'.Perm us):∃ ss',rF us' ss'/\ss'.Perm ss:=by
 refine ⟨us'.map strOf,strsAre_map _ fun v hv=>h.all v (p.mem_iff.mp hv),?_⟩
 rw [<- h.strs]
 exact p.map _
def kF (w:aU) (a:ah) (ss:List Str):HO:=.ext fun h=>kj w h a ss
theorem Az {P:aE}{w:aU}{H:Hp}{h:bp}{a:ah}{ss:List Str} (x:kj w h a ss):dk P w H h a (kF w a ss) :=
 ⟨x,let ⟨_,_,_,I,_⟩:=x;⟨_,I.at_⟩,fun _ _ y k=>y.keep k⟩
section
variable {X:Cx}
theorem Ce (hc:X.calm=true):jb X (.type "set") (fun xs H Q=>∃ p ss,xs=[.ref p]/\(nB X.K H p (ss.map V.str)\/jZ X.K H p (ss.map V.str))/\ss.length + 1<iy/\∀ a,H a=none->Q (.ref a) (upd H a (kF X.w a (c_ [] ss)))):=by
 intro pins s σ H xs us Q I r h
 obtain ⟨p,ss,rfl,hq,hz,q⟩:=h
 obtain ⟨u,rfl,rx⟩:=kz r
 cases rx
 have hh:=I.ok.hd hc
 have fin:∀ (h':bp) (tk:Nat),kj X.w h' s.heap.objs.size (c_ [] ss)->(∀ b o,s.heap.get? b=some o->h'.get? b=some o)->EP X pins σ Q (.ref s.heap.objs.size) { s with heap:=h',toks:=tk }:=fun h' tk hS kp =>
  ⟨.ref s.heap.objs.size,_,I.laid (t':=tk) kp (au _) (Az hS),rfl,q _ (I.hok.fresh (au _))⟩
 rcases hq with hq | hq
 ·obtain ⟨its,r',⟨o,n,ho,h1,h2,h3⟩,_⟩:=I.list hq
  have sa:=kE r'
  exact tK (Kf (by simpa using hh) h1 ⟨n,h3⟩) ho (fun i v e=>wQ sa i v (by simpa using e)) (by simp [fc sa]) (by simp [fc sa];exact hz) fin
 ·obtain ⟨its,r',⟨o,ho,h1,n,h3⟩,_⟩:=I.tuple hq
  have sa:=kE r'
  exact tK (NW (by simpa using hh) h1 ⟨n,h3⟩) ho (fun i v e=>wQ sa i v (by simpa using e)) (by simp [fc sa]) (by simp [fc sa];exact hz) fin
theorem uI:jb X (.builtin "sorted") (fun xs H Q=>∃ p ss,xs=[.ref p]/\nB X.K H p (ss.map V.str)/\ss.length<64/\∀ l,H l=none->Q (.ref l) (upd H l (.lst ((jf ss).map V.str)))):=by
 intro pins s σ H xs us Q I r h
 obtain ⟨p,ss,rfl,hq,hz,q⟩:=h
 obtain ⟨u,rfl,rx⟩:=kz r
 cases rx
 obtain ⟨its,r',pl,hl⟩:=I.list hq
 have sa:=kE r'
 refine sorted_strs pl.isList sa (by rw [fc sa];exact hz) fun out ss' a1 a2 a3=>?_
 obtain ⟨e,he⟩:=sortedAll_at s.heap its out
 have kp:∀ b o,s.heap.get? b=some o->(sortedAll s.heap its out).get? b=some o:=fun b o=>sortedAll_old
 obtain rfl:=Cd a2 a3
 refine ⟨.ref (s.heap.objs.size + 1),upd H (s.heap.objs.size + 1) (.lst ((jf ss).map V.str)),I.laid (t':=s.toks) kp (jp _) (show dk X.prog X.w _ _ _ (.lst _) from ⟨?_,out.toList,e,nD a1,by simpa [seqObj] using he⟩),rfl,q _ (I.hok.fresh (jp _))⟩
 rw [ao,(gz ss).length_eq]
 have:=hl
 rw [ao] at this
 exact this
theorem vR (hc:X.calm=true):jb X (.builtin "sorted") (fun xs H Q=>∃ p ss,xs=[.ref p]/\H p=some (kF X.w p ss)/\ss.length<64/\∀ l,H l=none->Q (.ref l) (upd H l (.lst ((jf ss).map V.str)))):=by
 intro pins s σ H xs us Q I r h
 obtain ⟨p,ss,rfl,hq,hz,q⟩:=h
 obtain ⟨u,rfl,rx⟩:=kz r
 cases rx
 have hh:=I.ok.hd hc
 obtain ⟨⟨es,ep,t,S,pm⟩,_⟩:=(show dk X.prog X.w H s.heap p (kF X.w p ss) from I.hok p _ hq)
 refine Cc (Cb (by simpa using hh) S fun ord h' d tk po kp sz=>?_)
 obtain ⟨ss1,sa,p1⟩:=Ay (tO S.txt) po
 have ln:ss1.length=ss.length:=(p1.trans pm).length_eq
 refine ⟨ss1,sa,by rw [fc sa,ln];exact hz,fun h2 vs' ss' e kp2 at2 sa2 p2 s2=>?_⟩
 have kk:∀ b o,s.heap.get? b=some o->h2.get? b=some o:=fun b o e=>kp2 b o (kp b o e)
 have es':ss'=jf ss:=Cd (p2.trans (p1.trans pm)) s2
 subst es'
 have fr:=I.hok.fresh sz
 have ok2:dk X.prog X.w (upd H h'.objs.size (.lst ((jf ss).map V.str))) h2 h'.objs.size (.lst ((jf ss).map V.str)) :=
  ⟨by rw [ao,(gz ss).length_eq];exact bU (cp hz) (by rw [BG];decide),vs',e,nD sa2,at2⟩
 exact ⟨.ref h'.objs.size,_,I.call' (s':={ s with heap:=h2,drawn:=d,toks:=tk }) (ch:=[]) rfl (Un.laid kk sz fr) (I.hok.laid kk sz ok2) I.bare (fun b z=>absurd z (by simp)),rfl,q _ fr⟩
end
end
section
section
variable {X:Cx}
theorem vm {prog:aE}{w:aU}{B:b9}{bs:List Bool}{its:List a9} (r:du (bs.map V.bl) its):TruthOf prog w B (fun i v=>its.toArray[i]?=some v) (fun i=>bs.getD i false):=by
 intro i v s Q E hv hq
 have hv:its[i]?=some v:=by simpa using hv
 have hl:=r.length
 rw [ao] at hl
 obtain ⟨hi,_⟩:=List.getElem?_eq_some_iff.mp hv
 have hb:bs[i]?=some bs[i]:=aY (by omega)
 obtain ⟨u,hu,ru⟩:=r.get (i:=i) (x:=.bl bs[i]) (by rw [aX,hb];rfl)
 rw [hv] at hu;cases hu
 cases ru
 have hq:Q (bs.getD i false) s:=hq
 rw [cV,hb] at hq
 exact cR hq
theorem Kk (bs:List Bool):(bD bs.length).all (fun i=>bs.getD i false)=bs.all id:=by
 rw [l9,cr,cr]
 constructor
 ·intro h b hb
  obtain ⟨i,hi,rfl⟩:=iN hb
  have:=h i (List.mem_range.mpr hi)
  simpa [cV,hi] using this
 ·intro h i hi
  have hi:=List.mem_range.mp hi
  have:=h bs[i] (iF hi)
  simpa [cV,hi] using this
theorem Kl (bs:List Bool):(bD bs.length).any (fun i=>bs.getD i false)=bs.any id:=by
 rw [l9,iH,iH]
 constructor
 ·rintro ⟨i,hi,h⟩
  have hi:=List.mem_range.mp hi
  exact ⟨bs[i],iF hi,by simpa [cV,hi] using h⟩
 ·rintro ⟨b,hb,h⟩
  obtain ⟨i,hi,rfl⟩:=iN hb
  exact ⟨i,List.mem_range.mpr hi,by simpa [cV,hi] using h⟩
theorem wR (hc:X.calm=true):jb X (.builtin "all") (fun xs H Q=>∃ p,∃ bs:List Bool,xs=[.ref p]/\nB X.K H p (bs.map V.bl)/\Q (.bl (bs.all id)) H):=by
 intro pins s σ H xs us Q I r h
 obtain ⟨p,bs,rfl,hq,q⟩:=h
 obtain ⟨u,rfl,rx⟩:=kz r
 cases rx
 obtain ⟨its,r',pl,hl⟩:=I.list hq
 have ln:its.toArray.size=bs.length:=by have:=r'.length;simp at this ⊢;omega
 obtain ⟨o,ho,hk⟩:=pl.isList
 refine call_all_walk (kf pl.isList ⟨_,_,_,_,_,_,_,rfl,yu (by simpa using I.ok.hd hc) _ p (aF (aq ho)) its.toArray,⟨⟨_,ay _ rfl,rfl,rfl⟩,pl.isList.push _⟩,vm r',fun h' tk kp=>?_⟩)
 rw [ln,Kk]
 refine ⟨.bl _,H,I.kept (t':=tk) fun b o e=>kp b o ?_ (ae _ e),rfl,q⟩
 simp only [dC]
 exact aF (aq e)
theorem wS (hc:X.calm=true):jb X (.builtin "any") (fun xs H Q=>∃ p,∃ bs:List Bool,xs=[.ref p]/\nB X.K H p (bs.map V.bl)/\Q (.bl (bs.any id)) H):=by
 intro pins s σ H xs us Q I r h
 obtain ⟨p,bs,rfl,hq,q⟩:=h
 obtain ⟨u,rfl,rx⟩:=kz r
 cases rx
 obtain ⟨its,r',pl,hl⟩:=I.list hq
 have ln:its.toArray.size=bs.length:=by have:=r'.length;simp at this ⊢;omega
 obtain ⟨o,ho,hk⟩:=pl.isList
 refine call_any_walk (kf pl.isList ⟨_,_,_,_,_,_,_,rfl,yu (by simpa using I.ok.hd hc) _ p (aF (aq ho)) its.toArray,⟨⟨_,ay _ rfl,rfl,rfl⟩,pl.isList.push _⟩,vm r',fun h' tk kp=>?_⟩)
 rw [ln,Kl]
 refine ⟨.bl _,H,I.kept (t':=tk) fun b o e=>kp b o ?_ (ae _ e),rfl,q⟩
 simp only [dC]
 exact aF (aq e)
theorem HV:oX X (bH .LtE) (fun x y H Q=>∃ i j,x=.str i/\y=.str j/\Q (.bl (!decide (j.cps.toList<i.cps.toList))) H):=by
 intro pins s σ H x y v u Q I rx ry h
 obtain ⟨i,j,rfl,rfl,q⟩:=h
 obtain ⟨t,rfl⟩:=rx
 obtain ⟨t',rfl⟩:=ry
 exact PySem.P.le_str (Al I q rfl)
end
end
section
def Sy (x:Str):It:=⟨fun i _=>i<x.cps.size,fun i H v H'=>H'=H/\∃ c,x.cps[i]?=some c/\v=.str ⟨#[c]⟩,fun i _=>x.cps.size<=i⟩
theorem Km {P:aE}{w:aU}{K:a8}{tg:aQ} (x:Str) (t:Tok) (it:ah):wI P w K tg (Sy x) [it] it (fun i h=>h.IsStrIter it (hU x) x t i) where
 mem:=by simp
 obj:=fun i h st b hb=>by
  obtain rfl:b=it:=by simpa using hb
  obtain ⟨o,e,c,d⟩:=st
  exact ⟨o,e,fun v z=>by rw [d] at z;cases z⟩
 keep:=fun i h h' st k=>let ⟨o,e,r⟩:=st;⟨o,k it (by simp) o e,r⟩
 item:=by
  intro X hP hw hK hc i pins s σ H E I hf st hg
  subst hP hw hK
  have hg:i<x.cps.size:=hg
  obtain ⟨f0,f1,f2,f3,f4,f5⟩:=hf it (by simp)
  have hx:x.cps[i]?=some x.cps[i]:=getElem?_pos _ i hg
  have go:∀ (h':bp) (tk tk':Nat),h'.IsStrIter it (hU x) x t (i + 1)->bA it s.heap h'->∃ u,some (j8 ⟨#[x.cps[i]]⟩ tk)=some u /\
    ar (aG X.prog X.w) X.A (e_ tg (.ref it) u) (fun _ s2=>∃ v H',bQ X pins σ H' s2/\cZ v u/\(Sy x).yld i H v H'/\s2.heap.IsStrIter it (hU x) x t (i + 1)/\∀ b∈[it],H' b=none) E { s with heap:=h',toks:=tk' }:=fun h' tk tk' st' sb=>by
   have I1:bQ X pins σ H { s with heap:=h',toks:=tk' }:=I.turned (fun b o hb e=>(sb.2 b hb).trans e) f0 f1 f3 f4 f5
   refine ⟨_,rfl,?_⟩
   have q:∃ v H',bQ X pins σ H' { s with heap:=h',toks:=tk' }/\cZ v (j8 ⟨#[x.cps[i]]⟩ tk)/\(Sy x).yld i H v H'/\h'.IsStrIter it (hU x) x t (i + 1)/\∀ b∈[it],H' b=none :=
    ⟨.str ⟨#[x.cps[i]]⟩,H,I1,⟨tk,rfl⟩,⟨rfl,_,hx,rfl⟩,st',fun b hb=>(hf b hb).1⟩
   unfold e_
   cases tg<;>exact aa q
  cases ha:x.cps.all (·<128)
  ·have ty:hU x="str_iterator":=by unfold hU;rw [ha];rfl
   rw [ty] at st
   exact wpAny_pyNext_wide_item st hx fun h' st' sb=>go h' _ _ (by rw [ty];exact st') sb
  ·have ty:hU x="str_ascii_iterator":=by unfold hU;rw [ha];rfl
   rw [ty] at st
   exact wpAny_pyNext_ascii_item st hx fun h' st' sb=>go h' _ _ (by rw [ty];exact st') sb
 done:=by
  intro X hP hw hK hc i pins s σ H E I hf st hg
  subst hP hw hK
  have hg:x.cps.size<=i:=hg
  obtain ⟨f0,f1,f2,f3,f4,f5⟩:=hf it (by simp)
  have hx:x.cps[i]?=none:=getElem?_neg _ i (Nat.not_lt.mpr hg)
  unfold hU at st
  cases ha:x.cps.all (·<128)
  ·rw [ha] at st
   exact wpAny_pyNext_wide_end (I.ok.hd hc) st hx fun h' eb=>⟨rfl,I.turned (t':=s.toks) (fun b o hb e=>eb b o hb e) f0 f1 f3 f4 f5⟩
  ·rw [ha] at st
   exact wpAny_pyNext_ascii_end (I.ok.hd hc) st hx fun h' eb=>⟨rfl,I.turned (t':=s.toks) (fun b o hb e=>eb b o hb e) f0 f1 f3 f4 f5⟩
 self:=fun _ _ _ _ _ st h=>by
  unfold hU at st
  cases ha:x.cps.all (·<128)
  ·rw [ha] at st;exact wpAny_pyIter_striter_wide st h
  ·rw [ha] at st;exact wpAny_pyIter_striter_ascii st h
def UZ (tl:TE):TI:=fun σ H R=>tl σ H fun v H1=>∃ x,v=.str x/\R (Sy x) H1
theorem Kn {X:Cx}{tg l:aQ}{tl:TE} (hl:PE X l tl):PI X tg l (UZ tl):=by
 intro pins s σ H R I h
 refine eB (hl pins s σ H _ I h) fun v s1 h_0=>?_
 obtain ⟨y,H1,I1,r1,q1⟩:=h_0
 obtain ⟨x,rfl,q⟩:=q1
 obtain ⟨t,rfl⟩:=r1
 refine wpAny_pyIter_strU ?_
 refine ⟨s1.heap.objs.size,[s1.heap.objs.size],_,_,H1,rfl,I1.kept (t':=s1.toks) fun b o e=>ae _ e,Km x t _,⟨_,ay _ rfl,rfl,rfl⟩,fun b hb=>?_,q⟩
 obtain rfl:b=s1.heap.objs.size:=by simpa using hb
 exact I1.fpOk (au _) (I1.hok.fresh (au _))
end
section
section
variable {X:Cx}{pins:List (ah×Obj)}{σ:St}{H H':Hp}{s:ac}{h':bp}
theorem bQ.turnedL {t':Nat}{ch:List ah} (I:bQ X pins σ H s) (k:∀ b o,b∉ch->s.heap.get? b=some o->h'.get? b=some o) (hf:∀ b∈ch,mU X pins H b):bQ X pins σ H { s with heap:=h',toks:=t' }:=by
 have nt:∀ b u,H b=some u->b∉ch:=fun b u e z=>by rw [(hf b z).1] at e;cases e
 refine I.step (g':=s.gens) (d':=s.drawn) (ch:=ch) (fun b hb=>?_) (fun b o _ _ hc e _=>k b o hc e) (fun b o _ _ hc e _=>⟨o.slots,k b o hc e⟩) (fun _ _ _ _ n=>n)
  (fun b o hc e=>⟨o,k b o hc e⟩) (fun _ _ e=>e) (fun _ _ _ e=>e) (fun b ps e=>⟨#[],by rw [e];simp⟩) (fun m hm=>?_) (fun b u e=>?_) I.bare
 ·obtain ⟨f0,f1,f2,f3,f4,f5⟩:=hf b hb
  exact ⟨f3,f1,f4,f5⟩
 ·obtain ⟨o,es,ep,ho,r⟩:=hm
  exact ⟨o,es,ep,k _ o (fun z=>(hf _ z).f1 rfl) ho,r⟩
 ·refine (I.hok b u e).stay (fun c v hc q=>k c v ?_ q) (fun _ q=>q) fun _ _ q=>q
  rcases hc with z | z
  ·rw [z];exact nt b u e
  ·exact nt c _ z
theorem bQ.track {D:ah}{ho:HO} (I:bQ X pins σ H s) (hf:mU X pins H D) (new:dk X.prog X.w (upd H D ho) s.heap D ho):bQ X pins σ (upd H D ho) s:=by
 obtain ⟨f0,f1,f2,f3,f4,f5⟩:=hf
 have I':bQ X pins σ (upd H D ho) { s with heap:=s.heap,gens:=s.gens,drawn:=s.drawn,toks:=s.toks }:=I.step (ch:=[D]) (fun b hb=>by
   obtain rfl:b=D:=by simpa using hb
   exact ⟨f3,f1,f4,f5⟩) (fun b o _ _ _ e _=>e) (fun b o _ _ _ e _=>⟨o.slots,e⟩) (fun b o hc e n=>by rw [bg (fun z=>hc (by simp [z]))];exact n) (fun b o _ e=>⟨o,e⟩)
  (fun b xs e=>by rw [bg (bR e f0)];exact e) (fun b o xs e=>by rw [bg (bR e f0)];exact e) (fun b ps e=>⟨#[],by rw [bg (bR e f0),e];simp⟩) (fun m hm=>hm) (qf I.hok f0 new) I.bare
 exact I'
end
section
variable {prog:aE}{w:aU}{A:b9}{E:a9->ac->Prop}{s:ac}{it l:ah}{i:Nat}{items:Array a9}
theorem tP {x:a9}{Q:a9->ac->Prop} (ti:s.heap.IsTupleIter it l i) (tl:s.heap.IsTuple l items) (hx:items[i]?=some x)
  (q:∀ h',h'.IsTupleIter it l (i + 1)->bA it s.heap h'->Q x { s with heap:=h' }):ar (aG prog w) A (ck (.ref it)) Q E s:=by
 obtain ⟨oi,ei,ci,di⟩:=id ti
 obtain ⟨ot,et,_,nt,dt⟩:=tl
 unfold ck
 refine a7 (cc (name:=fZ "__next__") ti.typeIs iJ ?_)
 refine b_ iJ ti.typeIs BI ?_ (Af _)
 show ar _ _ (Eh (.ref it) 0 >>= _) _ _ s
 refine a7 (dz ei di (x:=.ref l) rfl ?_)
 show ar _ _ (if (bO l == dS)=true then _ else _) _ _ s
 rw [if_neg (fun z:(bO l == dS)=true=>bq z)]
 show ar _ _ (Eh (.ref it) 1 >>= _) _ _ s
 refine a7 (dz ei di (x:=.int i 0) rfl ?_)
 show ar _ _ (Jb (.ref l) >>= _) _ _ s
 refine a7 (eM et dt ?_)
 simp only [jz,hx]
 refine a7 (fO ei di (by simp) (aa ⟨x,rfl,aa (q _ ?_ (bE ..))⟩))
 refine ⟨_,fu _ ei (Obj.isFreed_of_fields (Jv di _)),(Obj.cls_mapFields ..).trans ci,?_⟩
 rw [Jv di];simp [cb]
theorem tQ {Q:a9->ac->Prop} (hh:A.handled=none) (ti:s.heap.IsTupleIter it l i) (tl:s.heap.IsTuple l items) (hx:items[i]?=none)
  (q:∀ h' e,FO it s.heap h'->(∃ o,h'.get? e=some o/\o.cls=.type "StopIteration")->E (.ref e) { s with heap:=h' }):ar (aG prog w) A (ck (.ref it)) Q E s:=by
 obtain ⟨oi,ei,ci,di⟩:=id ti
 obtain ⟨ot,et,_,nt,dt⟩:=tl
 unfold ck
 refine a7 (cc (name:=fZ "__next__") ti.typeIs iJ ?_)
 refine b_ iJ ti.typeIs BI ?_ (Af _)
 show ar _ _ (Eh (.ref it) 0 >>= _) _ _ s
 refine a7 (dz ei di (x:=.ref l) rfl ?_)
 show ar _ _ (if (bO l == dS)=true then _ else _) _ _ s
 rw [if_neg (fun z:(bO l == dS)=true=>bq z)]
 show ar _ _ (Eh (.ref it) 1 >>= _) _ _ s
 refine a7 (dz ei di (x:=.int i 0) rfl ?_)
 show ar _ _ (Jb (.ref l) >>= _) _ _ s
 refine a7 (eM et dt ?_)
 simp only [jz,hx]
 refine a7 (i3 (a7 (fO ei di (by simp) ?_)))
 show ar _ _ (rA (.type "StopIteration") [] >>= _) _ _ _
 refine a7 ?_
 simp only [rA,N8]
 refine a7 (bL ?_ (by size_fits))
 refine a7 (m:=ki _ _) (eL (a:=dS) ?_ ?_)
 ·first
   | rfl
   | (simp only [ki];rfl)
 refine bL ?_ (by size_fits)
 simp only [qM]
 refine a7 (Ht ?_)
 rw [show A.in1.handled=none from hh]
 refine a7 (aa (N9 ?_))
 exact q _ _ (((bE ..).extBut.push _).push _) ⟨_,ay _ rfl,rfl⟩
theorem HW (hh:A.handled=none) (it l:ah) (hne:l≠it) (items:Array a9) :
  Draws prog w A it [it,l] items.size (fun i v=>items[i]?=some v) (fun i h=>h.IsTupleIter it l i/\h.IsTuple l items) where
 live:=fun i h st=>let ⟨o,e,_⟩:=st.1;⟨o,e⟩
 frame:=fun i h h' st k=>⟨let ⟨o,e,r⟩:=st.1;⟨o,k it (by simp) o e,r⟩,let ⟨o,e,r⟩:=st.2;⟨o,k l (by simp) o e,r⟩⟩
 item:=fun i s Q E hi st q=>tP st.1 st.2 (x:=items[i]) (by simp [hi]) fun h' t' sb=>q _ h' s.toks (by simp [hi]) ⟨t',st.2.extBut sb.extBut hne⟩ sb
 done:=fun s Q E st q=>tQ hh st.1 st.2 (by simp) q
end
theorem wT (l:ah) (items:Array a9) (n:Nat) (dct:Option ah) (sl:Array (Option a9)) :
  Meets (lM.«enumerate.__new__» ⟨[.type "enumerate",.ref l],[]⟩) (fun _ R s=>s.heap.get? l=some { cls:=.type "tuple",dict:=dct,data:=.seq items n,slots:=sl } /\
   R (.ok (.ret (.ref (s.heap.push { cls:=.type "tuple_iterator",data:=.fields #[.ref l,.int 0 0] }).objs.size)))
    { s with heap:=(s.heap.push { cls:=.type "tuple_iterator",data:=.fields #[.ref l,.int 0 0] }).push { cls:=.type "enumerate",data:=.fields #[.none,.bool false,.ref s.heap.objs.size,cb 0,.none,.none] } }) :=
 .of_wp fun prog w A R s h=>by
  obtain ⟨hp,g,d,tk,os⟩:=s
  obtain ⟨hl,h⟩:=h
  have hsub:=PySem.sub_enumerate
  have hL:D_ (E1 ⟨hp,g,d,tk,os⟩) l items:=⟨_,hl,rfl,n,rfl⟩
  wp_walk using fz hl
  refine wpAny_stack_any fun st=>aa ?_
  split
  ·rename_i c _ _ _ _ _
   cases (c == ij "enumerate")
   ·wp_walk using fz hl,fM hL
    exact ⟨_,rfl,h⟩
   ·wp_walk using fz hl,fM hL
    exact ⟨_,rfl,h⟩
  ·wp_walk using fz hl,fM hL
   exact ⟨_,rfl,h⟩
end
section
section
variable {prog:aE}{w:aU}{A:b9}{E:a9->ac->Prop}{s:ac}
theorem yH {l:ah}{items:Array a9}{Q:a9->ac->Prop} (hL:s.heap.IsTuple l items)
  (h:∀ h',IsEnum h' (s.heap.objs.size + 1) s.heap.objs.size 0 .none->h'.IsTupleIter s.heap.objs.size l 0->(∀ b o,s.heap.get? b=some o->h'.get? b=some o)->h'.objs.size=s.heap.objs.size + 2 ->
   Q (.ref (s.heap.objs.size + 1)) { s with heap:=h' }):ar (aG prog w) A (call (.type "enumerate") [.ref l]) Q E s:=by
 obtain ⟨⟨c,dc,dt,sl⟩,hl,hc,n,hd⟩:=hL
 obtain rfl:c=.type "tuple":=hc
 obtain rfl:dt=.seq items n:=hd
 refine callType_new F.called_enumerate (by decide) (F.typeCall_enumerate_1 _) (F.newCall_enumerate_1 _) (fun obj=>F.args_object_init_2 obj _) F.entry_enumerate_new (wT l items n dc sl) ⟨hl,?_⟩
 have z1:(s.heap.push { cls:=.type "tuple_iterator",data:=.fields #[.ref l,.int 0 0] }).objs.size=s.heap.objs.size + 1:=c9 ..
 show _/\_
 rw [z1]
 have he:IsEnum ((s.heap.push { cls:=.type "tuple_iterator",data:=.fields #[.ref l,.int 0 0] }).push { cls:=.type "enumerate",data:=.fields #[.none,.bool false,.ref s.heap.objs.size,cb 0,.none,.none] }) (s.heap.objs.size + 1) s.heap.objs.size 0 .none:=by
  have q:=ay (s.heap.push { cls:=.type "tuple_iterator",data:=.fields #[.ref l,.int 0 0] }) (o:={ cls:=.type "enumerate",data:=.fields #[.none,.bool false,.ref s.heap.objs.size,cb 0,.none,.none] }) rfl
  rw [z1] at q
  exact q
 exact ⟨⟨_,he,rfl⟩,h _ he ⟨_,ae _ (ay _ rfl),rfl,rfl⟩ (fun b o e=>ae _ (ae _ e)) (by rw [c9,z1])⟩
end
def U_ (K:a8) (a:ah):It :=
 ⟨fun i H=>∃ xs x,jZ K H a xs/\xs[i]?=some x,fun i H v H'=>∃ p,H p=none/\v=.ref p/\∀ xs,jZ K H a xs->∃ x,xs[i]?=some x/\H'=upd H p (.tup [.int i,x]),fun i H=>∃ xs,jZ K H a xs/\xs.length<=i⟩
theorem HX {P:aE}{w:aU}{K:a8}{elts:List aQ}{x1}{pos:Pos} (a e it:ah) (hei:e≠it):wI P w K (.Tuple elts x1 pos) (U_ K a) [e,it] e (fun i h=>(∃ old,IsEnum h e it i old)/\h.IsTupleIter it a i) where
 mem:=by simp
 obj:=fun i h st b hb=>by
  simp only [bx,bn,or_false] at hb
  rcases hb with rfl | rfl
  ·obtain ⟨⟨old,q⟩,_⟩:=st
   exact ⟨_,q,fun v z=>by cases z⟩
  ·obtain ⟨_,o,q,_,d⟩:=st
   exact ⟨o,q,fun v z=>by rw [d] at z;cases z⟩
 keep:=fun i h h' st k=>⟨let ⟨old,q⟩:=st.1;⟨old,k e (by simp) _ q⟩,let ⟨o,q,r⟩:=st.2;⟨o,k it (by simp) o q,r⟩⟩
 item:=by
  intro X hP hw hK hc i pins s σ H E I hf st hg
  subst hP hw hK
  obtain ⟨xs,x,hq,hx⟩:=hg
  obtain ⟨its,rv,p,hz⟩:=I.tuple hq
  obtain ⟨u,hu,ru⟩:=rv.get hx
  obtain ⟨⟨old,he⟩,hit⟩:=st
  have hit0:=hit
  obtain ⟨oi,ei,_⟩:=hit0
  have hai:a≠it:=fun z=>by
   obtain ⟨o1,e1,c1,_⟩:=p
   obtain ⟨o2,e2,c2,_⟩:=hit
   rw [z,e2] at e1;cases e1;rw [c2] at c1;exact absurd (FP c1) (by decide)
  have hae:a≠e:=fun z=>by
   obtain ⟨o1,e1,c1,_⟩:=p
   rw [z,he] at e1;cases e1;exact absurd (FP (show ij "enumerate"=ij "tuple" from c1)) (by decide)
  have hlt:i<its.toArray.size:=by simp;exact (List.getElem?_eq_some_iff.mp hu).1
  have he0:=aq he
  refine wpAny_pyNext_enum_itemD (HW (by simpa using I.ok.hd hc) it a hai its.toArray) he ⟨hit,p⟩ hlt hei (by simp [hei,cW hae]) ?_
  intro x' h1 tk hx' eo st1 tup sz k1
  have hx'':its[i]?=some x':=by simpa using hx'
  rw [hu] at hx'';cases hx''
  refine ⟨_,rfl,wpAny_letOwnedTupleGo_enum eo fun h2 e2 sb2=>?_⟩
  have szn:s.heap.objs.size≠e:=fY he0
  have I2:bQ X pins σ H { s with heap:=h2,toks:=tk + 1 }:=I.turnedL (ch:=[e,it]) (fun b o hb q=>by
   simp only [bx,bn,or_false,not_or] at hb
   exact (sb2.2 b hb.1).trans (k1 b o hb.1 hb.2 q)) hf
  have fT:=I.fpOk (H':=H) (au _) (I.hok.fresh (au _))
  have tup2:h2.get? s.heap.objs.size=some { cls:=.type "tuple",data:=.seq #[.int i tk,u] }:=(sb2.2 _ szn).trans tup
  have I3:=I2.track (ho:=.tup [.int i,x]) fT ⟨by show 2<=sizeLine;decide,[.int i tk,u],.cons ⟨tk,rfl⟩ (.cons ru .nil),⟨_,tup2,rfl,0,rfl⟩⟩
  refine ⟨.ref s.heap.objs.size,_,I3,rfl,⟨_,fT.1,rfl,fun ys hy=>?_⟩,⟨⟨u,?_⟩,?_⟩,fun b hb=>?_⟩
  ·rw [I.tuple_inj hy hq];exact ⟨x,hx,rfl⟩
  ·have:(((i + 1:Nat):Int))=(i:Int) + 1:=by omega
   rw [this];exact e2
  ·obtain ⟨o,q,r⟩:=st1.1
   exact ⟨o,(sb2.2 it (cW hei)).trans q,r⟩
  ·rw [bg]
   ·exact (hf b hb).1
   ·simp only [bx,bn,or_false] at hb
    rcases hb with z | z
    ·rw [z];exact aF he0
    ·rw [z];exact aF (aq ei)
 done:=by
  intro X hP hw hK hc i pins s σ H E I hf st hg
  subst hP hw hK
  obtain ⟨xs,hq,hx⟩:=hg
  obtain ⟨its,rv,p,hz⟩:=I.tuple hq
  obtain ⟨⟨old,he⟩,hit⟩:=st
  have hl:=rv.length
  have hT:s.TypeIs (.ref e) "enumerate":=⟨_,he,rfl⟩
  unfold jy
  refine a7 (lN (cc (name:=fZ "__next__") hT Jc ?_))
  refine b_ Jc hT F.entry_enumerate_next ?_ (F.args_enumerate_next_1 _)
  show ar _ _ (Eh (.ref e) 2 >>= _) _ _ _
  refine a7 (dz he rfl (x:=.ref it) rfl ?_)
  refine a7 (tQ (by simpa using I.ok.hd hc) hit (show s.heap.IsTuple a its.toArray from p) (by simp;omega) fun h' z eb hz'=>?_)
  obtain ⟨o,ho,hcl⟩:=hz'
  refine a7 (gR (T:="StopIteration") (b:=true) ⟨o,ho,hcl⟩ uv ?_)
  exact aa ⟨rfl,I.turnedL (t':=s.toks) (ch:=[e,it]) (fun b o hb q=>eb b o (by
   simp only [bx,bn,or_false,not_or] at hb;exact hb.2) q) hf⟩
 self:=fun _ _ _ _ _ st h=>let ⟨⟨_,q⟩,_⟩:=st;wpAny_pyIter_enum q h
def Sz (K:a8) (ta:TA):TI:=fun σ H R=>ta σ H fun vs H1=>∃ a xs,vs=[.ref a]/\jZ K H1 a xs/\R (U_ K a) H1
theorem NX {X:Cx}{elts:List aQ}{x1}{tpos p pos:Pos}{a:aQ}{ta:TA} (hg:Gl X "enumerate") (hm:X.mg "enumerate"=none) (ha:PA X [a] ta) (hs:aK [a] X.env=[(false,dU a X.env)]:=by rfl) :
  PI X (.Tuple elts x1 tpos) (.Call (.Name "enumerate" p) [a] [] pos) (Sz X.K ta):=by
 intro pins s σ H R I h
 refine Call_ (uA I hg hm boot_enumerate (gq (eB (ha pos pins s σ H _ I h) fun us s1 ⟨vs,H1,I1,r1,q1⟩=>?_) hs rfl))
 obtain ⟨ad,xs,rfl,hq,q⟩:=q1
 obtain ⟨u,rfl,rx⟩:=kz r1
 cases rx
 obtain ⟨its,rv,tp,hz⟩:=I1.tuple hq
 refine yH (show s1.heap.IsTuple ad its.toArray from tp) fun h' e1 t1 kp sz=>?_
 refine wpAny_pyIter_enum e1 ?_
 have I2:bQ X pins σ H1 { s1 with heap:=h' }:=I1.kept (t':=s1.toks) kp
 refine ⟨s1.heap.objs.size + 1,[s1.heap.objs.size + 1,s1.heap.objs.size],_,_,H1,rfl,I2,HX ad _ _ (fY (da _)),⟨⟨.none,e1⟩,t1⟩,fun b hb=>?_,q⟩
 simp only [bx,bn,or_false] at hb
 rcases hb with z | z
 ·rw [z];exact I1.fpOk (jp _) (I1.hok.fresh (jp _))
 ·rw [z];exact I1.fpOk (au _) (I1.hok.fresh (au _))
end
section
section
variable {prog:aE}{w:aU}{A:b9}{E:a9->ac->Prop}{s:ac}{z TI TO i1 i2 l1 l2:ah}{k1 k2:Nat}{xs ys:Array a9}{x y a b:a9}
theorem iS {h h':bp}{it l:ah}{k:Nat}{c:ah} (t:h.IsTupleIter it l k) (sb:bA c h h') (ne:it≠c):h'.IsTupleIter it l k:=t.extBut sb.extBut ne
theorem nE {h h':bp}{l:ah}{xs:Array a9}{c:ah} (t:h.IsTuple l xs) (sb:bA c h h') (ne:l≠c):h'.IsTuple l xs:=t.extBut sb.extBut ne
theorem Ko {Q:a9->ac->Prop} (D:Na z TI TO i1 i2 l1 l2) (za:uw s.heap z TI TO .none) (pa:jA s.heap TI (.ref i1) (.ref i2)) (pb:jA s.heap TO a b)
  (u1:s.heap.IsTupleIter i1 l1 k1) (u2:s.heap.IsTupleIter i2 l2 k2) (v1:s.heap.IsTuple l1 xs) (v2:s.heap.IsTuple l2 ys) (hx:xs[k1]?=some x) (hy:ys[k2]?=some y)
  (q:∀ h',uw h' z TI TO (cb s.heap.objs.size)->jA h' TO x y->h'.IsTupleIter i1 l1 (k1 + 1)->h'.IsTupleIter i2 l2 (k2 + 1)->jA h' s.heap.objs.size x y ->
   (∀ c o,c≠z->c≠TO->c≠i1->c≠i2->s.heap.get? c=some o->h'.get? c=some o)->Q (.ref s.heap.objs.size) { s with heap:=h' }) :
  ar (aG prog w) A (lM.«zip.__next__» ⟨[.ref z],[]⟩) (fun fin s'=>∃ v,fin=.done (.ret v)/\Q v s') E s:=by
 show ar _ _ (Eh (.ref z) 2 >>= _) _ _ _
 refine a7 (dz za rfl (x:=.bool false) rfl ?_)
 show ar _ _ (Eh (.ref z) 3 >>= _) _ _ _
 refine a7 (dz za rfl (x:=.ref TI) rfl ?_)
 refine a7 (eM pa rfl ?_)
 show ar _ _ (ef (.ref z) >>= _) _ _ _
 refine a7 ?_
 unfold ef
 refine a7 (dz za rfl (x:=.none) rfl (aa ?_))
 simp only [if_true]
 refine a7 (i3 ?_)
 refine a7 (dz za rfl (x:=.ref TO) rfl ?_)
 refine a7 (i5 za (by simp) fun g1 z1 b1=>?_)
 replace z1:uw g1 z TI TO .ellipsis:=z1
 refine a7 ?_
 simp only [MJ,Nb,j3,lU]
 refine a7 (a7 (wk ?_))
 show ar _ _ (ck (.ref i1) >>= _) _ _ _
 refine a7 (tP (iS u1 b1 D.i1z) (nE v1 b1 D.l1z) hx fun g2 w1 b2=>aa ?_)
 have p2:jA g2 TO a b:=b2.extBut _ _ D.TOi1 (b1.extBut _ _ D.TOz pb)
 refine a7 (eM p2 rfl (a7 (ux p2 fun g3 p3 b3=>?_)))
 replace p3:jA g3 TO x b:=p3
 refine a7 (Nc (aa (a7 (a7 (wk ?_)))))
 show ar _ _ (ck (.ref i2) >>= _) _ _ _
 refine a7 (tP (iS (iS (iS u2 b1 D.i2z) b2 D.i12.symm) b3 D.TOi2.symm) (nE (nE (nE v2 b1 D.l2z) b2 D.l2i1) b3 D.l2TO) hy fun g4 w2 b4=>aa ?_)
 have p4:jA g4 TO x b:=b4.extBut _ _ D.TOi2 p3
 refine a7 (eM p4 rfl (a7 (ux p4 fun g5 p5 b5=>?_)))
 replace p5:jA g5 TO x y:=p5
 refine a7 (Nc (aa (aa ?_)))
 refine a7 (eM p5 rfl (a7 (wpAny_newTuple ?_)))
 have sz:g5.objs.size=s.heap.objs.size:=by rw [b5.1,b4.1,b3.1,b2.1,b1.1]
 have z5:uw g5 z TI TO .ellipsis:=b5.extBut _ _ D.TOz.symm (b4.extBut _ _ D.i2z.symm (b3.extBut _ _ D.TOz.symm (b2.extBut _ _ D.i1z.symm z1)))
 have k5:∀ c o,c≠z->c≠TO->c≠i1->c≠i2->s.heap.get? c=some o->g5.get? c=some o:=fun c o n1 n2 n3 n4 e =>
  b5.extBut _ _ n2 (b4.extBut _ _ n4 (b3.extBut _ _ n2 (b2.extBut _ _ n3 (b1.extBut _ _ n1 e))))
 have y1:g5.IsTupleIter i1 l1 (k1 + 1):=iS (iS (iS w1 b3 D.TOi1.symm) b4 D.i12) b5 D.TOi1.symm
 have y2:g5.IsTupleIter i2 l2 (k2 + 1):=iS w2 b5 D.TOi2.symm
 have zl:z<g5.objs.size:=aq z5
 show ar _ _ (lW (.ref z) (.ref g5.objs.size) >>= _) _ _ _
 refine a7 ?_
 unfold lW
 have z6:uw (g5.push { cls:=.type "tuple",data:=.seq #[x,y] }) z TI TO .ellipsis:=ae _ z5
 refine a7 (i5 z6 (by simp) fun g7 z7 b7=>?_)
 replace z7:uw g7 z TI TO (cb g5.objs.size):=z7
 refine i5 z7 (by simp) fun g8 z8 b8=>?_
 replace z8:uw g8 z TI TO (cb g5.objs.size):=z8
 have up:∀ c o,c≠z->g5.get? c=some o->g8.get? c=some o:=fun c o n1 e=>b8.extBut _ _ n1 (b7.extBut _ _ n1 (ae _ e))
 have p8:jA g8 g5.objs.size x y:=b8.extBut _ _ (fY zl) (b7.extBut _ _ (fY zl) (ay _ rfl))
 rw [sz] at z8 p8
 refine aa ⟨_,rfl,?_⟩
 show Q (.ref g5.objs.size) _
 rw [sz]
 exact q g8 z8 (up _ _ D.TOz p5) (let ⟨o,e,r⟩:=y1;⟨o,up _ o D.i1z e,r⟩) (let ⟨o,e,r⟩:=y2;⟨o,up _ o D.i2z e,r⟩) p8 fun c o n1 n2 n3 n4 e=>up c o n1 (k5 c o n1 n2 n3 n4 e)
theorem Kp {Q:Fin->ac->Prop} (hh:A.handled=none) (D:Na z TI TO i1 i2 l1 l2) (za:uw s.heap z TI TO .none) (pa:jA s.heap TI (.ref i1) (.ref i2)) (pb:jA s.heap TO a b)
  (u1:s.heap.IsTupleIter i1 l1 k1) (u2:s.heap.IsTupleIter i2 l2 k2) (v1:s.heap.IsTuple l1 xs) (v2:s.heap.IsTuple l2 ys) (hend:xs[k1]?=none\/ys[k2]?=none)
  (q:∀ h' e,(∀ c o,c≠z->c≠TO->c≠i1->c≠i2->s.heap.get? c=some o->h'.get? c=some o)->(∃ o,h'.get? e=some o/\o.cls=.type "StopIteration")->E (.ref e) { s with heap:=h' }) :
  ar (aG prog w) A (lM.«zip.__next__» ⟨[.ref z],[]⟩) Q E s:=by
 show ar _ _ (Eh (.ref z) 2 >>= _) _ _ _
 refine a7 (dz za rfl (x:=.bool false) rfl ?_)
 show ar _ _ (Eh (.ref z) 3 >>= _) _ _ _
 refine a7 (dz za rfl (x:=.ref TI) rfl ?_)
 refine a7 (eM pa rfl ?_)
 show ar _ _ (ef (.ref z) >>= _) _ _ _
 refine a7 ?_
 unfold ef
 refine a7 (dz za rfl (x:=.none) rfl (aa ?_))
 simp only [if_true]
 refine a7 (i3 ?_)
 refine a7 (dz za rfl (x:=.ref TO) rfl ?_)
 refine a7 (i5 za (by simp) fun g1 z1 b1=>?_)
 replace z1:uw g1 z TI TO .ellipsis:=z1
 refine a7 ?_
 simp only [MJ,Nb,j3,lU]
 refine a7 (a7 (wk ?_))
 show ar _ _ (ck (.ref i1) >>= _) _ _ _
 cases hx:xs[k1]? with
 | none =>
  refine a7 (tQ hh (iS u1 b1 D.i1z) (nE v1 b1 D.l1z) hx fun g2 e b2 he=>?_)
  obtain ⟨oe,ee,ce⟩:=he
  have z2:uw g2 z TI TO .ellipsis:=b2 _ _ D.i1z.symm z1
  have ez:e≠z:=fun n=>by subst n;rw [z2] at ee;cases ee;simp at ce
  refine i5 z2 (by simp) fun g3 _ b3=>q g3 e (fun c o n1 _ n3 _ m=>b3.extBut _ _ n1 (b2 _ _ n3 (b1.extBut _ _ n1 m))) ⟨oe,b3.extBut _ _ ez ee,ce⟩
 | some x =>
  have hy:ys[k2]?=none:=hend.resolve_left fun n=>by rw [hx] at n;cases n
  refine a7 (tP (iS u1 b1 D.i1z) (nE v1 b1 D.l1z) hx fun g2 w1 b2=>aa ?_)
  have p2:jA g2 TO a b:=b2.extBut _ _ D.TOi1 (b1.extBut _ _ D.TOz pb)
  refine a7 (eM p2 rfl (a7 (ux p2 fun g3 p3 b3=>?_)))
  refine a7 (Nc (aa (a7 (a7 (wk ?_)))))
  show ar _ _ (ck (.ref i2) >>= _) _ _ _
  refine a7 (tQ hh (iS (iS (iS u2 b1 D.i2z) b2 D.i12.symm) b3 D.TOi2.symm) (nE (nE (nE v2 b1 D.l2z) b2 D.l2i1) b3 D.l2TO) hy fun g4 e b4 he=>?_)
  obtain ⟨oe,ee,ce⟩:=he
  have z4:uw g4 z TI TO .ellipsis:=b4 _ _ D.i2z.symm (b3.extBut _ _ D.TOz.symm (b2.extBut _ _ D.i1z.symm z1))
  have ez:e≠z:=fun n=>by subst n;rw [z4] at ee;cases ee;simp at ce
  refine i5 z4 (by simp) fun g5 _ b5=>q g5 e (fun c o n1 n2 n3 n4 m=>b5.extBut _ _ n1 (b4 _ _ n4 (b3.extBut _ _ n2 (b2.extBut _ _ n3 (b1.extBut _ _ n1 m))))) ⟨oe,b5.extBut _ _ ez ee,ce⟩
end
abbrev Ub (h:bp) (l1:ah):bp:=h.push { cls:=.type "tuple_iterator",data:=.fields #[.ref l1,.int 0 0] }
abbrev Uc (h:bp) (l1 l2:ah):bp:=(Ub h l1).push { cls:=.type "tuple_iterator",data:=.fields #[.ref l2,.int 0 0] }
abbrev Ud (h:bp) (l1 l2:ah):bp:=(Uc h l1 l2).push { cls:=.type "tuple",data:=.seq #[.ref h.objs.size,.ref (Ub h l1).objs.size] }
abbrev Ue (h:bp) (l1 l2:ah):bp:=(Ud h l1 l2).push { cls:=.type "tuple",data:=.seq #[.none,.none] }
abbrev RO (h:bp) (l1 l2:ah):bp:=(Ue h l1 l2).push { cls:=.type "zip",data:=.fields #[.none,.bool false,.bool false,.ref (Uc h l1 l2).objs.size,.ref (Ud h l1 l2).objs.size] }
theorem yI (l1 l2:ah) (xs ys:Array a9) :
  Meets (lM.«zip.__new__» ⟨[.type "zip",.ref l1,.ref l2],[]⟩) (fun _ R s=>s.heap.IsTuple l1 xs/\s.heap.IsTuple l2 ys/\R (.ok (.ret (.ref (Ue s.heap l1 l2).objs.size))) { s with heap:=RO s.heap l1 l2 }) :=
 .of_wp fun prog w A R s h=>by
  obtain ⟨hp,g,d,tk,os⟩:=s
  obtain ⟨v1,v2,h⟩:=h
  have hsub:=PySem.sub_zip
  have L1:D_ (E1 ⟨hp,g,d,tk,os⟩) l1 xs:=v1
  have L2:D_ (E1 ⟨hp.push { cls:=.type "tuple_iterator",data:=.fields #[.ref l1,.int 0 0] },g,d,tk,os⟩) l2 ys:=Heap.IsTuple.push v2 _
  wp_walk using fM L1,fM L2
  exact ⟨_,rfl,h⟩
section
variable {prog:aE}{w:aU}{A:b9}{E:a9->ac->Prop}{s:ac}
theorem AA {l1 l2:ah}{xs ys:Array a9}{Q:a9->ac->Prop} (v1:s.heap.IsTuple l1 xs) (v2:s.heap.IsTuple l2 ys)
  (h:∀ h',uw h' (s.heap.objs.size + 4) (s.heap.objs.size + 2) (s.heap.objs.size + 3) .none->jA h' (s.heap.objs.size + 2) (.ref s.heap.objs.size) (.ref (s.heap.objs.size + 1)) ->
   jA h' (s.heap.objs.size + 3) .none .none->h'.IsTupleIter s.heap.objs.size l1 0->h'.IsTupleIter (s.heap.objs.size + 1) l2 0 ->
   (∀ c o,s.heap.get? c=some o->h'.get? c=some o)->Q (.ref (s.heap.objs.size + 4)) { s with heap:=h' }):ar (aG prog w) A (call (.type "zip") [.ref l1,.ref l2]) Q E s:=by
 refine callType_new F.called_zip (by decide) (F.typeCall_zip_2 _ _) (F.newCall_zip_2 _ _) (fun obj=>F.args_object_init_3 obj _ _) F.entry_zip_new (yI l1 l2 xs ys) ⟨v1,v2,?_⟩
 have n1:(Ub s.heap l1).objs.size=s.heap.objs.size + 1:=c9 ..
 have n2:(Uc s.heap l1 l2).objs.size=s.heap.objs.size + 2:=by rw [c9,n1]
 have n3:(Ud s.heap l1 l2).objs.size=s.heap.objs.size + 3:=by rw [c9,n2]
 have n4:(Ue s.heap l1 l2).objs.size=s.heap.objs.size + 4:=by rw [c9,n3]
 have c5:(RO s.heap l1 l2).get? (Ue s.heap l1 l2).objs.size=some _:=ay _ rfl
 have c4:(RO s.heap l1 l2).get? (Ud s.heap l1 l2).objs.size=some _:=ae _ (ay _ rfl)
 have c3:(RO s.heap l1 l2).get? (Uc s.heap l1 l2).objs.size=some _:=ae _ (ae _ (ay _ rfl))
 have c2:(RO s.heap l1 l2).get? (Ub s.heap l1).objs.size=some _:=ae _ (ae _ (ae _ (ay _ rfl)))
 have c1:(RO s.heap l1 l2).get? s.heap.objs.size=some _:=ae _ (ae _ (ae _ (ae _ (ay _ rfl))))
 show _/\_
 rw [n2,n3,n4] at c5
 rw [n1,n2] at c3
 rw [n3] at c4
 rw [n1] at c2
 rw [n4]
 exact ⟨⟨_,c5,rfl⟩,h _ c5 c3 c4 ⟨_,c1,rfl,rfl⟩ ⟨_,c2,rfl,rfl⟩ fun c o e=>ae _ (ae _ (ae _ (ae _ (ae _ e))))⟩
end
theorem jZ.ne_fp {X:Cx}{pins:List (ah×Obj)}{σ:St}{H:Hp}{s:ac}{a b:ah}{xs:List V} (I:bQ X pins σ H s) (hq:jZ X.K H a xs) (hf:mU X pins H b):a≠b:=by
 rintro rfl
 rcases hq with (h | ⟨o,h⟩) | ⟨o,its,n,hk,_⟩
 ·rw [hf.1] at h;cases h
 ·rw [hf.1] at h;cases h
 ·have e:X.base.get? a=some o:=I.mod.kin a o hk
  rcases hf.f3 with z | z
  ·exact I.ok.noex a o e z
  ·exact absurd (aC (aq e) (bU I.ok.bsz z)) (bv _)
def V0 (K:a8) (a b:ah):It :=
 ⟨fun i H=>∃ xs ys x y,jZ K H a xs/\jZ K H b ys/\xs[i]?=some x/\ys[i]?=some y,
  fun i H v H'=>∃ p,H p=none/\v=.ref p/\∀ xs ys,jZ K H a xs->jZ K H b ys->∃ x y,xs[i]?=some x/\ys[i]?=some y/\H'=upd H p (.tup [x,y]),
  fun i H=>∃ xs ys,jZ K H a xs/\jZ K H b ys/\(xs.length<=i\/ys.length<=i)⟩
structure V1 (z TI TO i1 i2:ah):Prop where
 d1:TI≠z
 d2:TO≠z
 d3:i1≠z
 d4:i2≠z
 d5:TI≠TO
 d6:TI≠i1
 d7:TI≠i2
 d8:TO≠i1
 d9:TO≠i2
 d0:i1≠i2
theorem Kq {P:aE}{w:aU}{K:a8}{elts:List aQ}{x1}{pos:Pos} (l1 l2 z TI TO i1 i2:ah) (Z:V1 z TI TO i1 i2) :
  wI P w K (.Tuple elts x1 pos) (V0 K l1 l2) [z,TI,TO,i1,i2] z (fun i h=>uw h z TI TO .none/\jA h TI (.ref i1) (.ref i2)/\(∃ a b,jA h TO a b)/\h.IsTupleIter i1 l1 i/\h.IsTupleIter i2 l2 i) where
 mem:=by simp
 obj:=fun i h st b hb=>by
  obtain ⟨s1,s2,⟨_,_,s3⟩,⟨o4,e4,_,f4⟩,⟨o5,e5,_,f5⟩⟩:=st
  simp only [bx,bn,or_false] at hb
  rcases hb with rfl | rfl | rfl | rfl | rfl
  ·exact ⟨_,s1,fun v q=>by cases q⟩
  ·exact ⟨_,s2,fun v q=>by cases q⟩
  ·exact ⟨_,s3,fun v q=>by cases q⟩
  ·exact ⟨o4,e4,fun v q=>by rw [f4] at q;cases q⟩
  ·exact ⟨o5,e5,fun v q=>by rw [f5] at q;cases q⟩
 keep:=fun i h h' st k=>by
  obtain ⟨s1,s2,⟨u,v,s3⟩,⟨o4,e4,r4⟩,⟨o5,e5,r5⟩⟩:=st
  exact ⟨k z (by simp) _ s1,k TI (by simp) _ s2,⟨u,v,k TO (by simp) _ s3⟩,⟨o4,k i1 (by simp) _ e4,r4⟩,⟨o5,k i2 (by simp) _ e5,r5⟩⟩
 item:=by
  intro X hP hw hK hc i pins s σ H E I hf st hg
  subst hP hw hK
  obtain ⟨xs,ys,x,y,hq1,hq2,hx,hy⟩:=hg
  obtain ⟨its1,rv1,p1,_⟩:=I.tuple hq1
  obtain ⟨its2,rv2,p2,_⟩:=I.tuple hq2
  obtain ⟨u,hu,ru⟩:=rv1.get hx
  obtain ⟨v,hv,rv⟩:=rv2.get hy
  obtain ⟨s1,s2,⟨a,b,s3⟩,s4,s5⟩:=st
  have ne1:∀ b∈[z,TI,TO,i1,i2],l1≠b:=fun b hb=>hq1.ne_fp I (hf b hb)
  have ne2:∀ b∈[z,TI,TO,i1,i2],l2≠b:=fun b hb=>hq2.ne_fp I (hf b hb)
  have D:Na z TI TO i1 i2 l1 l2:=⟨Z.d1,Z.d2,Z.d3,Z.d4,Z.d5,Z.d6,Z.d7,Z.d8,Z.d9,Z.d0,ne1 z (by simp),ne1 TO (by simp),ne1 i1 (by simp),ne1 i2 (by simp),ne2 z (by simp),ne2 TO (by simp),ne2 i1 (by simp),ne2 i2 (by simp)⟩
  have zl:=aq s1
  have hT:s.TypeIs (.ref z) "zip":=⟨_,s1,rfl⟩
  unfold jy
  refine a7 (lN (cc (name:=fZ "__next__") hT qW ?_))
  refine b_ qW hT F.entry_zip_next (Ko D s1 s2 s3 s4 s5 p1 p2 (by simpa using hu) (by simpa using hv) fun h1 z1 t1 y1 y2 pr k1=>?_) (F.args_zip_next_1 _)
  refine aa ⟨_,rfl,wpAny_letOwnedTupleGo_zip z1 fun h2 z2 b2=>?_⟩
  have szn:s.heap.objs.size≠z:=fY zl
  have TIk:jA h1 TI (.ref i1) (.ref i2):=k1 TI _ Z.d1 Z.d5 Z.d6 Z.d7 s2
  have I2:bQ X pins σ H { s with heap:=h2 }:=I.turnedL (t':=s.toks) (ch:=[z,TI,TO,i1,i2]) (fun b o hb q=>by
   simp only [bx,bn,or_false,not_or] at hb
   exact (b2.2 b hb.1).trans (k1 b o hb.1 hb.2.2.1 hb.2.2.2.1 hb.2.2.2.2 q)) hf
  have fT:=I.fpOk (H':=H) (au _) (I.hok.fresh (au _))
  have pr2:h2.get? s.heap.objs.size=some { cls:=.type "tuple",data:=.seq #[u,v] }:=(b2.2 _ szn).trans pr
  have I3:=I2.track (ho:=.tup [x,y]) fT ⟨by show 2<=sizeLine;decide,[u,v],.cons ru (.cons rv .nil),⟨_,pr2,rfl,0,rfl⟩⟩
  refine ⟨.ref s.heap.objs.size,_,I3,rfl,⟨_,fT.1,rfl,fun xs' ys' h1 h2=>?_⟩,⟨z2,(b2.2 TI Z.d1).trans TIk,⟨u,v,(b2.2 TO Z.d2).trans t1⟩,iS y1 b2 Z.d3,iS y2 b2 Z.d4⟩,fun b hb=>?_⟩
  ·rw [I.tuple_inj h1 hq1,I.tuple_inj h2 hq2];exact ⟨x,y,hx,hy,rfl⟩
  ·have bl:b<s.heap.objs.size:=by
    simp only [bx,bn,or_false] at hb
    rcases hb with q | q | q | q | q
    ·rw [q];exact zl
    ·rw [q];exact aq s2
    ·rw [q];exact aq s3
    ·obtain ⟨_,e,_⟩:=s4;rw [q];exact aq e
    ·obtain ⟨_,e,_⟩:=s5;rw [q];exact aq e
   rw [bg (aF bl)];exact (hf b hb).1
 done:=by
  intro X hP hw hK hc i pins s σ H E I hf st hg
  subst hP hw hK
  obtain ⟨xs,ys,hq1,hq2,hend⟩:=hg
  obtain ⟨its1,rv1,p1,_⟩:=I.tuple hq1
  obtain ⟨its2,rv2,p2,_⟩:=I.tuple hq2
  obtain ⟨s1,s2,⟨a,b,s3⟩,s4,s5⟩:=st
  have ne1:∀ b∈[z,TI,TO,i1,i2],l1≠b:=fun b hb=>hq1.ne_fp I (hf b hb)
  have ne2:∀ b∈[z,TI,TO,i1,i2],l2≠b:=fun b hb=>hq2.ne_fp I (hf b hb)
  have D:Na z TI TO i1 i2 l1 l2:=⟨Z.d1,Z.d2,Z.d3,Z.d4,Z.d5,Z.d6,Z.d7,Z.d8,Z.d9,Z.d0,ne1 z (by simp),ne1 TO (by simp),ne1 i1 (by simp),ne1 i2 (by simp),ne2 z (by simp),ne2 TO (by simp),ne2 i1 (by simp),ne2 i2 (by simp)⟩
  have hT:s.TypeIs (.ref z) "zip":=⟨_,s1,rfl⟩
  have n1:=rv1.length
  have n2:=rv2.length
  unfold jy
  refine a7 (lN (cc (name:=fZ "__next__") hT qW ?_))
  refine b_ qW hT F.entry_zip_next (Kp (by simpa using I.ok.hd hc) D s1 s2 s3 s4 s5 p1 p2 (hend.elim (fun q=>.inl (by simp;omega)) fun q=>.inr (by simp;omega)) fun h' e kp he=>?_) (F.args_zip_next_1 _)
  obtain ⟨o,eo,co⟩:=he
  refine a7 (gR (T:="StopIteration") (b:=true) ⟨o,eo,co⟩ uv ?_)
  exact aa ⟨rfl,I.turnedL (t':=s.toks) (ch:=[z,TI,TO,i1,i2]) (fun b o hb q=>by
   simp only [bx,bn,or_false,not_or] at hb
   exact kp b o hb.1 hb.2.2.1 hb.2.2.2.1 hb.2.2.2.2 q) hf⟩
 self:=fun _ _ _ _ _ st h=>wpAny_pyIter_zip st.1 h
def V2 (K:a8) (ta:TA):TI:=fun σ H R=>ta σ H fun vs H1=>∃ a b xs ys,vs=[.ref a,.ref b]/\jZ K H1 a xs/\jZ K H1 b ys/\R (V0 K a b) H1
theorem QP {X:Cx}{elts:List aQ}{x1}{tpos p pos:Pos}{a b:aQ}{ta:TA} (hg:Gl X "zip") (hm:X.mg "zip"=none) (ha:PA X [a,b] ta) (hs:aK [a,b] X.env=[(false,dU a X.env),(false,dU b X.env)]:=by rfl)
  (hs2:aK [b] X.env=[(false,dU b X.env)]:=by rfl):PI X (.Tuple elts x1 tpos) (.Call (.Name "zip" p) [a,b] [] pos) (V2 X.K ta):=by
 intro pins s σ H R I h
 refine Call_ (uA I hg hm boot_zip (gq (eB (ha pos pins s σ H _ I h) fun us s1 ⟨vs,H1,I1,r1,q1⟩=>?_) (by rw [hs,hs2]) (by rw [hs2];rfl)))
 obtain ⟨a1,a2,xs,ys,rfl,hq1,hq2,q⟩:=q1
 obtain ⟨u1,u2,rfl,rx1,rx2⟩:=O_ r1
 cases rx1
 cases rx2
 obtain ⟨its1,rv1,p1,_⟩:=I1.tuple hq1
 obtain ⟨its2,rv2,p2,_⟩:=I1.tuple hq2
 refine AA (show s1.heap.IsTuple a1 its1.toArray from p1) (show s1.heap.IsTuple a2 its2.toArray from p2) fun h' c1 c2 c3 c4 c5 kp=>?_
 refine wpAny_pyIter_zip c1 ?_
 have I2:bQ X pins σ H1 { s1 with heap:=h' }:=I1.kept (t':=s1.toks) kp
 have ad:∀ k j:Nat,k≠j->s1.heap.objs.size + k≠s1.heap.objs.size + j:=fun k j n e=>n (Nat.add_left_cancel e)
 refine ⟨s1.heap.objs.size + 4,[s1.heap.objs.size + 4,s1.heap.objs.size + 2,s1.heap.objs.size + 3,s1.heap.objs.size + 0,s1.heap.objs.size + 1],_,_,H1,rfl,I2,
  Kq a1 a2 _ _ _ _ _ ⟨ad _ _ (by decide),ad _ _ (by decide),ad _ _ (by decide),ad _ _ (by decide),ad _ _ (by decide),ad _ _ (by decide),ad _ _ (by decide),ad _ _ (by decide),ad _ _ (by decide),ad _ _ (by decide)⟩,
  ⟨c1,c2,⟨_,_,c3⟩,c4,c5⟩,fun b hb=>?_,q⟩
 have:∀ k:Nat,mU X pins H1 (s1.heap.objs.size + k):=fun k=>I1.fpOk (Nd _ _) (I1.hok.fresh (Nd _ _))
 simp only [bx,bn,or_false] at hb
 rcases hb with q | q | q | q | q<;>(rw [q];exact this _)
end
section
mutual
inductive EJ (K:a8) (H:Hp):V->pc->Prop
 | none:EJ K H .non .none
 | bool (b:Bool):EJ K H (.bl b) (.bool b)
 | int (i:Int):EJ K H (.int i) (.int i)
 | str (x:Str):EJ K H (.str x) (.str x)
 | list {a:ah}{xs:List V}{ds:List pc}:nB K H a xs->Reps K H xs ds->EJ K H (.ref a) (.list ds)
 | tuple {a:ah}{xs:List V}{ds:List pc}:jZ K H a xs->Reps K H xs ds->EJ K H (.ref a) (.tuple ds)
inductive Reps (K:a8) (H:Hp):List V->List pc->Prop
 | nil:Reps K H [] []
 | cons {x:V}{xs:List V}{d:pc}{ds:List pc}:EJ K H x d->Reps K H xs ds->Reps K H (x::xs) (d::ds)
end
theorem dB.tup {K:a8}{H H':Hp}{a:ah}{xs:List V} (e:dB H H') (h:jZ K H a xs):jZ K H' a xs:=by
 rcases h with (h | ⟨o,h⟩) | h
 ·exact .inl (.inl (e _ _ h))
 ·exact .inl (.inr ⟨o,e _ _ h⟩)
 ·exact .inr h
section
variable {X:Cx}{pins:List (ah×Obj)}{σ:St}{H:Hp}{s:ac}
theorem NY (I:bQ X pins σ H s) {a:ah}{xs:List V}{ds:List pc}{u:a9} (h:nB X.K H a xs) (ih:∀ {us:List a9},du xs us->∃ as,ReadsAll s.heap us ds as) (r:cZ (.ref a) u):∃ as,Reads s.heap u (.list ds) as:=by
 cases r
 obtain ⟨its,rv,⟨o,n,e,c,_,d⟩,_⟩:=I.list h
 obtain ⟨as,ra⟩:=ih rv
 exact ⟨_,.list e c d (by simpa using ra)⟩
theorem Kr (I:bQ X pins σ H s) {a:ah}{xs:List V}{ds:List pc}{u:a9} (h:jZ X.K H a xs) (ih:∀ {us:List a9},du xs us->∃ as,ReadsAll s.heap us ds as) (r:cZ (.ref a) u):∃ as,Reads s.heap u (.tuple ds) as:=by
 cases r
 obtain ⟨its,rv,⟨o,e,c,n,d⟩,_⟩:=I.tuple h
 obtain ⟨as,ra⟩:=ih rv
 exact ⟨_,.tuple e c d (by simpa using ra)⟩
theorem qj (I:bQ X pins σ H s) {v:V}{d:pc} (h:EJ X.K H v d):∀ {u:a9},cZ v u->∃ as,Reads s.heap u d as :=
 EJ.rec (motive_1:=fun v d _=>∀ {u:a9},cZ v u->∃ as,Reads s.heap u d as) (motive_2:=fun vs ds _=>∀ {us:List a9},du vs us->∃ as,ReadsAll s.heap us ds as)
  (fun r=>by cases r;exact ⟨_,.none⟩) (fun b _ r=>by cases r;exact ⟨_,.bool b⟩) (fun i _ r=>by obtain ⟨t,rfl⟩:=r;exact ⟨_,.int i t⟩) (fun x _ r=>by obtain ⟨t,rfl⟩:=r;exact ⟨_,.str x t⟩)
  (fun h _ ih _ r=>NY I h ih r) (fun h _ ih _ r=>Kr I h ih r) (fun r=>by cases r;exact ⟨_,.nil⟩) (fun _ _ a b _ r=>by
   cases r with
   | cons r rs =>
    obtain ⟨as,ra⟩:=a r
    obtain ⟨bs,rb⟩:=b rs
    exact ⟨_,.cons ra rb⟩) h
end
section
variable {X:Cx}
inductive Pa (K:a8) (neg:Bool) (x:V) (y:V) (H:Hp) (Q:VK):Prop
 | mk (dx dy:_) (h0:EJ K H x dx) (h1:EJ K H y dy) (h2:dx.canLay0=true) (h3:dy.canLay0=true) (h4:min dx.depth dy.depth<=60) (h5:Q (.bl (if neg then !aZ dx dy else aZ dx dy)) H):Pa K neg x y H Q
def QQ (K:a8) (neg:Bool):R2:=Pa K neg
theorem QR (hu:X.A.units + 64<iE):oX X (bH .Eq) (QQ X.K false):=by
 intro pins s σ H x y v u Q I rx ry h
 obtain ⟨dx,dy,hx,hy,lx,ly,dp,q⟩:=h
 obtain ⟨as,ra⟩:=qj I hx rx
 obtain ⟨bs,rb⟩:=qj I hy ry
 exact PySem.SeqAt.compareEq_reads ra rb lx ly (by omega) ⟨.bl _,H,I,rfl,q⟩
theorem QS (hu:X.A.units + 64<iE):oX X (bH .NotEq) (QQ X.K true):=by
 intro pins s σ H x y v u Q I rx ry h
 obtain ⟨dx,dy,hx,hy,lx,ly,dp,q⟩:=h
 obtain ⟨as,ra⟩:=qj I hx rx
 obtain ⟨bs,rb⟩:=qj I hy ry
 exact PySem.SeqAt.compareNe_reads ra rb lx ly (by omega) ⟨.bl _,H,I,rfl,q⟩
end
end
section
structure V3 (P:aE) (w:aU) (l:List Env) (H H':Hp) (h h' B:bp) (ea C t:ah):Prop where
 fly:Heap.FlyingW B l ea (.ref C) (.ref t) h'
 cov:∀ b u,H' b=some u->∃ o,B.get? b=some o
 old:∀ b o,h.get? b=some o->H b=none->b∉qc l->B.get? b=some o
 all:∀ b o,h.get? b=some o->b∉qc l->∃ o',B.get? b=some o'
 un:Un (qc l) [] H H' h h'
 hok:oA P w H' h'
inductive SA (P:aE) (w:aU) (outer:List Env) (H:Hp) (s:ac) (E:XK) (e:a9) (s':ac):Prop
 | mk (ea C t H' B:_) (h0:e=.ref ea) (h1:s'.os=s.os) (h2:oP s'.gens) (h3:V3 P w outer H H' s.heap s'.heap B ea C t) (h4:E (.ref C) none H'):SA P w outer H s E e s'
def pw (P:aE) (w:aU):Jg:=SA P w
theorem Ks {P:aE}{w:aU}{H:Hp}{h:bp}{b:ah}{u:HO} (x:oA P w H h) (e:H b=some u):∃ o,h.get? b=some o:=by
 have y:=x b u e
 cases u with
 | lst xs=>obtain ⟨_,_,_,_,k⟩:=y;exact ⟨_,k⟩
 | tup xs=>obtain ⟨_,_,_,o,k,_⟩:=y;exact ⟨o,k⟩
 | dK kvs=>obtain ⟨_,_,_,_,o,_,_,k,_⟩:=y;exact ⟨o,k⟩
 | dT kvs=>obtain ⟨_,_,_,_,o,_,_,k,_⟩:=y;exact ⟨o,k⟩
 | set S n=>obtain ⟨o,_,_,_,k,_⟩:=y;exact ⟨o,k⟩
 | ins C dx fs=>obtain ⟨_,_,_,k,_⟩:=y;exact ⟨_,k⟩
 | own y'=>exact y
 | xd fs=>obtain ⟨_,⟨o,_,_,k,_⟩,_⟩:=y;exact ⟨o,k⟩
 | rng lo hi=>obtain ⟨_,_,_,k⟩:=y;exact ⟨_,k⟩
 | frz o u=>exact ⟨o,y.1⟩
 | tbl ps=>exact ⟨_,y⟩
 | met f y'=>exact ⟨_,y⟩
 | ext φ=>exact y.2.1
theorem F_ {l:List Env}{env:Env}{b:ah} (he:env∈l) (hf:env.frame=some b):b∈qc l:=List.mem_filterMap.mpr ⟨env,he,hf⟩
section
variable {P:aE}{w:aU}{l:List Env}{H H':Hp}{h h' h'' B:bp}{ea C t:ah}
theorem V3.kp (x:V3 P w l H H' h h' B ea C t) (st:B.StaysIn h'') (b:ah) (u:HO) (o:Obj) (e:H' b=some u) (q:h'.get? b=some o):h''.get? b=some o:=by
 obtain ⟨o',e1⟩:=x.cov b u e
 have:=x.fly.1 b o' e1
 rw [q] at this;cases this
 exact st b o e1
end
section
variable {P:aE}{w:aU}{K:a8}{mg:Str->Option a9}{base:bp}{N:List Str}{qual:Str}{scope:dw}{f:ah}{cd:a9}{A:b9}{outer:List Env}{s:ac}{H:Hp}{E:XK}
theorem AB {pins:List (ah×Obj)}{σ:St}{H1:Hp}{s1:ac}{h':bp}{ea C:ah}{vs:List a9} (I:bQ (js (pw P w) P w K mg base N qual scope f cd A outer s H E) pins σ H1 s1)
  (hx:Heap.MadeExcOf s1.heap h' ea (.ref C) vs) (q:E (.ref C) none H1):(js (pw P w) P w K mg base N qual scope f cd A outer s H E).xe (.ref ea) { s1 with heap:=h' }:=by
 let X:=js (pw P w) P w K mg base N qual scope f cd A outer s H E
 let B:=IZ s1.heap (qc X.stack)
 have hin:∀ env∈X.stack,∀ a,env.frame=some a->a∈qc X.stack:=fun env he a hf=>F_ he hf
 have stB:B.StaysIn s1.heap:=fun b o e=>E7 _ e
 have nS:∀ b,b∉qc X.stack->∀ o,s1.heap.get? b=some o->B.get? b=some o:=fun b n o e=>DW _ e n
 show ar _ X.A (leaving X.env (.ref ea)) _ _ _
 refine wpAny_leaves_madeW (s:={ s1 with heap:=h' }) (base:=B) (outer:=outer) (L:=X.env.locals) I.ok.frames rfl stB (PySem.W.funFrames_hide I.stack hin) hx fun h2 t fl tup tn up=>?_
 have st2:=fl.1
 have bl:∀ b o,s.heap.get? b=some o->b∉qc outer->b∉qc X.stack:=fun b o e n z=>by
  rcases List.mem_cons.mp (I.stkSub b z) with y | y
  ·exact absurd (aq e) (by rw [y];exact Nat.not_lt.mpr I.ok.above)
  ·exact n y
 have noex:∀ b:ah,b∉X.ex:=fun b z=>absurd (show b∈([] : List ah) from z) (by simp)
 have cov:∀ b u,H1 b=some u->∃ o,B.get? b=some o:=fun b u e=>by
  have hb:b∉qc X.stack:=fun z=>by have:=I.stkFree b z;rw [e] at this;cases this
  obtain ⟨o,k⟩:=Ks I.hok e
  exact ⟨o,nS b hb o k⟩
 refine ⟨ea,C,t,H1,B,rfl,I.os,I.bare,⟨fl,cov,fun b o e n hb=>?_,fun b o e hb=>?_,⟨fun b o e n hb hx'=>?_,fun b o e n hb hx'=>?_,fun b o e n _=>I.base.free b o e n (noex b),fun b o e _=>?_,I.base.tups,I.base.frzs,I.base.tbls⟩,fun b u e=>?_⟩,q⟩
 ·exact nS b (bl b o e hb) o (I.base.keep b o e n hb (noex b))
 ·obtain ⟨o',k⟩:=I.base.there b o e (noex b)
  exact ⟨o',nS b (bl b o e hb) o' k⟩
 ·exact st2 b o (nS b (bl b o e hb) o (I.base.keep b o e n hb (noex b)))
 ·obtain ⟨sl,k⟩:=I.base.slot b o e n hb (noex b)
  obtain ⟨_,o',k1,k2⟩:=jM I.funs hb
  rw [k] at k1;cases k1
  obtain ⟨sl',k3⟩:=up b _ (hx.keeps _ _ k) k2
  exact ⟨sl',k3⟩
 ·obtain ⟨o',k⟩:=I.base.there b o e (noex b)
  by_cases hb:b∈qc outer
  ·obtain ⟨_,o2,k1,_⟩:=jM fl.2.2.1 hb
   exact ⟨o2,k1⟩
  ·exact ⟨o',st2 b o' (nS b (bl b o e hb) o' k)⟩
 ·refine (I.hok b u e).stay (fun c o hc k=>?_) (fun _ q=>q) fun _ _ q=>q
  have hcs:c∉qc X.stack:=fun z=>by
   have:=I.stkFree c z
   rcases hc with y | y
   ·rw [y,e] at this;cases this
   ·rw [y] at this;cases this
  exact st2 c o (nS c hcs o k)
theorem Cf {E':XK} (hE:∀ c H',E' c none H'->E c none H'):rL (pw P w) (js (pw P w) P w K mg base N qual scope f cd A outer s H E) E':=by
 intro pins σ H1 s1 e s' I h
 obtain ⟨ea,C,t,H',B,rfl,os,bare,x,q⟩:=h
 let X:=js (pw P w) P w K mg base N qual scope f cd A outer s H E
 have noex:∀ b:ah,b∉X.ex:=fun b z=>absurd (show b∈([] : List ah) from z) (by simp)
 have bl:∀ b o,s.heap.get? b=some o->b∉qc outer->b∉qc X.stack:=fun b o e n z=>by
  rcases List.mem_cons.mp (I.stkSub b z) with y | y
  ·exact absurd (aq e) (by rw [y];exact Nat.not_lt.mpr I.ok.above)
  ·exact n y
 have sub:∀ b∈qc outer,b∈qc X.stack:=fun b hb=>by
  obtain ⟨env,he,hf⟩:=List.mem_filterMap.mp hb
  exact F_ (aj _ he) hf
 show ar _ X.A (leaving X.env (.ref ea)) _ _ _
 refine wpAny_leaves_onW (base:=B) (outer:=outer) (L:=X.env.locals) I.ok.frames rfl x.fly fun h2 fl up=>?_
 have st2:=fl.1
 refine ⟨ea,C,t,H',B,rfl,os.trans I.os,bare,⟨fl,x.cov,fun b o e n hb=>?_,fun b o e hb=>?_,⟨fun b o e n hb hx'=>?_,fun b o e n hb hx'=>?_,fun b o e n _=>?_,fun b o e _=>?_,fun b xs e=>x.un.tups b xs (I.base.tups b xs e),fun b o xs e=>x.un.frzs b o xs (I.base.frzs b o xs e),fun b ps e=>?_⟩,fun b u e=>?_⟩,hE _ _ q⟩
 ·exact x.old b o (I.base.keep b o e n hb (noex b)) (I.base.free b o e n (noex b)) (bl b o e hb)
 ·obtain ⟨o',k⟩:=I.base.there b o e (noex b)
  exact x.all b o' k (bl b o e hb)
 ·exact st2 b o (x.old b o (I.base.keep b o e n hb (noex b)) (I.base.free b o e n (noex b)) (bl b o e hb))
 ·obtain ⟨sl,k⟩:=I.base.slot b o e n hb (noex b)
  obtain ⟨sl1,k1⟩:=x.un.slot b _ k (I.base.free b o e n (noex b)) (sub b hb) (by simp)
  obtain ⟨_,o',k2,k3⟩:=jM x.fly.2.2.1 (sub b hb)
  rw [k1] at k2;cases k2
  obtain ⟨sl2,k4⟩:=up b _ k1 k3
  exact ⟨sl2,k4⟩
 ·obtain ⟨o',k⟩:=I.base.there b o e (noex b)
  exact x.un.free b o' k (I.base.free b o e n (noex b)) (by simp)
 ·obtain ⟨o',k⟩:=I.base.there b o e (noex b)
  by_cases hb:b∈qc outer
  ·obtain ⟨_,o2,k1,_⟩:=jM fl.2.2.1 hb
   exact ⟨o2,k1⟩
  ·obtain ⟨o2,k2⟩:=x.all b o' k (bl b o e hb)
   exact ⟨o2,st2 b o2 k2⟩
 ·obtain ⟨m1,e1⟩:=I.base.tbls b ps e
  obtain ⟨m2,e2⟩:=x.un.tbls b _ e1
  exact ⟨m1++m2,by rw [e2,Hg]⟩
 ·exact (x.hok b u e).stay (fun c o hc k=>by
   rcases hc with z | z
   ·rw [z] at k ⊢;exact x.kp st2 b u o e k
   ·exact x.kp st2 c _ o z k) (fun _ q=>q) fun _ _ q=>q
end
end
section
section
variable {P:aE}{w:aU}{K:a8}{mg:Str->Option a9}{base:bp}{N:List Str}{qual:Str}{scope:dw}{f:ah}{cd:a9}{A:b9}{outer:List Env}{s:ac}{H:Hp}{E:XK}
theorem Kt {x:Str}{np cpos pos:Pos}{e0:aQ}{bG:List aQ}{C:ah}{bmB:List a9}{newId initId Bn:String}{ta:TA} (O:OwnCls x C bmB newId mg base) (FB:ExcBaseFacts Bn newId initId bmB)
  (hg:Gl (js (pw P w) P w K mg base N qual scope f cd A outer s H E) x) (ha:PA (js (pw P w) P w K mg base N qual scope f cd A outer s H E) (e0::bG) ta)
  (he:aK (e0::bG) (js (pw P w) P w K mg base N qual scope f cd A outer s H E).env=(false,dU e0 (js (pw P w) P w K mg base N qual scope f cd A outer s H E).env)::aK bG (js (pw P w) P w K mg base N qual scope f cd A outer s H E).env:=by rfl)
  (hdb:(x == ("__debug__" : Str))=false:=by decide) (hpl:(iR cpos (aK bG (js (pw P w) P w K mg base N qual scope f cd A outer s H E).env)).any (·.1)=false:=by rfl) :
  PS (js (pw P w) P w K mg base N qual scope f cd A outer s H E) (.Raise (some (.Call (.Name x np) (e0::bG) [] cpos)) none pos) (fun D σ H1=>ta σ H1 fun vs H2=>vs.length<=sizeLine/\E (.ref C) none H2):=by
 intro pins s1 σ H1 D I h
 obtain ⟨tl,Nn,nm,q,bs,hdct,sn,sub,ab,col,dd,k0,k1,k2,k3,k5,mN,hC,hN,hni,T⟩:=O.obj
 refine wpAny_Raise_call_subT (C:=C) (nm:=nm) (q:=q) (N:=Nn) (bs:=bs) (bm:=tl) (hdct:=hdct) (sn:=sn) (sub:=sub) (ab:=ab) (col:=col) (dd:=dd) (k0:=k0) (k1:=k1) (k2:=k2) (k3:=k3) (k5:=k5)
  FB (mN:=mN) (T.hasType FB.hasBase) (I.ok.hd rfl) ?_ hni (Ai I hg O.bound ⟨rfl,?_⟩ hdb)
 ·rw [he]
  show (false || _)=false
  rw [sZ];exact hpl
 ·have hx:=ha cpos pins s1 σ H1 _ I h
  rw [he] at hx ⊢
  refine Eb (eB hx fun us s2 ⟨vs,H2,I2,r2,z,qE⟩=>?_)
  have kb:∀ b o,base.get? b=some o->s2.heap.get? b=some o:=I2.bk
  exact ⟨rfl,by show us.length<=sizeLine;rw [<- r2.length];exact z,kb _ _ hC,hN.keeps kb,T.keeps kb,fun h' ea hm=>AB I2 hm qE⟩
end
structure SB (base:bp) (C:ah) (bm:List a9):Prop where
 obj:∃ nm q N bs hdct sn sub ab col dd k0 k1 k2 k3 k5 newId,base.get? C=some (excClassObj nm q C N bs bm hdct sn sub ab col dd k0 k1 k2 k3 k5 newId)
 exc:bm.contains (.type "BaseException")=true
end
section
section
variable {prog:aE}{w:aU}{A:b9}{E:a9->ac->Prop}{s:ac}{K:a8}{x C:ah}{R:oZ->ac->Prop}
end
section
variable {X:Cx}
end
end
section
section
variable {P:aE}{w:aU}{K:a8}{mg:Str->Option a9}{base:bp}
end
section
variable {X:Cx}{k:Nat}{f:ah}{fd:eK}{ps:List Str}{sp:Sp}{x:Str}{p pos:Pos}{e:aQ}{es:List aQ}{t:TA}
end
end
section
section
variable {X:Cx}
def V4:pc->String
 | .none=>"NoneType" | .bool _=>"bool" | .int _=>"int" | .str _=>"str" | .list _=>"list" | .tuple _=>"tuple" | .dict _=>"dict"
theorem EK {pins:List (ah×Obj)}{σ:St}{H:Hp}{s:ac}{A:b9}{E:a9->ac->Prop}{Q:a9->ac->Prop}{c:a9}{b:Bool}{x:V}{d:pc}{u:a9} (I:bQ X pins σ H s) (rx:cZ x u) (r:EJ X.K H x d) (e:oY X.K (.type (V4 d)) c=some b) (h:∀ tk,Q (.bool b) { s with toks:=tk }) :
  ar (aG X.prog X.w) A (call (.builtin "isinstance") [u,c]) Q E s:=by
 cases r with
 | none=>exact qe I rx .non e h
 | bool y=>exact qe I rx (.bl y) e h
 | int i=>exact qe I rx (.int i) e h
 | str y=>exact qe I rx (.str y) e h
 | list hq _ =>
  cases rx
  obtain ⟨its,rv,⟨o,n,ho,c,_,dd⟩,_⟩:=I.list hq
  exact cB sV I.kIn ⟨o,ho,c⟩ e (fun z=>nomatch z) h
 | tuple hq _ =>
  cases rx
  obtain ⟨its,rv,⟨o,ho,c,n,dd⟩,_⟩:=I.tuple hq
  exact cB E9 I.kIn ⟨o,ho,c⟩ e (fun z=>nomatch z) h
theorem Ku:jb X (.builtin "isinstance") (fun xs H Q=>∃ x d T b,xs=[x,.ty T]/\EJ X.K H x d/\oY X.K (.type (V4 d)) (.type T)=some b/\Q (.bl b) H):=by
 intro pins s σ H xs us Q I r h
 obtain ⟨x,d,T,b,rfl,rp,e,q⟩:=h
 obtain ⟨u,v,rfl,ru,rv⟩:=O_ r
 obtain rfl:v=.type T:=rv
 exact EK I ru rp e fun tk=>⟨.bl b,H,I.tok tk,rfl,q⟩
end
end
end L2
section
namespace HT
open PySem PyProof.Rows
section
variable {prog:aE}{w:aU}{A:b9}{E:a9->ac->Prop}{s:ac}
theorem Cg {t sl:ah}{items:Array a9}{vl vu:a9}{lo hi:Option Int}{Q:a9->ac->Prop} (ht:IsTup s.heap t items) (hs:s.heap.IsSliceOf sl vl vu .none) (pl:ur vl lo) (pu:ur vu hi)
  (hw:iz items.size 0 lo=0/\iz items.size items.size hi=items.size) (h:Q (.ref t) s):ar (aG prog w) A (oQ (.ref t) (.ref sl)) Q E s:=by
 obtain ⟨os,hos,hcs,hds⟩:=id hs
 have hTs:s.TypeIs (.ref sl) "slice":=⟨os,hos,hcs⟩
 unfold oQ
 try with_reducible refine db ?_
 first | refine a7 (aa ?_) | skip
 refine a7 (wpAny_sequenceKey ht.typeIs (by decide) ?_)
 refine a7 (cc (name:=fZ "__getitem__") ht.typeIs ft
  (b_ ft ht.typeIs entry_tuple_getitem ?_ (args_tuple_getitem _ _)))
 show ar _ _ (sX (.ref t) >>= _) _ _ s
 refine a7 (tupleItemsOf_ ht ?_)
 refine a7 (rq hTs ?_)
 rw [if_pos (by decide)]
 refine a7 (mW hs pl pu ?_)
 have hyes:((((iz items.size 0 lo:Nat):Int) == 0 && (1:Int) == 1 && (iz items.size items.size hi - iz items.size 0 lo) == items.size)=true):=by
  rw [hw.1,hw.2];simp
 show ar _ _ (if (((iz items.size 0 lo:Nat):Int) == 0 && (1:Int) == 1 && (iz items.size items.size hi - iz items.size 0 lo) == items.size)=true then _ else _) _ _ s
 rw [if_pos hyes]
 refine a7 ?_
 unfold Builtin.Tuple.tupleIsExact
 refine a7 (rq ht.typeIs (aa ?_))
 rw [if_pos (by decide)]
 refine a7 (i3 ?_)
 first
  | exact aa (aa ⟨_,rfl,h⟩)
  | exact aa ⟨_,rfl,aa h⟩
  | exact a7 (aa (aa ⟨_,rfl,aa h⟩))
  | exact a7 (aa (aa ⟨_,rfl,h⟩))
end
end HT
namespace L2
open PySem PySem.Spec PyProof.Rows
section
variable {X:Cx}
inductive Kv (K:a8) (x:V) (lo:Option Int) (hi:Option Int) (H:Hp) (Q:VK):Prop
 | mk (a xs:_) (h0:x=.ref a) (h1:jZ K H a xs) (h2:(HT.iz xs.length 0 lo=0/\HT.iz xs.length xs.length hi=xs.length)) (h3:Q (.ref a) H):Kv K x lo hi H Q
def SC (K:a8):V->Option Int->Option Int->Hp->VK->Prop:=Kv K
theorem N_:So X (SC X.K):=by
 intro pins s σ H x v vl vu lo hi sl Q I rx hs pl pu h
 obtain ⟨a,xs,rfl,hx,hw,q⟩:=h
 cases rx
 obtain ⟨its,r,ht,hz⟩:=I.tuple hx
 have hlen:its.toArray.size=xs.length:=by rw [aR];exact r.length.symm
 exact ⟨"tuple",_,PyProof.Rows.slot_tuple_getitem.lookup,ht.typeIs,HT.Cg ht hs pl pu (by rw [hlen];exact hw) ⟨.ref a,H,I,rfl,q⟩⟩
theorem lw {H:Hp}{p:ah}{o:HO} (h:H p=none):dB H (upd H p o):=fun b u e=>by rw [bg (bR e h)];exact e
theorem wU (hc:X.calm=true):jb X (.type "list") (fun xs H Q=>∃ a kvs,xs=[.ref a]/\H a=some (.dK kvs)/\∀ l,H l=none->Q (.ref l) (upd H l (.lst (kvs.map fun p=>kV p.1)))):=by
 intro pins s σ H xs us Q I r h
 obtain ⟨a,kvs,rfl,hH,q⟩:=h
 obtain ⟨u,rfl,rx⟩:=kz r
 cases rx
 obtain ⟨hz,hs,vs,rk,hd⟩:=(show dk X.prog X.w H s.heap a (.dK kvs) from I.hok a _ hH)
 obtain ⟨ep,hat⟩:∃ ep,s.heap.DictAt (ej X.prog X.w) a vs ep:=by
  obtain ⟨o,es,ep,h1,h2,h3,h4⟩:=hd
  exact ⟨ep,o,es,h1,h2,h3,h4⟩
 have hlen:kvs.length=vs.length:=gO rk
 refine PySem.W.kdl_call (PySem.W.kdl_dict hs) (I.ok.hd hc) hat (by omega) fun h' tk acc' c' kp e hacc=>?_
 have rv:du (kvs.map fun p=>kV p.1) acc'.toList:=by
  have key:∀ {kvs:List (dv×V)}{vs:List (dv×a9)} (acc:List a9),KV kvs vs->acc.length=vs.length->(∀ (j:Nat) (v:a9),acc[j]?=some v->∃ k x,vs[j]?=some (k,x)/\wG k v=true)->du (kvs.map fun p=>kV p.1) acc:=by
   intro kvs
   induction kvs with
   | nil=>intro vs acc rk hl _;cases rk;cases acc with
    | nil=>exact .nil
    | cons _ _=>simp at hl
   | cons p kvs ih =>
    intro vs acc rk hl hv
    cases rk with
    | cons h1 t1 =>
     cases acc with
     | nil=>simp at hl
     | cons v acc =>
      refine .cons ?_ (ih acc t1 (by simpa using hl) fun j v hj=>by simpa using hv (j + 1) v (by simpa using hj))
      obtain ⟨k,x,e1,e2⟩:=hv 0 v rfl
      simp only [BQ,BJ] at e1
      subst e1
      have hk:p.1=k:=h1.1
      rcases eQ e2 with ⟨i,t,e,rfl⟩ | ⟨i,t,e,rfl⟩
      ·show cZ (kV p.1) _;rw [hk,e];exact ⟨t,rfl⟩
      ·show cZ (kV p.1) _;rw [hk,e];exact ⟨t,rfl⟩
  exact key acc'.toList rk (by rw [av];exact hacc.1) fun j v hj=>hacc.2 j v (by rw [<- dm];exact hj)
 exact ⟨.ref s.heap.objs.size,_,I.laid (t':=tk) kp (au _) (show dk X.prog X.w _ h' _ (.lst _) from ⟨by simpa using hz,acc'.toList,c',rv,by rw [Ei];exact e⟩),rfl,q _ (I.hok.fresh (au _))⟩
def wV (x:Str):List V:=x.cps.toList.map fun c=>V.str ⟨#[c]⟩
theorem vS (hc:X.calm=true):jb X (.type "tuple") (fun xs H Q=>∃ x,xs=[.str x]/\x.cps.size<=sizeLine/\∀ l,H l=none->Q (.ref l) (upd H l (.tup (wV x)))):=by
 intro pins s σ H xs us Q I r h
 obtain ⟨x,rfl,hz,q⟩:=h
 obtain ⟨u,rfl,rx⟩:=kz r
 obtain ⟨t,rfl⟩:=rx
 refine call_tuple_str (I.ok.hd hc) x t (fun h' tk acc kp hacc=>?_) hz
 have I1:bQ X pins σ H { s with heap:=h',toks:=tk }:=I.kept (t':=tk) kp
 have rv:du (wV x) acc.toList:=by
  have key:∀ (cs:List Nat) (acc:List a9),acc.length=cs.length->(∀ (j:Nat) (v:a9),acc[j]?=some v->∃ c u,cs[j]?=some c/\v=.str ⟨#[c]⟩ u)->du (cs.map fun c=>V.str ⟨#[c]⟩) acc:=by
   intro cs
   induction cs with
   | nil=>intro acc hl _;cases acc with
    | nil=>exact .nil
    | cons _ _=>simp at hl
   | cons c cs ih =>
    intro acc hl hv
    cases acc with
    | nil=>simp at hl
    | cons v acc =>
     obtain ⟨c',u,e1,rfl⟩:=hv 0 v rfl
     simp only [BQ,BJ] at e1
     subst e1
     exact .cons ⟨u,rfl⟩ (ih acc (by simpa using hl) fun j v hj=>by simpa using hv (j + 1) v (by simpa using hj))
  refine key x.cps.toList acc.toList (by rw [av,av];exact hacc.1) fun j v hj=>?_
  obtain ⟨c,u,e1,e2⟩:=hacc.2 j v (by rw [<- dm];exact hj)
  exact ⟨c,u,by rw [dm];exact e1,e2⟩
 have I2:bQ X pins σ (upd H h'.objs.size (.tup (wV x))) { s with heap:=h'.push { cls:=.type "tuple",data:=.seq acc },toks:=tk } :=
  I1.laid (t':=tk) (fun b o e=>ae _ e) (au _) (show dk X.prog X.w _ _ _ (.tup (wV x)) from ⟨by unfold wV;simpa using hz,acc.toList,rv,by rw [Ei];exact vK _ _⟩)
 exact ⟨.ref h'.objs.size,_,I2,rfl,q _ (I1.hok.fresh (au _))⟩
end
end L2
end
namespace L2
open PySem PySem.Spec PyProof.Rows
section
theorem AC (elt target iter:aQ) (ifs:List aQ) (scope:dw) (pos:Pos) (it acc:a9) (env:Env) :
  MW (.SetComp elt [⟨target,iter,ifs,0⟩] scope pos) 0 it acc env=(do
   vb iter.pos
   let r <- jy it
   match r with
   | none=>pure (.done .next)
   | some v =>
    e_ target it v
    jx target env v
    let mut ok:=true
    for c in ifs do
     if ok then ok <- rm c env (dU c env)
    if ok then
     (do let v <- dU elt env;vb elt.pos;let _ <- call (.builtin "set.add") [acc,v])
    again (.compLoop (.SetComp elt [⟨target,iter,ifs,0⟩] scope pos) 0 it acc env)):=by rfl
section
variable {prog:aE}{w:aU}{A:b9}{E:a9->ac->Prop}{R:oZ->ac->Prop}{s:ac}
theorem oN {elt target iter ifs bG scope pos it acc env}
  (h0:gN (aG prog w) A (.compLoop (.SetComp elt (⟨target,iter,ifs,0⟩::bG) scope pos) 0 it acc env) R s)
  (h:ar (aG prog w) A (wA it) (fun it' s'=>gN (aG prog w) A (.compLoop (.SetComp elt (⟨target,iter,ifs,0⟩::bG) scope pos) 0 it' acc env) R s')
   (notedBy (aG prog w) A env fun x s'=>R (.error x) s') s) :
  gN (aG prog w) A (.compStart (.SetComp elt (⟨target,iter,ifs,0⟩::bG) scope pos) 0 it acc env) R s:=by
 refine BP ?_
 show ar _ _ ((compStart (.SetComp elt (⟨target,iter,ifs,0⟩::bG) scope pos) 0 it acc env).onRaise (fun x=>do J8 x env;vb theWindowsPlace)) _ _ s
 refine wpAny_notedAt ?_
 unfold compStart
 show ar _ _ (ask >>= _) _ _ s
 refine a7 (gP (wpAny_ite ?_))
 split
 ·first
   | exact a7 (aa (aa (lX rfl h0)))
   | exact aa (lX rfl h0)
 ·first
   | exact a7 (i3 (a7 (eF (a7 (bi h (fun it' s' hq=>aa (lX rfl hq)) fun _ _ x=>x)))))
   | (refine a7 (i3 ?_);show ar _ _ (vb iter.pos >>= _) _ _ s;exact a7 (eF (a7 (bi h (fun it' s' hq=>aa (lX rfl hq)) fun _ _ x=>x))))
theorem r6 {Q:a9->ac->Prop} (h:Q (.ref s.heap.objs.size) { s with heap:=s.heap.push (eN w) }):ar (aG prog w) A (newSet (.type "set")) Q E s:=by
 unfold newSet setsByText
 refine a7 (a7 (gP (aa ?_)))
 dsimp only
 simp only [newObj]
 exact a7 (MZ (aa h))
theorem yJ {a:ah}{ss:List Str}{x:Str}{tk:Tok}{Q:a9->ac->Prop} (hS:kj w s.heap a ss) (hr:ss.length + 1<iy)
  (h:∀ h' tk',bA a s.heap h'->kj w h' a (if x∈ss then ss else ss++[x])->Q .none { s with heap:=h',toks:=tk' }) :
  ar (aG prog w) A (call (.builtin "set.add") [.ref a,.str x tk]) Q E s:=by
 have hT:s.TypeIs (.ref a) "set":=by obtain ⟨es,ep,t,I,_⟩:=id hS;exact ⟨_,I.at_,rfl⟩
 refine b_ F.slot_set_add hT F.entry_set_add ?_ (F.args_set_add_2 _ _)
 unfold lM.«set.add» Nf
 simp only [List.isEmpty_nil,bind_assoc]
 unfold Ng
 refine a7 (aa ?_)
 try dsimp only
 refine a7 (aa ?_)
 try dsimp only
 refine a7 ?_
 refine C8 hS hr fun h' tk' sb hS'=>?_
 exact aa ⟨_,rfl,h h' tk' sb hS'⟩
end
section
variable {prog:aE}{w:aU}{A:b9}{R:oZ->ac->Prop}{s:ac}
theorem Ch {elt target iter:aQ}{ifs:List aQ}{scope:dw}{pos:Pos}{it acc:a9}{env:Env} (I:Nat->ac->Prop)
  (turn:∀ n s,I n s->ar (aG prog w) A (jy it) (fun r s₁=>match r with
   | none=>R (.ok .next) s₁
   | some v=>ar (aG prog w) A (e_ target it v) (fun _ s₁'=>ar (aG prog w) A (jx target env v) (fun _ s₂ =>
     ar (aG prog w) A (forIn ifs true fun c r=>if r=true then do let ok <- rm c env (dU c env);pure (dR ok) else pure (dR r)) (fun ok s₃ =>
      if ok=true then ar (aG prog w) A (dU elt env) (fun x s₄ =>
       ar (aG prog w) A (call (.builtin "set.add") [acc,x]) (fun _ s₅=>∃ m,m<n/\I m s₅) (fun _ _=>False) s₄) (fun _ _=>False) s₃
      else ∃ m,m<n/\I m s₃) (fun _ _=>False) s₂) (fun _ _=>False) s₁') (fun _ _=>False) s₁) (fun _ _=>False) s)
  (n:Nat) (h:I n s) :
  gN (aG prog w) A (.compLoop (.SetComp elt [⟨target,iter,ifs,0⟩] scope pos) 0 it acc env) R s:=by
 refine Jq rfl I (fun n s hI=>?_) n h
 show ar _ A ((MW (.SetComp elt [⟨target,iter,ifs,0⟩] scope pos) 0 it acc env).onRaise (fun x=>do J8 x env;BN x)) _ _ s
 refine MX ?_
 rw [AC]
 have nf:∀ {α:Type}{t:Sem α}{Q:α->ac->Prop}{E':a9->ac->Prop}{s:ac},ar (aG prog w) A t Q (fun _ _=>False) s->ar (aG prog w) A t Q E' s :=
  fun h=>bi h (fun _ _ q=>q) fun _ _ f=>f.elim
 refine a7 (eF (a7 (nf (bi (turn n s hI) (fun r s₁ h₁=>?_) fun _ _ h'=>h'))))
 cases r with
 | none=>exact aa h₁
 | some v =>
  refine a7 (nf (bi h₁ (fun _ s₁' h₁'=>?_) fun _ _ h'=>h'))
  refine a7 (nf (bi h₁' (fun _ s₂ h₂=>a7 (nf (bi h₂ (fun ok s₃ h₃=>?_) fun _ _ h'=>h'))) fun _ _ h'=>h'))
  cases ok with
  | false=>exact aa ⟨rfl,h₃⟩
  | true =>
   exact a7 (a7 (nf (bi h₃ (fun x s₄ h₄=>a7 (eF (a7 (nf (bi h₄ (fun _ s₅ h₅=>aa (aa ⟨rfl,h₅⟩)) fun _ _ h'=>h'))))) fun _ _ h'=>h')))
end
inductive VF (X:Cx) (pins:List (ah×Obj)) (N':List Str) (scope:dw) (cl:List (Str×ah)) (C:ah) (s2:ac) (H2:Hp) (fp:List ah) (nt:Nat) (ix:List Nat) (σ:St) (tn:Nat->bp->Prop) (W:Nat->Nat->List Str->Hp->Prop) (n:Nat) (s':ac):Prop
 | mk (i:Nat) (acc:List Str) (oD:Obj) (H':Hp) (I:bQ (bM X N' scope cl C s2 H2 fp (X.pn++pins)) [(s2.heap.objs.size,oD)] (gL nt ix σ) H' s') (S:kj X.w s'.heap s2.heap.objs.size acc) (t:tn i s'.heap) (f:∀ b∈fp,H' b=none) (w:W i n acc H'):VF X pins N' scope cl C s2 H2 fp nt ix σ tn W n s'
theorem HY {X:Cx}{elt tg iter:aQ}{ifs:List aQ}{scope:dw}{pos:Pos}{g:TG}{tt:TT}{te:TE}{N':List Str}{nt:Nat}{ix:List Nat}
  (hc:X.calm=true) (S:jD X scope N' nt ix) (lo:MO nt g)
  (hb:∀ cl C s₀ H₀ ex pn,PG (bM X N' scope cl C s₀ H₀ ex pn) tg g/\HP (bM X N' scope cl C s₀ H₀ ex pn) ifs tt/\PE (bM X N' scope cl C s₀ H₀ ex pn) elt te)
  {cl:List (Str×ah)} (c1:∀ x c,cl.lookup x=some c->X.env.cells.lookup x=some c) (c2:∀ y∈scope.names,y.2=.free->∃ c,cl.lookup y.1=some c)
  {pins:List (ah×Obj)}{σ:St}{H2:Hp}{s2:ac}{it:ah}{fp:List ah}{tn:Nat->bp->Prop}{J:It}{Q:VK}{E:a9->ac->Prop}
  (I2:bQ X pins σ H2 s2) (T:wI X.prog X.w X.K tg J fp it tn) (st2:tn 0 s2.heap) (f2:∀ b∈fp,mU X pins H2 b)
  {W:Nat->Nat->List Str->Hp->Prop} (w0:∃ m,W 0 m [] H2)
  (turn:∀ i m acc H,W i m acc H->(J.stop i H/\∀ p,H p=none->Q (.ref p) (upd H p (kF X.w p acc))) \/
   (J.go i H/\acc.length + 1<iy/\∀ x H',J.yld i H x H'->g x (gL nt ix σ) H' fun σ2 H2=>tt σ2 H2 fun b H3 =>
    if b=true then te σ2 H3 fun y H4=>∃ z m',y=.str z/\m'<m/\W (i + 1) m' (if z∈acc then acc else acc++[z]) H4 else ∃ m',m'<m/\W (i + 1) m' acc H3))
  {RR:a9->ah->oZ->ac->Prop}
  (hRR:∀ D C m s' (acc:List Str) H',H' D=none->mU X pins (upd H' D (kF X.w D acc)) C->Q (.ref D) (upd H' D (kF X.w D acc))->s'.heap.Ns C m->(∀ h',bA C s'.heap h'->bQ X pins σ (upd H' D (kF X.w D acc)) { s' with heap:=h' })->RR (.ref D) C (.ok .next) s') :
  ar (aG X.prog X.w) X.A (newSet (.type "set")) (fun acc s₃=>ar (aG X.prog X.w) X.A (nz scope X.env.globals cl [] X.env.qual none .none (some X.env)) (fun cenv s₄ =>
   gN (aG X.prog X.w) X.A (.compStart (.SetComp elt [⟨tg,iter,ifs,0⟩] scope pos) 0 (.ref it) acc { cenv with scope:=relabel scope X.env }) (RR acc cenv.locals) s₄) E s₃) E s2:=by
 refine r6 (As fun h₁ hh₁=>?_)
 dsimp only at hh₁ ⊢
 generalize hG2:s2.heap.push (eN X.w)=G2 at hh₁ ⊢
 have hC:G2.objs.size=s2.heap.objs.size + 1:=by rw [<- hG2,c9]
 have hDC:s2.heap.objs.size≠G2.objs.size:=by rw [hC];exact aF (da _)
 have hCle:s2.heap.objs.size<=G2.objs.size:=by rw [hC];exact jp _
 have below:∀ b,b<s2.heap.objs.size->b≠G2.objs.size:=fun b hb=>by rw [hC];exact aF (dY hb)
 have kp:∀ b o,G2.get? b=some o->h₁.get? b=some o:=fun b o e=>by rw [hh₁];exact ju _ _ b o (ae _ e)
 have hns₁:h₁.Ns G2.objs.size (fun _=>none):=by rw [hh₁];exact (BO G2 (.type "dict")).keeps (ju _ _)
 have ok₁:Jr h₁ (G2.objs.size + 1) (aP (G2.objs.size + 1) scope.names []):=by rw [hh₁];exact uD G2 scope.names
 have cne:∀ x c,(aP (G2.objs.size + 1) scope.names cl).lookup x=some c->X.env.cells.lookup x=some c\/s2.heap.objs.size<c:=fun x c e=>by
  rcases jd e with a | ⟨_,a⟩
  ·exact .inr (aC (ic hCle) (ok₁.empty x c a).2)
  ·exact .inl (c1 x c a)
 have old:∀ b o,s2.heap.get? b=some o->h₁.get? b=some o:=fun b o e=>kp b o (hG2 ▸ ae _ e)
 have hacc:h₁.get? s2.heap.objs.size=some (eN X.w):=kp _ _ (hG2 ▸ ay _ rfl)
 have ff:∀ b∈fp,b<s2.heap.objs.size:=fun b hb=>by
  obtain ⟨o,e,_⟩:=T.obj _ _ st2 b hb
  exact aq e
 have I3:bQ (bM X N' scope (aP (G2.objs.size + 1) scope.names cl) G2.objs.size s2 H2 fp (X.pn++pins)) [] (gL nt ix σ) H2 { s2 with heap:=h₁,toks:=s2.toks }:=wN S I2 c1 c2 f2 ff hCle hns₁ old ok₁
 obtain ⟨pg,pt,pe⟩:=hb (aP (G2.objs.size + 1) scope.names cl) G2.objs.size s2 H2 fp (X.pn++pins)
 have hDfs:s2.heap.objs.size∉qc X.stack:=fun z=>by
  rcases List.mem_cons.mp (I2.stkSub _ z) with e | e
  ·exact absurd I2.lt (by rw [<- e];exact bv _)
  ·exact I2.nofs (au _) e
 have st1:tn 0 h₁:=T.keep _ _ _ st2 fun b _ o e=>old b o e
 have hDf:s2.heap.objs.size∉fp:=fun z=>absurd (ff _ z) (bv _)
 have stat:∀ {H':Hp}{pl:List (ah×Obj)},(∀ p∈pl,p.1∉fp)->(∀ b∈fp,H' b=none)->∀ b∈fp,mU (bM X N' scope (aP (G2.objs.size + 1) scope.names cl) G2.objs.size s2 H2 fp (X.pn++pins)) pl H' b:=fun hpl hn b hb=>by
  obtain ⟨f0,f1,f2',f3,f4,f5⟩:=f2 b hb
  refine ⟨hn b hb,below b (ff b hb),fun z=>?_,.inl hb,fun x c e=>(cne x c e).elim (f4 x c) fun q z=>o_ q (by rw [z];exact ff b hb),fun p hp z=>?_⟩
  ·rcases List.mem_cons.mp (I2.stkSub _ z) with e | e
   ·exact f1 e
   ·exact f2' e
  ·rcases List.mem_append.mp hp with q | q
   ·exact f5 p q z
   ·exact hpl p q (z ▸ hb)
 obtain ⟨m0,w0⟩:=w0
 have loop:gN (aG X.prog X.w) X.A (.compLoop (.SetComp elt [⟨tg,iter,ifs,0⟩] scope pos) 0 (.ref it) (.ref s2.heap.objs.size) (MY scope (aP (G2.objs.size + 1) scope.names cl) G2.objs.size X.env))
    (RR (.ref s2.heap.objs.size) G2.objs.size) { s2 with heap:=h₁,toks:=s2.toks }:=by
  refine Ch (VF X pins N' scope (aP (G2.objs.size + 1) scope.names cl) G2.objs.size s2 H2 fp nt ix σ tn W) ?_ m0
   ⟨0,[],_,H2,I3.pin1 hacc (I2.hok.fresh (au _)) hDC hDfs (fun v z=>nomatch z),zA X.w hacc,st1,fun b hb=>(f2 b hb).1,w0⟩
  rintro n s3 ⟨i,acc,oD,H3,J3,hS3,st3,fr3,w3⟩
  have plD:∀ p∈[(s2.heap.objs.size,oD)],p.1∉fp:=fun p hp=>by
   have:p=(s2.heap.objs.size,oD):=by simpa using hp
   rw [this];exact hDf
  have stS:∀ {s8:ac},s8.heap.get? s2.heap.objs.size=some oD->kj X.w s8.heap s2.heap.objs.size acc:=fun {s8} e=>hS3.keep fun o eo=>by
   have q:=(J3.pin (s2.heap.objs.size,oD) (az _ (List.mem_singleton.mpr rfl))).1
   rw [q] at eo;cases eo;exact e
  rcases turn i n acc H3 w3 with ⟨stop,qn⟩ | ⟨go,hlt,step⟩
  ·refine eB (T.done (bM X N' scope (aP (G2.objs.size + 1) scope.names cl) G2.objs.size s2 H2 fp (X.pn++pins)) rfl rfl rfl hc i _ s3 _ H3 _ J3 (stat plD fr3) st3 stop) fun r s4 h_0=>?_
   obtain ⟨hr,I4⟩:=h_0
   subst hr
   obtain ⟨pD,pN,_⟩:=I4.pin (s2.heap.objs.size,_) (az _ (List.mem_singleton.mpr rfl))
   obtain ⟨mm,hn,_⟩:=I4.loc
   have hCn:H3 G2.objs.size=none:=I4.free
   refine hRR _ _ mm s4 acc H3 pN (I2.fpOk hCle (by rw [bg (cW hDC)];exact hCn)) (qn _ pN) hn fun h' sb=>?_
   have hu:Un (qc X.stack) fp H2 (upd H3 s2.heap.objs.size (kF X.w s2.heap.objs.size acc)) s2.heap h':=Un.grow I4.base sb hCle (au _) pN
   refine I2.call' (s':={ s4 with heap:=h' }) (ch:=fp) I4.os hu ?_ I4.bare fun b hb=>?_
   ·exact qf (wO I4.hok hCn sb) pN (Az ((stS pD).keep fun o e=>(sb.2 _ hDC).trans e))
   ·obtain ⟨_,f1,_,f3,f4,f5⟩:=f2 b hb
    exact ⟨f3,f1,f4,f5⟩
  ·refine eB (T.item (bM X N' scope (aP (G2.objs.size + 1) scope.names cl) G2.objs.size s2 H2 fp (X.pn++pins)) rfl rfl rfl hc i _ s3 _ H3 _ J3 (stat plD fr3) st3 go) fun r s4 h_1=>?_
   obtain ⟨u,hr,h4⟩:=h_1
   subst hr
   refine eB h4 fun _ s5 h_2=>?_
   obtain ⟨x,H5,I5,r5,y5,st5,fr5⟩:=h_2
   have I5':=I5.pinned (stat plD fr5) (T.obj _ _ st5)
   refine eB (pg _ s5 _ H5 x u _ I5' r5 (lo _ _ _ _ (step x H5 y5))) fun _ s6 h_3=>?_
   obtain ⟨σ6,H6,I6,q6,l6,k6⟩:=h_3
   have hw:∀ (j:Nat) v,(gL nt ix σ)[j]?=some (some v)->σ6[j]?=some (some v):=fun j v e=>by
    by_cases hj:nt<=j
    ·rw [k6 j hj];exact e
    ·unfold gL at e
     rw [aW (by simpa using hj),bY,if_pos (by omega)] at e
     cases e
   refine eB (pt _ s6 σ6 H6 _ I6 q6) fun b s7 h_4=>?_
   obtain ⟨H7,I7,q7⟩:=h_4
   have fpk:∀ {s8:ac}{σ8:St}{H8:Hp},bQ (bM X N' scope (aP (G2.objs.size + 1) scope.names cl) G2.objs.size s2 H2 fp (X.pn++pins)) ([(s2.heap.objs.size,oD)]++rJ fp s5.heap) σ8 H8 s8 ->
     tn (i + 1) s8.heap/\∀ b∈fp,H8 b=none:=fun {s8 σ8 H8} I8=>by
    refine ⟨T.keep _ _ _ st5 fun b hb o e=>(I8.pin (b,o) (az _ (az _ (i6 hb e)))).1,fun b hb=>?_⟩
    obtain ⟨o,e,d⟩:=T.obj _ _ st5 b hb
    exact (I8.pin (b,o) (az _ (az _ (i6 hb e)))).2.1
   cases b with
   | false =>
    simp only [bS,if_false] at q7 ⊢
    obtain ⟨m',hm,w7⟩:=q7
    obtain ⟨t7,f7⟩:=fpk I7
    obtain ⟨pD,_⟩:=I7.pin (s2.heap.objs.size,oD) (az _ (bf _ (List.mem_singleton.mpr rfl)))
    exact ⟨m',hm,i + 1,acc,oD,H7,(I7.weak l6.symm hw).unpinned,stS pD,t7,f7,w7⟩
   | true =>
    simp only [if_true] at q7 ⊢
    refine eB (pe _ s7 σ6 H7 _ I7 q7) fun u8 s8 h_5=>?_
    obtain ⟨y,H8,I8,r8,z,m',hy,hm,w8⟩:=h_5
    obtain ⟨t8,f8⟩:=fpk I8
    obtain ⟨pD,pN,_⟩:=I8.pin (s2.heap.objs.size,_) (az _ (bf _ (List.mem_singleton.mpr rfl)))
    subst hy
    obtain ⟨tz,rfl⟩:=r8
    refine yJ (stS pD) hlt fun h9 tk9 sb9 hS9=>?_
    obtain ⟨es9,ep9,t9,is9,pm9⟩:=id hS9
    have e9':=is9.at_
    refine ⟨m',hm,i + 1,_,{ cls:=.type "set",dict:=none,data:=.set es9 ep9 t9 },H8,?_,hS9,T.keep _ _ _ t8 fun b hb o e=>sb9.extBut b o (fun z=>hDf (z ▸ hb)) e,f8,w8⟩
    have I8':bQ (bM X N' scope (aP (G2.objs.size + 1) scope.names cl) G2.objs.size s2 H2 fp (X.pn++pins)) [] (gL nt ix σ) H8 s8:=(I8.weak l6.symm hw).pins_of fun p hp=>absurd hp (by simp)
    have I9:bQ (bM X N' scope (aP (G2.objs.size + 1) scope.names cl) G2.objs.size s2 H2 fp (X.pn++pins)) [] (gL nt ix σ) H8 { s8 with heap:=h9,toks:=tk9 } :=
     I8'.turned (it:=s2.heap.objs.size) (fun b o hb e=>sb9.extBut b o hb e) pN hDC (.inr (au _)) (fun x c e z=>by
      rcases cne x c e with e | e
      ·obtain ⟨v,q⟩:=I2.cell x c e
       exact absurd q.lt (by rw [z];exact bv _)
      ·exact absurd e (by rw [z];exact bv _)) fun p hp z=>by
      have hp:p∈X.pn++pins:=(List.mem_append.mp hp).elim id fun z=>absurd z (by simp)
      exact absurd (aq (I2.pin p hp).1) (by rw [z];exact bv _)
    exact I9.pin1 e9' pN hDC hDfs (fun v z=>nomatch z)
 exact oN loop (T.self _ 0 _ _ _ st1 loop)
inductive Pb (w:aU) (nt:Nat) (ix:List Nat) (g:TG) (tt:TT) (te:TE) (σ:St) (Q:VK) (J:It) (H1:Hp):Prop
 | mk (W:Nat->Nat->List Str->Hp->Prop) (w0:∃ m,W 0 m [] H1) (turn:∀ i m acc H,W i m acc H ->
 (J.stop i H/\∀ p,H p=none->Q (.ref p) (upd H p (kF w p acc))) \/
 (J.go i H/\acc.length + 1<iy/\∀ x H',J.yld i H x H'->g x (gL nt ix σ) H' fun σ2 H2=>tt σ2 H2 fun b H3 =>
  if b=true then te σ2 H3 fun y H4=>∃ z m',y=.str z/\m'<m/\W (i + 1) m' (if z∈acc then acc else acc++[z]) H4 else ∃ m',m'<m/\W (i + 1) m' acc H3)):Pb w nt ix g tt te σ Q J H1
def Kw (w:aU) (nt:Nat) (ix:List Nat) (wi:TI) (g:TG) (tt:TT) (te:TE):TE:=fun σ H Q=>wi σ H (Pb w nt ix g tt te σ Q)
theorem EL {X:Cx}{elt tg iter:aQ}{ifs:List aQ}{scope:dw}{pos:Pos}{wi:TI}{g:TG}{tt:TT}{te:TE}{N':List Str}{nt:Nat}{ix:List Nat}
  (hc:X.calm=true) (S:jD X scope N' nt ix) (lo:MO nt g) (hi:PI X tg iter wi)
  (hb:∀ cl C s₀ H₀ ex pn,PG (bM X N' scope cl C s₀ H₀ ex pn) tg g/\HP (bM X N' scope cl C s₀ H₀ ex pn) ifs tt/\PE (bM X N' scope cl C s₀ H₀ ex pn) elt te)
  (hs:∀ x,cS iter X.env x=pure x:=by intro _;rfl):PE X (.SetComp elt [⟨tg,iter,ifs,0⟩] scope pos) (Kw X.w nt ix wi g tt te):=by
 intro pins s σ H Q I h
 obtain ⟨cl,hcl,c1,c2⟩:=nC (scope:=scope) (env:=X.env) fun y hy hf=>I.ok.has y.1 (S.free y hy hf)
 show ar _ _ (Hq (.SetComp elt [⟨tg,iter,ifs,0⟩] scope pos) scope X.env (firstIterPos [⟨tg,iter,ifs,0⟩] pos) (newSet (.type "set")) (firstAsync [⟨tg,iter,ifs,0⟩]) (firstIter [⟨tg,iter,ifs,0⟩] X.env)) _ _ _
 refine jr (use:=none) rfl hs hcl S.kind S.loc (eB (hi pins s σ H _ I h) fun v s1 h1=>eB h1 fun itv s2 h2=>?_)
 obtain ⟨it,fp,tn,J,H2,e,I2,T,st2,f2,W,w0,turn⟩:=h2
 subst e
 refine HY (RR:=fun acc C=>M_ (aG X.prog X.w) X.A X.xe none (EP X pins σ Q) acc C) hc S lo hb c1 c2 I2 T st2 f2 w0 turn ?_
 intro D C m s' acc H' hD _ q hn hI
 exact ⟨m,hn,fun h' sb=>⟨.ref D,_,hI h' sb,rfl,q⟩⟩
section
variable {X:Cx}
theorem yK:jb X (.builtin "len") (fun xs H Q=>∃ p ss,xs=[.ref p]/\H p=some (kF X.w p ss)/\Q (.int ss.length) H):=by
 intro pins s σ H xs us Q I r h
 obtain ⟨p,ss,rfl,hq,q⟩:=h
 obtain ⟨u,rfl,rx⟩:=kz r
 cases rx
 obtain ⟨es,ep,t,is,pm⟩:=(show dk X.prog X.w H s.heap p (kF X.w p ss) from I.hok p _ hq).1
 have hlen:es.size=ss.length:=by rw [<- pm.length_eq,ao,av]
 have hsm:(es.size:Int)<2 ^ 63:=by
  have h1:=is.few
  have h2:iy<=2 ^ 62:=by decide
  omega
 refine zk kind_len plain_len entry_len (args_len1 _) (wpAny_len_body_set is.at_ ⟨rfl,rfl,rfl⟩ rfl is.fits hsm ?_)
 refine ⟨.int _,H,I.tok _,⟨_,rfl⟩,?_⟩
 rw [hlen];exact q
end
end
end L2
section
namespace L2
open PySem PySem.Spec PyProof.Rows
section
variable {K:a8}{nt:Nat}{ix:List Nat}{te:TE}{σ:St}{H1:Hp}{Q:VK}{a:ah}{xs:List V}{i:Nat}
end
end L2
namespace L2
open PySem PySem.Spec PyProof.Rows
def G0 (so:dw) (N:List Str) (scope:dw) (N':List Str) (nt:Nat) (ix:List Nat):Bool :=
 (scope.kind == .function) && (scope.names.all fun y=>y.2 != .cell || scope.names.lookup y.1 == some .cell) && (scope.names.all fun y=>y.2 != .local || scope.names.lookup y.1 == some .local) &&
 (scope.names.all fun y=>y.2 != .free || so.names.lookup y.1 == some .cell || so.names.lookup y.1 == some .free) &&
 ((bD ix.length).all fun k=>match ix[k]? with
  | none=>false
  | some i=>match N[i]? with
   | none=>false
   | some x=>N'[nt + k]? == some x && scope.names.lookup x == some .free) && (N'.length == nt + ix.length)
theorem ca {X:Cx}{so:dw}{N:List Str}{scope:dw}{N':List Str}{nt:Nat}{ix:List Nat} (h:G0 so N scope N' nt ix=true) (h1:X.env.scope=so:=by rfl) (h2:X.N=N:=by rfl):jD X scope N' nt ix:=by
 unfold G0 at h
 simp only [aO,cr] at h
 obtain ⟨⟨⟨⟨⟨a,b⟩,c⟩,d⟩,e⟩,l⟩:=h
 refine ⟨by simpa using a,fun y hy z=>?_,fun y hy z=>?_,fun y hy z=>?_,fun k i hk=>?_,by simpa using l⟩
 ·have:=b y hy;simpa [z] using this
 ·have:=c y hy;simpa [z] using this
 ·have:=d y hy
  rw [h1]
  simpa [z] using this
 ·have hl:k<ix.length:=(List.getElem?_eq_some_iff.mp hk).1
  have:=e k (List.mem_range.mpr hl)
  rw [hk] at this
  rw [h2]
  simp only at this
  split at this
  ·cases this
  ·rename_i x hx
   simp only [aO] at this
   exact ⟨x,hx,by simpa using this.1,by simpa using this.2⟩
end L2
end
namespace L2
open PySem PySem.Spec PyProof.Rows
section
section
variable {K:a8}{nt:Nat}{ix:List Nat}{te:TE}{σ:St}{H1:Hp}{Q:VK}{a b:ah}{xs ys:List V}{i k:Nat}
end
end
end L2
namespace J
open PySem L2
section
abbrev D:=pc
inductive R (α:Type) where
 | ok (a:α)
 | ex (c:Str) (n:Option D)
 | no
def R.bind {α β:Type}:R α->(α->R β)->R β
 | .ok a,f=>f a
 | .ex c n,_=>.ex c n
 | .no,_=>.no
@[simp] theorem bind_ok {α β:Type} (a:α) (f:α->R β):(R.ok a).bind f=f a:=rfl
@[simp] theorem bind_ex {α β:Type} (c:Str) (n:Option D) (f:α->R β):(R.ex c n).bind f=.ex c n:=rfl
@[simp] theorem bind_no {α β:Type} (f:α->R β):(R.no:R α).bind f=.no:=rfl
def kD:dv->D
 | .inl i=>.int i
 | .inr x=>.str x
def tD (ks:List dv):D:=.tuple (ks.map kD)
mutual
inductive RD (K:a8) (H:Hp):V->D->Prop
 | none:RD K H .non .none
 | bool (b:Bool):RD K H (.bl b) (.bool b)
 | int (i:Int):RD K H (.int i) (.int i)
 | str (x:Str):RD K H (.str x) (.str x)
 | list {a:ah}{xs:List V}{ds:List D}:nB K H a xs->RDs K H xs ds->RD K H (.ref a) (.list ds)
 | tuple {a:ah}{xs:List V}{ds:List D}:H a=some (.tup xs)->RDs K H xs ds->RD K H (.ref a) (.tuple ds)
 | dictK {a:ah}{kvs:List (dv×V)}{ds:List (D×D)}:H a=some (.dK kvs)->RDk K H kvs ds->RD K H (.ref a) (.dict ds)
 | dictT {a:ah}{kvs:List (List dv×V)}{ds:List (D×D)}:H a=some (.dT kvs)->kvs≠[]->RDt K H kvs ds->RD K H (.ref a) (.dict ds)
 | dictF {a:ah}{o:Obj}{kvs:List (List dv×V)}{ds:List (D×D)}:H a=some (.frz o (.dT kvs))->kvs≠[]->RDt K H kvs ds->RD K H (.ref a) (.dict ((.none,.none)::ds))
inductive RDs (K:a8) (H:Hp):List V->List D->Prop
 | nil:RDs K H [] []
 | cons {x:V}{xs:List V}{d:D}{ds:List D}:RD K H x d->RDs K H xs ds->RDs K H (x::xs) (d::ds)
inductive RDk (K:a8) (H:Hp):List (dv×V)->List (D×D)->Prop
 | nil:RDk K H [] []
 | cons {k:dv}{x:V}{xs:List (dv×V)}{d:D}{ds:List (D×D)}:RD K H x d->RDk K H xs ds->RDk K H ((k,x)::xs) ((kD k,d)::ds)
inductive RDt (K:a8) (H:Hp):List (List dv×V)->List (D×D)->Prop
 | nil:RDt K H [] []
 | cons {k:List dv}{x:V}{xs:List (List dv×V)}{d:D}{ds:List (D×D)}:RD K H x d->RDt K H xs ds->RDt K H ((k,x)::xs) ((tD k,d)::ds)
end
section
variable {K:a8}{H H':Hp}
theorem RD.same (e:dB H H') {v:V}{d:D} (h:RD K H v d):RD K H' v d:=RD.rec (motive_1:=fun v d _=>RD K H' v d) (motive_2:=fun v d _=>RDs K H' v d) (motive_3:=fun v d _=>RDk K H' v d) (motive_4:=fun v d _=>RDt K H' v d) .none .bool .int .str (fun h _ r=>.list (e.seq h) r) (fun h _ r=>.tuple (e _ _ h) r) (fun h _ r=>.dictK (e _ _ h) r) (fun h n _ r=>.dictT (e _ _ h) n r) (fun h n _ r=>.dictF (e _ _ h) n r) .nil (fun _ _ a b=>.cons a b) .nil (fun _ _ a b=>.cons a b) .nil (fun _ _ a b=>.cons a b) h
theorem RDs.same (e:dB H H') {v:List V}{d:List D} (h:RDs K H v d):RDs K H' v d:=RDs.rec (motive_1:=fun v d _=>RD K H' v d) (motive_2:=fun v d _=>RDs K H' v d) (motive_3:=fun v d _=>RDk K H' v d) (motive_4:=fun v d _=>RDt K H' v d) .none .bool .int .str (fun h _ r=>.list (e.seq h) r) (fun h _ r=>.tuple (e _ _ h) r) (fun h _ r=>.dictK (e _ _ h) r) (fun h n _ r=>.dictT (e _ _ h) n r) (fun h n _ r=>.dictF (e _ _ h) n r) .nil (fun _ _ a b=>.cons a b) .nil (fun _ _ a b=>.cons a b) .nil (fun _ _ a b=>.cons a b) h
theorem RDk.same (e:dB H H') {v:List (dv×V)}{d:List (D×D)} (h:RDk K H v d):RDk K H' v d:=RDk.rec (motive_1:=fun v d _=>RD K H' v d) (motive_2:=fun v d _=>RDs K H' v d) (motive_3:=fun v d _=>RDk K H' v d) (motive_4:=fun v d _=>RDt K H' v d) .none .bool .int .str (fun h _ r=>.list (e.seq h) r) (fun h _ r=>.tuple (e _ _ h) r) (fun h _ r=>.dictK (e _ _ h) r) (fun h n _ r=>.dictT (e _ _ h) n r) (fun h n _ r=>.dictF (e _ _ h) n r) .nil (fun _ _ a b=>.cons a b) .nil (fun _ _ a b=>.cons a b) .nil (fun _ _ a b=>.cons a b) h
theorem RDt.same (e:dB H H') {v:List (List dv×V)}{d:List (D×D)} (h:RDt K H v d):RDt K H' v d:=RDt.rec (motive_1:=fun v d _=>RD K H' v d) (motive_2:=fun v d _=>RDs K H' v d) (motive_3:=fun v d _=>RDk K H' v d) (motive_4:=fun v d _=>RDt K H' v d) .none .bool .int .str (fun h _ r=>.list (e.seq h) r) (fun h _ r=>.tuple (e _ _ h) r) (fun h _ r=>.dictK (e _ _ h) r) (fun h n _ r=>.dictT (e _ _ h) n r) (fun h n _ r=>.dictF (e _ _ h) n r) .nil (fun _ _ a b=>.cons a b) .nil (fun _ _ a b=>.cons a b) .nil (fun _ _ a b=>.cons a b) h
mutual
def qk:D->Bool
 | .dict _=>false
 | .list xs=>noDs xs
 | .tuple xs=>noDs xs
 | _=>true
def noDs:List D->Bool
 | []=>true
 | x::r=>qk x && noDs r
end
theorem SD {a b:Bool} (h:(a && b)=true):a=true:=(Bool.and_eq_true_iff.mp h).1
theorem SE {a b:Bool} (h:(a && b)=true):b=true:=(Bool.and_eq_true_iff.mp h).2
theorem RD.rep {v:V}{d:D} (h:RD K H v d):qk d=true->EJ K H v d:=RD.rec (motive_1:=fun v d _=>qk d=true->EJ K H v d) (motive_2:=fun v d _=>noDs d=true->Reps K H v d) (motive_3:=fun _ _ _=>True) (motive_4:=fun _ _ _=>True) (fun _=>.none) (fun b _=>.bool b) (fun i _=>.int i) (fun x _=>.str x) (fun h _ r e=>.list h (r e)) (fun h _ r e=>.tuple (.of h) (r e)) (fun _ _ _ e=>wl e) (fun _ _ _ _ e=>wl e) (fun _ _ _ _ e=>wl e) (fun _=>.nil) (fun _ _ a b e=>.cons (a (SD e)) (b (SE e))) trivial (fun _ _ _ _=>trivial) trivial (fun _ _ _ _=>trivial) h
theorem RDs.length {vs:List V}:∀ {ds:List D},RDs K H vs ds->vs.length=ds.length:=by
 induction vs with
 | nil=>intro ds h;cases h;rfl
 | cons x r ih=>intro ds h;cases h with | cons a b=>exact congrArg (· + 1) (ih b)
theorem RDs.get {vs:List V}:∀ {ds:List D}{i:Nat}{v:V},RDs K H vs ds->vs[i]?=some v->∃ d,ds[i]?=some d/\RD K H v d:=by
 induction vs with
 | nil=>intro ds i v _ e;cases e
 | cons x r ih =>
  intro ds i v h e
  cases h with
  | cons a b =>
   cases i with
   | zero=>cases e;exact ⟨_,rfl,a⟩
   | succ i=>have q:=ih (i:=i) b e;exact q
theorem RDs.get' {vs:List V}:∀ {ds:List D}{i:Nat}{d:D},RDs K H vs ds->ds[i]?=some d->∃ v,vs[i]?=some v/\RD K H v d:=by
 induction vs with
 | nil=>intro ds i v h e;cases h;cases e
 | cons x r ih =>
  intro ds i v h e
  cases h with
  | cons a b =>
   cases i with
   | zero=>cases e;exact ⟨_,rfl,a⟩
   | succ i=>have q:=ih (i:=i) b e;exact q
theorem RDs.append {vs ws:List V}{es:List D}:∀ {ds:List D},RDs K H vs ds->RDs K H ws es->RDs K H (vs++ws) (ds++es):=by
 induction vs with
 | nil=>intro ds h s;cases h;exact s
 | cons x r ih=>intro ds h s;cases h with | cons a b=>exact .cons a (ih b s)
theorem RDs.drop {vs:List V}:∀ {ds:List D} (n:Nat),RDs K H vs ds->RDs K H (vs.drop n) (ds.drop n):=by
 induction vs with
 | nil=>intro ds n h;cases h;cases n<;>exact .nil
 | cons x r ih =>
  intro ds n h
  cases n with
  | zero=>exact h
  | succ n=>cases h with | cons a b=>exact ih n b
theorem RDs.take {vs:List V}:∀ {ds:List D} (n:Nat),RDs K H vs ds->RDs K H (vs.take n) (ds.take n):=by
 induction vs with
 | nil=>intro ds n h;cases h;cases n<;>exact .nil
 | cons x r ih =>
  intro ds n h
  cases n with
  | zero=>exact .nil
  | succ n=>cases h with | cons a b=>exact .cons a (ih n b)
theorem wW:∀ (ss:List Str),RDs K H (ss.map V.str) (ss.map a_)
 | []=>.nil
 | x::r=>.cons (.str x) (wW r)
theorem RD.str_inv {v:V}{x:Str} (h:RD K H v (.str x)):v=.str x:=by cases h;rfl
theorem RD.bool_inv {v:V}{x:Bool} (h:RD K H v (.bool x)):v=.bl x:=by cases h;rfl
theorem RD.int_inv {v:V}{x:Int} (h:RD K H v (.int x)):v=.int x:=by cases h;rfl
theorem wq {α:Type}{c:α->D}{k:α->V} (hc:∀ {v x},RD K H v (c x)->v=k x) {ss:List α}:∀ {vs:List V},RDs K H vs (ss.map c)->vs=ss.map k:=by
 induction ss with
 | nil=>intro vs h;cases h;rfl
 | cons x r ih=>intro vs h;cases h with | cons a b=>rw [hc a,ih b];rfl
theorem nF {ss:List Str}{vs:List V}:RDs K H vs (ss.map a_)->vs=ss.map V.str:=wq RD.str_inv
theorem yL {ss:List Bool}{vs:List V}:RDs K H vs (ss.map df)->vs=ss.map V.bl:=wq RD.bool_inv
theorem tR {ss:List Int}{vs:List V}:RDs K H vs (ss.map bB)->vs=ss.map V.int:=wq RD.int_inv
end
def nt:HO->Bool
 | .tup _=>false
 | _=>true
structure cD (H Hs H' Hs':Hp):Prop where
 all:dB H H'
 sh:dB Hs Hs'
 sub:dB Hs' H'
 out:∀ a o,H a=some o->nt o=true->Hs a=none->Hs' a=none
theorem cD.refl {H Hs:Hp} (h:dB Hs H):cD H Hs H Hs:=⟨.refl _,.refl _,h,fun _ _ _ _ e=>e⟩
theorem cD.trans {H Hs H1 Hs1 H2 Hs2:Hp} (a:cD H Hs H1 Hs1) (b:cD H1 Hs1 H2 Hs2):cD H Hs H2 Hs2 :=
 ⟨a.all.trans b.all,a.sh.trans b.sh,b.sub,fun c o e t n=>b.out c o (a.all c o e) t (a.out c o e t n)⟩
theorem cD.new {H Hs:Hp}{p:ah}{o:HO} (h:dB Hs H) (n:H p=none):cD H Hs (upd H p o) (upd Hs p o):=by
 have n':Hs p=none:=h.free n
 refine ⟨lw n,lw n',fun b u e=>?_,fun a u e t z=>?_⟩
 ·by_cases hb:b=p
  ·subst hb;rw [bj] at e ⊢;exact e
  ·rw [bg hb] at e ⊢;exact h b u e
 ·rw [bg (bR e n)];exact z
theorem cD.mine {H Hs:Hp}{p:ah}{o:HO} (h:dB Hs H) (n:H p=none):cD H Hs (upd H p o) Hs:=by
 refine ⟨lw n,.refl _,fun b u e=>?_,fun a u e t z=>z⟩
 have e':=h b u e
 rw [bg (bR e' n)];exact e'
inductive lR (K:a8) (Hs:Hp):HO->D->Prop
 | lst {vs:List V}{ds:List D}:RDs K Hs vs ds->lR K Hs (.lst vs) (.list ds)
 | dK {kvs:List (dv×V)}{ds:List (D×D)}:RDk K Hs kvs ds->lR K Hs (.dK kvs) (.dict ds)
 | dT {kvs:List (List dv×V)}{ds:List (D×D)}:kvs≠[]->RDt K Hs kvs ds->lR K Hs (.dT kvs) (.dict ds)
 | dF {o:Obj}{kvs:List (List dv×V)}{ds:List (D×D)}:kvs≠[]->RDt K Hs kvs ds->lR K Hs (.frz o (.dT kvs)) (.dict ((.none,.none)::ds))
theorem lR.same {K:a8}{Hs Hs':Hp}{o:HO}{d:D} (e:dB Hs Hs') (h:lR K Hs o d):lR K Hs' o d:=by
 cases h with
 | lst r=>exact .lst (r.same e)
 | dK r=>exact .dK (r.same e)
 | dT n r=>exact .dT n (r.same e)
 | dF n r=>exact .dF n (r.same e)
theorem lR.nt {K:a8}{Hs:Hp}{o:HO}{d:D} (h:lR K Hs o d):J.nt o=true:=by cases h<;>rfl
theorem lR.share {K:a8}{Hs:Hp}{o:HO}{d:D}{a:ah} (n:Hs a=none) (h:lR K Hs o d):RD K (upd Hs a o) (.ref a) d:=by
 have e:dB Hs (upd Hs a o):=lw n
 cases h with
 | lst r=>exact .list (.of bj) (r.same e)
 | dK r=>exact .dictK bj (r.same e)
 | dT n r=>exact .dictT bj n (r.same e)
 | dF n r=>exact .dictF bj n (r.same e)
inductive Sl where
 | no
 | shr (d:D)
 | own (d:D)
 | lck (d:D)
 | ow2 (dss:List (List D))
abbrev aw:=List Sl
inductive zC (K:a8) (H Hs:Hp):List ah->List (List D)->Prop
 | nil:zC K H Hs [] []
 | cons {a:ah}{as:List ah}{vs:List V}{ds:List D}{dss:List (List D)}:H a=some (.lst vs)->RDs K Hs vs ds->zC K H Hs as dss->zC K H Hs (a::as) (ds::dss)
theorem zC.step {K:a8}{H Hs H' Hs':Hp} (e:dB H H') (e':dB Hs Hs') {as:List ah}{dss:List (List D)} (h:zC K H Hs as dss):zC K H' Hs' as dss:=by
 induction h with
 | nil=>exact .nil
 | cons h r t ih=>exact .cons (e _ _ h) (r.same e') ih
theorem zC.upd {K:a8}{H Hs:Hp}{b:ah}{o:HO}{as:List ah}{dss:List (List D)} (n:b∉as) (h:zC K H Hs as dss):zC K (upd H b o) Hs as dss:=by
 induction h with
 | nil=>exact .nil
 | cons h r t ih=>exact .cons (by rw [bg (fun z=>n (by rw [<- z];exact am))];exact h) r (ih fun z=>n (aj _ z))
theorem zC.there {K:a8}{H Hs:Hp}{b:ah}{as:List ah}{dss:List (List D)} (h:zC K H Hs as dss) (hb:b∈as):∃ o,H b=some o/\nt o=true:=by
 induction h with
 | nil=>cases hb
 | cons h r t ih =>
  rcases List.mem_cons.mp hb with e | hb
  ·exact ⟨_,e ▸ h,rfl⟩
  ·exact ih hb
structure O2 (K:a8) (H0 H Hs:Hp) (ρ:aw) (σ:St) (i:Nat) (dss:List (List D)) (a:ah) (as:List ah):Prop where
 at_:σ[i]?=some (some (V.ref a))
 ob:H a=some (.lst (as.map V.ref))
 nd:(a::as).Nodup
 out:∀ b∈a::as,Hs b=none/\H0 b=none
 dj:∀ b∈a::as,∀ (j:Nat) (e:D),ρ[j]?=some (Sl.own e)->σ[j]?≠some (some (V.ref b))
 inn:zC K H Hs as dss
structure Fr (K:a8) (H0 Hs0:Hp) (la:Nat->Option ah) (ρ:aw) (σ:St) (H Hs:Hp):Prop where
 st:cD H0 Hs0 H Hs
 len:ρ.length=σ.length
 sh:∀ (i:Nat) (d:D),ρ[i]?=some (Sl.shr d)->∃ v,σ[i]?=some (some v)/\RD K Hs v d
 ow:∀ (i:Nat) (d:D),ρ[i]?=some (Sl.own d)->∃ a o,σ[i]?=some (some (V.ref a))/\H a=some o/\Hs a=none/\H0 a=none/\lR K Hs o d
 lk:∀ (i:Nat) (d:D),ρ[i]?=some (Sl.lck d)->∃ a o,σ[i]?=some (some (V.ref a))/\la i=some a/\H a=some o/\Hs a=none/\H0 a=some o/\lR K Hs o d
 dj:∀ (i j:Nat) (d e:D) (a:ah),ρ[i]?=some (Sl.own d)->ρ[j]?=some (Sl.own e)->σ[i]?=some (some (V.ref a))->σ[j]?=some (some (V.ref a))->i=j
 lh:∀ (i:Nat) (a:ah),la i=some a->∃ o,H0 a=some o
 o2:∀ (i:Nat) (dss:List (List D)),ρ[i]?=some (Sl.ow2 dss)->∃ a as,O2 K H0 H Hs ρ σ i dss a as
 u2:∀ (i j:Nat) (d e:List (List D)),ρ[i]?=some (Sl.ow2 d)->ρ[j]?=some (Sl.ow2 e)->i=j
theorem Fr.step {K:a8}{H0 Hs0 H Hs H' Hs':Hp}{la:Nat->Option ah}{ρ:aw}{σ:St} (f:Fr K H0 Hs0 la ρ σ H Hs) (s:cD H Hs H' Hs'):Fr K H0 Hs0 la ρ σ H' Hs':=by
 refine ⟨f.st.trans s,f.len,fun i d e=>?_,fun i d e=>?_,fun i d e=>?_,f.dj,f.lh,fun i dss e=>?_,f.u2⟩
 ·obtain ⟨v,h1,h2⟩:=f.sh i d e
  exact ⟨v,h1,h2.same s.sh⟩
 ·obtain ⟨a,o,h1,h2,h3,h4,h5⟩:=f.ow i d e
  exact ⟨a,o,h1,s.all _ _ h2,s.out _ _ h2 h5.nt h3,h4,h5.same s.sh⟩
 ·obtain ⟨a,o,h1,h2,h3,h4,h5,h6⟩:=f.lk i d e
  exact ⟨a,o,h1,h2,s.all _ _ h3,s.out _ _ h3 h6.nt h4,h5,h6.same s.sh⟩
 ·obtain ⟨a,as,h⟩:=f.o2 i dss e
  refine ⟨a,as,h.at_,s.all _ _ h.ob,h.nd,fun b hb=>⟨?_,(h.out b hb).2⟩,h.dj,h.inn.step s.all s.sh⟩
  have there:∃ o,H b=some o/\nt o=true:=by
   rcases List.mem_cons.mp hb with rfl | hb
   ·exact ⟨_,h.ob,rfl⟩
   ·exact h.inn.there hb
  obtain ⟨o,ho,hn⟩:=there
  exact s.out b o ho hn (h.out b (by assumption)).1
inductive SF (K:a8) (H Hs:Hp) (v:V) (d:D):Prop
 | mk (a:ah) (o:HO) (h0:v=.ref a) (h1:H a=some o) (h2:Hs a=none) (h3:lR K Hs o d):SF K H Hs v d
def RB (K:a8) (H Hs:Hp) (v:V) (d:D):Prop:=RD K Hs v d\/SF K H Hs v d
theorem RB.step {K:a8}{H Hs H' Hs':Hp}{v:V}{d:D} (h:RB K H Hs v d) (s:cD H Hs H' Hs'):RB K H' Hs' v d:=by
 rcases h with h | ⟨a,o,h1,h2,h3,h4⟩
 ·exact .inl (h.same s.sh)
 ·exact .inr ⟨a,o,h1,s.all _ _ h2,s.out _ _ h2 h4.nt h3,h4.same s.sh⟩
theorem RB.full {K:a8}{H Hs:Hp}{v:V}{d:D} (sub:dB Hs H) (h:RB K H Hs v d):RD K H v d:=by
 rcases h with h | ⟨a,o,rfl,h2,h3,h4⟩
 ·exact h.same sub
 ·have e:dB (upd Hs a o) H:=fun b u q=>by
   by_cases hb:b=a
   ·subst hb;rw [bj] at q;cases q;exact h2
   ·rw [bg hb] at q;exact sub b u q
  exact (h4.share h3).same e
theorem RB.list {K:a8}{H Hs:Hp}{v:V}{ds:List D} (sub:dB Hs H) (h:RB K H Hs v (.list ds)):∃ a vs,v=.ref a/\nB K H a vs/\RDs K Hs vs ds:=by
 rcases h with h | ⟨a,o,rfl,h2,h3,h4⟩
 ·cases h with | list q r=>exact ⟨_,_,rfl,sub.seq q,r⟩
 ·cases h4 with | lst r=>exact ⟨a,_,rfl,.of h2,r⟩
theorem RB.tuple {K:a8}{H Hs:Hp}{v:V}{ds:List D} (sub:dB Hs H) (h:RB K H Hs v (.tuple ds)):∃ a vs,v=.ref a/\jZ K H a vs/\RDs K Hs vs ds/\Hs a=some (.tup vs):=by
 rcases h with h | ⟨a,o,rfl,h2,h3,h4⟩
 ·cases h with | tuple q r=>exact ⟨_,_,rfl,.of (sub _ _ q),r,q⟩
 ·cases h4
theorem RB.str {K:a8}{H Hs:Hp}{v:V}{x:Str} (h:RB K H Hs v (.str x)):v=.str x:=by
 rcases h with h | ⟨a,o,rfl,h2,h3,h4⟩
 ·exact h.str_inv
 ·cases h4
theorem RB.int {K:a8}{H Hs:Hp}{v:V}{i:Int} (h:RB K H Hs v (.int i)):v=.int i:=by
 rcases h with h | ⟨a,o,rfl,h2,h3,h4⟩
 ·exact h.int_inv
 ·cases h4
theorem RB.non {K:a8}{H Hs:Hp}{v:V} (h:RB K H Hs v .none):v=.non:=by
 rcases h with h | ⟨a,o,rfl,h2,h3,h4⟩
 ·cases h;rfl
 ·cases h4
def XW (K:a8) (cls:Str->ah) (E:XK) (c:Str) (n:Option D) (H Hs:Hp):Prop:=match n with
 | none=>E (.ref (cls c)) none H
 | some d=>∀ dx v,H dx=some (.xd [("number",v)])->RD K Hs v d->E (.ref (cls c)) (some dx) H
def Fin {α:Type} (K:a8) (cls:Str->ah) (E:XK) (H Hs:Hp) (r:R α) (q:α->Prop):Prop:=match r with
 | .ok d=>q d
 | .ex c n=>∀ H' Hs',cD H Hs H' Hs'->XW K cls E c n H' Hs'
 | .no=>False
inductive VG (K:a8) (cls:Str->ah) (E:XK) (ρ:aw) (r:R D) (σ:St) (H:Hp) (Q:VK):Prop
 | mk (H0 Hs0:Hp) (la:Nat->Option ah) (Hs:Hp) (f:Fr K H0 Hs0 la ρ σ H Hs) (q:Fin K cls E H Hs r fun d=>∀ v H' Hs',cD H Hs H' Hs'->RD K Hs' v d->Q v H'):VG K cls E ρ r σ H Q
def TR (K:a8) (cls:Str->ah) (E:XK) (ρ:aw) (r:R D):TE:=VG K cls E ρ r
inductive VH (K:a8) (cls:Str->ah) (E:XK) (ρ:aw) (r:R D) (σ:St) (H:Hp) (Q:VK):Prop
 | mk (H0 Hs0:Hp) (la:Nat->Option ah) (Hs:Hp) (f:Fr K H0 Hs0 la ρ σ H Hs) (q:Fin K cls E H Hs r fun d=>∀ v H' Hs',cD H Hs H' Hs'->RB K H' Hs' v d->Q v H'):VH K cls E ρ r σ H Q
def TB (K:a8) (cls:Str->ah) (E:XK) (ρ:aw) (r:R D):TE:=VH K cls E ρ r
inductive SG (K:a8) (cls:Str->ah) (E:XK) (ρ:aw) (r:R Bool) (σ:St) (H:Hp) (Q:Bool->Hp->Prop):Prop
 | mk (H0 Hs0:Hp) (la:Nat->Option ah) (Hs:Hp) (f:Fr K H0 Hs0 la ρ σ H Hs) (q:Fin K cls E H Hs r fun b=>∀ H' Hs',cD H Hs H' Hs'->Q b H'):SG K cls E ρ r σ H Q
def EM (K:a8) (cls:Str->ah) (E:XK) (ρ:aw) (r:R Bool):TT:=SG K cls E ρ r
inductive Pc (K:a8) (H Hs:Hp):List V->List D->Prop
 | nil:Pc K H Hs [] []
 | cons {x:V}{xs:List V}{d:D}{ds:List D}:RB K H Hs x d->Pc K H Hs xs ds->Pc K H Hs (x::xs) (d::ds)
inductive SH (K:a8) (cls:Str->ah) (E:XK) (ρ:aw) (r:R (List D)) (σ:St) (H:Hp) (Q:List V->Hp->Prop):Prop
 | mk (H0 Hs0:Hp) (la:Nat->Option ah) (Hs:Hp) (f:Fr K H0 Hs0 la ρ σ H Hs) (q:Fin K cls E H Hs r fun d=>∀ v H' Hs',cD H Hs H' Hs'->RDs K Hs' v d->Q v H'):SH K cls E ρ r σ H Q
def V5 (K:a8) (cls:Str->ah) (E:XK) (ρ:aw) (r:R (List D)):TA:=SH K cls E ρ r
inductive SJ (K:a8) (cls:Str->ah) (E:XK) (ρ:aw) (r:R (List D)) (σ:St) (H:Hp) (Q:List V->Hp->Prop):Prop
 | mk (H0 Hs0:Hp) (la:Nat->Option ah) (Hs:Hp) (f:Fr K H0 Hs0 la ρ σ H Hs) (q:Fin K cls E H Hs r fun d=>∀ v H' Hs',cD H Hs H' Hs'->Pc K H' Hs' v d->Q v H'):SJ K cls E ρ r σ H Q
def Uf (K:a8) (cls:Str->ah) (E:XK) (ρ:aw) (r:R (List D)):TA:=SJ K cls E ρ r
structure C where
 X:Cx
 cls:Str->ah
 E:XK
structure JE (c:C) (e:aQ) (g:aw->R D):Prop where of ::
 run:∀ ρ,PE c.X e (TR c.X.K c.cls c.E ρ (g ρ))
instance {c:C}{e:aQ}{g:aw->R D}:CoeFun (JE c e g) (fun _=>∀ ρ,PE c.X e (TR c.X.K c.cls c.E ρ (g ρ))):=⟨JE.run⟩
structure JB (c:C) (e:aQ) (g:aw->R D):Prop where of ::
 run:∀ ρ,PE c.X e (TB c.X.K c.cls c.E ρ (g ρ))
instance {c:C}{e:aQ}{g:aw->R D}:CoeFun (JB c e g) (fun _=>∀ ρ,PE c.X e (TB c.X.K c.cls c.E ρ (g ρ))):=⟨JB.run⟩
structure JT (c:C) (e:aQ) (g:aw->R Bool):Prop where of ::
 run:∀ ρ,PT c.X e (EM c.X.K c.cls c.E ρ (g ρ))
instance {c:C}{e:aQ}{g:aw->R Bool}:CoeFun (JT c e g) (fun _=>∀ ρ,PT c.X e (EM c.X.K c.cls c.E ρ (g ρ))):=⟨JT.run⟩
structure JW (c:C) (e:aQ) (g:aw->R Bool):Prop where of ::
 run:∀ ρ,PW c.X e (EM c.X.K c.cls c.E ρ (g ρ))
instance {c:C}{e:aQ}{g:aw->R Bool}:CoeFun (JW c e g) (fun _=>∀ ρ,PW c.X e (EM c.X.K c.cls c.E ρ (g ρ))):=⟨JW.run⟩
structure G1 (c:C) (es:List aQ) (g:aw->R (List D)):Prop where of ::
 run:∀ ρ,PA c.X es (V5 c.X.K c.cls c.E ρ (g ρ))
instance {c:C}{es:List aQ}{g:aw->R (List D)}:CoeFun (G1 c es g) (fun _=>∀ ρ,PA c.X es (V5 c.X.K c.cls c.E ρ (g ρ))):=⟨G1.run⟩
structure Pd (c:C) (es:List aQ) (g:aw->R (List D)):Prop where of ::
 run:∀ ρ,PA c.X es (Uf c.X.K c.cls c.E ρ (g ρ))
instance {c:C}{es:List aQ}{g:aw->R (List D)}:CoeFun (Pd c es g) (fun _=>∀ ρ,PA c.X es (Uf c.X.K c.cls c.E ρ (g ρ))):=⟨Pd.run⟩
section
variable {c:C}{e a b:aQ}{g ga gb:aw->R D}{pos:Pos}
theorem rP {X:Cx}{e:aQ}{t t':TE} (h:PE X e t) (m:∀ σ H Q,t' σ H Q->t σ H Q):PE X e t':=fun pins s σ H Q I q=>h pins s σ H Q I (m σ H Q q)
theorem SK {X:Cx}{e:aQ}{t t':TT} (h:PT X e t) (m:∀ σ H Q,t' σ H Q->t σ H Q):PT X e t':=fun pins s σ H Q I q=>h pins s σ H Q I (m σ H Q q)
theorem VI {X:Cx}{e:aQ}{t t':TT} (h:PW X e t) (m:∀ σ H Q,t' σ H Q->t σ H Q):PW X e t':=fun wh pins s σ H Q I q=>h wh pins s σ H Q I (m σ H Q q)
theorem Ug {X:Cx}{e:List aQ}{t t':TA} (h:PA X e t) (m:∀ σ H Q,t' σ H Q->t σ H Q):PA X e t':=fun pos pins s σ H Q I q=>h pos pins s σ H Q I (m σ H Q q)
theorem wX {X:Cx}{e:cA}{t t':TS} (h:PS X e t) (m:∀ D σ H,t' D σ H->t D σ H):PS X e t':=fun pins s σ H Q I q=>h pins s σ H Q I (m Q σ H q)
theorem V6 {X:Cx}{e:List cA}{t t':TS} (h:FS X e t) (m:∀ D σ H,t' D σ H->t D σ H):FS X e t':=fun pins s σ H Q I q=>h pins s σ H Q I (m Q σ H q)
theorem JE.bor (h:JE c e g):JB c e g:=.of fun ρ=>rP (h ρ) fun σ H Q ⟨H0,Hs0,la,Hs,f,q⟩=>⟨H0,Hs0,la,Hs,f,by
 cases hr:g ρ with
 | ok d=>rw [hr] at q;exact fun v H' Hs' s r=>q v H' Hs' s (.inl r)
 | ex c n=>rw [hr] at q;exact q
 | no=>rw [hr] at q;exact q⟩
theorem one {K:a8}{cls:Str->ah}{E:XK}{ρ:aw}{r:R D}{β:Type}{k:D->R β}{σ:St}{H:Hp}{H0 Hs0 Hs:Hp}{la:Nat->Option ah}{Q:V->Hp->Prop}{q:β->Prop} (f:Fr K H0 Hs0 la ρ σ H Hs)
  (h:Fin K cls E H Hs (r.bind k) q) (m:∀ d v H' Hs',r=.ok d->cD H Hs H' Hs'->Fr K H0 Hs0 la ρ σ H' Hs'->RB K H' Hs' v d->Q v H'):TB K cls E ρ r σ H Q:=by
 refine ⟨H0,Hs0,la,Hs,f,?_⟩
 cases r with
 | ok d=>exact fun v H' Hs' s r=>m d v H' Hs' rfl s (f.step s) r
 | ex c n=>exact h
 | no=>exact h
theorem yM {K:a8}{cls:Str->ah}{E:XK}{ρ:aw}{r:R D}{β:Type}{k:D->R β}{σ:St}{H:Hp}{H0 Hs0 Hs:Hp}{la:Nat->Option ah}{Q:V->Hp->Prop}{q:β->Prop} (f:Fr K H0 Hs0 la ρ σ H Hs)
  (h:Fin K cls E H Hs (r.bind k) q) (m:∀ d v H' Hs',r=.ok d->cD H Hs H' Hs'->Fr K H0 Hs0 la ρ σ H' Hs'->RD K Hs' v d->Q v H'):TR K cls E ρ r σ H Q:=by
 refine ⟨H0,Hs0,la,Hs,f,?_⟩
 cases r with
 | ok d=>exact fun v H' Hs' s r=>m d v H' Hs' rfl s (f.step s) r
 | ex c n=>exact h
 | no=>exact h
theorem HZ {K:a8}{cls:Str->ah}{E:XK}{ρ:aw}{r:R Bool}{β:Type}{k:Bool->R β}{σ:St}{H:Hp}{H0 Hs0 Hs:Hp}{la:Nat->Option ah}{Q:Bool->Hp->Prop}{q:β->Prop} (f:Fr K H0 Hs0 la ρ σ H Hs)
  (h:Fin K cls E H Hs (r.bind k) q) (m:∀ d H' Hs',r=.ok d->cD H Hs H' Hs'->Fr K H0 Hs0 la ρ σ H' Hs'->Q d H'):EM K cls E ρ r σ H Q:=by
 refine ⟨H0,Hs0,la,Hs,f,?_⟩
 cases r with
 | ok d=>exact fun H' Hs' s=>m d H' Hs' rfl s (f.step s)
 | ex c n=>exact h
 | no=>exact h
theorem EN {K:a8}{cls:Str->ah}{E:XK}{ρ:aw}{r:R (List D)}{β:Type}{k:List D->R β}{σ:St}{H:Hp}{H0 Hs0 Hs:Hp}{la:Nat->Option ah}{Q:List V->Hp->Prop}{q:β->Prop} (f:Fr K H0 Hs0 la ρ σ H Hs)
  (h:Fin K cls E H Hs (r.bind k) q) (m:∀ d v H' Hs',r=.ok d->cD H Hs H' Hs'->Fr K H0 Hs0 la ρ σ H' Hs'->RDs K Hs' v d->Q v H'):V5 K cls E ρ r σ H Q:=by
 refine ⟨H0,Hs0,la,Hs,f,?_⟩
 cases r with
 | ok d=>exact fun v H' Hs' s r=>m d v H' Hs' rfl s (f.step s) r
 | ex c n=>exact h
 | no=>exact h
theorem Kx {K:a8}{cls:Str->ah}{E:XK}{ρ:aw}{r:R (List D)}{β:Type}{k:List D->R β}{σ:St}{H:Hp}{H0 Hs0 Hs:Hp}{la:Nat->Option ah}{Q:List V->Hp->Prop}{q:β->Prop} (f:Fr K H0 Hs0 la ρ σ H Hs)
  (h:Fin K cls E H Hs (r.bind k) q) (m:∀ d v H' Hs',r=.ok d->cD H Hs H' Hs'->Fr K H0 Hs0 la ρ σ H' Hs'->Pc K H' Hs' v d->Q v H'):Uf K cls E ρ r σ H Q:=by
 refine ⟨H0,Hs0,la,Hs,f,?_⟩
 cases r with
 | ok d=>exact fun v H' Hs' s r=>m d v H' Hs' rfl s (f.step s) r
 | ex c n=>exact h
 | no=>exact h
theorem Fin.on {α:Type}{K:a8}{cls:Str->ah}{E:XK}{H Hs H' Hs':Hp}{r:R α}{q q':α->Prop} (h:Fin K cls E H Hs r q) (s:cD H Hs H' Hs') (m:∀ a,q a->q' a):Fin K cls E H' Hs' r q':=by
 cases r with
 | ok a=>exact m a h
 | ex c n=>exact fun H2 Hs2 s2=>h H2 Hs2 (s.trans s2)
 | no=>exact h
end
end
section
def E4 (ρ:aw) (i:Nat):R D:=match ρ[i]? with
 | some (Sl.shr d)=>.ok d
 | _=>.no
def E5 (ρ:aw) (i:Nat):R D:=match ρ[i]? with
 | some (Sl.shr d)=>.ok d
 | some (Sl.own d)=>.ok d
 | some (Sl.lck d)=>.ok d
 | _=>.no
section
variable {c:C}{e a b:aQ}{g ga gb:aw->R D}{pos:Pos}
theorem ak (i:Nat) {x:Str} (hN:c.X.N[i]?=some x:=by rfl) (hv:JJ c.X.env.scope x:=by first | exact gj rfl | exact dQ (gj rfl) | exact dQ (dQ rfl)) (hd:(x == ("__debug__" : Str))=false:=by decide)
  (hcd:(x == ("__classdict__" : Str))=false:=by decide):JE c (.Name x pos) (fun ρ=>E4 ρ i):=.of fun ρ=>rP (nA hN hv hd hcd) fun σ H Q h_0=>by
 obtain ⟨H0,Hs0,la,Hs,f,q⟩:=h_0
 cases hr:ρ[i]? with
 | none=>simp only [E4,hr] at q;exact q.elim
 | some s =>
  cases s with
  | shr d =>
   obtain ⟨v,h1,h2⟩:=f.sh i d hr
   simp only [E4,hr] at q
   exact ⟨v,h1,q v H Hs (.refl f.st.sub) h2⟩
  | no=>simp only [E4,hr] at q;exact q.elim
  | own d=>simp only [E4,hr] at q;exact q.elim
  | lck d=>simp only [E4,hr] at q;exact q.elim
  | ow2 d=>simp only [E4,hr] at q;exact q.elim
theorem ai (i:Nat) {x:Str} (hN:c.X.N[i]?=some x:=by rfl) (hv:JJ c.X.env.scope x:=by first | exact gj rfl | exact dQ (gj rfl) | exact dQ (dQ rfl)) (hd:(x == ("__debug__" : Str))=false:=by decide)
  (hcd:(x == ("__classdict__" : Str))=false:=by decide):JB c (.Name x pos) (fun ρ=>E5 ρ i):=.of fun ρ=>rP (nA hN hv hd hcd) fun σ H Q h_1=>by
 obtain ⟨H0,Hs0,la,Hs,f,q⟩:=h_1
 cases hr:ρ[i]? with
 | none=>simp only [E5,hr] at q;exact q.elim
 | some s =>
  cases s with
  | shr d =>
   obtain ⟨v,h1,h2⟩:=f.sh i d hr
   simp only [E5,hr] at q
   exact ⟨v,h1,q v H Hs (.refl f.st.sub) (.inl h2)⟩
  | no=>simp only [E5,hr] at q;exact q.elim
  | own d =>
   obtain ⟨a,o,h1,h2,h3,h4,h5⟩:=f.ow i d hr
   simp only [E5,hr] at q
   exact ⟨_,h1,q _ H Hs (.refl f.st.sub) (.inr ⟨a,o,rfl,h2,h3,h5⟩)⟩
  | lck d =>
   obtain ⟨a,o,h1,h2,h3,h4,h5,h6⟩:=f.lk i d hr
   simp only [E5,hr] at q
   exact ⟨_,h1,q _ H Hs (.refl f.st.sub) (.inr ⟨a,o,rfl,h3,h4,h6⟩)⟩
  | ow2 d=>simp only [E5,hr] at q;exact q.elim
theorem pz {v:V}{d:D} (h:PE c.X e (tC v)) (r:∀ Hs,RD c.X.K Hs v d):JE c e (fun _=>.ok d):=.of fun ρ=>rP h fun σ H Q h_2=>by obtain ⟨H0,Hs0,la,Hs,f,q⟩:=h_2;exact q v H Hs (.refl f.st.sub) (r Hs)
theorem aD {i:Int}{j:Nat}:JE c (.Constant (.int i) j pos) (fun _=>.ok (.int i)):=pz Qa fun _=>.int i
theorem oC {i:Bool}{j:Nat}:JE c (.Constant (.bool i) j pos) (fun _=>.ok (.bool i)):=pz R_ fun _=>.bool i
theorem wY {j:Nat}:JE c (.Constant .none j pos) (fun _=>.ok .none):=pz Qb fun _=>.none
theorem rQ {i:Str}{j:Nat}:JE c (.Constant (.str i) j pos) (fun _=>.ok (.str i)):=pz Qc fun _=>.str i
theorem tS {x:Str}{i:Int} (hg:Gl c.X x) (hm:∃ t,c.X.mg x=some (.int i t)) (hd:(x == ("__debug__" : Str))=false:=by decide):JE c (.Name x pos) (fun _=>.ok (.int i)):=by
 obtain ⟨t,hm⟩:=hm
 exact pz (Nt hg hm (v:=.int i) ⟨t,rfl⟩ hd) fun _=>.int i
inductive VJ (K:a8) (h:D->D->R D) (x:V) (y:V) (H:Hp) (Q:VK):Prop
 | mk (Hs dx dy:_) (h0:dB Hs H) (h1:RB K H Hs x dx) (h2:RB K H Hs y dy) (h3:∃ d,h dx dy=.ok d/\∀ v H' Hs',cD H Hs H' Hs'->RD K Hs' v d->Q v H'):VJ K h x y H Q
def rD (K:a8) (h:D->D->R D):R2:=VJ K h
def vT (X:Cx) (f:a9->a9->Sem a9) (h:D->D->R D):Prop:=oX X f (rD X.K h)/\∀ x y c n,h x y≠.ex c n
def g2 (ga gb:aw->R D) (h:D->D->R D):aw->R D:=fun ρ=>(ga ρ).bind fun x=>(gb ρ).bind fun y=>h x y
theorem two {K:a8}{cls:Str->ah}{E:XK}{h:D->D->R D}{ρ:aw}{σ:St}{H:Hp}{Q:VK} (hx:∀ x y c n,h x y≠.ex c n) (q:TR K cls E ρ (g2 ga gb h ρ) σ H Q):Sc (rD K h) (TB K cls E ρ (ga ρ)) (TB K cls E ρ (gb ρ)) σ H Q:=by
 obtain ⟨H0,Hs0,la,Hs,f,q⟩:=q
 refine one f q fun x v H1 Hs1 e1 s1 f1 r1=>?_
 unfold g2 at q
 rw [e1,bind_ok] at q
 refine one f1 (q.on s1 (q':=fun _=>True) fun _ _=>trivial) fun y u H2 Hs2 e2 s2 f2 r2=>?_
 rw [e2,bind_ok] at q
 cases hr:h x y with
 | ok d =>
  rw [hr] at q
  exact ⟨Hs2,x,y,f2.st.sub,r1.step s2,r2,d,hr,fun w H3 Hs3 s3 r3=>q w H3 Hs3 (s1.trans (s2.trans s3)) r3⟩
 | ex c n=>exact (hx x y c n hr).elim
 | no=>rw [hr] at q;exact q.elim
theorem bW {op:MS}{h:D->D->R D} (ho:vT c.X (fN op) h) (ha:JB c a ga) (hb:JB c b gb):JE c (.BinOp a op b pos) (g2 ga gb h):=.of fun ρ=>rP (OY ho.1 (ha ρ) (hb ρ)) fun σ H Q q=>two ho.2 q
theorem lz {op:v_}{h:D->D->R D} (ho:vT c.X (bH op) h) (ha:JB c a ga) (hb:JB c b gb) (hm:gn op b=false:=by first | exact JX _ | rfl):JE c (.Compare a [op] [b] pos) (g2 ga gb h):=.of fun ρ=>rP (NA ho.1 (ha ρ) (hb ρ) hm) fun σ H Q q=>two ho.2 q
def fL (g:aw->R D):aw->R Bool:=fun ρ=>(g ρ).bind fun d=>match d with
 | .bool b=>.ok b
 | _=>.no
theorem RP {K:a8}{cls:Str->ah}{E:XK}{ρ:aw}{σ:St}{H:Hp}{Q:Bool->Hp->Prop} (q:EM K cls E ρ (fL g ρ) σ H Q):TR K cls E ρ (g ρ) σ H fun x H'=>∃ k,x=.bl k/\Q k H':=by
 obtain ⟨H0,Hs0,la,Hs,f,q⟩:=q
 refine yM f q fun d v H1 Hs1 e1 s1 f1 r1=>?_
 unfold fL at q
 rw [e1,bind_ok] at q
 cases r1 with
 | bool b=>exact ⟨b,rfl,q H1 Hs1 s1⟩
 | _=>exact q.elim
theorem dI {op:v_}{h:D->D->R D} (ho:vT c.X (bH op) h) (ha:JB c a ga) (hb:JB c b gb) (hm:gn op b=false:=by first | exact JX _ | rfl):JT c (.Compare a [op] [b] pos) (fL (g2 ga gb h)):=.of fun ρ=>SK (NB ho.1 (ha ρ) (hb ρ) hm) fun σ H Q q=>two ho.2 (RP q)
theorem fv (h:JE c e g) (he:∀ whole,rm e c.X.env whole=(do let v <- whole;vb e.pos;DX [v] (truthy v)):=by intro _;rfl):JT c e (fL g):=.of fun ρ=>SK (Qd (h ρ) he) fun σ H Q q=>RP q
def mI (g:aw->R Bool):aw->R Bool:=fun ρ=>(g ρ).bind fun b=>.ok (!b)
def AD (g h:aw->R Bool):aw->R Bool:=fun ρ=>(g ρ).bind fun b=>if b then h ρ else .ok false
def Jh (g h:aw->R Bool):aw->R Bool:=fun ρ=>(g ρ).bind fun b=>if b then .ok true else h ρ
variable {gt gu:aw->R Bool}{bG:List aQ}
theorem gT (h:JT c e gt):JT c (.UnaryOp .Not e pos) (mI gt):=.of fun ρ=>SK (Qg (h ρ)) fun σ H Q q=>by
 obtain ⟨H0,Hs0,la,Hs,f,q⟩:=q
 refine HZ f q fun d H1 Hs1 e1 s1 f1=>?_
 unfold mI at q
 rw [e1,bind_ok] at q
 exact q H1 Hs1 s1
theorem wt (h:JT c a gt):JW c (.BoolOp .And [a] pos) gt:=.of fun ρ=>Nv (h ρ)
theorem nG (h:JT c a gt):JW c (.BoolOp .Or [a] pos) gt:=.of fun ρ=>Qe (h ρ)
theorem AE (h:JT c a gt) (h2:JW c (.BoolOp .And (b::bG) pos) gu):JW c (.BoolOp .And (a::b::bG) pos) (AD gt gu):=.of fun ρ=>VI (Qf (h ρ) (h2 ρ)) fun σ H Q q=>by
 obtain ⟨H0,Hs0,la,Hs,f,q⟩:=q
 refine HZ f q fun d H1 Hs1 e1 s1 f1=>?_
 unfold AD at q
 rw [e1,bind_ok] at q
 cases d with
 | true=>exact yE ⟨H0,Hs0,la,Hs1,f1,q.on s1 fun b k H2 Hs2 s2=>k H2 Hs2 (s1.trans s2)⟩
 | false=>exact yD (q H1 Hs1 s1)
theorem tT (h:JT c a gt) (h2:JW c (.BoolOp .Or (b::bG) pos) gu):JW c (.BoolOp .Or (a::b::bG) pos) (Jh gt gu):=.of fun ρ=>VI (S0 (h ρ) (h2 ρ)) fun σ H Q q=>by
 obtain ⟨H0,Hs0,la,Hs,f,q⟩:=q
 refine HZ f q fun d H1 Hs1 e1 s1 f1=>?_
 unfold Jh at q
 rw [e1,bind_ok] at q
 cases d with
 | false=>exact yD ⟨H0,Hs0,la,Hs1,f1,q.on s1 fun b k H2 Hs2 s2=>k H2 Hs2 (s1.trans s2)⟩
 | true=>exact yE (q H1 Hs1 s1)
theorem JW.t (h:JW c e gt):JT c e gt:=.of fun ρ=>(h ρ).pt
def Ci (g:aw->R D):aw->R D:=fun ρ=>(fL g ρ).bind fun b=>.ok (.bool (!b))
theorem Ky (h:JE c e g):JE c (.UnaryOp .Not e pos) (Ci g):=.of fun ρ=>rP (Qj (h ρ)) fun σ H Q q=>by
 refine RP ?_
 obtain ⟨H0,Hs0,la,Hs,f,q⟩:=q
 refine HZ f q fun d H1 Hs1 e1 s1 f1=>?_
 unfold Ci at q
 rw [e1,bind_ok] at q
 exact q _ H1 Hs1 s1 (.bool _)
def r9 (g h:aw->R D):aw->R D:=fun ρ=>(fL g ρ).bind fun b=>if b then h ρ else .ok (.bool false)
def O0 (g h:aw->R D):aw->R D:=fun ρ=>(fL g ρ).bind fun b=>if b then .ok (.bool true) else h ρ
theorem rR {op:BoolOp} (h:JE c a g):JE c (.BoolOp op [a] pos) g:=.of fun ρ=>Qh (h ρ)
theorem rT (h:JE c a ga) (h2:JE c (.BoolOp .And (b::bG) pos) gb):JE c (.BoolOp .And (a::b::bG) pos) (r9 ga gb):=.of fun ρ=>rP (Qi (h ρ) (h2 ρ)) fun σ H Q q=>by
 refine RP ?_
 obtain ⟨H0,Hs0,la,Hs,f,q⟩:=q
 refine HZ f q fun d H1 Hs1 e1 s1 f1=>?_
 unfold r9 at q
 rw [e1,bind_ok] at q
 cases d with
 | true=>exact yE ⟨H0,Hs0,la,Hs1,f1,q.on s1 fun b k v H2 Hs2 s2 r2=>k v H2 Hs2 (s1.trans s2) r2⟩
 | false=>exact yD (q _ H1 Hs1 s1 (.bool _))
theorem SL (h:JE c a ga) (h2:JE c (.BoolOp .Or (b::bG) pos) gb):JE c (.BoolOp .Or (a::b::bG) pos) (O0 ga gb):=.of fun ρ=>rP (S3 (h ρ) (h2 ρ)) fun σ H Q q=>by
 refine RP ?_
 obtain ⟨H0,Hs0,la,Hs,f,q⟩:=q
 refine HZ f q fun d H1 Hs1 e1 s1 f1=>?_
 unfold O0 at q
 rw [e1,bind_ok] at q
 cases d with
 | false=>exact yD ⟨H0,Hs0,la,Hs1,f1,q.on s1 fun b k v H2 Hs2 s2 r2=>k v H2 Hs2 (s1.trans s2) r2⟩
 | true=>exact yE (q _ H1 Hs1 s1 (.bool _))
def pA (ga gb gc:aw->R D) (h h':D->D->R D):aw->R D:=fun ρ=>(ga ρ).bind fun x=>(gb ρ).bind fun y=>(h x y).bind fun z=>match z with
 | .bool true=>(gc ρ).bind fun w=>h' y w
 | .bool false=>.ok (.bool false)
 | _=>.no
variable {es:List aQ}{gs:aw->R (List D)}
def ag (g:aw->R D) (gs:aw->R (List D)):aw->R (List D):=fun ρ=>(g ρ).bind fun d=>(gs ρ).bind fun ds=>.ok (d::ds)
def aM:aw->R (List D):=fun _=>.ok []
theorem aJ:G1 c [] aM:=.of fun ρ=>Ug jC fun σ H Q h_3=>by obtain ⟨H0,Hs0,la,Hs,f,q⟩:=h_3;exact q [] H Hs (.refl f.st.sub) .nil
theorem c6:Pd c [] aM:=.of fun ρ=>Ug jC fun σ H Q h_4=>by obtain ⟨H0,Hs0,la,Hs,f,q⟩:=h_4;exact q [] H Hs (.refl f.st.sub) .nil
theorem af (h:JE c e g) (hr:G1 c es gs) (hs:aK (e::es) c.X.env=(false,dU e c.X.env)::aK es c.X.env:=by rfl):G1 c (e::es) (ag g gs):=.of fun ρ=>Ug (im (h ρ) (hr ρ) hs) fun σ H Q h_5=>by
 obtain ⟨H0,Hs0,la,Hs,f,q⟩:=h_5
 refine yM f q fun d v H1 Hs1 e1 s1 f1 r1=>?_
 unfold ag at q
 rw [e1,bind_ok] at q
 refine EN f1 (q.on s1 (q':=fun _=>True) fun _ _=>trivial) fun ds vs H2 Hs2 e2 s2 f2 r2=>?_
 rw [e2,bind_ok] at q
 exact q _ H2 Hs2 (s1.trans s2) (.cons (r1.same s2.sh) r2)
theorem bz (h:JB c e g) (hr:Pd c es gs) (hs:aK (e::es) c.X.env=(false,dU e c.X.env)::aK es c.X.env:=by rfl):Pd c (e::es) (ag g gs):=.of fun ρ=>Ug (im (h ρ) (hr ρ) hs) fun σ H Q h_6=>by
 obtain ⟨H0,Hs0,la,Hs,f,q⟩:=h_6
 refine one f q fun d v H1 Hs1 e1 s1 f1 r1=>?_
 unfold ag at q
 rw [e1,bind_ok] at q
 refine Kx f1 (q.on s1 (q':=fun _=>True) fun _ _=>trivial) fun ds vs H2 Hs2 e2 s2 f2 r2=>?_
 rw [e2,bind_ok] at q
 exact q _ H2 Hs2 (s1.trans s2) (.cons (r1.step s2) r2)
def eJ (gs:aw->R (List D)) (k:List D->D):aw->R D:=fun ρ=>(gs ρ).bind fun ds=>if ds.length<=1000 then .ok (k ds) else .no
theorem mJ {x1} (h:G1 c es gs):JE c (.Tuple es x1 pos) (eJ gs .tuple):=.of fun ρ=>rP (QB (h ρ)) fun σ H Q h_7=>by
 obtain ⟨H0,Hs0,la,Hs,f,q⟩:=h_7
 refine EN f q fun ds vs H1 Hs1 e1 s1 f1 r1=>?_
 unfold eJ at q
 rw [e1,bind_ok] at q
 by_cases hl:ds.length<=1000
 ·rw [if_pos hl] at q
  refine ⟨cp (dg (by rw [r1.length];exact hl)),fun p hp=>q _ _ _ (s1.trans (.new f1.st.sub hp)) (.tuple bj (r1.same (cD.new f1.st.sub hp).sh))⟩
 ·rw [if_neg hl] at q;exact q.elim
theorem kn (h:G1 c es gs):JE c (.List es pos) (eJ gs .list):=.of fun ρ=>rP (rK (h ρ)) fun σ H Q h_8=>by
 obtain ⟨H0,Hs0,la,Hs,f,q⟩:=h_8
 refine EN f q fun ds vs H1 Hs1 e1 s1 f1 r1=>?_
 unfold eJ at q
 rw [e1,bind_ok] at q
 by_cases hl:ds.length<=1000
 ·rw [if_pos hl] at q
  refine ⟨cp (dg (by rw [r1.length];exact hl)),fun p hp=>q _ _ _ (s1.trans (.new f1.st.sub hp)) (.list (.of bj) (r1.same (cD.new f1.st.sub hp).sh))⟩
 ·rw [if_neg hl] at q;exact q.elim
end
end
end J
namespace J
open PySem PySem.Spec PyProof.Rows L2
section
section
variable {X:Cx}
def dH:D->D->R D
 | .int i,.int j=>.ok (.int (i + j))
 | .str x,.str y=>if x.length + y.length<=1000 then .ok (.str (x++y)) else .no
 | .tuple xs,.tuple ys=>if xs.length + ys.length<=1000 then .ok (.tuple (xs++ys)) else .no
 | .list xs,.list ys=>if xs.length + ys.length<=1000 then .ok (.list (xs++ys)) else .no
 | _,_=>.no
inductive Kz (K:a8) (x:V) (y:V) (H:Hp) (Q:VK):Prop
 | mk (l b xs zs:_) (h0:x=.ref l) (h1:y=.ref b) (h2:nB K H l xs) (h3:nB K H b zs) (h4:xs.length + zs.length<=sizeLine) (h5:∀ p,H p=none->Q (.ref p) (upd H p (.lst (xs++zs)))):Kz K x y H Q
def SM (K:a8):R2:=Kz K
theorem O1:oX X (fN .Add) (SM X.K):=by
 intro pins s σ H x y v u Q I rx ry h
 obtain ⟨l,b,xs,zs,rfl,rfl,h1,h2,hz,q⟩:=h
 cases rx;cases ry
 obtain ⟨its,r,⟨o,n,e,c1,c2,c3⟩,z⟩:=I.list h1
 obtain ⟨its2,r2,⟨o2,n2,e2,d1,d2,d3⟩,z2⟩:=I.list h2
 obtain ⟨k1,k2,k3,k4⟩:=o
 obtain ⟨m1,m2,m3,m4⟩:=o2
 simp only at c1 c2 c3 d1 d2 d3
 subst c1 c2 c3 d1 d2 d3
 refine yr ⟨_,e,rfl⟩ ⟨_,e2,rfl⟩ noFill_list_add seq_list_add PySem.F.slot_list_add PySem.F.entry_list_add (PySem.F.args_list_add_2 _ _) (PyProof.Rows.list_addW l b _ _ n n2 _ _ k4 m4 (by rw [aR,aR,<- r.length,<- r2.length];exact hz)) ⟨e,e2,?_⟩
 have ea:its.toArray++its2.toArray=(its++its2).toArray:=by simp
 rw [ea]
 exact ⟨.ref _,_,I.lnew (t':=s.toks) (r.append r2) (by rw [aN];omega),rfl,q _ I.fresh⟩
inductive KA (K:a8) (x:V) (y:V) (H:Hp) (Q:VK):Prop
 | mk (a b ys:_) (h0:x=.ref a) (h1:y=.ref b) (h2:jZ K H a []) (h3:jZ K H b ys) (h4:Q (.ref b) H):KA K x y H Q
def SO (K:a8):R2:=KA K
theorem O3:oX X (fN .Add) (SO X.K):=by
 intro pins s σ H x y v u Q I rx ry h
 obtain ⟨a,b,ys,rfl,rfl,h1,h2,q⟩:=h
 cases rx;cases ry
 obtain ⟨its,r,⟨⟨k1,k2,k3,k4⟩,e,c1,n,c3⟩,z⟩:=I.tuple h1
 obtain ⟨its2,r2,⟨⟨m1,m2,m3,m4⟩,e2,d1,n2,d3⟩,z2⟩:=I.tuple h2
 simp only at c1 c3 d1 d3
 subst c1 c3 d1 d3
 cases r
 exact yr ⟨_,e,rfl⟩ ⟨_,e2,rfl⟩ Ad Hk nw mT (mD _ _)
  (PyProof.Rows.tuple_addW0 a b _ _ n n2 _ _ k4 m4 rfl) ⟨e,e2,⟨.ref b,H,I,rfl,q⟩⟩
theorem cC:vT X (fN .Add) dH:=by
 refine ⟨fun pins s σ H x y v u Q I rv ru ⟨Hs,dx,dy,sub,rx,ry,d,hd,q⟩=>?_,fun x y c n=>?_⟩
 ·unfold dH at hd
  split at hd
  ·cases hd
   exact Qt pins s σ H x y v u Q I rv ru ⟨_,_,rx.int,ry.int,q _ H Hs (.refl sub) (.int _)⟩
  ·split at hd
   ·rename_i hz
    cases hd
    exact Ey pins s σ H x y v u Q I rv ru ⟨_,_,rx.str,ry.str,cp (dg hz),q _ H Hs (.refl sub) (.str _)⟩
   ·cases hd
  ·split at hd
   ·rename_i xs ys hz
    cases hd
    obtain ⟨a,vs,rfl,qa,ra,_⟩:=rx.tuple sub
    obtain ⟨b,ws,rfl,qb,rb,_⟩:=ry.tuple sub
    have hz':vs.length + ws.length<=sizeLine:=by rw [ra.length,rb.length];exact cp (dg hz)
    have big:∀ p,H p=none->Q (.ref p) (upd H p (.tup (vs++ws))):=fun p hp=>q _ _ _ (.new sub hp) (.tuple bj ((ra.append rb).same (cD.new sub hp).sh))
    cases vs with
    | nil =>
     cases ra
     refine O3 pins s σ H _ _ v u Q I rv ru ⟨a,b,ws,rfl,rfl,qa,qb,?_⟩
     rcases ry with ry | ⟨_,_,_,_,_,ow⟩
     ·exact q _ H Hs (.refl sub) (by simpa using ry)
     ·cases ow
    | cons v0 vr =>
     refine NJ pins s σ H _ _ v u Q I rv ru ⟨a,b,_,ws,rfl,rfl,qa,qb,by simp,hz',fun e=>?_,fun _=>big⟩
     subst e
     cases rb
     rcases rx with rx | ⟨_,_,_,_,_,ow⟩
     ·exact q _ H Hs (.refl sub) (by simpa using rx)
     ·cases ow
   ·cases hd
  ·split at hd
   ·rename_i xs ys hz
    cases hd
    obtain ⟨a,vs,rfl,qa,ra⟩:=rx.list sub
    obtain ⟨b,ws,rfl,qb,rb⟩:=ry.list sub
    have hz':vs.length + ws.length<=sizeLine:=by rw [ra.length,rb.length];exact cp (dg hz)
    exact O1 pins s σ H _ _ v u Q I rv ru ⟨a,b,vs,ws,rfl,rfl,qa,qb,hz',fun p hp=>q _ _ _ (.new sub hp) (.list (.of bj) ((ra.append rb).same (cD.new sub hp).sh))⟩
   ·cases hd
  ·cases hd
 ·unfold dH
  split<;>(try split)<;>exact fun h=>by cases h
def EO (C:Int->Int->Bool) (k:Int->Int->D):D->D->R D
 | .int i,.int j=>if C i j then .ok (k i j) else .no
 | _,_=>.no
theorem EQ {f:a9->a9->Sem a9}{C:Int->Int->Bool}{P:Int->Int->Prop}{k:Int->Int->D}{kv:Int->Int->V} (h:oX X f (rI P kv)) (hC:∀ i j,C i j=true->P i j) (hk:∀ Hs i j,RD X.K Hs (kv i j) (k i j)):vT X f (EO C k):=by
 refine ⟨fun pins s σ H x y v u Q I rv ru ⟨Hs,dx,dy,sub,rx,ry,d,hd,q⟩=>?_,fun x y c n=>?_⟩
 ·unfold EO at hd
  split at hd
  ·split at hd
   ·rename_i hc
    cases hd
    exact h pins s σ H x y v u Q I rv ru ⟨_,_,rx.int,ry.int,hC _ _ hc,q _ H Hs (.refl sub) (hk _ _ _)⟩
   ·cases hd
  ·cases hd
 ·unfold EO
  split<;>(try split)<;>exact fun h=>by cases h
def zD (i j:Int):Bool:=(decide (-(2 ^ 64)<i) && decide (i<2 ^ 64)) || (decide (-(2 ^ 64)<j) && decide (j<2 ^ 64))
def vU:=EO zD fun i j=>.int (i * j)
def H_:=EO (fun _ j=>decide (0<j)) fun i j=>.int (i % j)
def KB:=EO (fun _ j=>decide (0<j) && decide (j<1073741824)) fun i j=>.int (i / j)
theorem pB:vT X (fN .Mult) vU:=EQ Qu (fun i j h=>by
 unfold zD at h
 simp only [j5,aO,decide_eq_true_eq] at h
 exact h) fun _ _ _=>.int _
theorem AF:vT X (fN .Mod) H_:=EQ Qv (fun i j h=>of_decide_eq_true h) fun _ _ _=>.int _
theorem O4:vT X (fN .FloorDiv) KB:=EQ Ny (fun i j h=>by
 simp only [aO,decide_eq_true_eq] at h
 exact h) fun _ _ _=>.int _
def oO (neg:Bool) (x y:D):R D:=if x.canLay0 && y.canLay0 && decide (min x.depth y.depth<=60) then .ok (.bool (if neg then !aZ x y else aZ x y)) else .no
mutual
theorem AG:∀ d:D,d.canLay0=true->qk d=true
 | .none,_=>rfl
 | .bool _,_=>rfl
 | .int _,_=>rfl
 | .str _,_=>rfl
 | .list xs,h=>by
  simp only [ii] at h
  simp only [qk]
  exact lays_noD xs h
 | .tuple xs,h=>by
  simp only [ii] at h
  simp only [qk]
  exact lays_noD xs h
 | .dict _,h=>by simp [ii] at h
theorem lays_noD:∀ d:List D,cL d=true->noDs d=true
 | [],_=>rfl
 | x::r,h=>by
  simp only [cL,aO] at h
  simp only [noDs,aO]
  exact ⟨AG x h.1,lays_noD r h.2⟩
end
theorem KC {neg:Bool}{f:a9->a9->Sem a9} (h:oX X f (QQ X.K neg)):vT X f (oO neg):=by
 refine ⟨fun pins s σ H x y v u Q I rv ru ⟨Hs,dx,dy,sub,rx,ry,d,hd,q⟩=>?_,fun x y c n=>?_⟩
 ·unfold oO at hd
  split at hd
  ·rename_i hc
   simp only [aO,decide_eq_true_eq] at hc
   cases hd
   exact h pins s σ H x y v u Q I rv ru ⟨dx,dy,(rx.full sub).rep (AG _ hc.1.1),(ry.full sub).rep (AG _ hc.1.2),hc.1.1,hc.1.2,hc.2,q _ H Hs (.refl sub) (.bool _)⟩
  ·cases hd
 ·unfold oO
  split<;>exact fun h=>by cases h
theorem pC (hu:X.A.units + 64<iE):vT X (bH .Eq) (oO false):=KC (QR hu)
theorem Cj (hu:X.A.units + 64<iE):vT X (bH .NotEq) (oO true):=KC (QS hu)
def Ic (k:Int->Int->Bool) (t:Str->Str->Bool):D->D->R D
 | .int i,.int j=>.ok (.bool (k i j))
 | .str x,.str y=>.ok (.bool (t x y))
 | _,_=>.no
theorem KD {f:a9->a9->Sem a9}{k:Int->Int->Bool}{t:Str->Str->Bool} (h1:oX X f (Qp fun i j=>.bl (k i j))) (h2:oX X f (fun x y H Q=>∃ i j,x=.str i/\y=.str j/\Q (.bl (t i j)) H)):vT X f (Ic k t):=by
 refine ⟨fun pins s σ H x y v u Q I rv ru ⟨Hs,dx,dy,sub,rx,ry,d,hd,q⟩=>?_,fun x y c n=>?_⟩
 ·unfold Ic at hd
  split at hd
  ·cases hd
   exact h1 pins s σ H x y v u Q I rv ru ⟨_,_,rx.int,ry.int,q _ H Hs (.refl sub) (.bool _)⟩
  ·cases hd
   exact h2 pins s σ H x y v u Q I rv ru ⟨_,_,rx.str,ry.str,q _ H Hs (.refl sub) (.bool _)⟩
  ·cases hd
 ·unfold Ic
  split<;>exact fun h=>by cases h
def yN:=Ic (fun i j=>decide (i<j)) oB
def Pe:=Ic (fun i j=>decide (i<=j)) fun x y=>!oB y x
def Pf:D->D->R D
 | .int i,.int j=>.ok (.bool (decide (j<i)))
 | _,_=>.no
theorem wZ:vT X (bH .Lt) yN:=KD Se HG
theorem zE:vT X (bH .LtE) Pe:=KD Sf HV
theorem G3:vT X (bH .Gt) Pf:=by
 refine ⟨fun pins s σ H x y v u Q I rv ru ⟨Hs,dx,dy,sub,rx,ry,d,hd,q⟩=>?_,fun x y c n=>?_⟩
 ·unfold Pf at hd
  split at hd
  ·cases hd
   exact Sg pins s σ H x y v u Q I rv ru ⟨_,_,rx.int,ry.int,q _ H Hs (.refl sub) (.bool _)⟩
  ·cases hd
 ·unfold Pf
  split<;>exact fun h=>by cases h
def ES:D->Bool
 | .none=>true
 | _=>false
def G4 (neg:Bool):D->D->R D
 | x,.none=>.ok (.bool (if neg then !ES x else ES x))
 | _,_=>.no
theorem G5 {K:a8}{H Hs:Hp}{v:V}{d:D} (h:RB K H Hs v d):decide (v=.non)=ES d:=by
 rcases h with h | ⟨a,o,rfl,_,_,h⟩
 ·cases h<;>rfl
 ·cases h<;>rfl
theorem SQ:vT X (bH .Is) (G4 false):=by
 refine ⟨fun pins s σ H x y v u Q I rv ru ⟨Hs,dx,dy,sub,rx,ry,d,hd,q⟩=>?_,fun x y c n=>?_⟩
 ·unfold G4 at hd
  split at hd
  ·cases hd
   exact Qw pins s σ H x y v u Q I rv ru ⟨ry.non,by rw [G5 rx];exact q _ H Hs (.refl sub) (.bool _)⟩
  ·cases hd
 ·unfold G4
  split<;>exact fun h=>by cases h
theorem Ck:vT X (bH .IsNot) (G4 true):=by
 refine ⟨fun pins s σ H x y v u Q I rv ru ⟨Hs,dx,dy,sub,rx,ry,d,hd,q⟩=>?_,fun x y c n=>?_⟩
 ·unfold G4 at hd
  split at hd
  ·cases hd
   exact Nz pins s σ H x y v u Q I rv ru ⟨ry.non,by rw [G5 rx];exact q _ H Hs (.refl sub) (.bool _)⟩
  ·cases hd
 ·unfold G4
  split<;>exact fun h=>by cases h
def kA:D->Bool
 | .none=>true
 | .bool _=>true
 | .int _=>true
 | .str _=>true
 | _=>false
def Cm (neg:Bool):D->D->R D
 | x,.list ys=>if kA x && ys.all kA then .ok (.bool (if neg then !(ys.any fun y=>aZ y x) else ys.any fun y=>aZ y x)) else .no
 | x,.tuple ys=>if kA x && ys.all kA then .ok (.bool (if neg then !(ys.any fun y=>aZ y x) else ys.any fun y=>aZ y x)) else .no
 | _,_=>.no
theorem G6 {K:a8}{H:Hp}{v:V}{d:D} (h:RD K H v d) (f:kA d=true):pi v=true:=by
 cases h<;>first | rfl | cases f
theorem Co {K:a8}{H Hs:Hp}{v:V}{d:D} (h:RB K H Hs v d) (f:kA d=true):pi v=true:=by
 rcases h with h | ⟨a,o,rfl,_,_,h⟩
 ·exact G6 h f
 ·cases h<;>cases f
theorem Cp {K:a8}{H:Hp}{vs:List V}:∀ {ds:List D},RDs K H vs ds->ds.all kA=true->vs.all pi=true:=by
 induction vs with
 | nil=>intro ds _ _;rfl
 | cons x r ih =>
  intro ds h f
  cases h with
  | cons h t =>
   rw [sY,aO] at f ⊢
   exact ⟨G6 h f.1,ih t f.2⟩
theorem QT {K:a8}{H H2 Hs:Hp}{v u:V}{d e:D} (h:RD K H v d) (h2:RB K H2 Hs u e) (f:kA d=true) (f2:kA e=true):NM v u=aZ d e:=by
 have h2':RD K Hs u e:=by
  rcases h2 with h2 | ⟨a,o,rfl,_,_,h2⟩
  ·exact h2
  ·cases h2<;>cases f2
 cases h with
 | list _ _=>cases f
 | tuple _ _=>cases f
 | dictK _ _=>cases f
 | dictT _ _ _=>cases f
 | dictF _ _ _=>cases f
 | none=>cases h2'<;>first | rfl | cases f2
 | bool b=>cases h2'<;>first | rfl | cases f2
 | int i=>cases h2'<;>first | rfl | cases f2
 | str x=>cases h2'<;>first | rfl | cases f2
theorem ET {K:a8}{H H2 Hs:Hp}{u:V}{e:D} (h2:RB K H2 Hs u e) (f2:kA e=true):∀ {vs:List V}{ds:List D},RDs K H vs ds->ds.all kA=true->U9 u vs=ds.any fun y=>aZ y e
 | _,_,.nil,_=>rfl
 | _,_,.cons h t,f=>by
  rw [sY,aO] at f
  have:=ET h2 f2 t f.2
  unfold U9 at this ⊢
  rw [dW,dW,this,QT h h2 f.1 f2]
theorem KF {neg:Bool}{f:a9->a9->Sem a9} (h:oX X f (UV X.K neg)):vT X f (Cm neg):=by
 refine ⟨fun pins s σ H x y v u Q I rv ru ⟨Hs,dx,dy,sub,rx,ry,d,hd,q⟩=>?_,fun x y c n=>?_⟩
 ·unfold Cm at hd
  split at hd
  ·split at hd
   ·rename_i hc
    simp only [aO] at hc
    cases hd
    obtain ⟨b,ws,rfl,qb,rb⟩:=ry.list sub
    refine h pins s σ H _ _ v u Q I rv ru ⟨b,ws,rfl,.inl qb,Co rx hc.1,Cp rb hc.2,?_⟩
    rw [ET rx hc.1 rb hc.2]
    exact q _ H Hs (.refl sub) (.bool _)
   ·cases hd
  ·split at hd
   ·rename_i hc
    simp only [aO] at hc
    cases hd
    obtain ⟨b,ws,rfl,qb,rb,_⟩:=ry.tuple sub
    refine h pins s σ H _ _ v u Q I rv ru ⟨b,ws,rfl,.inr qb,Co rx hc.1,Cp rb hc.2,?_⟩
    rw [ET rx hc.1 rb hc.2]
    exact q _ H Hs (.refl sub) (.bool _)
   ·cases hd
  ·cases hd
 ·unfold Cm
  split<;>(try split)<;>exact fun h=>by cases h
theorem Cq:vT X (bH .In) (Cm false):=KF HJ
theorem w_:vT X (bH .NotIn) (Cm true):=KF Ao
end
end
end J
namespace J
open PySem L2
section
section
variable {c:C}{e a b:aQ}{g ga gb:aw->R D}{pos:Pos}
def EU:D->D->R D
 | .list xs,.int i=>match EB xs i with
  | some d=>.ok d
  | none=>.no
 | .tuple xs,.int i=>match EB xs i with
  | some d=>.ok d
  | none=>.no
 | .str x,.int i=>if x.length<=1000 then (match EB x.cps.toList i with
  | some k=>.ok (.str ⟨#[k]⟩)
  | none=>.no) else .no
 | _,_=>.no
theorem G7 {K:a8}{H:Hp}{vs:List V}{ds:List D} (h:RDs K H vs ds) {i:Int}{d:D} (e:EB ds i=some d):∃ v,EB vs i=some v/\RD K H v d:=by
 unfold EB at e ⊢
 rw [h.length]
 cases hx:QF ds.length i with
 | none=>rw [hx] at e;cases e
 | some j =>
  rw [hx] at e
  exact h.get' e
theorem V7 {X:Cx}:Sr X (rD X.K EU):=by
 intro va sl pins s σ H x y v u Q I rv ru h
 obtain ⟨Hs,dx,dy,sub,rx,ry,d,hd,q⟩:=h
 unfold EU at hd
 split at hd
 ·split at hd
  ·rename_i d' he
   cases hd
   obtain ⟨p,vs,rfl,qa,ra⟩:=rx.list sub
   obtain ⟨w,hw,rw'⟩:=G7 ra he
   exact tw va sl pins s σ H _ _ v u Q I rv ru ⟨p,vs,_,w,rfl,ry.int,qa,hw,q _ H Hs (.refl sub) rw'⟩
  ·cases hd
 ·split at hd
  ·rename_i d' he
   cases hd
   obtain ⟨p,vs,rfl,qa,ra,_⟩:=rx.tuple sub
   obtain ⟨w,hw,rw'⟩:=G7 ra he
   exact QG va sl pins s σ H _ _ v u Q I rv ru ⟨p,vs,_,w,rfl,ry.int,qa,hw,q _ H Hs (.refl sub) rw'⟩
  ·cases hd
 ·split at hd
  ·rename_i hz
   split at hd
   ·rename_i k he
    cases hd
    exact QH va sl pins s σ H _ _ v u Q I rv ru ⟨_,_,k,rx.str,ry.int,cp (dg hz),he,q _ H Hs (.refl sub) (.str _)⟩
   ·cases hd
  ·cases hd
 ·cases hd
theorem QU (x y:D) (c:Str) (n:Option D):EU x y≠.ex c n:=by
 unfold EU
 split<;>(try split)<;>(try split)<;>exact fun h=>by cases h
theorem SS (ha:JB c a ga) (hb:JB c b gb) (hs:tu b:=by exact fun _ _=>rfl):JE c (.Subscript a b pos) (g2 ga gb EU):=.of fun ρ=>rP (P0 V7 (ha ρ) (hb ρ) hs) fun σ H Q q=>two QU q
def yO (ds:List D) (lo hi:Option Int):List D:=(ds.drop (HT.iz ds.length 0 lo)).take (HT.iz ds.length ds.length hi - HT.iz ds.length 0 lo)
theorem G8 {K:a8}{H:Hp}{vs:List V}{ds:List D} (h:RDs K H vs ds) (lo hi:Option Int):RDs K H (B_ vs lo hi) (yO ds lo hi):=by
 unfold B_ yO
 rw [h.length]
 exact (h.drop _).take _
def G9:D->Option Int->Option Int->R D
 | .list xs,lo,hi=>.ok (.list (yO xs lo hi))
 | .tuple xs,lo,hi=>.ok (.tuple (yO xs lo hi))
 | _,_,_=>.no
inductive Pg (K:a8) (x:V) (lo:Option Int) (hi:Option Int) (H:Hp) (Q:VK):Prop
 | mk (Hs dx:_) (h0:dB Hs H) (h1:RB K H Hs x dx) (h2:∃ d,G9 dx lo hi=.ok d/\∀ v H' Hs',cD H Hs H' Hs'->RD K Hs' v d->Q v H'):Pg K x lo hi H Q
def V8 (K:a8):V->Option Int->Option Int->Hp->VK->Prop:=Pg K
theorem V9 {X:Cx}:So X (V8 X.K):=by
 intro pins s σ H x v vl vu lo hi sl Q I rx hs pl pu h
 obtain ⟨Hs,dx,sub,rb,d,hd,q⟩:=h
 unfold G9 at hd
 split at hd
 ·cases hd
  obtain ⟨p,vs,rfl,qa,ra⟩:=rb.list sub
  exact NL pins s σ H _ v vl vu lo hi sl Q I rx hs pl pu ⟨p,vs,rfl,qa,fun l hl=>q _ _ _ (.new sub hl) (.list (.of bj) ((G8 ra lo hi).same (cD.new sub hl).sh))⟩
 ·cases hd
  obtain ⟨p,vs,rfl,qa,ra,_⟩:=rb.tuple sub
  by_cases hw:HT.iz vs.length 0 lo=0/\HT.iz vs.length vs.length hi=vs.length
  ·refine N_ pins s σ H _ v vl vu lo hi sl Q I rx hs pl pu ⟨p,vs,rfl,qa,hw,?_⟩
   rcases rb with rb | ⟨_,_,_,_,_,ow⟩
   ·refine q _ H Hs (.refl sub) ?_
    unfold yO
    rw [<- ra.length,hw.1,hw.2,ra.length]
    simpa using rb
   ·cases ow
  ·exact QE pins s σ H _ v vl vu lo hi sl Q I rx hs pl pu ⟨p,vs,rfl,qa,hw,fun l hl=>q _ _ _ (.new sub hl) (.tuple bj ((G8 ra lo hi).same (cD.new sub hl).sh))⟩
 ·cases hd
inductive SU (K:a8) (cls:Str->ah) (E:XK) (ρ:aw) (r:R (Option Int)) (σ:St) (H:Hp) (Q:Option Int->Hp->Prop):Prop
 | mk (H0 Hs0:Hp) (la:Nat->Option ah) (Hs:Hp) (f:Fr K H0 Hs0 la ρ σ H Hs) (q:Fin K cls E H Hs r fun d=>∀ H' Hs',cD H Hs H' Hs'->Q d H'):SU K cls E ρ r σ H Q
def Va (K:a8) (cls:Str->ah) (E:XK) (ρ:aw) (r:R (Option Int)):TO:=SU K cls E ρ r
structure JO (c:C) (e:Option aQ) (g:aw->R (Option Int)):Prop where of ::
 run:∀ ρ,PO c.X e (Va c.X.K c.cls c.E ρ (g ρ))
instance {c:C}{e:Option aQ}{g:aw->R (Option Int)}:CoeFun (JO c e g) (fun _=>∀ ρ,PO c.X e (Va c.X.K c.cls c.E ρ (g ρ))):=⟨JO.run⟩
theorem VL {X:Cx}{e:Option aQ}{t t':TO} (h:PO X e t) (m:∀ σ H Q,t' σ H Q->t σ H Q):PO X e t':=fun pins s σ H Q I q=>h pins s σ H Q I (m σ H Q q)
def RQ:aw->R (Option Int):=fun _=>.ok none
def O5 (g:aw->R D):aw->R (Option Int):=fun ρ=>(g ρ).bind fun d=>match d with
 | .int i=>.ok (some i)
 | _=>.no
theorem wu:JO c none RQ:=.of fun ρ=>VL NH fun σ H Q h_0=>by obtain ⟨H0,Hs0,la,Hs,f,q⟩:=h_0;exact q H Hs (.refl f.st.sub)
theorem ql (h:JE c e g):JO c (some e) (O5 g):=.of fun ρ=>VL (NI (h ρ)) fun σ H Q h_1=>by
 obtain ⟨H0,Hs0,la,Hs,f,q⟩:=h_1
 refine yM f q fun d v H1 Hs1 e1 s1 f1 r1=>?_
 unfold O5 at q
 rw [e1,bind_ok] at q
 cases r1 with
 | int i=>exact ⟨i,rfl,q H1 Hs1 s1⟩
 | _=>exact q.elim
theorem SW {K:a8}{cls:Str->ah}{E:XK}{ρ:aw}{r:R (Option Int)}{β:Type}{k:Option Int->R β}{σ:St}{H:Hp}{H0 Hs0 Hs:Hp}{la:Nat->Option ah}{Q:Option Int->Hp->Prop}{q:β->Prop} (f:Fr K H0 Hs0 la ρ σ H Hs)
  (h:Fin K cls E H Hs (r.bind k) q) (m:∀ d H' Hs',r=.ok d->cD H Hs H' Hs'->Fr K H0 Hs0 la ρ σ H' Hs'->Q d H'):Va K cls E ρ r σ H Q:=by
 refine ⟨H0,Hs0,la,Hs,f,?_⟩
 cases r with
 | ok d=>exact fun H' Hs' s=>m d H' Hs' rfl s (f.step s)
 | ex c n=>exact h
 | no=>exact h
def Ph (g:aw->R D) (gl gh:aw->R (Option Int)):aw->R D:=fun ρ=>(g ρ).bind fun x=>(gl ρ).bind fun l=>(gh ρ).bind fun h=>G9 x l h
theorem pE {lo hi:Option aQ}{gl gh:aw->R (Option Int)}{p2:Pos} (he:JB c e g) (hl:JO c lo gl) (hh:JO c hi gh):JE c (.Subscript e (.Slice lo hi none p2) pos) (Ph g gl gh):=.of fun ρ=>rP (K2 V9 (he ρ) (hl ρ) (hh ρ)) fun σ H Q h_2=>by
 obtain ⟨H0,Hs0,la,Hs,f,q⟩:=h_2
 refine one f q fun d v H1 Hs1 e1 s1 f1 r1=>?_
 unfold Ph at q
 rw [e1,bind_ok] at q
 refine SW f1 (q.on s1 (q':=fun _=>True) fun _ _=>trivial) fun l H2 Hs2 e2 s2 f2=>?_
 rw [e2,bind_ok] at q
 refine SW f2 (q.on (s1.trans s2) (q':=fun _=>True) fun _ _=>trivial) fun h H3 Hs3 e3 s3 f3=>?_
 rw [e3,bind_ok] at q
 cases hr:G9 d l h with
 | ok z=>rw [hr] at q;exact ⟨Hs3,d,f3.st.sub,(r1.step s2).step s3,z,hr,fun w H4 Hs4 s4 r4=>q w H4 Hs4 (s1.trans (s2.trans (s3.trans s4))) r4⟩
 | ex c n=>unfold G9 at hr;split at hr<;>cases hr
 | no=>rw [hr] at q;exact q.elim
inductive VM (K:a8) (h:List D->R D) (xs:List V) (H:Hp) (Q:VK):Prop
 | mk (Hs ds:_) (h0:dB Hs H) (h1:Pc K H Hs xs ds) (h2:∃ d,h ds=.ok d/\∀ v H' Hs',cD H Hs H' Hs'->RD K Hs' v d->Q v H'):VM K h xs H Q
def rC (K:a8) (h:List D->R D):List V->Hp->VK->Prop:=VM K h
def Ie (X:Cx) (f:a9) (h:List D->R D):Prop:=jb X f (rC X.K h)/\∀ x c n,h x≠.ex c n
def c8 (gs:aw->R (List D)) (h:List D->R D):aw->R D:=fun ρ=>(gs ρ).bind h
theorem Pi {K:a8}{cls:Str->ah}{E:XK}{h:List D->R D}{gs:aw->R (List D)}{ρ:aw}{σ:St}{H:Hp}{Q:VK} (hx:∀ x c n,h x≠.ex c n) (q:TR K cls E ρ (c8 gs h ρ) σ H Q):Sm (rC K h) (Uf K cls E ρ (gs ρ)) σ H Q:=by
 obtain ⟨H0,Hs0,la,Hs,f,q⟩:=q
 refine Kx f q fun ds vs H1 Hs1 e1 s1 f1 r1=>?_
 unfold c8 at q
 rw [e1,bind_ok] at q
 cases hr:h ds with
 | ok d =>
  rw [hr] at q
  exact ⟨Hs1,ds,f1.st.sub,r1,d,hr,fun w H3 Hs3 s3 r3=>q w H3 Hs3 (s1.trans s3) r3⟩
 | ex c n=>exact (hx ds c n hr).elim
 | no=>rw [hr] at q;exact q.elim
variable {es:List aQ}{gs:aw->R (List D)}{x:Str}{p:Pos}{id T:String}{h:List D->R D}
theorem c7 (hc:Ie c.X (.builtin id) h) (hg:Gl c.X x) (hm:c.X.mg x=none) (hv:h_ x=some (.builtin id)) (ha:Pd c (e::es) gs) (hn:x≠"__name__":=by decide) (hdb:(x == ("__debug__" : Str))=false:=by decide)
  (he:aK (e::es) c.X.env=(false,dU e c.X.env)::aK es c.X.env:=by rfl) (hpl:(iR pos (aK es c.X.env)).any (·.1)=false:=by rfl):JE c (.Call (.Name x p) (e::es) [] pos) (c8 gs h):=.of fun ρ=>rP (tj hc.1 hg hm hv (ha ρ) hn hdb he hpl) fun σ H Q q=>Pi hc.2 q
theorem eW (hc:Ie c.X (.type T) h) (hg:Gl c.X x) (hm:c.X.mg x=none) (hv:h_ x=some (.type T)) (ha:Pd c (e::es) gs) (hn:x≠"__name__":=by decide) (hdb:(x == ("__debug__" : Str))=false:=by decide)
  (he:aK (e::es) c.X.env=(false,dU e c.X.env)::aK es c.X.env:=by rfl) (hpl:(iR pos (aK es c.X.env)).any (·.1)=false:=by rfl):JE c (.Call (.Name x p) (e::es) [] pos) (c8 gs h):=.of fun ρ=>rP (zu hc.1 hg hm hv (ha ρ) hn hdb he hpl) fun σ H Q q=>Pi hc.2 q
end
end
section
section
variable {X:Cx}
theorem Pc.one {K:a8}{H Hs:Hp}{xs:List V}{d:D} (h:Pc K H Hs xs [d]):∃ x,xs=[x]/\RB K H Hs x d:=by
 cases h with | cons a t=>cases t;exact ⟨_,rfl,a⟩
def hZ (h:D->R D):List D->R D
 | [d]=>h d
 | _=>.no
theorem pF {f:a9}{h:D->R D} (hx:∀ d c n,h d≠.ex c n)
  (hr:∀ pins s σ H x u Q Hs d d',bQ X pins σ H s->cZ x u->dB Hs H->RB X.K H Hs x d->h d=.ok d'->(∀ v H' Hs',cD H Hs H' Hs'->RD X.K Hs' v d'->Q v H')->ar (aG X.prog X.w) X.A (call f [u]) (EP X pins σ Q) X.xe s):Ie X f (hZ h):=by
 refine ⟨fun pins s σ H xs us Q I r ⟨Hs,ds,sub,rb,d,hd,q⟩=>?_,fun x c n=>?_⟩
 ·unfold hZ at hd
  split at hd
  ·obtain ⟨x,rfl,rx⟩:=rb.one
   obtain ⟨u,rfl,ru⟩:=kz r
   exact hr pins s σ H x u Q Hs _ _ I ru sub rx hd q
  ·cases hd
 ·unfold hZ
  split
  ·exact hx _ _ _
  ·exact fun h=>by cases h
def iC:D->R D
 | .list xs=>.ok (.int xs.length)
 | .tuple xs=>.ok (.int xs.length)
 | .str x=>if x.length<=1000 then .ok (.int x.length) else .no
 | _=>.no
theorem RDk.length {K:a8}{H:Hp}{vs:List (dv×V)}:∀ {ds:List (D×D)},RDk K H vs ds->vs.length=ds.length:=by
 induction vs with
 | nil=>intro ds h;cases h;rfl
 | cons x r ih=>intro ds h;cases h with | cons a b=>exact congrArg (· + 1) (ih b)
theorem RDt.length {K:a8}{H:Hp}:∀ {vs:List (List dv×V)}{ds:List (D×D)},RDt K H vs ds->vs.length=ds.length
 | _,_,.nil=>rfl
 | _,_,.cons _ t=>by simp [RDt.length t]
theorem RB.dict {K:a8}{H Hs:Hp}{v:V}{ds:List (D×D)} (sub:dB Hs H) (h:RB K H Hs v (.dict ds)):∃ a,v=.ref a/\((∃ kvs,H a=some (.dK kvs)/\RDk K Hs kvs ds)\/(∃ kvs,H a=some (.dT kvs)/\kvs≠[]/\RDt K Hs kvs ds)\/∃ o kvs es,ds=(.none,.none)::es/\H a=some (.frz o (.dT kvs))/\kvs≠[]/\RDt K Hs kvs es):=by
 rcases h with h | ⟨a,o,rfl,h2,h3,h4⟩
 ·cases h with
  | dictK q r=>exact ⟨_,rfl,.inl ⟨_,sub _ _ q,r⟩⟩
  | dictT q n r=>exact ⟨_,rfl,.inr (.inl ⟨_,sub _ _ q,n,r⟩)⟩
  | dictF q n r=>exact ⟨_,rfl,.inr (.inr ⟨_,_,_,rfl,sub _ _ q,n,r⟩)⟩
 ·cases h4 with
  | dK r=>exact ⟨a,rfl,.inl ⟨_,h2,r⟩⟩
  | dT n r=>exact ⟨a,rfl,.inr (.inl ⟨_,h2,n,r⟩)⟩
  | dF n r=>exact ⟨a,rfl,.inr (.inr ⟨_,_,_,rfl,h2,n,r⟩)⟩
theorem gC:Ie X (.builtin "len") (hZ iC):=by
 refine pF (fun d c n=>?_) fun pins s σ H x u Q Hs d d' I ru sub rx hd q=>?_
 ·unfold iC
  split<;>(try split)<;>exact fun h=>by cases h
 ·unfold iC at hd
  split at hd
  ·cases hd
   obtain ⟨a,vs,rfl,qa,ra⟩:=rx.list sub
   refine tF pins s σ H _ _ Q I (.cons ru .nil) ⟨a,vs,rfl,.inl qa,?_⟩
   rw [ra.length]
   exact q _ H Hs (.refl sub) (.int _)
  ·cases hd
   obtain ⟨a,vs,rfl,qa,ra,_⟩:=rx.tuple sub
   refine tF pins s σ H _ _ Q I (.cons ru .nil) ⟨a,vs,rfl,.inr qa,?_⟩
   rw [ra.length]
   exact q _ H Hs (.refl sub) (.int _)
  ·split at hd
   ·rename_i hz
    cases hd
    exact Ap pins s σ H _ _ Q I (.cons ru .nil) ⟨_,by rw [rx.str],cp (dg hz),q _ H Hs (.refl sub) (.int _)⟩
   ·cases hd
  ·cases hd
def Cr (T:String) (d:D):Bool:=match T,d with
 | "str",.str _=>true
 | "int",.int _=>true
 | "int",.bool _=>true
 | "bool",.bool _=>true
 | "list",.list _=>true
 | "tuple",.tuple _=>true
 | _,_=>false
def xa (g:aw->R D) (T:String):aw->R D:=fun ρ=>(g ρ).bind fun d=>if qk d then .ok (.bool (Cr T d)) else .no
theorem O6 {K:a8}{d:D} (T:String) (hT:T="str"\/T="int"\/T="bool"\/T="list"\/T="tuple") (h:qk d=true):oY K (.type (V4 d)) (.type T)=some (Cr T d):=by
 rcases hT with rfl | rfl | rfl | rfl | rfl<;>cases d<;>first | rfl | simp [qk] at h
theorem pG {c:C}{e:aQ}{g:aw->R D}{p p2 pos:Pos}{T:Str}{Ts:String} (h:JB c e g) (hgi:Gl c.X "isinstance") (hi:c.X.mg "isinstance"=none) (hgT:Gl c.X T) (hT:c.X.mg T=none) (hv:h_ T=some (.type Ts))
  (hTs:Ts="str"\/Ts="int"\/Ts="bool"\/Ts="list"\/Ts="tuple")
  (hn:T≠"__name__":=by decide) (hdb:(T == ("__debug__" : Str))=false:=by decide)
  (he:aK [e,.Name T p2] c.X.env=(false,dU e c.X.env)::aK [.Name T p2] c.X.env:=by rfl) (hpl:(iR pos (aK [.Name T p2] c.X.env)).any (·.1)=false:=by rfl) :
  JE c (.Call (.Name "isinstance" p) [e,.Name T p2] [] pos) (xa g Ts):=.of fun ρ=>by
 refine rP (tj Ku hgi hi PyProof.Rows.boot_isinstance (im (h ρ) (im (Nu hgT hT hv (v:=.ty Ts) rfl hn hdb) jC) he) (by decide) (by decide) he hpl) fun σ H Q h_0=>?_
 obtain ⟨H0,Hs0,la,Hs,f,q⟩:=h_0
 refine one f q fun d v H1 Hs1 e1 s1 f1 r1=>?_
 unfold xa at q
 rw [e1,bind_ok] at q
 by_cases hd:qk d=true
 ·rw [if_pos hd] at q
  exact ⟨v,d,Ts,_,rfl,(r1.full f1.st.sub).rep hd,O6 Ts hTs hd,q _ H1 Hs1 s1 (.bool _)⟩
 ·rw [if_neg hd] at q;exact q.elim
def m5:List D->Option (List Bool)
 | []=>some []
 | .bool b::r=>(m5 r).map (b::·)
 | _::_=>none
theorem AH {ds:List D}:∀ {bs:List Bool},m5 ds=some bs->ds=bs.map df:=by
 induction ds with
 | nil=>intro bs h;cases h;rfl
 | cons d r ih =>
  intro bs h
  cases d with
  | bool b =>
   have h:(m5 r).map (b::·)=some bs:=h
   cases hr:m5 r with
   | none=>rw [hr] at h;cases h
   | some z=>rw [hr] at h;cases h;rw [ih hr];rfl
  | _=>cases h
def gU (k:List Bool->Bool):D->R D
 | .list ds=>match m5 ds with
  | some bs=>.ok (.bool (k bs))
  | none=>.no
 | _=>.no
theorem Cs {id:String}{k:List Bool->Bool} (h:jb X (.builtin id) (fun xs H Q=>∃ p,∃ bs:List Bool,xs=[.ref p]/\nB X.K H p (bs.map V.bl)/\Q (.bl (k bs)) H)):Ie X (.builtin id) (hZ (gU k)):=by
 refine pF (fun d c n=>?_) fun pins s σ H x u Q Hs d d' I ru sub rx hd q=>?_
 ·unfold gU
  split<;>(try split)<;>exact fun h=>by cases h
 ·unfold gU at hd
  split at hd
  ·split at hd
   ·rename_i bs hb
    cases hd
    obtain ⟨a,vs,rfl,qa,ra⟩:=rx.list sub
    rw [AH hb] at ra
    rw [yL ra] at qa
    exact h pins s σ H _ _ Q I (.cons ru .nil) ⟨a,bs,rfl,qa,q _ H Hs (.refl sub) (.bool _)⟩
   ·cases hd
  ·cases hd
theorem pH (hc:X.calm=true):Ie X (.builtin "all") (hZ (gU fun bs=>bs.all id)):=Cs (wR hc)
theorem KG (hc:X.calm=true):Ie X (.builtin "any") (hZ (gU fun bs=>bs.any id)):=Cs (wS hc)
def mK (x:Str):List D:=x.cps.toList.map fun c=>a_ ⟨#[c]⟩
theorem Ig {K:a8}{H:Hp} (x:Str):RDs K H (wV x) (mK x):=by
 unfold wV mK
 induction x.cps.toList with
 | nil=>exact .nil
 | cons a r ih=>exact .cons (.str _) ih
def gW:D->R D
 | .list xs=>.ok (.tuple xs)
 | .tuple xs=>.ok (.tuple xs)
 | .str x=>if x.cps.size<=1000 then .ok (.tuple (mK x)) else .no
 | _=>.no
theorem iL (hc:X.calm=true):Ie X (.type "tuple") (hZ gW):=by
 refine pF (fun d c n=>?_) fun pins s σ H x u Q Hs d d' I ru sub rx hd q=>?_
 ·unfold gW
  split<;>(try split)<;>exact fun h=>by cases h
 ·unfold gW at hd
  split at hd
  ·cases hd
   obtain ⟨a,vs,rfl,qa,ra⟩:=rx.list sub
   exact q_ pins s σ H _ _ Q I (.cons ru .nil) ⟨a,vs,rfl,.inl ⟨qa,fun l hl=>q _ _ _ (.new sub hl) (.tuple bj (ra.same (cD.new sub hl).sh))⟩⟩
  ·cases hd
   obtain ⟨a,vs,rfl,qa,ra,_⟩:=rx.tuple sub
   refine q_ pins s σ H _ _ Q I (.cons ru .nil) ⟨a,vs,rfl,.inr ⟨qa,?_⟩⟩
   rcases rx with rx | ⟨_,_,_,_,_,ow⟩
   ·exact q _ H Hs (.refl sub) rx
   ·cases ow
  ·split at hd
   ·rename_i hz
    cases hd
    exact vS hc pins s σ H _ _ Q I (.cons ru .nil) ⟨_,by rw [rx.str],cp (dg hz),fun l hl=>q _ _ _ (.new sub hl) (.tuple bj (Ig _))⟩
   ·cases hd
  ·cases hd
def zF:D->R D
 | .list xs=>.ok (.list xs)
 | .tuple xs=>.ok (.list xs)
 | _=>.no
theorem O7:Ie X (.type "list") (hZ zF):=by
 refine pF (fun d c n=>?_) fun pins s σ H x u Q Hs d d' I ru sub rx hd q=>?_
 ·unfold zF
  split<;>exact fun h=>by cases h
 ·unfold zF at hd
  split at hd
  ·cases hd
   obtain ⟨a,vs,rfl,qa,ra⟩:=rx.list sub
   exact tG pins s σ H _ _ Q I (.cons ru .nil) ⟨a,vs,rfl,.inl qa,fun l hl=>q _ _ _ (.new sub hl) (.list (.of bj) (ra.same (cD.new sub hl).sh))⟩
  ·cases hd
   obtain ⟨a,vs,rfl,qa,ra,_⟩:=rx.tuple sub
   exact tG pins s σ H _ _ Q I (.cons ru .nil) ⟨a,vs,rfl,.inr qa,fun l hl=>q _ _ _ (.new sub hl) (.list (.of bj) (ra.same (cD.new sub hl).sh))⟩
  ·cases hd
def fP:List D->Option (List Str)
 | []=>some []
 | .str b::r=>(fP r).map (b::·)
 | _::_=>none
theorem pI {ds:List D}:∀ {bs:List Str},fP ds=some bs->ds=bs.map a_:=by
 induction ds with
 | nil=>intro bs h;cases h;rfl
 | cons d r ih =>
  intro bs h
  cases d with
  | str b =>
   have h:(fP r).map (b::·)=some bs:=h
   cases hr:fP r with
   | none=>rw [hr] at h;cases h
   | some z=>rw [hr] at h;cases h;rw [ih hr];rfl
  | _=>cases h
@[simp] theorem strsOf_map:∀ bs:List Str,fP (bs.map a_)=some bs
 | []=>rfl
 | b::r=>by show (fP (r.map a_)).map (b::·)=_;rw [strsOf_map r];rfl
def qm:D->R D
 | .list ds=>match fP ds with
  | some ss=>if ss.length<64 then .ok (.list ((jf ss).map .str)) else .no
  | none=>.no
 | _=>.no
theorem Ih:Ie X (.builtin "sorted") (hZ qm):=by
 refine pF (fun d c n=>?_) fun pins s σ H x u Q Hs d d' I ru sub rx hd q=>?_
 ·unfold qm
  split<;>(try split)<;>(try split)<;>exact fun h=>by cases h
 ·unfold qm at hd
  split at hd
  ·split at hd
   ·split at hd
    ·rename_i ss hs hz
     cases hd
     obtain ⟨a,vs,rfl,qa,ra⟩:=rx.list sub
     rw [pI hs] at ra
     rw [nF ra] at qa
     exact uI pins s σ H _ _ Q I (.cons ru .nil) ⟨a,ss,rfl,qa,hz,fun l hl=>q _ _ _ (.new sub hl) (.list (.of bj) (wW _))⟩
    ·cases hd
   ·cases hd
  ·cases hd
end
end
section
inductive SX (K:a8) (cls:Str->ah) (n:Nat) (F:List D->R D) (vs:List V) (H:Hp) (Q:VK) (E:XK):Prop
 | mk (Hs ds:_) (h0:dB Hs H) (h1:ds.length=n) (h2:RDs K Hs vs ds) (h3:Fin K cls E H Hs (F ds) fun d=>∀ v H' Hs',cD H Hs H' Hs'->RD K Hs' v d->Q v H'):SX K cls n F vs H Q E
def SY (K:a8) (cls:Str->ah) (n:Nat) (F:List D->R D):Sp:=SX K cls n F
structure Fn (P:aE) (w:aU) (K:a8) (mg:Str->Option a9) (base:bp) (cls:Str->ah) (x:Str) (k n:Nat) (F:List D->R D):Prop where
 ex:∃ f fd ps,uC P w K mg base (pw P w) k f fd ps (SY K cls n F)/\mg x=some (.ref f)/\j9 K (.ref f)=true/\mV K fd ps []
section
variable {c:C}{e a b:aQ}{g ga gb:aw->R D}{pos:Pos}{es:List aQ}{gs:aw->R (List D)}{x:Str}{p:Pos}
def fA (n:Nat) (F:List D->R D) (gs:aw->R (List D)):aw->R D:=fun ρ=>(gs ρ).bind fun ds=>if ds.length=n then F ds else .no
theorem O8 {k n:Nat}{F:List D->R D} (G:Fn c.X.prog c.X.w c.X.K c.X.mg c.X.base c.cls x k n F) (hr:lv k c.X.A) (hg:Gl c.X x) (hx:rL (pw c.X.prog c.X.w) c.X c.E) (ha:G1 c (e::es) gs)
  (hdb:(x == ("__debug__" : Str))=false:=by decide) (he:aK (e::es) c.X.env=(false,dU e c.X.env)::aK es c.X.env:=by rfl) (hpl:(iR pos (aK es c.X.env)).any (·.1)=false:=by rfl) :
  JE c (.Call (.Name x p) (e::es) [] pos) (fA n F gs):=.of fun ρ=>by
 obtain ⟨f,fd,ps,hf,hm,hk,hb⟩:=G.ex
 refine rP (NE (E:=c.E) hf hr hg hm hk hb .nil hx (ha ρ) hdb he hpl) fun σ H Q h_0=>?_
 obtain ⟨H0,Hs0,la,Hs,fr,q⟩:=h_0
 refine EN fr q fun ds vs H1 Hs1 e1 s1 f1 r1=>?_
 unfold fA at q
 rw [e1,bind_ok] at q
 by_cases hn:ds.length=n
 ·rw [if_pos hn] at q
  show SY _ _ _ _ (vs++[]) _ _ _
  rw [bZ]
  exact ⟨Hs1,ds,f1.st.sub,hn,r1,q.on s1 fun d k v H2 Hs2 s2 r2=>k v H2 Hs2 (s1.trans s2) r2⟩
 ·rw [if_neg hn] at q;exact q.elim
end
inductive Fl where
 | nx (ρ:aw)
 | rt (d:D)
 | bk (ρ:aw)
 | ct (ρ:aw)
def mY (K:a8) (cls:Str->ah) (E:XK) (H0 Hs0:Hp) (la:Nat->Option ah) (D:t6) (r:R Fl):Prop:=match r with
 | .ok (.nx ρ')=>∀ σ' H' Hs',Fr K H0 Hs0 la ρ' σ' H' Hs'->D.nx σ' H'
 | .ok (.bk ρ')=>∀ σ' H' Hs',Fr K H0 Hs0 la ρ' σ' H' Hs'->D.bk σ' H'
 | .ok (.ct ρ')=>∀ σ' H' Hs',Fr K H0 Hs0 la ρ' σ' H' Hs'->D.ct σ' H'
 | .ok (.rt d)=>∀ v H' Hs',cD H0 Hs0 H' Hs'->RD K Hs' v d->D.rt v H'
 | .ex c n=>∀ H' Hs',cD H0 Hs0 H' Hs'->XW K cls E c n H' Hs'
 | .no=>False
inductive VN (K:a8) (cls:Str->ah) (E:XK) (ρ:aw) (r:R Fl) (D:t6) (σ:St) (H:Hp):Prop
 | mk (H0 Hs0:Hp) (la:Nat->Option ah) (Hs:Hp) (f:Fr K H0 Hs0 la ρ σ H Hs) (q:mY K cls E H0 Hs0 la D r):VN K cls E ρ r D σ H
def SR (K:a8) (cls:Str->ah) (E:XK) (ρ:aw) (r:R Fl):TS:=VN K cls E ρ r
structure JS (c:C) (s:cA) (g:aw->R Fl):Prop where of ::
 run:∀ ρ,PS c.X s (SR c.X.K c.cls c.E ρ (g ρ))
instance {c:C}{s:cA}{g:aw->R Fl}:CoeFun (JS c s g) (fun _=>∀ ρ,PS c.X s (SR c.X.K c.cls c.E ρ (g ρ))):=⟨JS.run⟩
structure Ga (c:C) (s:List cA) (g:aw->R Fl):Prop where of ::
 run:∀ ρ,FS c.X s (SR c.X.K c.cls c.E ρ (g ρ))
instance {c:C}{s:List cA}{g:aw->R Fl}:CoeFun (Ga c s g) (fun _=>∀ ρ,FS c.X s (SR c.X.K c.cls c.E ρ (g ρ))):=⟨Ga.run⟩
theorem Fr.set {K:a8}{H0 Hs0 H Hs:Hp}{la:Nat->Option ah}{ρ:aw}{σ:St} (f:Fr K H0 Hs0 la ρ σ H Hs) (i:Nat) {v:V}{d:D} (r:RD K Hs v d):Fr K H0 Hs0 la (ρ.set i (.shr d)) (σ.set i (some v)) H Hs:=by
 have hl:=f.len
 have nx:∀ {j:Nat}{s:Sl},(∀ d,s≠.shr d)->(ρ.set i (.shr d))[j]?=some s->ρ[j]?=some s/\i≠j:=fun {j s} hs e=>by
  by_cases hj:i=j
  ·subst hj
   by_cases hi:i<ρ.length
   ·rw [aH hi] at e;exact absurd (bF e).symm (hs d)
   ·rw [cm (by simpa using hi)] at e;cases e
  ·rw [al hj] at e;exact ⟨e,hj⟩
 refine ⟨f.st,by simp [hl],fun j e h=>?_,fun j e h=>?_,fun j e h=>?_,fun j k d1 d2 a h1 h2 h3 h4=>?_,f.lh,fun j e h=>?_,fun j k d1 d2 h1 h2=>?_⟩
 ·by_cases hj:i=j
  ·subst hj
   by_cases hi:i<ρ.length
   ·rw [aH hi] at h
    cases h
    exact ⟨v,aH (by omega),r⟩
   ·rw [cm (by simpa using hi)] at h;cases h
  ·rw [al hj] at h ⊢
   exact f.sh j e h
 ·obtain ⟨h,hj⟩:=nx (fun _ z=>by cases z) h
  rw [al hj]
  exact f.ow j e h
 ·obtain ⟨h,hj⟩:=nx (fun _ z=>by cases z) h
  rw [al hj]
  exact f.lk j e h
 ·obtain ⟨h1,n1⟩:=nx (fun _ z=>by cases z) h1
  obtain ⟨h2,n2⟩:=nx (fun _ z=>by cases z) h2
  rw [al n1] at h3
  rw [al n2] at h4
  exact f.dj j k d1 d2 a h1 h2 h3 h4
 ·obtain ⟨h,hj⟩:=nx (fun _ z=>by cases z) h
  obtain ⟨a,as,O⟩:=f.o2 j e h
  refine ⟨a,as,by rw [al hj];exact O.at_,O.ob,O.nd,O.out,fun b hb k e' hk=>?_,O.inn⟩
  obtain ⟨hk,nk⟩:=nx (fun _ z=>by cases z) hk
  rw [al nk]
  exact O.dj b hb k e' hk
 ·exact f.u2 j k d1 d2 (nx (fun _ z=>by cases z) h1).1 (nx (fun _ z=>by cases z) h2).1
theorem Fr.setO {K:a8}{H0 Hs0 H Hs:Hp}{la:Nat->Option ah}{ρ:aw}{σ:St} (f:Fr K H0 Hs0 la ρ σ H Hs) (i:Nat) {a:ah}{o:HO}{d:D} (n:H a=none) (r:lR K Hs o d):Fr K H0 Hs0 la (ρ.set i (.own d)) (σ.set i (some (.ref a))) (upd H a o) Hs:=by
 have f':=f.step (cD.mine (o:=o) f.st.sub n)
 have hl:=f.len
 have n0:H0 a=none:=f.st.all.free n
 have ns:Hs a=none:=f.st.sub.free n
 have nx:∀ {j:Nat}{s:Sl},(∀ d,s≠.own d)->(ρ.set i (.own d))[j]?=some s->ρ[j]?=some s/\i≠j:=fun {j s} hs e=>by
  by_cases hj:i=j
  ·subst hj
   by_cases hi:i<ρ.length
   ·rw [aH hi] at e;exact absurd (bF e).symm (hs d)
   ·rw [cm (by simpa using hi)] at e;cases e
  ·rw [al hj] at e;exact ⟨e,hj⟩
 have ne:∀ j e,ρ[j]?=some (Sl.own e)->σ[j]?≠some (some (V.ref a)):=fun j e h z=>by
  obtain ⟨b,o',h1,h2,_⟩:=f.ow j e h
  rw [z] at h1
  cases h1
  rw [n] at h2;cases h2
 refine ⟨f'.st,by simp [hl],fun j e h=>?_,fun j e h=>?_,fun j e h=>?_,fun j k d1 d2 b h1 h2 h3 h4=>?_,f.lh,fun j e h=>?_,fun j k d1 d2 h1 h2=>?_⟩
 ·obtain ⟨h,hj⟩:=nx (fun _ z=>by cases z) h
  rw [al hj]
  exact f'.sh j e h
 ·by_cases hj:i=j
  ·subst hj
   by_cases hi:i<ρ.length
   ·rw [aH hi] at h
    cases h
    exact ⟨a,o,aH (by omega),bj,ns,n0,r⟩
   ·rw [cm (by simpa using hi)] at h;cases h
  ·rw [al hj] at h ⊢
   exact f'.ow j e h
 ·obtain ⟨h,hj⟩:=nx (fun _ z=>by cases z) h
  rw [al hj]
  exact f'.lk j e h
 ·by_cases hj:i=j
  ·by_cases hk:i=k
   ·exact hj.symm.trans hk
   ·rw [al hk] at h2 h4
    subst hj
    by_cases hi:i<ρ.length
    ·rw [aH (by omega)] at h3
     cases h3
     exact (ne k d2 h2 h4).elim
    ·rw [cm (by simpa using hi)] at h1;cases h1
  ·rw [al hj] at h1 h3
   by_cases hk:i=k
   ·subst hk
    by_cases hi:i<ρ.length
    ·rw [aH (by omega)] at h4
     cases h4
     exact (ne j d1 h1 h3).elim
    ·rw [cm (by simpa using hi)] at h2;cases h2
   ·rw [al hk] at h2 h4
    exact f.dj j k d1 d2 b h1 h2 h3 h4
 ·obtain ⟨h,hj⟩:=nx (fun _ z=>by cases z) h
  obtain ⟨b,as,O⟩:=f.o2 j e h
  have nb:∀ c∈b::as,c≠a:=fun c hc z=>by
   subst z
   rcases List.mem_cons.mp hc with z | z
   ·have:=O.ob;rw [<- z,n] at this;cases this
   ·obtain ⟨o,ho,_⟩:=O.inn.there z;rw [n] at ho;cases ho
  refine ⟨b,as,by rw [al hj];exact O.at_,by rw [bg (nb b am)];exact O.ob,O.nd,O.out,fun c hc k e' hk=>?_,O.inn.upd fun z=>nb a (aj _ z) rfl⟩
  by_cases nk:i=k
  ·subst nk
   intro z
   by_cases hi:i<ρ.length
   ·rw [aH (by omega)] at z
    cases z
    exact nb _ hc rfl
   ·rw [cm (by simp;omega)] at hk;cases hk
  ·rw [al nk] at hk ⊢
   exact O.dj c hc k e' hk
 ·exact f.u2 j k d1 d2 (nx (fun _ z=>by cases z) h1).1 (nx (fun _ z=>by cases z) h2).1
theorem Fr.write {K:a8}{H0 Hs0 H Hs:Hp}{la:Nat->Option ah}{ρ:aw}{σ:St} (f:Fr K H0 Hs0 la ρ σ H Hs) (i:Nat) {a:ah}{o:HO}{d d':D} (hi:ρ[i]?=some (Sl.own d)) (hs:σ[i]?=some (some (V.ref a))) (r:lR K Hs o d'):Fr K H0 Hs0 la (ρ.set i (.own d')) σ (upd H a o) Hs:=by
 obtain ⟨a',o',h1,h2,h3,h4,h5⟩:=f.ow i d hi
 rw [hs] at h1
 cases h1
 have hl:=f.len
 have hil:i<ρ.length:=(List.getElem?_eq_some_iff.mp hi).1
 have nx:∀ {j:Nat}{s:Sl},(∀ d,s≠.own d)->(ρ.set i (.own d'))[j]?=some s->ρ[j]?=some s/\i≠j:=fun {j s} hs e=>by
  by_cases hj:i=j
  ·subst hj
   rw [aH hil] at e;exact absurd (bF e).symm (hs d')
  ·rw [al hj] at e;exact ⟨e,hj⟩
 refine ⟨⟨fun b u e=>?_,f.st.sh,fun b u e=>?_,f.st.out⟩,by simp [hl],fun j e h=>?_,fun j e h=>?_,fun j e h=>?_,fun j k d1 d2 b h1 h2 h3 h4=>?_,f.lh,fun j e h=>?_,fun j k d1 d2 h1 h2=>?_⟩
 ·rw [bg (bR e h4)];exact f.st.all b u e
 ·rw [bg (bR e h3)];exact f.st.sub b u e
 ·obtain ⟨h,hj⟩:=nx (fun _ z=>by cases z) h
  exact f.sh j e h
 ·by_cases hj:i=j
  ·subst hj
   rw [aH hil] at h
   cases h
   exact ⟨a,o,hs,bj,h3,h4,r⟩
  ·rw [al hj] at h
   obtain ⟨b,u,k1,k2,k3,k4,k5⟩:=f.ow j e h
   refine ⟨b,u,k1,?_,k3,k4,k5⟩
   rw [bg (fun z=>hj ?_)]
   ·exact k2
   ·subst z
    exact f.dj i j d e b hi h hs k1
 ·obtain ⟨h,hj⟩:=nx (fun _ z=>by cases z) h
  obtain ⟨b,u,k1,k2,k3,k4,k5,k6⟩:=f.lk j e h
  refine ⟨b,u,k1,k2,?_,k4,k5,k6⟩
  rw [bg (bR k5 h4)]
  exact k3
 ·have own:∀ {j:Nat}{e:D},(ρ.set i (.own d'))[j]?=some (Sl.own e)->∃ e',ρ[j]?=some (Sl.own e'):=fun {j e} h=>by
   by_cases hj:i=j
   ·subst hj;exact ⟨d,hi⟩
   ·rw [al hj] at h;exact ⟨e,h⟩
  obtain ⟨e1,h1⟩:=own h1
  obtain ⟨e2,h2⟩:=own h2
  exact f.dj j k e1 e2 b h1 h2 h3 h4
 ·obtain ⟨h,hj⟩:=nx (fun _ z=>by cases z) h
  obtain ⟨b,as,O⟩:=f.o2 j e h
  have nb:∀ c∈b::as,c≠a:=fun c hc z=>by
   subst z
   exact O.dj c hc i d hi hs
  refine ⟨b,as,O.at_,by rw [bg (nb b am)];exact O.ob,O.nd,O.out,fun c hc k e' hk=>?_,O.inn.upd fun z=>nb a (aj _ z) rfl⟩
  by_cases nk:i=k
  ·subst nk
   exact O.dj c hc i d hi
  ·rw [al nk] at hk
   exact O.dj c hc k e' hk
 ·exact f.u2 j k d1 d2 (nx (fun _ z=>by cases z) h1).1 (nx (fun _ z=>by cases z) h2).1
def fe (ρ:aw):aw:=ρ.map fun s=>match s with
 | .own d=>.shr d
 | .ow2 dss=>.shr (.list (dss.map .list))
 | s=>s
open Classical in
theorem Fr.share {K:a8}{H0 Hs0 H Hs:Hp}{la:Nat->Option ah}{ρ:aw}{σ:St} (f:Fr K H0 Hs0 la ρ σ H Hs):∃ Hs',Fr K H0 Hs0 la (fe ρ) σ H Hs'/\cD H Hs H Hs'\/Fr K H0 Hs0 la (fe ρ) σ H Hs':=by
 let P:ah->Prop:=fun b=>(∃ (i:Nat) (d:D),ρ[i]?=some (Sl.own d)/\σ[i]?=some (some (V.ref b)))\/∃ (i:Nat) (dss:List (List D)) (a:ah) (as:List ah),ρ[i]?=some (Sl.ow2 dss)/\O2 K H0 H Hs ρ σ i dss a as/\b∈a::as
 let Hs':Hp:=fun b=>if P b then H b else Hs b
 have pos:∀ b,P b->Hs' b=H b:=fun b h=>if_pos h
 have neg:∀ b,¬ P b->Hs' b=Hs b:=fun b h=>if_neg h
 have up:dB Hs Hs':=fun b o e=>by
  by_cases h:P b
  ·rw [pos b h];exact f.st.sub b o e
  ·rw [neg b h];exact e
 have none0:∀ b o,H0 b=some o->¬ P b:=fun b o e hP=>by
  rcases hP with ⟨i,d,h1,h2⟩ | ⟨i,dss,a,as,h1,O,hb⟩
  ·obtain ⟨a,o',k1,_,_,k4,_⟩:=f.ow i d h1
   rw [h2] at k1;cases k1
   rw [e] at k4;cases k4
  ·have:=(O.out b hb).2
   rw [e] at this;cases this
 have un:∀ {j:Nat}{s:Sl},(fe ρ)[j]?=some s->(∃ d,s=.shr d/\ρ[j]?=some (Sl.own d))\/(∃ dss:List (List D),s=.shr (.list (dss.map .list))/\ρ[j]?=some (Sl.ow2 dss))\/((∀ d,s≠.own d)/\(∀ d,s≠.ow2 d)/\ρ[j]?=some s):=fun {j s} e=>by
  unfold fe at e
  rw [aX] at e
  cases h:ρ[j]? with
  | none=>rw [h] at e;cases e
  | some t =>
   rw [h] at e
   cases t with
   | own d=>cases e;exact .inl ⟨d,rfl,rfl⟩
   | no=>cases e;exact .inr (.inr ⟨fun _ z=>(by cases z),fun _ z=>(by cases z),rfl⟩)
   | shr d=>cases e;exact .inr (.inr ⟨fun _ z=>(by cases z),fun _ z=>(by cases z),rfl⟩)
   | lck d=>cases e;exact .inr (.inr ⟨fun _ z=>(by cases z),fun _ z=>(by cases z),rfl⟩)
   | ow2 d=>cases e;exact .inr (.inl ⟨d,rfl,rfl⟩)
 refine ⟨Hs',.inr ⟨⟨f.st.all,f.st.sh.trans up,fun b o e=>?_,fun a o e t z=>?_⟩,by simp [fe,f.len],fun j d h=>?_,fun j d h=>?_,fun j d h=>?_,fun j k d1 d2 a h1 h2 _ _=>?_,f.lh,fun j d h=>?_,fun j k d1 d2 h1 h2=>?_⟩⟩
 ·by_cases h:P b
  ·rw [pos b h] at e;exact e
  ·rw [neg b h] at e;exact f.st.sub b o e
 ·rw [neg a (none0 a o e)];exact f.st.out a o e t z
 ·rcases un h with ⟨d',e,h'⟩ | ⟨dss,e,h'⟩ | ⟨_,_,h'⟩
  ·cases e
   obtain ⟨a,o,k1,k2,k3,k4,k5⟩:=f.ow j d h'
   refine ⟨_,k1,?_⟩
   have hp:Hs' a=some o:=by rw [pos a (.inl ⟨j,d,h',k1⟩)];exact k2
   have e:dB (upd Hs a o) Hs':=fun b u q=>by
    by_cases hb:b=a
    ·subst hb;rw [bj] at q;cases q;exact hp
    ·rw [bg hb] at q;exact up b u q
   exact (k5.share k3).same e
  ·cases e
   obtain ⟨a,as,O⟩:=f.o2 j dss h'
   refine ⟨_,O.at_,?_⟩
   have hp:∀ b∈a::as,∀ o,H b=some o->Hs' b=some o:=fun b hb o ho=>by rw [pos b (.inr ⟨j,dss,a,as,h',O,hb⟩)];exact ho
   refine .list (.of (hp a am _ O.ob)) ?_
   have go:∀ {as':List ah}{dss':List (List D)},(∀ b∈as',b∈a::as)->zC K H Hs as' dss'->RDs K Hs' (as'.map V.ref) (dss'.map .list):=fun {as' dss'} hs hi=>by
    induction hi with
    | nil=>exact .nil
    | cons h1 h2 _ ih=>exact .cons (.list (.of (hp _ (hs _ am) _ h1)) (h2.same up)) (ih fun b hb=>hs b (aj _ hb))
   exact go (fun b hb=>aj _ hb) O.inn
  ·obtain ⟨v,k1,k2⟩:=f.sh j d h'
   exact ⟨v,k1,k2.same up⟩
 ·rcases un h with ⟨d',e,h'⟩ | ⟨d',e,h'⟩ | ⟨n,_,h'⟩
  ·cases e
  ·cases e
  ·exact (n d rfl).elim
 ·rcases un h with ⟨d',e,h'⟩ | ⟨d',e,h'⟩ | ⟨_,_,h'⟩
  ·cases e
  ·cases e
  ·obtain ⟨a,o,k1,k2,k3,k4,k5,k6⟩:=f.lk j d h'
   exact ⟨a,o,k1,k2,k3,by rw [neg a (none0 a o k5)];exact k4,k5,k6.same up⟩
 ·rcases un h1 with ⟨d',e,h'⟩ | ⟨d',e,h'⟩ | ⟨n,_,h'⟩
  ·cases e
  ·cases e
  ·exact (n d1 rfl).elim
 ·rcases un h with ⟨d',e,h'⟩ | ⟨d',e,h'⟩ | ⟨_,n,h'⟩
  ·cases e
  ·cases e
  ·exact (n d rfl).elim
 ·rcases un h1 with ⟨d',e,h'⟩ | ⟨d',e,h'⟩ | ⟨_,n,h'⟩
  ·cases e
  ·cases e
  ·exact (n d1 rfl).elim
theorem Fr.shared {K:a8}{H0 Hs0 H Hs:Hp}{la:Nat->Option ah}{ρ:aw}{σ:St} (f:Fr K H0 Hs0 la ρ σ H Hs):∃ Hs',Fr K H0 Hs0 la (fe ρ) σ H Hs':=by
 obtain ⟨Hs',h | h⟩:=f.share
 ·exact ⟨Hs',h.1⟩
 ·exact ⟨Hs',h⟩
section
variable {c:C}{e a b:aQ}{g ga gb:aw->R D}{pos:Pos}{x:Str}{st:cA}{bG:List cA}{gs gr:aw->R Fl}
def aS (g h:aw->R Fl):aw->R Fl:=fun ρ=>(g ρ).bind fun fl=>match fl with
 | .nx ρ'=>h ρ'
 | fl=>.ok fl
theorem cX:Ga c [] (fun ρ=>.ok (.nx ρ)):=.of fun ρ=>V6 Nw fun D σ H h_1=>by obtain ⟨H0,Hs0,la,Hs,f,q⟩:=h_1;exact q σ H Hs f
theorem aL (h:JS c st gs):Ga c [st] gs:=.of fun ρ=>Nx (h ρ)
theorem aB (h:JS c st gs) (hr:Ga c bG gr):Ga c (st::bG) (aS gs gr):=.of fun ρ pins s σ H D I h_2=>by
 obtain ⟨H0,Hs0,la,Hs,f,q⟩:=h_2
 unfold aS at q
 cases hg:gs ρ with
 | no=>rw [hg] at q;exact q.elim
 | ex x n =>
  rw [hg] at q
  refine pf (h ρ) (qd (X:=c.X) (sts:=bG)) pins s σ H D I ⟨H0,Hs0,la,Hs,f,?_⟩
  rw [hg]
  exact q
 | ok fl =>
  rw [hg,bind_ok] at q
  cases fl with
  | nx ρ' =>
   refine pf (h ρ) (hr ρ') pins s σ H D I ⟨H0,Hs0,la,Hs,f,?_⟩
   rw [hg]
   exact fun σ' H' Hs' f'=>⟨H0,Hs0,la,Hs',f',q⟩
  | rt d =>
   refine pf (h ρ) (qd (X:=c.X) (sts:=bG)) pins s σ H D I ⟨H0,Hs0,la,Hs,f,?_⟩
   rw [hg]
   exact q
  | bk ρ' =>
   refine pf (h ρ) (qd (X:=c.X) (sts:=bG)) pins s σ H D I ⟨H0,Hs0,la,Hs,f,?_⟩
   rw [hg]
   exact q
  | ct ρ' =>
   refine pf (h ρ) (qd (X:=c.X) (sts:=bG)) pins s σ H D I ⟨H0,Hs0,la,Hs,f,?_⟩
   rw [hg]
   exact q
theorem sE {K:a8}{cls:Str->ah}{E:XK}{ρ:aw}{r:R D}{k:D->R Fl}{σ:St}{H:Hp}{H0 Hs0 Hs:Hp}{la:Nat->Option ah}{D':t6}{Q:V->Hp->Prop} (f:Fr K H0 Hs0 la ρ σ H Hs)
  (h:mY K cls E H0 Hs0 la D' (r.bind k)) (m:∀ d v H' Hs',r=.ok d->cD H Hs H' Hs'->Fr K H0 Hs0 la ρ σ H' Hs'->RD K Hs' v d->Q v H'):TR K cls E ρ r σ H Q:=by
 refine ⟨H0,Hs0,la,Hs,f,?_⟩
 cases r with
 | ok d=>exact fun v H' Hs' s r=>m d v H' Hs' rfl s (f.step s) r
 | ex c n=>exact fun H' Hs' s=>h H' Hs' (f.st.trans s)
 | no=>exact h
theorem sT {K:a8}{cls:Str->ah}{E:XK}{ρ:aw}{r:R Bool}{k:Bool->R Fl}{σ:St}{H:Hp}{H0 Hs0 Hs:Hp}{la:Nat->Option ah}{D':t6}{Q:Bool->Hp->Prop} (f:Fr K H0 Hs0 la ρ σ H Hs)
  (h:mY K cls E H0 Hs0 la D' (r.bind k)) (m:∀ d H' Hs',r=.ok d->cD H Hs H' Hs'->Fr K H0 Hs0 la ρ σ H' Hs'->Q d H'):EM K cls E ρ r σ H Q:=by
 refine ⟨H0,Hs0,la,Hs,f,?_⟩
 cases r with
 | ok d=>exact fun H' Hs' s=>m d H' Hs' rfl s (f.step s)
 | ex c n=>exact fun H' Hs' s=>h H' Hs' (f.st.trans s)
 | no=>exact h
def dJ (g:aw->R D):aw->R Fl:=fun ρ=>(g (fe ρ)).bind fun d=>.ok (.rt d)
theorem bV (h:JE c e g):JS c (.Return (some e) pos) (dJ g):=.of fun ρ=>wX (Qk (h (fe ρ))) fun D σ H h_3=>by
 obtain ⟨H0,Hs0,la,Hs,f,q⟩:=h_3
 obtain ⟨Hs',f'⟩:=f.shared
 refine sE f' q fun d v H1 Hs1 e1 s1 f1 r1=>?_
 unfold dJ at q
 rw [e1,bind_ok] at q
 exact q v H1 Hs1 f1.st r1
def fQ (t:aw->R Bool) (g h:aw->R Fl):aw->R Fl:=fun ρ=>(t ρ).bind fun b=>if b then g ρ else h ρ
theorem fW {t:aQ}{gt:aw->R Bool}{A B:List cA}{gA gB:aw->R Fl} (ht:JT c t gt) (hA:Ga c A gA) (hB:Ga c B gB):JS c (.If t A B pos) (fQ gt gA gB):=.of fun ρ=>wX (S6 (ht ρ) (hA ρ) (hB ρ)) fun D σ H h_5=>by
 obtain ⟨H0,Hs0,la,Hs,f,q⟩:=h_5
 refine sT f q fun d H1 Hs1 e1 s1 f1=>?_
 unfold fQ at q
 rw [e1,bind_ok] at q
 cases d with
 | true=>exact yE ⟨H0,Hs0,la,Hs1,f1,q⟩
 | false=>exact yD ⟨H0,Hs0,la,Hs1,f1,q⟩
def f_ (i:Nat) (g:aw->R D):aw->R Fl:=fun ρ=>(g ρ).bind fun d=>.ok (.nx (ρ.set i (.shr d)))
theorem e7 (i:Nat) {pos':Pos} (h:JE c e g) (hN:c.X.N.Nodup) (hi:c.X.N[i]?=some x:=by rfl) (hx:OU c.X.env.scope x:=by first | exact gj rfl | exact dQ rfl) (hs:fD e (some (.Name x pos')) pos.line c.X.env=pure false:=by rfl)
  (hf:c.X.fn x=true\/c.X.env.scope.names.lookup x=some .local:=by first | exact .inl rfl | exact .inr rfl | assumption):JS c (.Assign [.Name x pos'] e pos) (f_ i g):=.of fun ρ=>wX (Et hN hi hx (h ρ) hs hf) fun D σ H h_6=>by
 obtain ⟨H0,Hs0,la,Hs,f,q⟩:=h_6
 refine sE f q fun d v H1 Hs1 e1 s1 f1 r1=>?_
 unfold f_ at q
 rw [e1,bind_ok] at q
 exact q _ H1 Hs1 (f1.set i r1)
def vn (g:aw->R D):aw->R Fl:=fun ρ=>(g ρ).bind fun _=>.ok (.nx ρ)
theorem tU (h:JE c e g) (hs:fD e none pos.line c.X.env=pure false:=by rfl):JS c (.Expr e pos) (vn g):=.of fun ρ=>wX (Aj (h ρ) hs) fun D σ H h_7=>by
 obtain ⟨H0,Hs0,la,Hs,f,q⟩:=h_7
 refine sE f q fun d v H1 Hs1 e1 s1 f1 r1=>?_
 unfold vn at q
 rw [e1,bind_ok] at q
 exact q _ H1 Hs1 f1
def VO (K:a8) (H0 Hs0:Hp) (la:Nat->Option ah) (H Hs:Hp) (Q:St->Hp->Prop) (r:R aw):Prop:=match r with
 | .ok ρ'=>∀ σ',Fr K H0 Hs0 la ρ' σ' H Hs->Q σ' H
 | _=>False
inductive SZ (K:a8) (ρ:aw) (d:D) (r:R aw) (v:V) (σ:St) (H:Hp) (Q:St->Hp->Prop):Prop
 | mk (H0 Hs0:Hp) (la:Nat->Option ah) (Hs:Hp) (f:Fr K H0 Hs0 la ρ σ H Hs) (rd:RD K Hs v d) (q:VO K H0 Hs0 la H Hs Q r):SZ K ρ d r v σ H Q
def QV (K:a8) (ρ:aw) (d:D) (r:R aw):TG:=SZ K ρ d r
inductive Pj (K:a8) (ρ:aw) (ds:List D) (r:R aw) (vs:List V) (σ:St) (H:Hp) (Q:St->Hp->Prop):Prop
 | mk (H0 Hs0:Hp) (la:Nat->Option ah) (Hs:Hp) (f:Fr K H0 Hs0 la ρ σ H Hs) (rd:RDs K Hs vs ds) (q:VO K H0 Hs0 la H Hs Q r):Pj K ρ ds r vs σ H Q
def S_ (K:a8) (ρ:aw) (ds:List D) (r:R aw):JL:=Pj K ρ ds r
structure JG (c:C) (t:aQ) (k:D->aw->R aw):Prop where of ::
 run:∀ ρ d,PG c.X t (QV c.X.K ρ d (k d ρ))
instance {c:C}{t:aQ}{k:D->aw->R aw}:CoeFun (JG c t k) (fun _=>∀ ρ d,PG c.X t (QV c.X.K ρ d (k d ρ))):=⟨JG.run⟩
structure RS (c:C) (t:List aQ) (k:List D->aw->R aw):Prop where of ::
 run:∀ ρ d,OW c.X t (S_ c.X.K ρ d (k d ρ))
instance {c:C}{t:List aQ}{k:List D->aw->R aw}:CoeFun (RS c t k) (fun _=>∀ ρ d,OW c.X t (S_ c.X.K ρ d (k d ρ))):=⟨RS.run⟩
theorem VP {X:Cx}{e:aQ}{t t':TG} (h:PG X e t) (m:∀ v σ H Q,t' v σ H Q->t v σ H Q):PG X e t':=fun pins s σ H v u Q I r q=>h pins s σ H v u Q I r (m v σ H Q q)
theorem Vb {X:Cx}{e:List aQ}{t t':JL} (h:OW X e t) (m:∀ v σ H Q,t' v σ H Q->t v σ H Q):OW X e t':=fun pins s σ H v u Q I r q=>h pins s σ H v u Q I r (m v σ H Q q)
def bC (i:Nat):D->aw->R aw:=fun d ρ=>.ok (ρ.set i (.shr d))
theorem cu (i:Nat) (hN:c.X.N.Nodup) (hi:c.X.N[i]?=some x:=by rfl) (hx:OU c.X.env.scope x:=by first | exact gj rfl | exact dQ rfl) (hf:c.X.fn x=true\/c.X.env.scope.names.lookup x=some .local:=by first | exact .inl rfl | exact .inr rfl | assumption) :
  JG c (.Name x pos) (bC i):=.of fun ρ d=>VP (cG hN hi hx hf) fun v σ H Q h_11=>by obtain ⟨H0,Hs0,la,Hs,f,r,q⟩:=h_11;exact q _ (f.set i r)
variable {kt:D->aw->R aw}{kts:List D->aw->R aw}{t:aQ}{ts:List aQ}
def lS:List D->aw->R aw:=fun ds ρ=>match ds with
 | []=>.ok ρ
 | _=>.no
def cx (k:D->aw->R aw) (ks:List D->aw->R aw):List D->aw->R aw:=fun ds ρ=>match ds with
 | d::r=>(k d ρ).bind fun ρ'=>ks r ρ'
 | _=>.no
theorem kG:RS c [] lS:=.of fun ρ ds=>Vb Ak fun vs σ H Q h_12=>by
 obtain ⟨H0,Hs0,la,Hs,f,r,q⟩:=h_12
 cases r with
 | nil=>exact ⟨rfl,q σ f⟩
 | cons _ _=>exact q.elim
theorem cQ (h:JG c t kt) (hr:RS c ts kts) (hs:(i0 (t::ts) c.X.env).map (·.2)=jx t c.X.env::(i0 ts c.X.env).map (·.2):=by rfl):RS c (t::ts) (cx kt kts):=.of fun ρ ds pins s σ H vs us Q I rv h_13=>by
 obtain ⟨H0,Hs0,la,Hs,f,r,q⟩:=h_13
 cases r with
 | nil=>exact q.elim
 | @cons v vr d dr r1 r2 =>
  unfold cx at q
  cases hk:kt d ρ with
  | ok ρ' =>
   simp only [hk,bind_ok] at q
   refine ph (h ρ d) (hr ρ' dr) hs pins s σ H _ us Q I rv ⟨v,vr,rfl,H0,Hs0,la,Hs,f,r1,?_⟩
   rw [hk]
   exact fun σ' f'=>⟨H0,Hs0,la,Hs,f',r2,q⟩
  | ex x n=>simp only [hk,bind_ex] at q;exact q.elim
  | no=>simp only [hk,bind_no] at q;exact q.elim
def kH (n:Nat) (ks:List D->aw->R aw):D->aw->R aw:=fun d ρ=>match d with
 | .tuple ds=>if ds.length=n then ks ds ρ else .no
 | _=>.no
theorem nH {k n:Nat} (hc:c.X.calm=true) (h:RS c ts kts) (hn:(i0 ts c.X.env).length=n:=by rfl) (hst:(i0 ts c.X.env).findIdx? (·.1)=none:=by rfl):JG c (.Tuple ts k pos) (kH n kts):=.of fun ρ d=>by
 cases d with
 | tuple ds =>
  refine VP (Es hc (h ρ ds) hn hst) fun v σ H Q h_14=>?_
  obtain ⟨H0,Hs0,la,Hs,f,r,q⟩:=h_14
  cases r with
  | @tuple p xs _ hq rs =>
   unfold kH at q
   by_cases hl:ds.length=n
   ·simp only [if_pos hl] at q
    exact ⟨p,xs,rfl,(jZ.of (f.st.sub _ _ hq)),by rw [rs.length];exact hl,H0,Hs0,la,Hs,f,rs,q⟩
   ·simp only [if_neg hl] at q;exact q.elim
 | _=>exact fun pins s σ H v u Q I rv h_15=>by obtain ⟨H0,Hs0,la,Hs,f,r,q⟩:=h_15;exact q.elim
def yP (g:aw->R D) (k:D->aw->R aw):aw->R Fl:=fun ρ=>(g ρ).bind fun d=>match k d ρ with
 | .ok ρ'=>.ok (.nx ρ')
 | _=>.no
theorem xb (h:JE c e g) (hg:JG c t kt) (hs:wa [t] e pos.line c.X.env=pure false:=by rfl) (hw:wc [t] e c.X.env=pure none:=by rfl) (h1:(i0 [t] c.X.env).map (·.2)=[jx t c.X.env]:=by rfl) :
  JS c (.Assign [t] e pos) (yP g kt):=.of fun ρ=>by
 cases hr:g ρ with
 | ok d =>
  refine wX (JP (h ρ) (hg ρ d) hs hw h1) fun D σ H h_16=>?_
  obtain ⟨H0,Hs0,la,Hs,f,q⟩:=h_16
  refine sE (k:=fun d=>match kt d ρ with | .ok ρ'=>.ok (.nx ρ') | _=>.no) f q fun d' v H1 Hs1 e1 s1 f1 r1=>?_
  rw [hr] at e1
  cases e1
  unfold yP at q
  rw [hr,bind_ok] at q
  refine ⟨H0,Hs0,la,Hs1,f1,r1,?_⟩
  cases hk:kt d ρ with
  | ok ρ'=>rw [hk] at q;exact fun σ' f'=>q σ' H1 Hs1 f'
  | ex x n=>rw [hk] at q;exact q.elim
  | no=>rw [hk] at q;exact q.elim
 | ex x n =>
  refine wX (JP (h ρ) (hg ρ .none) hs hw h1) fun D σ H h_17=>?_
  obtain ⟨H0,Hs0,la,Hs,f,q⟩:=h_17
  refine sE (k:=fun _=>.no) (D':=D) f (by unfold yP at q;rw [hr] at q ⊢;exact q) fun d' v H1 Hs1 e1 s1 f1 r1=>?_
  rw [hr] at e1;cases e1
 | no =>
  refine fun pins s σ H D I h_18=>?_
  obtain ⟨H0,Hs0,la,Hs,f,q⟩:=h_18
  unfold yP at q
  rw [hr] at q
  exact q.elim
end
end
section
def MQ (K:a8) (J:It) (ds:List D) (Hn Hs:Hp):Prop:=∀ H2 Hs2,dB Hn H2->dB Hs Hs2->dB Hs2 H2 ->
 (∀ i,i<ds.length->J.go i H2)/\(∀ i,ds.length<=i->J.stop i H2)/\∀ i x H3,i<ds.length->J.yld i H2 x H3->∃ d Hs3,ds[i]?=some d/\cD H2 Hs2 H3 Hs3/\RD K Hs3 x d
theorem AI {K:a8}{Hn Hs:Hp}{a:ah}{vs:List V}{ds:List D} (h:nB K Hn a vs) (r:RDs K Hs vs ds):MQ K (UD K a) ds Hn Hs:=fun H2 Hs2 e1 e2 e3=>by
 have q:=e1.seq h
 refine ⟨fun i hi=>?_,fun i hi=>⟨vs,q,by rw [r.length];exact hi⟩,fun i x H3 hi y=>?_⟩
 ·have hi':i<vs.length:=by rw [r.length];exact hi
  exact ⟨vs,vs[i],q,aY hi'⟩
 ·obtain ⟨rfl,y⟩:=y
  obtain ⟨d,k1,k2⟩:=r.get (y vs q)
  exact ⟨d,Hs2,k1,.refl e3,k2.same e2⟩
theorem KH {K:a8}{Hn Hs:Hp}{a:ah}{vs:List V}{ds:List D} (h:jZ K Hn a vs) (r:RDs K Hs vs ds):MQ K (UE K a) ds Hn Hs:=fun H2 Hs2 e1 e2 e3=>by
 have q:=e1.tup h
 refine ⟨fun i hi=>?_,fun i hi=>⟨vs,q,by rw [r.length];exact hi⟩,fun i x H3 hi y=>?_⟩
 ·have hi':i<vs.length:=by rw [r.length];exact hi
  exact ⟨vs,vs[i],q,aY hi'⟩
 ·obtain ⟨rfl,y⟩:=y
  obtain ⟨d,k1,k2⟩:=r.get (y vs q)
  exact ⟨d,Hs2,k1,.refl e3,k2.same e2⟩
theorem KI {K:a8}{Hn Hs:Hp} (x:Str):MQ K (Sy x) (mK x) Hn Hs:=fun H2 Hs2 e1 e2 e3=>by
 have hl:(mK x).length=x.cps.size:=by simp [mK]
 refine ⟨fun i hi=>by rw [hl] at hi;exact hi,fun i hi=>by rw [hl] at hi;exact hi,fun i v H3 hi y=>?_⟩
 obtain ⟨rfl,c,k1,rfl⟩:=y
 refine ⟨.str ⟨#[c]⟩,Hs2,?_,.refl e3,.str _⟩
 unfold mK
 rw [aX,dm,k1]
 rfl
def jg (lo:Int) (n:Nat):List D:=(bD n).map fun (k:Nat)=>bB (lo + k)
theorem KJ {K:a8}{Hn Hs:Hp} (lo:Int) (n:Nat):MQ K (U8 lo n) (jg lo n) Hn Hs:=fun H2 Hs2 e1 e2 e3=>by
 have hl:(jg lo n).length=n:=by simp [jg]
 refine ⟨fun i hi=>by rw [hl] at hi;exact hi,fun i hi=>by rw [hl] at hi;exact hi,fun i v H3 hi y=>?_⟩
 obtain ⟨rfl,rfl⟩:=y
 refine ⟨.int (lo + i),Hs2,?_,.refl e3,.int _⟩
 rw [hl] at hi
 unfold jg
 rw [aX,Hu hi]
 rfl
def oE (n:Nat):List D->List D
 | []=>[]
 | d::r=>.tuple [.int n,d]::oE (n + 1) r
theorem zG:∀ (ds:List D) (n i:Nat),(oE n ds)[i]?=(ds[i]?).map fun d=>cO [.int ((n + i:Nat):Int),d]
 | [],_,_=>by simp [oE]
 | d::r,n,0=>by simp [oE]
 | d::r,n,i + 1=>by
  simp only [oE,ja]
  rw [zG r (n + 1) i,show n + 1 + i=n + (i + 1) by omega]
theorem zH:∀ (ds:List D) (n:Nat),(oE n ds).length=ds.length
 | [],_=>rfl
 | d::r,n=>by simp [oE,zH r]
theorem O9 {K:a8}{Hn Hs:Hp}{a:ah}{vs:List V}{ds:List D} (h:jZ K Hn a vs) (r:RDs K Hs vs ds):MQ K (U_ K a) (oE 0 ds) Hn Hs:=fun H2 Hs2 e1 e2 e3=>by
 have q:=e1.tup h
 have hl:=zH ds 0
 refine ⟨fun i hi=>?_,fun i hi=>⟨vs,q,by rw [r.length];omega⟩,fun i x H3 hi y=>?_⟩
 ·have hi':i<vs.length:=by rw [r.length];omega
  exact ⟨vs,vs[i],q,aY hi'⟩
 ·obtain ⟨p,hp,rfl,y⟩:=y
  obtain ⟨x,k0,rfl⟩:=y vs q
  obtain ⟨d,k1,k2⟩:=r.get k0
  have st:=cD.new (o:=.tup [.int i,x]) e3 hp
  refine ⟨.tuple [.int i,d],_,?_,st,.tuple bj (.cons (.int _) (.cons ((k2.same e2).same st.sh) .nil))⟩
  rw [zG,k1]
  simp
def vV:List D->List D->List D
 | x::xs,y::ys=>.tuple [x,y]::vV xs ys
 | _,_=>[]
theorem Ct:∀ (xs ys:List D) (i:Nat) (x y:D),xs[i]?=some x->ys[i]?=some y->(vV xs ys)[i]?=some (.tuple [x,y])
 | x::xs,y::ys,0,_,_,h1,h2=>by simp at h1 h2;subst h1 h2;rfl
 | _::xs,_::ys,i + 1,x,y,h1,h2=>by
  simp only [ja] at h1 h2
  simp only [vV,ja]
  exact Ct xs ys i x y h1 h2
 | [],_,_,_,_,h1,_=>by simp at h1
 | _::_,[],_,_,_,_,h2=>by simp at h2
theorem Cu:∀ (xs ys:List D),(vV xs ys).length=min xs.length ys.length
 | x::xs,y::ys=>by simp [vV,Cu xs ys]
 | [],_=>by simp [vV]
 | _::_,[]=>by simp [vV]
theorem QW {K:a8}{Hn Hs:Hp}{a b:ah}{vs ws:List V}{ds es:List D} (h:jZ K Hn a vs) (r:RDs K Hs vs ds) (h':jZ K Hn b ws) (r':RDs K Hs ws es):MQ K (V0 K a b) (vV ds es) Hn Hs:=fun H2 Hs2 e1 e2 e3=>by
 have q:=e1.tup h
 have q':=e1.tup h'
 have hl:=Cu ds es
 refine ⟨fun i hi=>?_,fun i hi=>⟨vs,ws,q,q',by rw [r.length,r'.length];omega⟩,fun i x H3 hi y=>?_⟩
 ·have h1:i<vs.length:=by rw [r.length];omega
  have h2:i<ws.length:=by rw [r'.length];omega
  exact ⟨vs,ws,vs[i],ws[i],q,q',aY h1,aY h2⟩
 ·obtain ⟨p,hp,rfl,y⟩:=y
  obtain ⟨x,z,k0,k0',rfl⟩:=y vs ws q q'
  obtain ⟨d,k1,k2⟩:=r.get k0
  obtain ⟨d',k1',k2'⟩:=r'.get k0'
  have st:=cD.new (o:=.tup [x,z]) e3 hp
  exact ⟨.tuple [d,d'],_,Ct ds es i d d' k1 k1',st,.tuple bj (.cons ((k2.same e2).same st.sh) (.cons ((k2'.same e2).same st.sh) .nil))⟩
inductive T1 (K:a8) (cls:Str->ah) (E:XK) (ρ:aw) (r:R (List D)) (σ:St) (H:Hp) (Q:It->Hp->Prop):Prop
 | mk (H0 Hs0:Hp) (la:Nat->Option ah) (Hs:Hp) (f:Fr K H0 Hs0 la ρ σ H Hs) (q:Fin K cls E H Hs r fun ds=>∀ J H' Hs' Hn,cD H Hs H' Hs'->dB Hn H'->MQ K J ds Hn Hs'->Q J H'):T1 K cls E ρ r σ H Q
def T2 (K:a8) (cls:Str->ah) (E:XK) (ρ:aw) (r:R (List D)):TI:=T1 K cls E ρ r
inductive T3 (K:a8) (cls:Str->ah) (E:XK) (ρ:aw) (r:R (List D)) (σ:St) (H:Hp) (Q:It->Hp->Prop):Prop
 | mk (H0 Hs0:Hp) (la:Nat->Option ah) (Hs:Hp) (f:Fr K H0 Hs0 la ρ σ H Hs) (q:Fin K cls E H Hs r fun ds=>∀ J H' Hs',cD H Hs H' Hs'->MQ K J ds Hs' Hs'->Q J H'):T3 K cls E ρ r σ H Q
def VQ (K:a8) (cls:Str->ah) (E:XK) (ρ:aw) (r:R (List D)):TI:=T3 K cls E ρ r
structure JI (c:C) (tg it:aQ) (g:aw->R (List D)):Prop where of ::
 run:∀ ρ,PI c.X tg it (T2 c.X.K c.cls c.E ρ (g ρ))
instance {c:C}{tg it:aQ}{g:aw->R (List D)}:CoeFun (JI c tg it g) (fun _=>∀ ρ,PI c.X tg it (T2 c.X.K c.cls c.E ρ (g ρ))):=⟨JI.run⟩
structure Ji (c:C) (tg it:aQ) (g:aw->R (List D)):Prop where of ::
 run:∀ ρ,PI c.X tg it (VQ c.X.K c.cls c.E ρ (g ρ))
instance {c:C}{tg it:aQ}{g:aw->R (List D)}:CoeFun (Ji c tg it g) (fun _=>∀ ρ,PI c.X tg it (VQ c.X.K c.cls c.E ρ (g ρ))):=⟨Ji.run⟩
theorem Gb {X:Cx}{tg e:aQ}{t t':TI} (h:PI X tg e t) (m:∀ σ H Q,t' σ H Q->t σ H Q):PI X tg e t':=fun pins s σ H Q I q=>h pins s σ H Q I (m σ H Q q)
section
variable {c:C}{e a b l tg:aQ}{g ga gb:aw->R D}{pos p:Pos}{gs:aw->R (List D)}
def xc:D->R (List D)
 | .list ds=>.ok ds
 | .tuple ds=>.ok ds
 | .str x=>.ok (mK x)
 | _=>.no
def k7 (g:aw->R D):aw->R (List D):=fun ρ=>(g ρ).bind xc
theorem fR (h:JB c l g):JI c tg l (k7 g):=.of fun ρ=>by
 cases hr:g ρ with
 | no=>exact fun pins s σ H Q I h_0=>by obtain ⟨H0,Hs0,la,Hs,f,q⟩:=h_0;exact by unfold k7 at q;rw [hr] at q;exact q.elim
 | ex x n =>
  refine Gb (tf (h ρ)) fun σ H Q h_1=>?_
  obtain ⟨H0,Hs0,la,Hs,f,q⟩:=h_1
  refine one f q fun d v H1 Hs1 e1 s1 f1 r1=>?_
  rw [hr] at e1;cases e1
 | ok d =>
  cases d with
  | list ds =>
   refine Gb (tf (h ρ)) fun σ H Q h_2=>?_
   obtain ⟨H0,Hs0,la,Hs,f,q⟩:=h_2
   refine one f q fun d v H1 Hs1 e1 s1 f1 r1=>?_
   rw [hr] at e1;cases e1
   unfold k7 at q
   rw [hr,bind_ok] at q
   obtain ⟨a,vs,rfl,qa,ra⟩:=r1.list f1.st.sub
   exact ⟨a,rfl,⟨vs,qa⟩,q _ H1 Hs1 H1 s1 (.refl _) (AI qa ra)⟩
  | tuple ds =>
   refine Gb (JR (h ρ)) fun σ H Q h_3=>?_
   obtain ⟨H0,Hs0,la,Hs,f,q⟩:=h_3
   refine one f q fun d v H1 Hs1 e1 s1 f1 r1=>?_
   rw [hr] at e1;cases e1
   unfold k7 at q
   rw [hr,bind_ok] at q
   obtain ⟨a,vs,rfl,qa,ra,_⟩:=r1.tuple f1.st.sub
   exact ⟨a,rfl,⟨vs,qa⟩,q _ H1 Hs1 H1 s1 (.refl _) (KH qa ra)⟩
  | str x =>
   refine Gb (Kn (h ρ)) fun σ H Q h_4=>?_
   obtain ⟨H0,Hs0,la,Hs,f,q⟩:=h_4
   refine one f q fun d v H1 Hs1 e1 s1 f1 r1=>?_
   rw [hr] at e1;cases e1
   unfold k7 at q
   rw [hr,bind_ok] at q
   exact ⟨x,r1.str,q _ H1 Hs1 H1 s1 (.refl _) (KI x)⟩
  | none=>exact fun pins s σ H Q I h_5=>by obtain ⟨H0,Hs0,la,Hs,f,q⟩:=h_5;exact by unfold k7 at q;rw [hr] at q;exact q.elim
  | bool _=>exact fun pins s σ H Q I h_6=>by obtain ⟨H0,Hs0,la,Hs,f,q⟩:=h_6;exact by unfold k7 at q;rw [hr] at q;exact q.elim
  | int _=>exact fun pins s σ H Q I h_7=>by obtain ⟨H0,Hs0,la,Hs,f,q⟩:=h_7;exact by unfold k7 at q;rw [hr] at q;exact q.elim
  | dict _=>exact fun pins s σ H Q I h_8=>by obtain ⟨H0,Hs0,la,Hs,f,q⟩:=h_8;exact by unfold k7 at q;rw [hr] at q;exact q.elim
theorem tV (h:JE c l g):Ji c tg l (k7 g):=.of fun ρ=>by
 cases hr:g ρ with
 | no=>exact fun pins s σ H Q I h_9=>by obtain ⟨H0,Hs0,la,Hs,f,q⟩:=h_9;exact by unfold k7 at q;rw [hr] at q;exact q.elim
 | ex x n =>
  refine Gb (tf (h ρ)) fun σ H Q h_10=>?_
  obtain ⟨H0,Hs0,la,Hs,f,q⟩:=h_10
  refine yM f q fun d v H1 Hs1 e1 s1 f1 r1=>?_
  rw [hr] at e1;cases e1
 | ok d =>
  cases d with
  | list ds =>
   refine Gb (tf (h ρ)) fun σ H Q h_11=>?_
   obtain ⟨H0,Hs0,la,Hs,f,q⟩:=h_11
   refine yM f q fun d v H1 Hs1 e1 s1 f1 r1=>?_
   rw [hr] at e1;cases e1
   unfold k7 at q
   rw [hr,bind_ok] at q
   cases r1 with
   | list qa ra=>exact ⟨_,rfl,⟨_,f1.st.sub.seq qa⟩,q _ H1 Hs1 s1 (AI qa ra)⟩
  | tuple ds =>
   refine Gb (JR (h ρ)) fun σ H Q h_12=>?_
   obtain ⟨H0,Hs0,la,Hs,f,q⟩:=h_12
   refine yM f q fun d v H1 Hs1 e1 s1 f1 r1=>?_
   rw [hr] at e1;cases e1
   unfold k7 at q
   rw [hr,bind_ok] at q
   cases r1 with
   | tuple qa ra=>exact ⟨_,rfl,⟨_,(jZ.of (f1.st.sub _ _ qa))⟩,q _ H1 Hs1 s1 (KH (.of qa) ra)⟩
  | str x =>
   refine Gb (Kn (h ρ)) fun σ H Q h_13=>?_
   obtain ⟨H0,Hs0,la,Hs,f,q⟩:=h_13
   refine yM f q fun d v H1 Hs1 e1 s1 f1 r1=>?_
   rw [hr] at e1;cases e1
   unfold k7 at q
   rw [hr,bind_ok] at q
   cases r1 with
   | str _=>exact ⟨x,rfl,q _ H1 Hs1 s1 (KI x)⟩
  | none=>exact fun pins s σ H Q I h_14=>by obtain ⟨H0,Hs0,la,Hs,f,q⟩:=h_14;exact by unfold k7 at q;rw [hr] at q;exact q.elim
  | bool _=>exact fun pins s σ H Q I h_15=>by obtain ⟨H0,Hs0,la,Hs,f,q⟩:=h_15;exact by unfold k7 at q;rw [hr] at q;exact q.elim
  | int _=>exact fun pins s σ H Q I h_16=>by obtain ⟨H0,Hs0,la,Hs,f,q⟩:=h_16;exact by unfold k7 at q;rw [hr] at q;exact q.elim
  | dict _=>exact fun pins s σ H Q I h_17=>by obtain ⟨H0,Hs0,la,Hs,f,q⟩:=h_17;exact by unfold k7 at q;rw [hr] at q;exact q.elim
theorem Ji.i (h:Ji c tg l gs):JI c tg l gs:=.of fun ρ=>Gb (h ρ) fun σ H Q ⟨H0,Hs0,la,Hs,f,q⟩=>⟨H0,Hs0,la,Hs,f,by
 cases hr:gs ρ with
 | ok ds=>rw [hr] at q;exact fun J H' Hs' s i=>q J H' Hs' Hs' s s.sub i
 | ex x n=>rw [hr] at q;exact q
 | no=>rw [hr] at q;exact q⟩
def EV:List D->R (List D)
 | [.int j]=>if -(2 ^ 62)<=j/\j<2 ^ 62 then .ok (jg 0 j.toNat) else .no
 | _=>.no
def vo (gs:aw->R (List D)):aw->R (List D):=fun ρ=>(gs ρ).bind EV
theorem nI (hg:Gl c.X "range") (hm:c.X.mg "range"=none) (ha:Pd c [a] gs) (hs:aK [a] c.X.env=[(false,dU a c.X.env)]:=by rfl):Ji c tg (.Call (.Name "range" p) [a] [] pos) (vo gs):=.of fun ρ=>Gb (HE hg hm (ha ρ) hs) fun σ H Q h_18=>by
 obtain ⟨H0,Hs0,la,Hs,f,q⟩:=h_18
 refine Kx f q fun ds vs H1 Hs1 e1 s1 f1 r1=>?_
 unfold vo at q
 rw [e1,bind_ok] at q
 unfold EV at q
 split at q
 ·rename_i j
  by_cases hj:-(2 ^ 62)<=j/\j<2 ^ 62
  ·rw [if_pos hj] at q
   obtain ⟨x,rfl,rx⟩:=r1.one
   exact ⟨j,by rw [rx.int],hj.1,hj.2,q _ H1 Hs1 s1 (KJ 0 _)⟩
  ·rw [if_neg hj] at q;exact q.elim
 ·exact q.elim
def Uh:List D->R (List D)
 | [.tuple ds]=>.ok (oE 0 ds)
 | _=>.no
def EW (gs:aw->R (List D)):aw->R (List D):=fun ρ=>(gs ρ).bind Uh
theorem RDs.one {K:a8}{H:Hp}{xs:List V}{d:D} (h:RDs K H xs [d]):∃ x,xs=[x]/\RD K H x d:=by
 cases h with | cons a t=>cases t;exact ⟨_,rfl,a⟩
theorem RDs.two {K:a8}{H:Hp}{xs:List V}{d e:D} (h:RDs K H xs [d,e]):∃ x y,xs=[x,y]/\RD K H x d/\RD K H y e:=by
 cases h with | cons a t=>cases t with | cons b t=>cases t;exact ⟨_,_,rfl,a,b⟩
theorem xf {elts:List aQ}{x1}{tpos:Pos} (hg:Gl c.X "enumerate") (hm:c.X.mg "enumerate"=none) (ha:G1 c [a] gs) (hs:aK [a] c.X.env=[(false,dU a c.X.env)]:=by rfl):Ji c (.Tuple elts x1 tpos) (.Call (.Name "enumerate" p) [a] [] pos) (EW gs):=.of fun ρ=>Gb (NX hg hm (ha ρ) hs) fun σ H Q h_20=>by
 obtain ⟨H0,Hs0,la,Hs,f,q⟩:=h_20
 refine EN f q fun ds vs H1 Hs1 e1 s1 f1 r1=>?_
 unfold EW at q
 rw [e1,bind_ok] at q
 unfold Uh at q
 split at q
 ·obtain ⟨x,rfl,rx⟩:=r1.one
  cases rx with
  | tuple qa ra=>exact ⟨_,_,rfl,(jZ.of (f1.st.sub _ _ qa)),q _ H1 Hs1 s1 (O9 (.of qa) ra)⟩
 ·exact q.elim
def zp:List D->R (List D)
 | [.tuple ds,.tuple es]=>.ok (vV ds es)
 | _=>.no
def Oa (gs:aw->R (List D)):aw->R (List D):=fun ρ=>(gs ρ).bind zp
theorem Ob {elts:List aQ}{x1}{tpos:Pos} (hg:Gl c.X "zip") (hm:c.X.mg "zip"=none) (ha:G1 c [a,b] gs) (hs:aK [a,b] c.X.env=[(false,dU a c.X.env),(false,dU b c.X.env)]:=by rfl) (hs2:aK [b] c.X.env=[(false,dU b c.X.env)]:=by rfl) :
  Ji c (.Tuple elts x1 tpos) (.Call (.Name "zip" p) [a,b] [] pos) (Oa gs):=.of fun ρ=>Gb (QP hg hm (ha ρ) hs hs2) fun σ H Q h_21=>by
 obtain ⟨H0,Hs0,la,Hs,f,q⟩:=h_21
 refine EN f q fun ds vs H1 Hs1 e1 s1 f1 r1=>?_
 unfold Oa at q
 rw [e1,bind_ok] at q
 unfold zp at q
 split at q
 ·obtain ⟨x,y,rfl,rx,ry⟩:=r1.two
  cases rx with
  | tuple qa ra =>
   cases ry with
   | tuple qb rb=>exact ⟨_,_,_,_,rfl,(jZ.of (f1.st.sub _ _ qa)),(jZ.of (f1.st.sub _ _ qb)),q _ H1 Hs1 s1 (QW (.of qa) ra (.of qb) rb)⟩
 ·exact q.elim
end
end
section
inductive VR (K:a8) (cls:Str->ah) (E:XK) (ρ:aw) (r:R D) (σ:St) (H:Hp) (Q:VK):Prop
 | mk (H0 Hs0:Hp) (la:Nat->Option ah) (Hs:Hp) (f:Fr K H0 Hs0 la ρ σ H Hs) (q:Fin K cls E H Hs r fun d=>∀ a o H' Hs',cD H Hs H' Hs'->H' a=none->lR K Hs' o d->Q (.ref a) (upd H' a o)):VR K cls E ρ r σ H Q
def TN (K:a8) (cls:Str->ah) (E:XK) (ρ:aw) (r:R D):TE:=VR K cls E ρ r
structure JN (c:C) (e:aQ) (g:aw->R D):Prop where of ::
 run:∀ ρ,PE c.X e (TN c.X.K c.cls c.E ρ (g ρ))
instance {c:C}{e:aQ}{g:aw->R D}:CoeFun (JN c e g) (fun _=>∀ ρ,PE c.X e (TN c.X.K c.cls c.E ρ (g ρ))):=⟨JN.run⟩
section
variable {c:C}{e a b l tg:aQ}{g ga gb:aw->R D}{pos p:Pos}{gs:aw->R (List D)}{es:List aQ}{x:Str}
theorem Vc {K:a8}{cls:Str->ah}{E:XK}{ρ:aw}{r:R D}{σ:St}{H:Hp}{Q:VK} (q:TR K cls E ρ r σ H Q):TN K cls E ρ r σ H Q:=by
 obtain ⟨H0,Hs0,la,Hs,f,q⟩:=q
 refine ⟨H0,Hs0,la,Hs,f,?_⟩
 cases r with
 | ok d=>exact fun a o H' Hs' s n r=>q _ _ _ (s.trans (.new s.sub n)) (r.share (s.sub.free n))
 | ex x n=>exact q
 | no=>exact q
theorem JN.je (h:JN c e g):JE c e g:=.of fun ρ=>rP (h ρ) fun σ H Q q=>Vc q
theorem rU (h:G1 c es gs):JN c (.List es pos) (eJ gs .list):=.of fun ρ=>rP (rK (h ρ)) fun σ H Q h_0=>by
 obtain ⟨H0,Hs0,la,Hs,f,q⟩:=h_0
 refine EN f q fun ds vs H1 Hs1 e1 s1 f1 r1=>?_
 unfold eJ at q
 rw [e1,bind_ok] at q
 by_cases hl:ds.length<=1000
 ·rw [if_pos hl] at q
  exact ⟨cp (dg (by rw [r1.length];exact hl)),fun p hp=>q p _ H1 Hs1 s1 hp (.lst r1)⟩
 ·rw [if_neg hl] at q;exact q.elim
theorem Gc:JN c (.Dict [] [] pos) (fun _=>.ok (.dict [])):=.of fun ρ=>rP Ka fun σ H Q h_1=>by obtain ⟨H0,Hs0,la,Hs,f,q⟩:=h_1;exact fun p hp=>q p _ H Hs (.refl f.st.sub) hp (.dK .nil)
def eC (i:Nat) (g:aw->R D):aw->R Fl:=fun ρ=>(g ρ).bind fun d=>.ok (.nx (ρ.set i (.own d)))
theorem sN {K:a8}{cls:Str->ah}{E:XK}{ρ:aw}{r:R D}{k:D->R Fl}{σ:St}{H:Hp}{H0 Hs0 Hs:Hp}{la:Nat->Option ah}{D':t6}{Q:V->Hp->Prop} (f:Fr K H0 Hs0 la ρ σ H Hs)
  (h:mY K cls E H0 Hs0 la D' (r.bind k)) (m:∀ d a o H' Hs',r=.ok d->Fr K H0 Hs0 la ρ σ H' Hs'->H' a=none->lR K Hs' o d->Q (.ref a) (upd H' a o)):TN K cls E ρ r σ H Q:=by
 refine ⟨H0,Hs0,la,Hs,f,?_⟩
 cases r with
 | ok d=>exact fun a o H' Hs' s n r=>m d a o H' Hs' rfl (f.step s) n r
 | ex c n=>exact fun H' Hs' s=>h H' Hs' (f.st.trans s)
 | no=>exact h
theorem iO (i:Nat) {pos':Pos} (h:JN c e g) (hN:c.X.N.Nodup) (hi:c.X.N[i]?=some x:=by rfl) (hx:OU c.X.env.scope x:=by first | exact gj rfl | exact dQ rfl) (hs:fD e (some (.Name x pos')) pos.line c.X.env=pure false:=by rfl)
  (hf:c.X.fn x=true\/c.X.env.scope.names.lookup x=some .local:=by first | exact .inl rfl | exact .inr rfl | assumption):JS c (.Assign [.Name x pos'] e pos) (eC i g):=.of fun ρ=>wX (Et hN hi hx (h ρ) hs hf) fun D σ H h_2=>by
 obtain ⟨H0,Hs0,la,Hs,f,q⟩:=h_2
 refine sN f q fun d a o H1 Hs1 e1 f1 n1 r1=>?_
 unfold eC at q
 rw [e1,bind_ok] at q
 exact q _ _ Hs1 (f1.setO i n1 r1)
def Ii {α:Type}:R α->R α
 | .ex _ _=>.no
 | r=>r
theorem AJ {α:Type}{r:R α}{a:α} (h:Ii r=.ok a):r=.ok a:=by
 cases r<;>first | exact h | cases h
def fg (f:D->R (Option D)):List D->R (List D)
 | []=>.ok []
 | d::r=>(f d).bind fun o=>(fg f r).bind fun ys=>.ok (match o with
  | some y=>y::ys
  | none=>ys)
theorem rV {f:D->R (Option D)}{d:D}{r ys:List D} (h:fg f (d::r)=.ok ys):∃ o zs,f d=.ok o/\fg f r=.ok zs/\ys=o.toList++zs:=by
 unfold fg at h
 cases hf:f d with
 | ok o =>
  rw [hf,bind_ok] at h
  cases hm:fg f r with
  | ok zs =>
   rw [hm,bind_ok] at h
   cases h
   cases o<;>exact ⟨_,zs,rfl,rfl,rfl⟩
  | ex x n=>rw [hm] at h;cases h
  | no=>rw [hm] at h;cases h
 | ex x n=>rw [hf] at h;cases h
 | no=>rw [hf] at h;cases h
def Oc:Sl->Sl
 | .own d=>.lck d
 | .ow2 _=>.no
 | s=>s
def ko (nt:Nat) (ix:List Nat) (ρ:aw):aw:=qU nt Sl.no++ix.map fun i=>Oc ((ρ[i]?).getD .no)
def RT (nt:Nat):D->aw->R aw:=match nt with
 | 1=>bC 0
 | 2=>kH 2 (cx (bC 0) (cx (bC 1) lS))
 | _=>fun _ _=>.no
def fX (nt:Nat) (ρ:aw) (gt:aw->R Bool) (ge:aw->R D):D->R (Option D):=fun d=>Ii ((RT nt d ρ).bind fun ρ'=>(gt ρ').bind fun b=>if b then (ge ρ').bind fun y=>.ok (some y) else .ok none)
def fo (nt:Nat) (ix:List Nat) (gi:aw->R (List D)) (gt:aw->R Bool) (ge:aw->R D):aw->R D:=fun ρ=>(gi ρ).bind fun ds=>if ds.length<=1000 then (fg (fX nt (ko nt ix ρ) gt ge) ds).bind fun ys=>.ok (.list ys) else .no
structure RU (c:C) (ifs:List aQ) (g:aw->R Bool):Prop where of ::
 run:∀ ρ,HP c.X ifs (EM c.X.K c.cls c.E ρ (g ρ))
instance {c:C}{ifs:List aQ}{g:aw->R Bool}:CoeFun (RU c ifs g) (fun _=>∀ ρ,HP c.X ifs (EM c.X.K c.cls c.E ρ (g ρ))):=⟨RU.run⟩
theorem g9:RU c [] (fun _=>.ok true):=.of fun ρ pins s σ H Q I h_3=>by obtain ⟨H0,Hs0,la,Hs,f,q⟩:=h_3;exact NT pins s σ H Q I (q H Hs (.refl f.st.sub))
theorem jP {gt:aw->R Bool} (h:JT c e gt):RU c [e] gt:=.of fun ρ=>NU (h ρ)
def AK (K:a8) (nt:Nat):TG:=match nt with
 | 1=>vj 0
 | _=>Qm K 2 (L2.ag (vj 0) (L2.ag (vj 1) L2.aM))
theorem wv {K:a8}{nt:Nat} (h:nt=1\/nt=2):MO nt (AK K nt):=by
 rcases h with rfl | rfl
 ·exact Kc (by decide)
 ·exact NV (by decide) (by decide)
theorem xg {K:a8}{nt:Nat}{H0 Hs0 H Hs:Hp}{la:Nat->Option ah}{ρ ρ':aw}{σ:St}{v:V}{d:D}{Q:St->Hp->Prop} (hnt:nt=1\/nt=2) (f:Fr K H0 Hs0 la ρ σ H Hs) (r:RD K Hs v d) (hb:RT nt d ρ=.ok ρ')
  (q:∀ σ',Fr K H0 Hs0 la ρ' σ' H Hs->Q σ' H):AK K nt v σ H Q:=by
 rcases hnt with rfl | rfl
 ·cases hb
  exact q _ (f.set 0 r)
 ·unfold RT kH at hb
  simp only at hb
  cases r with
  | @tuple p xs ds hq rs =>
   simp only at hb
   split at hb
   ·rename_i hl
    cases rs with
    | nil=>cases hl
    | cons r1 rs =>
     cases rs with
     | nil=>cases hl
     | cons r2 rs =>
      cases rs with
      | nil =>
       cases hb
       exact ⟨p,_,rfl,(jZ.of (f.st.sub _ _ hq)),rfl,_,_,rfl,_,_,rfl,rfl,q _ ((f.set 0 r1).set 1 r2)⟩
      | cons _ _=>simp at hl
   ·cases hb
  | none=>cases hb
  | bool _=>cases hb
  | int _=>cases hb
  | str _=>cases hb
  | list _ _=>cases hb
  | dictK _ _=>cases hb
  | dictT _ _ _=>cases hb
  | dictF _ _ _=>cases hb
theorem Fr.block {K:a8}{H0 Hs0 H Hs:Hp}{la:Nat->Option ah}{ρ:aw}{σ:St} (f:Fr K H0 Hs0 la ρ σ H Hs) (nt:Nat) (ix:List Nat):∃ la',Fr K H Hs la' (ko nt ix ρ) (L2.gL nt ix σ) H Hs:=by
 have lk:∀ (j:Nat) (d:D),(ko nt ix ρ)[j]?=some (Sl.lck d)->∃ a o,(L2.gL nt ix σ)[j]?=some (some (V.ref a))/\H a=some o/\Hs a=none/\lR K Hs o d:=fun j d h=>by
  unfold ko at h
  by_cases hj:j<nt
  ·rw [aW (by simpa using hj),bY,if_pos hj] at h;cases h
  ·have hj:nt<=j:=by omega
   rw [bc (by simpa using hj),cJ,aX] at h
   cases hi:ix[j - nt]? with
   | none=>rw [hi] at h;cases h
   | some i =>
    rw [hi] at h
    have at_:∀ v,σ[i]?=some (some v)->(L2.gL nt ix σ)[j]?=some (some v):=fun v k1=>by
     unfold L2.gL
     rw [bc (by simpa using hj),cJ,aX,hi]
     simp [k1]
    cases hr:ρ[i]? with
    | none=>simp only [cU,hr,gg,Oc] at h;cases h
    | some s =>
     simp only [cU,hr,jN] at h
     cases s with
     | own d' =>
      cases h
      obtain ⟨a,o,k1,k2,k3,k4,k5⟩:=f.ow i d hr
      exact ⟨a,o,at_ _ k1,k2,k3,k5⟩
     | lck d' =>
      cases h
      obtain ⟨a,o,k1,k2,k3,k4,k5,k6⟩:=f.lk i d hr
      exact ⟨a,o,at_ _ k1,k3,k4,k6⟩
     | no=>cases h
     | shr _=>cases h
     | ow2 _=>cases h
 have no2:∀ (j:Nat) (d:List (List D)),¬ (ko nt ix ρ)[j]?=some (Sl.ow2 d):=fun j d h=>by
  unfold ko at h
  by_cases hj:j<nt
  ·rw [aW (by simpa using hj),bY,if_pos hj] at h;cases h
  ·have hj:nt<=j:=by omega
   rw [bc (by simpa using hj),cJ,aX] at h
   cases hi:ix[j - nt]? with
   | none=>rw [hi] at h;cases h
   | some i =>
    rw [hi] at h
    cases hr:ρ[i]? with
    | none=>simp only [cU,hr,gg,Oc] at h;cases h
    | some s =>
     simp only [cU,hr,jN] at h
     cases s<;>cases h
 refine ⟨fun j=>match (ko nt ix ρ)[j]?,(L2.gL nt ix σ)[j]? with
  | some (Sl.lck _),some (some (V.ref a))=>some a
  | _,_=>none,.refl f.st.sub,by simp [ko,L2.gL],fun j d h=>?_,fun j d h=>?_,fun j d h=>?_,fun j k d1 d2 a h1 h2 _ _=>?_,fun j a h=>?_,fun j d h=>(no2 j d h).elim,fun j k d1 d2 h1 _=>(no2 j d1 h1).elim⟩
 case refine_3 =>
  obtain ⟨a,o,k1,k2,k3,k4⟩:=lk j d h
  exact ⟨a,o,k1,by rw [h,k1],k2,k3,k2,k4⟩
 case refine_5 =>
  split at h
  ·rename_i d a' h1 h2
   cases h
   obtain ⟨a',o,k1,k2,_⟩:=lk j d h1
   rw [h2] at k1
   cases k1
   exact ⟨o,k2⟩
  ·cases h
 all_goals
  unfold ko at *
 ·have h:=h
  by_cases hj:j<nt
  ·rw [aW (by simpa using hj),bY,if_pos hj] at h;cases h
  ·have hj:nt<=j:=by omega
   rw [bc (by simpa using hj),cJ,aX] at h
   cases hi:ix[j - nt]? with
   | none=>rw [hi] at h;cases h
   | some i =>
    rw [hi] at h
    cases hr:ρ[i]? with
    | none=>simp only [cU,hr,gg,Oc] at h;cases h
    | some s =>
     simp only [cU,hr,jN] at h
     cases s with
     | shr d' =>
      cases h
      obtain ⟨v,k1,k2⟩:=f.sh i d hr
      refine ⟨v,?_,k2⟩
      unfold L2.gL
      rw [bc (by simpa using hj),cJ,aX,hi]
      simp [k1]
     | no=>cases h
     | own _=>cases h
     | lck _=>cases h
     | ow2 _=>cases h
 ·have h:=h
  by_cases hj:j<nt
  ·rw [aW (by simpa using hj),bY,if_pos hj] at h;cases h
  ·have hj:nt<=j:=by omega
   rw [bc (by simpa using hj),cJ,aX] at h
   cases hi:ix[j - nt]? with
   | none=>rw [hi] at h;cases h
   | some i =>
    rw [hi] at h
    cases hr:ρ[i]? with
    | none=>simp only [cU,hr,gg,Oc] at h;cases h
    | some s =>
     simp only [cU,hr,jN] at h
     cases s<;>cases h
 ·have h1:=h1
  by_cases hj:j<nt
  ·rw [aW (by simpa using hj),bY,if_pos hj] at h1;cases h1
  ·have hj:nt<=j:=by omega
   rw [bc (by simpa using hj),cJ,aX] at h1
   cases hi:ix[j - nt]? with
   | none=>rw [hi] at h1;cases h1
   | some i =>
    rw [hi] at h1
    cases hr:ρ[i]? with
    | none=>simp only [cU,hr,gg,Oc] at h1;cases h1
    | some s =>
     simp only [cU,hr,jN] at h1
     cases s<;>cases h1
theorem tW {f:D->R (Option D)} (h:∀ d c n,f d≠.ex c n):∀ (ds:List D) (c:Str) (n:Option D),fg f ds≠.ex c n
 | [],c,n=>fun e=>by cases e
 | d::r,c,n=>fun e=>by
  unfold fg at e
  cases hf:f d with
  | ok o =>
   rw [hf,bind_ok] at e
   cases hm:fg f r with
   | ok zs=>rw [hm,bind_ok] at e;cases e
   | ex x k=>exact tW h r x k hm
   | no=>rw [hm] at e;cases e
  | ex x k=>exact h d x k hf
  | no=>rw [hf] at e;cases e
theorem xh (nt:Nat) (ρ:aw) (gt:aw->R Bool) (ge:aw->R D) (d:D) (c:Str) (n:Option D):fX nt ρ gt ge d≠.ex c n:=by
 unfold fX Ii
 split<;>first | exact fun e=>by cases e | skip
 rename_i h
 exact fun e=>h c n e
inductive VS (K:a8) (f:D->R (Option D)) (ds ys:List D) (H1 Hs1:Hp) (i m:Nat) (acc:List V) (H':Hp):Prop
 | mk (done bG zs ya Hs':_) (h0:ds=done++bG) (h1:done.length=i) (h2:bG.length=m) (h3:cD H1 Hs1 H' Hs') (h4:RDs K Hs' acc ya) (h5:ya.length<=i) (h6:fg f bG=.ok zs) (h7:ys=ya++zs):VS K f ds ys H1 Hs1 i m acc H'
theorem Gd {K:a8}{cls:Str->ah}{E:XK}{nt:Nat}{ix:List Nat}{gi:aw->R (List D)}{gt:aw->R Bool}{ge:aw->R D}{ρ:aw}{σ:St}{H:Hp}{Q:VK} (hnt:nt=1\/nt=2)
  (q:TN K cls E ρ (fo nt ix gi gt ge ρ) σ H Q) :
  Kb nt ix (T2 K cls E ρ (gi ρ)) (AK K nt) (fun σ H Q=>∃ ρ',EM K cls E0 ρ' (gt ρ') σ H Q) (fun σ H Q=>∃ ρ',TR K cls E0 ρ' (ge ρ') σ H Q) σ H Q:=by
 obtain ⟨H0,Hs0,la,Hs,f,q⟩:=q
 refine ⟨H0,Hs0,la,Hs,f,?_⟩
 unfold fo at q
 cases hi:gi ρ with
 | no=>rw [hi] at q;exact q
 | ex x n=>rw [hi] at q;exact q
 | ok ds =>
  rw [hi,bind_ok] at q
  intro J H1 Hs1 Hn s1 sn it
  by_cases hl:ds.length<=1000
  ·rw [if_pos hl] at q
   cases hm:fg (fX nt (ko nt ix ρ) gt ge) ds with
   | no=>rw [hm] at q;exact q.elim
   | ex x n=>exact (tW (xh _ _ _ _) _ _ _ hm).elim
   | ok ys =>
    rw [hm,bind_ok] at q
    obtain ⟨lb,fb⟩:=(f.step s1).block nt ix
    refine ⟨VS K (fX nt (ko nt ix ρ) gt ge) ds ys H1 Hs1,
     ⟨ds.length,[],ds,ys,[],Hs1,rfl,rfl,rfl,.refl s1.sub,.nil,cn _,hm,rfl⟩,?_⟩
    rintro i m acc H' ⟨done,bG,zs,ya,Hs',hds,hdl,hrl,st,ra,yl,hz,hy⟩
    obtain ⟨igo,istop,iyld⟩:=it H' Hs' (sn.trans st.all) st.sh st.sub
    cases bG with
    | nil =>
     left
     cases hz
     rw [bZ] at hds hy
     subst hy hds
     exact ⟨istop i (by omega),fun p hp=>q p _ H' Hs' (s1.trans st) hp (.lst ra)⟩
    | cons d bG =>
     right
     have hil:i<ds.length:=by rw [hds,aN,bd];omega
     refine ⟨igo i hil,dg (by rw [ra.length];omega),fun x H2 hyl=>?_⟩
     obtain ⟨d',Hs2,hd,s2,r2⟩:=iyld i x H2 hil hyl
     have hdd:d'=d:=by
      rw [hds,bc (by omega)] at hd
      simp [hdl] at hd
      exact hd.symm
     subst hdd
     obtain ⟨o,zs',hf,hz',rfl⟩:=rV hz
     have hf:=AJ hf
     cases hb:RT nt d' (ko nt ix ρ) with
     | no=>rw [hb] at hf;cases hf
     | ex x n=>rw [hb] at hf;cases hf
     | ok ρ' =>
      rw [hb,bind_ok] at hf
      refine xg hnt ((fb.step st).step s2) r2 hb fun σ2 f2=>⟨ρ',?_⟩
      refine ⟨_,_,_,Hs2,f2,?_⟩
      cases ht:gt ρ' with
      | no=>rw [ht] at hf;cases hf
      | ex x n=>rw [ht] at hf;cases hf
      | ok b =>
       rw [ht,bind_ok] at hf
       intro H3 Hs3 s3
       cases b with
       | false =>
        rw [if_neg bq] at hf
        cases hf
        refine yD ⟨bG.length,by rw [<- hrl];simp,done++[d'],bG,zs',ya,Hs3,by rw [hds];simp,by simp [hdl],rfl,(st.trans s2).trans s3,ra.same (s2.trans s3).sh,by omega,hz',by simpa using hy⟩
       | true =>
        rw [if_pos rfl] at hf
        refine yE ⟨ρ',_,_,_,Hs3,f2.step s3,?_⟩
        cases he:ge ρ' with
        | no=>rw [he] at hf;cases hf
        | ex x n=>rw [he] at hf;cases hf
        | ok y =>
         rw [he,bind_ok] at hf
         cases hf
         intro v H4 Hs4 s4 r4
         exact ⟨bG.length,by rw [<- hrl];simp,done++[d'],bG,zs',ya++[y],Hs4,by rw [hds];simp,by simp [hdl],rfl,((st.trans s2).trans s3).trans s4,(ra.same ((s2.trans s3).trans s4).sh).append (.cons r4 .nil),by simp;omega,hz',by rw [hy];simp⟩
  ·rw [if_neg hl] at q;exact q.elim
def C.comp (c:C) (N':List Str) (scope:dw) (cl:List (Str×ah)) (A:ah) (s₀:ac) (H₀:Hp) (ex:List ah) (pn:List (ah×Obj)):C:=⟨bM c.X N' scope cl A s₀ H₀ ex pn,c.cls,E0⟩
variable {elt iter:aQ}{ifs:List aQ}{scope:dw}{N':List Str}{nt:Nat}{ix:List Nat}{gi:aw->R (List D)}{gt:aw->R Bool}{ge:aw->R D}
def tX (c:C) (N':List Str) (scope:dw) (nt:Nat) (tg:aQ) (ifs:List aQ) (elt:aQ) (gt:aw->R Bool) (ge:aw->R D):Prop :=
 ∀ cl A s₀ H₀ ex pn,PG (c.comp N' scope cl A s₀ H₀ ex pn).X tg (AK c.X.K nt)/\RU (c.comp N' scope cl A s₀ H₀ ex pn) ifs gt/\JE (c.comp N' scope cl A s₀ H₀ ex pn) elt ge
theorem tX.at (h:tX c N' scope nt tg ifs elt gt ge):∀ cl A s₀ H₀ ex pn,PG (bM c.X N' scope cl A s₀ H₀ ex pn) tg (AK c.X.K nt)/\HP (bM c.X N' scope cl A s₀ H₀ ex pn) ifs (fun σ H Q=>∃ ρ',EM c.X.K c.cls E0 ρ' (gt ρ') σ H Q) /\
  PE (bM c.X N' scope cl A s₀ H₀ ex pn) elt (fun σ H Q=>∃ ρ',TR c.X.K c.cls E0 ρ' (ge ρ') σ H Q):=fun cl A s₀ H₀ ex pn=>by
 obtain ⟨h1,h2,h3⟩:=h cl A s₀ H₀ ex pn
 exact ⟨h1,fun pins s σ H Q I h_4=>by obtain ⟨ρ',q⟩:=h_4;exact h2 ρ' pins s σ H Q I q,fun pins s σ H Q I h_5=>by obtain ⟨ρ',q⟩:=h_5;exact h3 ρ' pins s σ H Q I q⟩
theorem fk (nt:Nat) (hnt:nt=1\/nt=2) (hc:c.X.calm=true) (S:jD c.X scope N' nt ix) (hi:JI c tg iter gi) (hb:tX c N' scope nt tg ifs elt gt ge) (hs:∀ x,cS iter c.X.env x=pure x:=by intro _;rfl) :
  JN c (.ListComp elt [⟨tg,iter,ifs,0⟩] scope pos) (fo nt ix gi gt ge):=.of fun ρ=>rP (C6 hc S (wv hnt) (hi ρ) hb.at hs) fun σ H Q q=>Gd hnt q
theorem jE (i:Nat) {spos py:Pos} (nt:Nat) (hnt:nt=1\/nt=2) (hN:c.X.N.Nodup) (hc:c.X.calm=true) (S:jD c.X scope N' nt ix) (hi:JI c tg iter gi) (hb:tX c N' scope nt tg ifs elt gt ge)
  (hiN:c.X.N[i]?=some x:=by rfl) (hy:c.X.env.scope.names.lookup x=some .local:=by rfl)
  (hsw:fD (.ListComp elt [⟨tg,iter,ifs,0⟩] scope pos) (some (.Name x py)) spos.line c.X.env=pure true:=by rfl)
  (hs:∀ x,cS iter c.X.env x=pure x:=by intro _;rfl):JS c (.Assign [.Name x py] (.ListComp elt [⟨tg,iter,ifs,0⟩] scope pos) spos) (eC i (fo nt ix gi gt ge)):=.of fun ρ=>wX (EE hN hiN hy hc S (wv hnt) (hi ρ) hb.at hsw hs) fun D σ H h_6=>by
 obtain ⟨H0,Hs0,la,Hs,f,q⟩:=h_6
 refine Gd (Q:=fun x H1=>D.nx (σ.set i (some x)) H1) hnt (sN f q fun d a o H1 Hs1 e1 f1 n1 r1=>?_)
 unfold eC at q
 rw [e1,bind_ok] at q
 exact q _ _ Hs1 (f1.setO i n1 r1)
end
end
section
theorem KL {X:Cx}{st:cA}{t:TS} (h:PS X.nox st t):PS X st t:=fun pins s σ H D I hw =>
 bi (h pins s σ H D (I.wish _) hw) (fun _ _ q=>q.unwish) fun _ _ z=>il z
def C.nox (c:C):C:=⟨c.X.nox,c.cls,E0⟩
def iT (k:D->aw->R aw) (b:aw->R Fl):List D->aw->R Fl
 | [],ρ=>.ok (.nx ρ)
 | d::r,ρ=>match k d ρ with
  | .ok ρ1=>match b ρ1 with
   | .ok (.nx ρ')=>iT k b r ρ'
   | .ok (.ct ρ')=>iT k b r ρ'
   | .ok (.bk ρ')=>.ok (.nx ρ')
   | .ok (.rt d)=>.ok (.rt d)
   | _=>.no
  | _=>.no
def AL (i:Nat) (ρ:aw):aw:=match ρ[i]? with
 | some (Sl.own d)=>ρ.set i (.lck d)
 | _=>ρ
def xi (i:Nat) (ρ0 ρ:aw):aw:=match ρ0[i]?,ρ[i]? with
 | some (Sl.own _),some (Sl.lck d)=>ρ.set i (.own d)
 | _,_=>ρ
def Vd (i:Nat) (ρ0:aw):R Fl->R Fl
 | .ok (.nx ρ)=>.ok (.nx (xi i ρ0 ρ))
 | .ok (.bk ρ)=>.no
 | .ok (.ct ρ)=>.no
 | r=>r
section
variable {K:a8}{cls:Str->ah}{E:XK}
inductive VT (K:a8) (cls:Str->ah) (E:XK) (H0 Hs0:Hp) (la:Nat->Option ah) (D':t6) (kt:D->aw->R aw) (gb:aw->R Fl) (ds:List D) (i m:Nat) (σ:St) (H:Hp):Prop
 | mk (done bG ρ Hs:_) (h0:ds=done++bG) (h1:done.length=i) (h2:bG.length=m) (h3:Fr K H0 Hs0 la ρ σ H Hs) (h4:mY K cls E H0 Hs0 la D' (iT kt gb bG ρ)):VT K cls E H0 Hs0 la D' kt gb ds i m σ H
theorem KM {J:It}{Hn H0 Hs0:Hp}{la:Nat->Option ah}{ds:List D}{kt:D->aw->R aw}{gb:aw->R Fl}{ρ:aw}{σ:St}{H Hs:Hp}{D':t6}{tg:TG}{tb:TS}
  (it:MQ K J ds Hn Hs0) (hn:dB Hn H0) (f:Fr K H0 Hs0 la ρ σ H Hs)
  (htg:∀ ρ d v σ H Q,QV K ρ d (kt d ρ) v σ H Q->tg v σ H Q) (htb:∀ ρ D σ H,SR K cls E0 ρ (gb ρ) D σ H->tb D σ H)
  (q:mY K cls E H0 Hs0 la D' (iT kt gb ds ρ)) :
  UG tg tb D' σ J H:=by
 refine ⟨VT K cls E H0 Hs0 la D' kt gb ds,⟨ds.length,[],ds,ρ,Hs,rfl,rfl,rfl,f,q⟩,?_⟩
 rintro i m σ H ⟨done,bG,ρ,Hs,hds,hdl,hrl,f,q⟩
 obtain ⟨igo,istop,iyld⟩:=it H Hs (hn.trans f.st.all) f.st.sh f.st.sub
 cases bG with
 | nil =>
  rw [bZ] at hds
  subst hds
  exact .inl ⟨istop i (by omega),q σ H Hs f⟩
 | cons d bG =>
  have hil:i<ds.length:=by rw [hds,aN,bd];omega
  refine .inr ⟨igo i hil,fun σ' H'=>∃ ρ' Hs',Fr K H0 Hs0 la ρ' σ' H' Hs'/\mY K cls E H0 Hs0 la D' (iT kt gb bG ρ'),fun σ' H' ⟨ρ',Hs',f',q'⟩=>⟨bG.length,by rw [<- hrl];simp,done++[d],bG,ρ',Hs',by rw [hds];simp,by simp [hdl],rfl,f',q'⟩,fun x H2 hyl=>?_⟩
  obtain ⟨d',Hs2,hd,s2,r2⟩:=iyld i x H2 hil hyl
  have hdd:d'=d:=by
   rw [hds,bc (by omega)] at hd
   simp [hdl] at hd
   exact hd.symm
  subst hdd
  unfold iT at q
  refine htg ρ d' x σ H2 _ ⟨H0,Hs0,la,Hs2,f.step s2,r2,?_⟩
  cases hk:kt d' ρ with
  | ex c n=>rw [hk] at q;exact q
  | no=>rw [hk] at q;exact q
  | ok ρ1 =>
   rw [hk] at q
   intro σ2 f2
   refine htb ρ1 _ σ2 H2 ⟨H0,Hs0,la,Hs2,f2,?_⟩
   cases hg:gb ρ1 with
   | no=>simp only [hg] at q;exact q.elim
   | ex c n=>simp only [hg] at q;exact q.elim
   | ok fl =>
    simp only [hg] at q
    cases fl with
    | nx ρ'=>exact fun σ' H' Hs' f'=>⟨ρ',Hs',f',q⟩
    | ct ρ'=>exact fun σ' H' Hs' f'=>⟨ρ',Hs',f',q⟩
    | bk ρ'=>exact fun σ' H' Hs' f'=>q σ' H' Hs' f'
    | rt d=>exact q
def qR (A B:Hp):Hp:=fun b=>match A b with
 | some o=>some o
 | none=>B b
theorem jh {A B:Hp}:dB A (qR A B):=fun b o e=>by unfold qR;rw [e]
theorem iZ {A B:Hp}{b:ah} (h:A b=none):qR A B b=B b:=by unfold qR;rw [h]
theorem Cv {A B H:Hp} (h1:dB A H) (h2:dB B H):dB (qR A B) H:=fun b o e=>by
 cases h:A b with
 | some u=>unfold qR at e;rw [h] at e;cases e;exact h1 b o h
 | none=>rw [iZ h] at e;exact h2 b o e
theorem KN {A B H:Hp} (h1:dB A H) (h2:dB B H):dB B (qR A B):=fun b o e=>by
 cases h:A b with
 | some u =>
  unfold qR
  rw [h]
  have:=h1 b u h
  rw [h2 b o e] at this
  exact this.symm
 | none=>rw [iZ h];exact e
theorem Fr.into {H0 Hs0 H Hs:Hp}{la:Nat->Option ah}{ρ:aw}{σ:St} (f:Fr K H0 Hs0 la ρ σ H Hs):Fr K (qR H0 Hs) Hs la ρ σ H Hs:=by
 have sub:=Cv f.st.all f.st.sub
 refine ⟨⟨sub,.refl _,f.st.sub,fun a o e _ z=>z⟩,f.len,f.sh,fun i d h=>?_,fun i d h=>?_,f.dj,fun i a e=>let ⟨o,k⟩:=f.lh i a e;⟨o,jh _ _ k⟩,fun i d h=>?_,f.u2⟩
 ·obtain ⟨a,o,h1,h2,h3,h4,h5⟩:=f.ow i d h
  exact ⟨a,o,h1,h2,h3,by rw [iZ h4];exact h3,h5⟩
 ·obtain ⟨a,o,h1,h2,h3,h4,h5,h6⟩:=f.lk i d h
  exact ⟨a,o,h1,h2,h3,h4,jh _ _ h5,h6⟩
 ·obtain ⟨a,as,O⟩:=f.o2 i d h
  exact ⟨a,as,O.at_,O.ob,O.nd,fun b hb=>⟨(O.out b hb).1,by rw [iZ (O.out b hb).2];exact (O.out b hb).1⟩,O.dj,O.inn⟩
theorem cD.outof {H0 Hs0 H1 Hs1 H' Hs':Hp} (s:cD H0 Hs0 H1 Hs1) (t:cD (qR H0 Hs1) Hs1 H' Hs'):cD H0 Hs0 H' Hs' :=
 ⟨jh.trans t.all,s.sh.trans t.sh,t.sub,fun a o e n z=>t.out a o (jh _ _ e) n (s.out a o e n z)⟩
theorem Fr.outof {H0 Hs0 H1 Hs1 H' Hs':Hp}{la:Nat->Option ah}{ρ1 ρ:aw}{σ1 σ:St} (f1:Fr K H0 Hs0 la ρ1 σ1 H1 Hs1) (f:Fr K (qR H0 Hs1) Hs1 la ρ σ H' Hs'):Fr K H0 Hs0 la ρ σ H' Hs':=by
 refine ⟨f1.st.outof f.st,f.len,f.sh,fun i d h=>?_,fun i d h=>?_,f.dj,f1.lh,fun i d h=>?_,f.u2⟩
 ·obtain ⟨a,o,h1,h2,h3,h4,h5⟩:=f.ow i d h
  exact ⟨a,o,h1,h2,h3,jh.free h4,h5⟩
 ·obtain ⟨a,o,h1,h2,h3,h4,h5,h6⟩:=f.lk i d h
  obtain ⟨o',e⟩:=f1.lh i a h2
  have e':=jh (B:=Hs1) _ _ e
  rw [h5] at e'
  cases e'
  exact ⟨a,o,h1,h2,h3,h4,e,h6⟩
 ·obtain ⟨a,as,O⟩:=f.o2 i d h
  exact ⟨a,as,O.at_,O.ob,O.nd,fun b hb=>⟨(O.out b hb).1,jh.free (O.out b hb).2⟩,O.dj,O.inn⟩
end
end
section
section
variable {K:a8}{cls:Str->ah}{E:XK}
theorem mY.into {H0 Hs0 H1 Hs1:Hp}{la:Nat->Option ah}{ρ1:aw}{σ1:St}{D':t6}{r:R Fl} (f1:Fr K H0 Hs0 la ρ1 σ1 H1 Hs1) (q:mY K cls E H0 Hs0 la D' r):mY K cls E (qR H0 Hs1) Hs1 la D' r:=by
 cases r with
 | no=>exact q
 | ex c n=>exact fun H' Hs' s=>q H' Hs' (f1.st.outof s)
 | ok fl =>
  cases fl with
  | nx ρ=>exact fun σ' H' Hs' f=>q σ' H' Hs' (f1.outof f)
  | bk ρ=>exact fun σ' H' Hs' f=>q σ' H' Hs' (f1.outof f)
  | ct ρ=>exact fun σ' H' Hs' f=>q σ' H' Hs' (f1.outof f)
  | rt d=>exact fun v H' Hs' s r=>q v H' Hs' (f1.st.outof s) r
theorem Fr.lock {H0 Hs0 H Hs:Hp}{la:Nat->Option ah}{ρ:aw}{σ:St} (f:Fr K H0 Hs0 la ρ σ H Hs) {i:Nat}{d:D}{a:ah}{o:HO} (hi:ρ[i]?=some (Sl.own d)) (k1:σ[i]?=some (some (V.ref a))) (k2:H a=some o) (k3:Hs a=none) (k4:H0 a=none) (k5:lR K Hs o d) :
  Fr K (qR H0 (upd Hs a o)) Hs (fun j=>if j=i then some a else la j) (ρ.set i (.lck d)) σ H Hs:=by
 have hil:i<ρ.length:=(List.getElem?_eq_some_iff.mp hi).1
 have sub:dB (upd Hs a o) H:=fun b u q=>by
  by_cases hb:b=a
  ·subst hb;rw [bj] at q;cases q;exact k2
  ·rw [bg hb] at q;exact f.st.sub b u q
 have nx:∀ {j:Nat}{s:Sl},(∀ d,s≠.lck d)->(ρ.set i (.lck d))[j]?=some s->ρ[j]?=some s/\i≠j:=fun {j s} hs e=>by
  by_cases hj:i=j
  ·subst hj
   rw [aH hil] at e;exact absurd (bF e).symm (hs d)
  ·rw [al hj] at e;exact ⟨e,hj⟩
 refine ⟨⟨Cv f.st.all sub,.refl _,f.st.sub,fun a o e _ z=>z⟩,by simp [f.len],fun j e h=>?_,fun j e h=>?_,fun j e h=>?_,fun j k d1 d2 b h1 h2 h3 h4=>?_,fun j b h=>?_,fun j e h=>?_,fun j k d1 d2 h1 h2=>?_⟩
 ·obtain ⟨h,_⟩:=nx (fun _ z=>by cases z) h
  exact f.sh j e h
 ·obtain ⟨h,hj⟩:=nx (fun _ z=>by cases z) h
  obtain ⟨b,u,q1,q2,q3,q4,q5⟩:=f.ow j e h
  refine ⟨b,u,q1,q2,q3,?_,q5⟩
  rw [iZ q4,bg (fun z=>hj ?_)]
  ·exact q3
  ·subst z
   exact f.dj i j d e b hi h k1 q1
 ·by_cases hj:i=j
  ·subst hj
   rw [aH hil] at h
   cases h
   exact ⟨a,o,k1,if_pos rfl,k2,k3,by rw [iZ k4,bj],k5⟩
  ·rw [al hj] at h
   obtain ⟨b,u,q1,q2,q3,q4,q5,q6⟩:=f.lk j e h
   exact ⟨b,u,q1,by rw [if_neg (cW hj)];exact q2,q3,q4,jh _ _ q5,q6⟩
 ·obtain ⟨h1,_⟩:=nx (fun _ z=>by cases z) h1
  obtain ⟨h2,_⟩:=nx (fun _ z=>by cases z) h2
  exact f.dj j k d1 d2 b h1 h2 h3 h4
 ·by_cases hj:j=i
  ·simp only [if_pos hj] at h
   cases h
   exact ⟨o,by rw [iZ k4,bj]⟩
  ·simp only [if_neg hj] at h
   obtain ⟨u,e⟩:=f.lh j b h
   exact ⟨u,jh _ _ e⟩
 ·obtain ⟨h,hj⟩:=nx (fun _ z=>by cases z) h
  obtain ⟨b,as,O⟩:=f.o2 j e h
  refine ⟨b,as,O.at_,O.ob,O.nd,fun c hc=>⟨(O.out c hc).1,?_⟩,fun c hc k e' hk=>O.dj c hc k e' (nx (fun _ z=>by cases z) hk).1,O.inn⟩
  rw [iZ (O.out c hc).2,bg (fun z=>?_)]
  ·exact (O.out c hc).1
  ·subst z
   exact O.dj c hc i d hi k1
 ·exact f.u2 j k d1 d2 (nx (fun _ z=>by cases z) h1).1 (nx (fun _ z=>by cases z) h2).1
theorem cD.unlock {H0 Hs0 H Hs H' Hs':Hp}{a:ah}{o:HO} (s:cD H0 Hs0 H Hs) (t:cD (qR H0 (upd Hs a o)) Hs H' Hs'):cD H0 Hs0 H' Hs' :=
 ⟨jh.trans t.all,s.sh.trans t.sh,t.sub,fun b u e n z=>t.out b u (jh _ _ e) n (s.out b u e n z)⟩
theorem Fr.unlock {H0 Hs0 H Hs H' Hs':Hp}{la:Nat->Option ah}{ρ ρ':aw}{σ σ':St} (f:Fr K H0 Hs0 la ρ σ H Hs) {i:Nat}{d:D}{a:ah}{o:HO} (hi:ρ[i]?=some (Sl.own d)) (k4:H0 a=none)
  (f':Fr K (qR H0 (upd Hs a o)) Hs (fun j=>if j=i then some a else la j) ρ' σ' H' Hs'):Fr K H0 Hs0 la (xi i ρ ρ') σ' H' Hs':=by
 have st:=f.st.unlock f'.st
 have own:∀ (j:Nat) (e:D),ρ'[j]?=some (Sl.own e)->∃ b u,σ'[j]?=some (some (V.ref b))/\H' b=some u/\Hs' b=none/\H0 b=none/\lR K Hs' u e/\(qR H0 (upd Hs a o)) b=none:=fun j e h=>by
  obtain ⟨b,u,q1,q2,q3,q4,q5⟩:=f'.ow j e h
  exact ⟨b,u,q1,q2,q3,jh.free q4,q5,q4⟩
 have lck:∀ (j:Nat) (e:D),j≠i->ρ'[j]?=some (Sl.lck e)->∃ b u,σ'[j]?=some (some (V.ref b))/\la j=some b/\H' b=some u/\Hs' b=none/\H0 b=some u/\lR K Hs' u e:=fun j e hj h=>by
  obtain ⟨b,u,q1,q2,q3,q4,q5,q6⟩:=f'.lk j e h
  simp only [if_neg hj] at q2
  obtain ⟨u',e'⟩:=f.lh j b q2
  have:=jh (B:=upd Hs a o) _ _ e'
  rw [q5] at this
  cases this
  exact ⟨b,u,q1,q2,q3,q4,e',q6⟩
 have two:∀ (j:Nat) (e:List (List D)),ρ'[j]?=some (Sl.ow2 e)->∃ b as,O2 K H0 H' Hs' ρ' σ' j e b as:=fun j e h=>by
  obtain ⟨b,as,O⟩:=f'.o2 j e h
  exact ⟨b,as,O.at_,O.ob,O.nd,fun c hc=>⟨(O.out c hc).1,jh.free (O.out c hc).2⟩,O.dj,O.inn⟩
 unfold xi
 cases hl:ρ'[i]? with
 | none =>
  simp only [hi]
  refine ⟨st,f'.len,f'.sh,fun j e h=>let ⟨b,u,q1,q2,q3,q4,q5,_⟩:=own j e h;⟨b,u,q1,q2,q3,q4,q5⟩,fun j e h=>lck j e (fun z=>by rw [z,hl] at h;cases h) h,f'.dj,f.lh,two,f'.u2⟩
 | some s =>
  cases s with
  | no=>simp only [hi];exact ⟨st,f'.len,f'.sh,fun j e h=>let ⟨b,u,q1,q2,q3,q4,q5,_⟩:=own j e h;⟨b,u,q1,q2,q3,q4,q5⟩,fun j e h=>lck j e (fun z=>by rw [z,hl] at h;cases h) h,f'.dj,f.lh,two,f'.u2⟩
  | shr _=>simp only [hi];exact ⟨st,f'.len,f'.sh,fun j e h=>let ⟨b,u,q1,q2,q3,q4,q5,_⟩:=own j e h;⟨b,u,q1,q2,q3,q4,q5⟩,fun j e h=>lck j e (fun z=>by rw [z,hl] at h;cases h) h,f'.dj,f.lh,two,f'.u2⟩
  | own _=>simp only [hi];exact ⟨st,f'.len,f'.sh,fun j e h=>let ⟨b,u,q1,q2,q3,q4,q5,_⟩:=own j e h;⟨b,u,q1,q2,q3,q4,q5⟩,fun j e h=>lck j e (fun z=>by rw [z,hl] at h;cases h) h,f'.dj,f.lh,two,f'.u2⟩
  | ow2 _=>simp only [hi];exact ⟨st,f'.len,f'.sh,fun j e h=>let ⟨b,u,q1,q2,q3,q4,q5,_⟩:=own j e h;⟨b,u,q1,q2,q3,q4,q5⟩,fun j e h=>lck j e (fun z=>by rw [z,hl] at h;cases h) h,f'.dj,f.lh,two,f'.u2⟩
  | lck d' =>
   simp only [hi]
   have hil:i<ρ'.length:=(List.getElem?_eq_some_iff.mp hl).1
   have nx:∀ {j:Nat}{s:Sl},(∀ d,s≠.own d)->(ρ'.set i (.own d'))[j]?=some s->ρ'[j]?=some s/\i≠j:=fun {j s} hs e=>by
    by_cases hj:i=j
    ·subst hj
     rw [aH hil] at e;exact absurd (bF e).symm (hs d')
    ·rw [al hj] at e;exact ⟨e,hj⟩
   obtain ⟨b,u,q1,q2,q3,q4,q5,q6⟩:=f'.lk i d' hl
   simp only [if_pos rfl] at q2
   cases q2
   have ne:∀ (j:Nat) (e:D),ρ'[j]?=some (Sl.own e)->σ'[j]?≠some (some (V.ref a)):=fun j e h z=>by
    obtain ⟨b,u,p1,_,_,_,_,p6⟩:=own j e h
    rw [z] at p1
    cases p1
    rw [q5] at p6;cases p6
   refine ⟨st,by simp [f'.len],fun j e h=>?_,fun j e h=>?_,fun j e h=>?_,fun j k d1 d2 c h1 h2 h3 h4=>?_,f.lh,fun j e h=>?_,fun j k d1 d2 h1 h2=>?_⟩
   ·obtain ⟨h,_⟩:=nx (fun _ z=>by cases z) h
    exact f'.sh j e h
   ·by_cases hj:i=j
    ·subst hj
     rw [aH hil] at h
     cases h
     exact ⟨a,u,q1,q3,q4,k4,q6⟩
    ·rw [al hj] at h
     obtain ⟨b,u,p1,p2,p3,p4,p5,_⟩:=own j e h
     exact ⟨b,u,p1,p2,p3,p4,p5⟩
   ·obtain ⟨h,hj⟩:=nx (fun _ z=>by cases z) h
    exact lck j e (cW hj) h
   ·by_cases hj:i=j
    ·by_cases hk:i=k
     ·exact hj.symm.trans hk
     ·rw [al hk] at h2
      subst hj
      rw [q1] at h3
      cases h3
      exact (ne k d2 h2 h4).elim
    ·rw [al hj] at h1
     by_cases hk:i=k
     ·subst hk
      rw [q1] at h4
      cases h4
      exact (ne j d1 h1 h3).elim
     ·rw [al hk] at h2
      exact f'.dj j k d1 d2 c h1 h2 h3 h4
   ·obtain ⟨h,hj⟩:=nx (fun _ z=>by cases z) h
    obtain ⟨b,as,O⟩:=two j e h
    refine ⟨b,as,O.at_,O.ob,O.nd,O.out,fun c hc k e' hk=>?_,O.inn⟩
    by_cases nk:i=k
    ·subst nk
     intro z
     rw [q1] at z
     cases z
     obtain ⟨b',as',O'⟩:=f'.o2 j e h
     have hh:=O.at_
     rw [O'.at_] at hh
     cases hh
     have hs:as'=as:=by
      have h1:=O.ob
      rw [O'.ob] at h1
      injection h1 with h1
      injection h1 with h1
      exact Jd (fun x y z=>by cases z;rfl) |>.mp h1
     subst hs
     have:=(O'.out _ hc).2
     rw [q5] at this;cases this
    ·rw [al nk] at hk
     exact O.dj c hc k e' hk
   ·exact f'.u2 j k d1 d2 (nx (fun _ z=>by cases z) h1).1 (nx (fun _ z=>by cases z) h2).1
end
section
variable {c:C}{e a b iter tg:aQ}{g ga gb:aw->R D}{pos p:Pos}{gi:aw->R (List D)}{body:List cA}{x:Str}{kt:D->aw->R aw}{gbd:aw->R Fl}
def kq (gi:aw->R (List D)) (kt:D->aw->R aw) (gb:aw->R Fl):aw->R Fl:=fun ρ=>match gi ρ with
 | .ok ds=>iT kt gb ds ρ
 | _=>.no
theorem kr (hc:c.X.calm=true) (hi:Ji c.nox tg iter gi) (hg:JG c.nox tg kt) (hb:Ga c.nox body gbd) (hs:∀ x,cS iter c.X.env x=pure x:=by intro _;rfl):JS c (.For tg iter body [] pos) (kq gi kt gbd):=.of fun ρ=>by
 refine KL (wX (JV uy hc (hi ρ) (g:=fun v σ H Q=>∃ ρ d,QV c.X.K ρ d (kt d ρ) v σ H Q) (tb:=fun D σ H=>∃ ρ,SR c.X.K c.cls E0 ρ (gbd ρ) D σ H) ?_ ?_ hs) fun D σ H ⟨H0,Hs0,la,Hs,f,q⟩=>?_)
 ·exact fun pins s σ H v u Q I r h_0=>by obtain ⟨ρ,d,q⟩:=h_0;exact hg ρ d pins s σ H v u Q I r q
 ·exact fun pins s σ H D I h_1=>by obtain ⟨ρ,q⟩:=h_1;exact hb ρ pins s σ H D I q
 ·refine ⟨H0,Hs0,la,Hs,f,?_⟩
  unfold kq at q
  cases hr:gi ρ with
  | no=>rw [hr] at q;exact q
  | ex x n=>rw [hr] at q;exact q.elim
  | ok ds =>
   rw [hr] at q
   intro J H1 Hs1 s1 it
   have f1:=f.step s1
   exact KM (E:=c.E) (cls:=c.cls) (kt:=kt) (gb:=gbd) (tg:=fun v σ H Q=>∃ ρ d,QV c.X.K ρ d (kt d ρ) v σ H Q) (tb:=fun D σ H=>∃ ρ,SR c.X.K c.cls E0 ρ (gbd ρ) D σ H) it (KN f1.st.all f1.st.sub) f1.into (fun ρ d v σ H Q h=>⟨ρ,d,h⟩) (fun ρ D σ H h=>⟨ρ,h⟩) (mY.into f1 q)
def oF (i:Nat) (kt:D->aw->R aw) (gb:aw->R Fl):aw->R Fl:=fun ρ=>match ρ[i]? with
 | some (Sl.own (.list ds))=>Vd i ρ (iT kt gb ds (AL i ρ))
 | _=>kq (k7 fun ρ=>E4 ρ i) kt gb ρ
theorem xj {kt:D->aw->R aw}{gb:aw->R Fl}:∀ (ds:List D) (ρ:aw) (fl:Fl),iT kt gb ds ρ=.ok fl->(∃ ρ',fl=.nx ρ')\/∃ d,fl=.rt d
 | [],ρ,fl,h=>by cases h;exact .inl ⟨_,rfl⟩
 | d::r,ρ,fl,h=>by
  unfold iT at h
  split at h
  ·split at h
   ·exact xj r _ _ h
   ·exact xj r _ _ h
   ·cases h;exact .inl ⟨_,rfl⟩
   ·cases h;exact .inr ⟨_,rfl⟩
   ·cases h
  ·cases h
theorem AM {kt:D->aw->R aw}{gb:aw->R Fl}:∀ (ds:List D) (ρ:aw) (c:Str) (n:Option D),iT kt gb ds ρ≠.ex c n
 | [],ρ,c,n,h=>by cases h
 | d::r,ρ,c,n,h=>by
  unfold iT at h
  split at h
  ·split at h
   ·exact AM r _ _ _ h
   ·exact AM r _ _ _ h
   ·cases h
   ·cases h
   ·cases h
  ·cases h
theorem Ge (i:Nat) (hc:c.X.calm=true) (hg:JG c.nox tg kt) (hb:Ga c.nox body gbd) (hN:c.X.N[i]?=some x:=by rfl) (hv:JJ c.X.env.scope x:=by first | exact gj rfl | exact dQ (gj rfl) | exact dQ (dQ rfl)) (hd:(x == ("__debug__" : Str))=false:=by decide)
  (hcd:(x == ("__classdict__" : Str))=false:=by decide) (hs:∀ y,cS (.Name x p) c.X.env y=pure y:=by intro _;rfl):JS c (.For tg (.Name x p) body [] pos) (oF i kt gbd):=.of fun ρ=>by
 by_cases ho:∃ ds,ρ[i]?=some (Sl.own (.list ds))
 ·obtain ⟨ds,ho⟩:=ho
  refine KL (wX (JV (tg:=tg) uy hc (tf (X:=c.nox.X) (nA hN hv hd hcd)) (g:=fun v σ H Q=>∃ ρ d,QV c.X.K ρ d (kt d ρ) v σ H Q) (tb:=fun D σ H=>∃ ρ,SR c.X.K c.cls E0 ρ (gbd ρ) D σ H) ?_ ?_ hs) fun D σ H ⟨H0,Hs0,la,Hs,f,q⟩=>?_)
  ·exact fun pins s σ H v u Q I r h_2=>by obtain ⟨ρ,d,q⟩:=h_2;exact hg ρ d pins s σ H v u Q I r q
  ·exact fun pins s σ H D I h_3=>by obtain ⟨ρ,q⟩:=h_3;exact hb ρ pins s σ H D I q
  ·obtain ⟨a,o,k1,k2,k3,k4,k5⟩:=f.ow i _ ho
   cases k5 with
   | @lst vs _ r =>
    refine ⟨_,k1,a,rfl,⟨_,.of k2⟩,?_⟩
    have hn:nB c.X.K (upd Hs a (.lst vs)) a vs:=.of bj
    unfold oF at q
    simp only [ho] at q
    have fl:=f.lock ho k1 k2 k3 k4 (.lst r)
    have sub:dB (upd Hs a (.lst vs)) H:=fun b u q=>by
     by_cases hb:b=a
     ·subst hb;rw [bj] at q;cases q;exact k2
     ·rw [bg hb] at q;exact f.st.sub b u q
    refine KM (E:=c.E) (cls:=c.cls) (kt:=kt) (gb:=gbd) (ρ:=AL i ρ) (Hs:=Hs) (la:=fun i'=>if i'=i then some a else la i') (tg:=fun v σ H Q=>∃ ρ d,QV c.X.K ρ d (kt d ρ) v σ H Q) (tb:=fun D σ H=>∃ ρ,SR c.X.K c.cls E0 ρ (gbd ρ) D σ H) (AI hn r) (KN f.st.all sub) ?_ (fun ρ d v σ H Q h=>⟨ρ,d,h⟩) (fun ρ D σ H h=>⟨ρ,h⟩) ?_
    ·unfold AL
     rw [ho]
     exact fl
    ·cases hr:iT kt gbd ds (AL i ρ) with
     | no=>rw [hr] at q;exact q
     | ex c n=>exact (AM _ _ _ _ hr).elim
     | ok fl =>
      rw [hr] at q
      rcases xj _ _ _ hr with ⟨ρ',rfl⟩ | ⟨d,rfl⟩
      ·exact fun σ' H' Hs' f'=>q σ' H' Hs' (f.unlock ho k4 f')
      ·exact fun v H' Hs' s r=>q v H' Hs' (f.st.unlock s) r
 ·have e:oF i kt gbd ρ=kq (k7 fun ρ=>E4 ρ i) kt gbd ρ:=by
   unfold oF
   split
   ·rename_i ds h;exact (ho ⟨ds,h⟩).elim
   ·rfl
  rw [e]
  exact kr hc (tV (c:=c.nox) (ak (c:=c.nox) i hN hv hd hcd)) hg hb hs ρ
def iD (t:aw->R Bool) (b:aw->R Fl):Nat->aw->R Fl
 | 0,_=>.no
 | n + 1,ρ=>match t ρ with
  | .ok true=>match b ρ with
   | .ok (.nx ρ')=>iD t b n ρ'
   | .ok (.ct ρ')=>iD t b n ρ'
   | .ok (.bk ρ')=>.ok (.nx ρ')
   | .ok (.rt d)=>.ok (.rt d)
   | _=>.no
  | .ok false=>.ok (.nx ρ)
  | _=>.no
theorem Cy (n:Nat) {t:aQ}{gt:aw->R Bool} (ht:JT c.nox t gt) (hb:Ga c.nox body gbd):JS c (.While t body [] pos) (iD gt gbd n):=.of fun ρ=>by
 refine KL (wX (JQ uy (tc:=fun σ H Q=>∃ ρ,EM c.X.K c.cls E0 ρ (gt ρ) σ H Q) (tb:=fun D σ H=>∃ ρ,SR c.X.K c.cls E0 ρ (gbd ρ) D σ H) ?_ ?_) fun D σ H ⟨H0,Hs0,la,Hs,f,q⟩=>?_)
 ·exact fun pins s σ H Q I h_4=>by obtain ⟨ρ,q⟩:=h_4;exact ht ρ pins s σ H Q I q
 ·exact fun pins s σ H D I h_5=>by obtain ⟨ρ,q⟩:=h_5;exact hb ρ pins s σ H D I q
 ·refine ⟨fun m σ H=>∃ ρ Hs,Fr c.X.K H0 Hs0 la ρ σ H Hs/\mY c.X.K c.cls c.E H0 Hs0 la D (iD gt gbd m ρ),⟨n,ρ,Hs,f,q⟩,?_⟩
  rintro m σ H ⟨ρ,Hs,f,q⟩
  cases m with
  | zero=>exact q.elim
  | succ m =>
   unfold iD at q
   refine ⟨ρ,H0,Hs0,la,Hs,f,?_⟩
   cases hg:gt ρ with
   | no=>rw [hg] at q;exact q
   | ex x n=>rw [hg] at q;exact q.elim
   | ok b =>
    rw [hg] at q
    intro H1 Hs1 s1
    cases b with
    | false=>exact yD (q σ H1 Hs1 (f.step s1))
    | true =>
     refine yE ⟨fun σ' H'=>∃ ρ' Hs',Fr c.X.K H0 Hs0 la ρ' σ' H' Hs'/\mY c.X.K c.cls c.E H0 Hs0 la D (iD gt gbd m ρ'),fun σ' H' h=>⟨m,da _,h⟩,ρ,H0,Hs0,la,Hs1,f.step s1,?_⟩
     cases hb':gbd ρ with
     | no=>simp only [hb'] at q;exact q
     | ex x n=>simp only [hb'] at q;exact q.elim
     | ok fl =>
      simp only [hb'] at q
      cases fl with
      | nx ρ'=>exact fun σ' H' Hs' f'=>⟨ρ',Hs',f',q⟩
      | ct ρ'=>exact fun σ' H' Hs' f'=>⟨ρ',Hs',f',q⟩
      | bk ρ'=>exact fun σ' H' Hs' f'=>q σ' H' Hs' f'
      | rt d=>exact q
end
end
section
section
variable {c:C}{e k:aQ}{g gk:aw->R D}{pos p apos cpos:Pos}{x:Str}
def rW (i:Nat) (g:aw->R D):aw->R Fl:=fun ρ=>match ρ[i]? with
 | some (Sl.own (.list ds))=>(g ρ).bind fun d=>if ds.length<1000 then .ok (.nx (ρ.set i (.own (.list (ds++[d]))))) else .no
 | _=>.no
theorem mZ (i:Nat) (h:JE c e g) (hN:c.X.N[i]?=some x:=by rfl) (hv:JJ c.X.env.scope x:=by first | exact gj rfl | exact dQ (gj rfl) | exact dQ (dQ rfl)) (hd:(x == ("__debug__" : Str))=false:=by decide)
  (hcd:(x == ("__classdict__" : Str))=false:=by decide)
  (hbase:Hm (.Name x p) "append" c.X.env (dU (.Name x p) c.X.env)=dU (.Name x p) c.X.env:=by rfl)
  (hfew:((iR cpos (aK [e] c.X.env)).all (fun x=>!x.1) && (backToKw cpos (MU [] c.X.env)).all (fun x=>x.1.isSome)
   && decide ([e].length + ([] : List yq).length + (if ([] : List yq).isEmpty then 0 else 1)<30))=true:=by rfl)
  (hline:(apos.endLine == cpos.line)=true:=by rfl) (hst:aK [e] c.X.env=(false,dU e c.X.env)::aK [] c.X.env:=by rfl) (hplain:(iR cpos (aK [] c.X.env)).any (·.1)=false:=by rfl)
  (hs:fD (.Call (.Attribute (.Name x p) "append" apos) [e] [] cpos) none pos.line c.X.env=pure false:=by rfl) :
  JS c (.Expr (.Call (.Attribute (.Name x p) "append" apos) [e] [] cpos) pos) (rW i g):=.of fun ρ=>by
 refine wX (Aj (P4 zm yy yz zv (nA hN hv hd hcd) (im (h ρ) jC hst) hbase hfew hline hst hplain) hs) fun D σ H h_0=>?_
 obtain ⟨H0,Hs0,la,Hs,f,q⟩:=h_0
 replace q:mY c.X.K c.cls c.E H0 Hs0 la D (rW i g ρ):=q
 unfold rW at q
 split at q
 ·rename_i ds ho
  obtain ⟨a,o,k1,k2,k3,k4,k5⟩:=f.ow i _ ho
  cases k5 with
  | @lst vs _ r =>
   refine ⟨_,k1,.inl ⟨rfl,_,.of k2⟩,?_⟩
   refine sE f q fun d v H1 Hs1 e1 s1 f1 r1=>?_
   rw [e1,bind_ok] at q
   by_cases hl:ds.length<1000
   ·rw [if_pos hl] at q
    have r':=r.same s1.sh
    exact ⟨a,vs,v,rfl,rfl,s1.all _ _ k2,dg (by rw [r.length];omega),q _ _ Hs1 (f1.write i ho k1 (.lst (r'.append (.cons r1 .nil))))⟩
   ·rw [if_neg hl] at q;exact q.elim
 ·exact q.elim
def rc:D->Option dv
 | .int i=>some (.inl i)
 | .str x=>some (.inr x)
 | _=>none
theorem xk {d:D}{y:dv} (h:rc d=some y):d=kD y:=by
 cases d<;>cases h<;>rfl
@[simp] theorem keyOf_of (y:dv):rc (kD y)=some y:=by cases y<;>rfl
def m_ (kvs:List (D×D)) (k d:D):List (D×D):=if kvs.any (fun kv=>aZ kv.1 k) then kvs.map (fun kv=>if aZ kv.1 k then (kv.1,d) else kv) else kvs++[(k,d)]
theorem AN (a b:dv):aZ (kD a) (kD b)=decide (a=b):=by
 cases a<;>cases b<;>simp [kD,aZ,q8]
theorem RDk.any {K:a8}{H:Hp}{kvs:List (dv×V)} (y:dv):∀ {ds:List (D×D)},RDk K H kvs ds->(ds.any fun kv=>aZ kv.1 (kD y))=kvs.any fun kv=>decide (kv.1=y):=by
 induction kvs with
 | nil=>intro ds h;cases h;rfl
 | cons x r ih=>intro ds h;cases h with | cons h t=>rw [dW,dW,ih t,AN]
theorem RDk.repl {K:a8}{H:Hp} (y:dv) {v:V}{d:D} (rv:RD K H v d):∀ {kvs:List (dv×V)}{ds:List (D×D)},RDk K H kvs ds ->
  RDk K H (kvs.map fun kv=>if kv.1=y then (kv.1,v) else kv) (ds.map fun kv=>if aZ kv.1 (kD y) then (kv.1,d) else kv)
 | _,_,.nil=>.nil
 | _,_,.cons (k:=k) h t=>by
  rw [ap,ap]
  have e:=AN k y
  by_cases hk:k=y
  ·subst hk
   rw [show (if k=k then (k,v) else (k,_))=(k,v) from if_pos rfl,show (if aZ (kD k) (kD k)=true then (kD k,d) else (kD k,_))=(kD k,d) from if_pos (by rw [e];simp)]
   exact .cons rv (RDk.repl k rv t)
  ·simp only [e,hk,if_neg,decide_false,bS,not_false_eq_true]
   exact .cons h (RDk.repl y rv t)
theorem RDk.snoc {K:a8}{H:Hp} (y:dv) {v:V}{d:D} (rv:RD K H v d):∀ {kvs:List (dv×V)}{ds:List (D×D)},RDk K H kvs ds->RDk K H (kvs++[(y,v)]) (ds++[(kD y,d)])
 | _,_,.nil=>.cons rv .nil
 | _,_,.cons h t=>.cons h (RDk.snoc y rv t)
theorem RDk.put {K:a8}{H:Hp}{kvs:List (dv×V)}{ds:List (D×D)} (r:RDk K H kvs ds) (y:dv) {v:V}{d:D} (rv:RD K H v d):RDk K H (kC kvs y v) (m_ ds (kD y) d):=by
 unfold kC m_
 rw [r.any y]
 split
 ·exact r.repl y rv
 ·exact r.snoc y rv
def gM (kvs:List (D×D)):Bool:=kvs.all fun kv=>(rc kv.1).isSome
def AO (i:Nat) (gk g:aw->R D):aw->R Fl:=fun ρ=>match ρ[i]? with
 | some (Sl.own (.dict kvs))=>(g ρ).bind fun d=>(gk ρ).bind fun k=>match rc k with
  | some _=>if kvs.length<1000/\gM kvs=true then .ok (.nx (ρ.set i (.own (.dict (m_ kvs k d))))) else .no
  | none=>.no
 | _=>.no
theorem EX {K:a8}{H:Hp}{v:V}{y:dv} (h:RD K H v (kD y)):v=kV y:=by
 cases y<;>cases h<;>rfl
theorem RDt.flat {K:a8}{H:Hp}{kvs:List (List dv×V)}{ds:List (D×D)} (h:RDt K H kvs ds) (f:gM ds=true):kvs=[]/\ds=[]:=by
 cases h with
 | nil=>exact ⟨rfl,rfl⟩
 | cons h t=>simp [gM,tD,rc] at f
theorem Gf (i:Nat) (h:JE c e g) (hk:JE c k gk) (hu:c.X.A.units + 1<iE) (hN:c.X.N[i]?=some x:=by rfl) (hv:JJ c.X.env.scope x:=by first | exact gj rfl | exact dQ (gj rfl) | exact dQ (dQ rfl)) (hd:(x == ("__debug__" : Str))=false:=by decide)
  (hcd:(x == ("__classdict__" : Str))=false:=by decide) (hs:fD e (some (.Subscript (.Name x p) k apos)) pos.line c.X.env=pure false:=by rfl):JS c (.Assign [.Subscript (.Name x p) k apos] e pos) (AO i gk g):=.of fun ρ=>by
 refine wX (FX hu (nA hN hv hd hcd) (hk ρ) (h ρ) hs) fun D σ H h_1=>?_
 obtain ⟨H0,Hs0,la,Hs,f,q⟩:=h_1
 replace q:mY c.X.K c.cls c.E H0 Hs0 la D (AO i gk g ρ):=q
 unfold AO at q
 split at q
 ·rename_i kvs ho
  obtain ⟨a,o,k1,k2,k3,k4,k5⟩:=f.ow i _ ho
  have main:∀ {H:Hp}{vs:List (dv×V)},Fr c.X.K H0 Hs0 la ρ σ H Hs->H a=some (.dK vs)->RDk c.X.K Hs vs kvs->P7 (Q9 i) (TR c.X.K c.cls c.E ρ (gk ρ)) (TR c.X.K c.cls c.E ρ (g ρ)) D σ H:=fun {H vs} f k2 r=>by
   refine sE f q fun d v H1 Hs1 e1 s1 f1 r1=>?_
   rw [e1,bind_ok] at q
   refine ⟨_,k1,sE f1 q fun y w H2 Hs2 e2 s2 f2 r2=>?_⟩
   rw [e2,bind_ok] at q
   split at q
   ·rename_i ky hy
    obtain rfl:=xk hy
    by_cases hl:kvs.length<1000/\gM kvs=true
    ·rw [if_pos hl] at q
     have ha:=s2.all _ _ (s1.all _ _ k2)
     have r':=(r.same s1.sh).same s2.sh
     rw [EX r2]
     exact ⟨a,_,rfl,yF.k ha (dg (by rw [r.length];omega)),q _ _ Hs2 (f2.write i ho k1 (.dK (r'.put ky (r1.same s2.sh))))⟩
    ·rw [if_neg hl] at q;exact q.elim
   ·exact q.elim
  cases k5 with
  | dK r=>exact main f k2 r
  | dT n r =>
   refine sE f q fun d v H1 Hs1 e1 s1 f1 r1=>?_
   rw [e1,bind_ok] at q
   refine ⟨_,k1,sE f1 q fun y w H2 Hs2 e2 s2 f2 r2=>?_⟩
   rw [e2,bind_ok] at q
   split at q
   ·rw [if_neg (fun z=>n (r.flat z.2).1)] at q;exact q.elim
   ·exact q.elim
  | dF n r =>
   refine sE f q fun d v H1 Hs1 e1 s1 f1 r1=>?_
   rw [e1,bind_ok] at q
   refine ⟨_,k1,sE f1 q fun y w H2 Hs2 e2 s2 f2 r2=>?_⟩
   rw [e2,bind_ok] at q
   split at q
   ·rw [if_neg (fun z=>by cases z.2)] at q;exact q.elim
   ·exact q.elim
 ·exact q.elim
def ji (kvs:List (D×D)) (k:D):Option D:=(kvs.find? fun kv=>aZ kv.1 k).map (·.2)
theorem RDk.val {K:a8}{H:Hp}:∀ {kvs:List (dv×V)}{ds:List (D×D)},RDk K H kvs ds->∀ (y:dv),(mX kvs y=none/\ji ds (kD y)=none)\/∃ v d,mX kvs y=some v/\ji ds (kD y)=some d/\RD K H v d
 | _,_,.nil,y=>.inl ⟨rfl,rfl⟩
 | _,_,.cons (k:=k) h t,y=>by
  unfold mX ji
  rw [bT,bT,AN]
  by_cases hk:k=y
  ·simp only [hk,decide_true,cU]
   exact .inr ⟨_,_,rfl,rfl,h⟩
  ·simp only [hk,decide_false]
   exact RDk.val t y
def bw:D->D->R D
 | .dict kvs,k=>match rc k with
  | some _=>if gM kvs=true then (match ji kvs k with
   | some d=>.ok d
   | none=>.no) else .no
  | none=>.no
 | x,k=>EU x k
variable {a b:aQ}{ga gb:aw->R D}
theorem cz (hu:c.X.A.units + 1<iE) (ha:JB c a ga) (hb:JB c b gb) (hs:tu b:=by exact fun _ _=>rfl):JE c (.Subscript a b pos) (g2 ga gb bw):=.of fun ρ=>by
 by_cases hx:∃ kvs,ga ρ=.ok (.dict kvs)
 ·obtain ⟨kvs,hx⟩:=hx
  refine rP (FW hu (ha ρ) (hb ρ) hs) fun σ H Q h_2=>?_
  obtain ⟨H0,Hs0,la,Hs,f,q⟩:=h_2
  refine one f q fun d v H1 Hs1 e1 s1 f1 r1=>?_
  rw [hx] at e1
  cases e1
  unfold g2 at q
  rw [hx,bind_ok] at q
  refine one f1 (q.on s1 (q':=fun _=>True) fun _ _=>trivial) fun y w H2 Hs2 e2 s2 f2 r2=>?_
  rw [e2,bind_ok] at q
  unfold bw at q
  simp only at q
  split at q
  ·rename_i ky hy
   obtain rfl:=xk hy
   by_cases hf:gM kvs=true
   ·rw [if_pos hf] at q
    obtain ⟨p,rfl,h⟩:=(r1.step s2).dict f2.st.sub
    have rk:w=kV ky:=by
     rcases r2 with r2 | ⟨_,o,rfl,_,_,ow⟩
     ·exact EX r2
     ·cases ky<;>cases ow
    subst rk
    rcases h with ⟨vs,h1,h2⟩ | ⟨vs,h1,hn,h2⟩ | ⟨o,vs,es,rfl,h1,hn,h2⟩
    ·rcases h2.val ky with ⟨_,h3⟩ | ⟨u,d,h3,h4,h5⟩
     ·rw [h3] at q;exact q.elim
     ·rw [h4] at q
      exact ⟨p,u,rfl,by rw [<- h3];exact tH.k h1,q _ H2 Hs2 (s1.trans s2) h5⟩
    ·exact (hn (h2.flat hf).1).elim
    ·cases hf
   ·rw [if_neg hf] at q;exact q.elim
  ·exact q.elim
 ·refine rP (SS ha hb hs ρ) fun σ H Q q=>?_
  have e:g2 ga gb bw ρ=g2 ga gb EU ρ:=by
   unfold g2
   cases hr:ga ρ with
   | ok d =>
    cases d with
    | dict kvs=>exact (hx ⟨kvs,hr⟩).elim
    | _=>rfl
   | _=>rfl
  rw [e] at q
  exact q
def jQ:D->R D
 | .dict kvs=>if gM kvs=true then .ok (.list (kvs.map (·.1))) else .no
 | x=>zF x
theorem Cz {K:a8}{H:Hp}:∀ {kvs:List (dv×V)}{ds:List (D×D)},RDk K H kvs ds->RDs K H (kvs.map fun p=>kV p.1) (ds.map (·.1))
 | _,_,.nil=>.nil
 | _,_,.cons (k:=k) h t=>.cons (by cases k<;>constructor) (Cz t)
theorem xl {X:Cx} (hc:X.calm=true):Ie X (.type "list") (hZ jQ):=by
 refine pF (fun d c n=>?_) fun pins s σ H x u Q Hs d d' I ru sub rx hd q=>?_
 ·unfold jQ zF
  split<;>(try split)<;>(try split)<;>exact fun h=>by cases h
 ·by_cases hx:∃ kvs,d=.dict kvs
  ·obtain ⟨kvs,rfl⟩:=hx
   unfold jQ at hd
   simp only at hd
   split at hd
   ·rename_i hf
    cases hd
    obtain ⟨a,rfl,⟨vs,h1,h2⟩ | ⟨vs,h1,n,h2⟩ | ⟨o,vs,es,rfl,h1,n,h2⟩⟩:=rx.dict sub
    ·exact wU hc pins s σ H _ _ Q I (.cons ru .nil) ⟨a,vs,rfl,h1,fun l hl=>q _ _ _ (.new sub hl) (.list (.of bj) ((Cz h2).same (cD.new sub hl).sh))⟩
    ·exact (n (h2.flat hf).1).elim
    ·cases hf
   ·cases hd
  ·have e:jQ d=zF d:=by
    cases d with
    | dict kvs=>exact (hx ⟨kvs,rfl⟩).elim
    | _=>rfl
   rw [e] at hd
   exact (O7 (X:=X)).1 pins s σ H [x] [u] Q I (.cons ru .nil) ⟨Hs,[d],sub,.cons rx .nil,d',hd,q⟩
end
end
section
open PyProof.Rows (envOfC)
section
variable {c:C}{e a b d:aQ}{g ga gb gc:aw->R D}{pos p cpos:Pos}{x:Str}
theorem KO {K:a8}{cls:Str->ah}{E:XK}{h h':D->D->R D}{ρ:aw}{σ:St}{H:Hp}{Q:VK} (hx:∀ x y c n,h x y≠.ex c n) (hx':∀ x y c n,h' x y≠.ex c n) (q:TR K cls E ρ (pA ga gb gc h h' ρ) σ H Q) :
  Ew (rD K h) (rD K h') (TB K cls E ρ (ga ρ)) (TB K cls E ρ (gb ρ)) (TB K cls E ρ (gc ρ)) σ H Q:=by
 obtain ⟨H0,Hs0,la,Hs,f,q⟩:=q
 refine one f q fun x v H1 Hs1 e1 s1 f1 r1=>?_
 unfold pA at q
 rw [e1,bind_ok] at q
 refine one f1 (q.on s1 (q':=fun _=>True) fun _ _=>trivial) fun y u H2 Hs2 e2 s2 f2 r2=>?_
 rw [e2,bind_ok] at q
 cases hr:h x y with
 | ex c n=>exact (hx x y c n hr).elim
 | no=>rw [hr] at q;exact q.elim
 | ok z =>
  rw [hr,bind_ok] at q
  refine ⟨Hs2,x,y,f2.st.sub,r1.step s2,r2,z,hr,fun w H3 Hs3 s3 r3=>?_⟩
  cases r3 with
  | bool k =>
   refine ⟨k,rfl,?_⟩
   have f3:=f2.step s3
   cases k with
   | false=>exact yD (q _ H3 Hs3 (s1.trans (s2.trans s3)) (.bool _))
   | true =>
    refine yE (one f3 (q.on (s1.trans (s2.trans s3)) (q':=fun _=>True) fun _ _=>trivial) fun t u' H4 Hs4 e4 s4 f4 r4=>?_)
    simp only [e4,bind_ok] at q
    cases hr':h' y t with
    | ex c n=>exact (hx' y t c n hr').elim
    | no=>rw [hr'] at q;exact q.elim
    | ok z' =>
     rw [hr'] at q
     exact ⟨Hs4,y,t,f4.st.sub,(r2.step s3).step s4,r4,z',hr',fun w H5 Hs5 s5 r5=>q w H5 Hs5 (s1.trans (s2.trans (s3.trans (s4.trans s5)))) r5⟩
  | none=>exact q.elim
  | int _=>exact q.elim
  | str _=>exact q.elim
  | list _ _=>exact q.elim
  | tuple _ _=>exact q.elim
  | dictK _ _=>exact q.elim
  | dictT _ _ _=>exact q.elim
  | dictF _ _ _=>exact q.elim
theorem CA {op op':v_}{h h':D->D->R D} (ho:vT c.X (bH op) h) (ho':vT c.X (bH op') h') (ha:JB c a ga) (hb:JB c b gb) (hc:JB c d gc) (hm:J4 [op,op'] [b,d]=false:=by with_unfolding_all rfl):JE c (.Compare a [op,op'] [b,d] pos) (pA ga gb gc h h') :=
 .of fun ρ=>rP (JY ho.1 ho'.1 (ha ρ) (hb ρ) (hc ρ) hm) fun σ H Q q=>KO ho.2 ho'.2 q
theorem KP {op op':v_}{h h':D->D->R D} (ho:vT c.X (bH op) h) (ho':vT c.X (bH op') h') (ha:JB c a ga) (hb:JB c b gb) (hc:JB c d gc) (hm:J4 [op,op'] [b,d]=false:=by with_unfolding_all rfl):JT c (.Compare a [op,op'] [b,d] pos) (fL (pA ga gb gc h h')) :=
 .of fun ρ=>SK (JZ ho.1 ho'.1 (ha ρ) (hb ρ) (hc ρ) hm) fun σ H Q q=>KO ho.2 ho'.2 (RP q)
inductive T4 (K:a8) (w:aU) (cls:Str->ah) (E:XK) (ρ:aw) (r:R (List Str)) (σ:St) (H:Hp) (Q:VK):Prop
 | mk (H0 Hs0:Hp) (la:Nat->Option ah) (Hs:Hp) (f:Fr K H0 Hs0 la ρ σ H Hs) (q:Fin K cls E H Hs r fun ss=>∀ p H' Hs',cD H Hs H' Hs'->H' p=none->Q (.ref p) (upd H' p (kF w p ss))):T4 K w cls E ρ r σ H Q
def Ui (K:a8) (w:aU) (cls:Str->ah) (E:XK) (ρ:aw) (r:R (List Str)):TE:=T4 K w cls E ρ r
structure Od (c:C) (e:aQ) (g:aw->R (List Str)):Prop where of ::
 run:∀ ρ,PE c.X e (Ui c.X.K c.X.w c.cls c.E ρ (g ρ))
instance {c:C}{e:aQ}{g:aw->R (List Str)}:CoeFun (Od c e g) (fun _=>∀ ρ,PE c.X e (Ui c.X.K c.X.w c.cls c.E ρ (g ρ))):=⟨Od.run⟩
theorem Gg {K:a8}{w:aU}{cls:Str->ah}{E:XK}{ρ:aw}{r:R (List Str)}{β:Type}{k:List Str->R β}{σ:St}{H:Hp}{H0 Hs0 Hs:Hp}{la:Nat->Option ah}{Q:V->Hp->Prop}{q:β->Prop} (f:Fr K H0 Hs0 la ρ σ H Hs)
  (h:Fin K cls E H Hs (r.bind k) q) (m:∀ ss p H' Hs',r=.ok ss->cD H Hs H' Hs'->Fr K H0 Hs0 la ρ σ H' Hs'->H' p=none->Q (.ref p) (upd H' p (kF w p ss))):Ui K w cls E ρ r σ H Q:=by
 refine ⟨H0,Hs0,la,Hs,f,?_⟩
 cases r with
 | ok d=>exact fun p H' Hs' s n=>m d p H' Hs' rfl s (f.step s) n
 | ex c n=>exact h
 | no=>exact h
variable {gset:aw->R (List Str)}
def rX:D->R (List Str)
 | .list ds=>match fP ds with
  | some ss=>if ss.length<60 then .ok (c_ [] ss) else .no
  | none=>.no
 | .tuple ds=>match fP ds with
  | some ss=>if ss.length<60 then .ok (c_ [] ss) else .no
  | none=>.no
 | _=>.no
def nJ (g:aw->R D):aw->R (List Str):=fun ρ=>(g ρ).bind rX
theorem AQ (hc:c.X.calm=true) (h:JB c e g) (hg2:Gl c.X "set") (hm2:c.X.mg "set"=none) (he:aK [e] c.X.env=(false,dU e c.X.env)::aK [] c.X.env:=by rfl) :
  Od c (.Call (.Name "set" p) [e] [] cpos) (nJ g):=.of fun ρ=>by
 refine rP (zu (Ce hc) hg2 hm2 PyProof.Rows.boot_set (im (h ρ) jC he) (he:=he)) fun σ H Q h_1=>?_
 obtain ⟨H0,Hs0,la,Hs,f,q⟩:=h_1
 refine one f q fun d v H1 Hs1 e1 s1 f1 r1=>?_
 unfold nJ at q
 rw [e1,bind_ok] at q
 unfold rX at q
 split at q
 ·split at q
  ·rename_i ss hs
   by_cases hz:ss.length<60
   ·rw [if_pos hz] at q
    obtain ⟨a,vs,rfl,qa,ra⟩:=r1.list f1.st.sub
    rw [pI hs] at ra
    rw [nF ra] at qa
    exact ⟨a,ss,rfl,.inl qa,aC (Hv hz 1) (by decide),fun p hp=>q p H1 Hs1 s1 hp⟩
   ·rw [if_neg hz] at q;exact q.elim
  ·exact q.elim
 ·split at q
  ·rename_i ss hs
   by_cases hz:ss.length<60
   ·rw [if_pos hz] at q
    obtain ⟨a,vs,rfl,qa,ra,_⟩:=r1.tuple f1.st.sub
    rw [pI hs] at ra
    rw [nF ra] at qa
    exact ⟨a,ss,rfl,.inr qa,aC (Hv hz 1) (by decide),fun p hp=>q p H1 Hs1 s1 hp⟩
   ·rw [if_neg hz] at q;exact q.elim
  ·exact q.elim
 ·exact q.elim
def k8 (g:aw->R (List Str)):aw->R D:=fun ρ=>(g ρ).bind fun ss=>if ss.length<64 then .ok (.list ((jf ss).map .str)) else .no
theorem rY (hc:c.X.calm=true) (h:Od c e gset) (hg:Gl c.X "sorted") (hm:c.X.mg "sorted"=none) (he:aK [e] c.X.env=(false,dU e c.X.env)::aK [] c.X.env:=by rfl) :
  JE c (.Call (.Name "sorted" p) [e] [] cpos) (k8 gset):=.of fun ρ=>by
 refine rP (tj (vR hc) hg hm vf (im (h ρ) jC he) (he:=he)) fun σ H Q h_2=>?_
 obtain ⟨H0,Hs0,la,Hs,f,q⟩:=h_2
 dsimp only [L2.Sm,L2.K0,L2.QA]
 refine Gg (w:=c.X.w) f q fun ss p H1 Hs1 e1 s1 f1 n1=>?_
 unfold k8 at q
 rw [e1,bind_ok] at q
 by_cases hz:ss.length<64
 ·rw [if_pos hz] at q
  have st1:cD H1 Hs1 (upd H1 p (kF c.X.w p ss)) Hs1:=.mine f1.st.sub n1
  exact ⟨p,ss,rfl,bj,hz,fun l hl=>q _ _ _ (s1.trans (st1.trans (.new st1.sub hl))) (.list (.of bj) (wW _))⟩
 ·rw [if_neg hz] at q;exact q.elim
def tY (g:aw->R (List Str)):aw->R D:=fun ρ=>(g ρ).bind fun ss=>.ok (.int ss.length)
theorem Ij (h:Od c e gset) (hg:Gl c.X "len") (hm:c.X.mg "len"=none) (he:aK [e] c.X.env=(false,dU e c.X.env)::aK [] c.X.env:=by rfl) :
  JE c (.Call (.Name "len" p) [e] [] cpos) (tY gset):=.of fun ρ=>by
 refine rP (tj yK hg hm bP (im (h ρ) jC he) (he:=he)) fun σ H Q h_3=>?_
 obtain ⟨H0,Hs0,la,Hs,f,q⟩:=h_3
 dsimp only [L2.Sm,L2.K0,L2.QA]
 refine Gg (w:=c.X.w) f q fun ss p H1 Hs1 e1 s1 f1 n1=>?_
 unfold tY at q
 rw [e1,bind_ok] at q
 have st1:cD H1 Hs1 (upd H1 p (kF c.X.w p ss)) Hs1:=.mine f1.st.sub n1
 exact ⟨p,ss,rfl,bj,q _ _ _ (s1.trans st1) (.int _)⟩
variable {elt iter tg:aQ}{ifs:List aQ}{scope:dw}{N':List Str}{nt:Nat}{ix:List Nat}{gi:aw->R (List D)}{gt:aw->R Bool}{ge:aw->R D}
def uJ (nt:Nat) (ix:List Nat) (gi:aw->R (List D)) (gt:aw->R Bool) (ge:aw->R D):aw->R (List Str):=fun ρ=>(gi ρ).bind fun ds=>if ds.length<=60 then (fg (fX nt (ko nt ix ρ) gt ge) ds).bind fun ys=>match fP ys with
 | some ss=>.ok (c_ [] ss)
 | none=>.no else .no
theorem yQ {ys:List D}{xs:List D}:∀ {ss:List Str},fP (xs++ys)=some ss->∃ s1 s2,fP xs=some s1/\fP ys=some s2/\ss=s1++s2:=by
 induction xs with
 | nil=>intro ss h;exact ⟨[],ss,rfl,h,rfl⟩
 | cons d r ih =>
  intro ss h
  cases d with
  | str b =>
   have h:(fP (r++ys)).map (b::·)=some ss:=h
   cases hr:fP (r++ys) with
   | none=>rw [hr] at h;cases h
   | some z =>
    rw [hr] at h
    cases h
    obtain ⟨s1,s2,h1,h2,rfl⟩:=ih hr
    exact ⟨b::s1,s2,by show (fP r).map (b::·)=_;rw [h1];rfl,h2,rfl⟩
  | _=>cases h
theorem xm (z:Str):∀ (l acc:List Str),c_ acc (l++[z])=if z∈c_ acc l then c_ acc l else c_ acc l++[z]
 | [],acc=>rfl
 | x::l,acc=>by
  show c_ _ (l++[z])=_
  rw [xm z l]
  rfl
inductive VU (f:D->R (Option D)) (ds:List D) (ss:List Str) (H1 Hs1:Hp) (i m:Nat) (acc:List Str) (H':Hp):Prop
 | mk (done bG zs sa sz Hs':_) (h0:ds=done++bG) (h1:done.length=i) (h2:bG.length=m) (h3:cD H1 Hs1 H' Hs') (h4:acc=c_ [] sa) (h5:sa.length<=i) (h6:fg f bG=.ok zs) (h7:fP zs=some sz) (h8:ss=sa++sz):VU f ds ss H1 Hs1 i m acc H'
theorem Oe {K:a8}{w:aU}{cls:Str->ah}{E:XK}{ρ:aw}{σ:St}{H:Hp}{Q:VK} (hnt:nt=1\/nt=2)
  (q:Ui K w cls E ρ (uJ nt ix gi gt ge ρ) σ H Q) :
  Kw w nt ix (T2 K cls E ρ (gi ρ)) (AK K nt) (fun σ H Q=>∃ ρ',EM K cls E0 ρ' (gt ρ') σ H Q) (fun σ H Q=>∃ ρ',TR K cls E0 ρ' (ge ρ') σ H Q) σ H Q:=by
 obtain ⟨H0,Hs0,la,Hs,f,q⟩:=q
 refine ⟨H0,Hs0,la,Hs,f,?_⟩
 unfold uJ at q
 cases hi:gi ρ with
 | no=>rw [hi] at q;exact q
 | ex x n=>rw [hi] at q;exact q
 | ok ds =>
  rw [hi,bind_ok] at q
  intro J H1 Hs1 Hn s1 sn it
  by_cases hl:ds.length<=60
  ·rw [if_pos hl] at q
   cases hm:fg (fX nt (ko nt ix ρ) gt ge) ds with
   | no=>rw [hm] at q;exact q.elim
   | ex x n=>exact (tW (xh _ _ _ _) _ _ _ hm).elim
   | ok ys =>
    rw [hm,bind_ok] at q
    cases hs:fP ys with
    | none=>rw [hs] at q;exact q.elim
    | some ss =>
     rw [hs] at q
     obtain ⟨lb,fb⟩:=(f.step s1).block nt ix
     refine ⟨VU (fX nt (ko nt ix ρ) gt ge) ds ss H1 Hs1,
      ⟨ds.length,[],ds,ys,[],ss,Hs1,rfl,rfl,rfl,.refl s1.sub,rfl,cn _,hm,hs,rfl⟩,?_⟩
     rintro i m acc H' ⟨done,bG,zs,sa,sz,Hs',hds,hdl,hrl,st,rfl,yl,hz,hzs,hy⟩
     obtain ⟨igo,istop,iyld⟩:=it H' Hs' (sn.trans st.all) st.sh st.sub
     cases bG with
     | nil =>
      left
      cases hz
      cases hzs
      rw [bZ] at hds hy
      subst hy hds
      exact ⟨istop i (by omega),fun p hp=>q p H' Hs' (s1.trans st) hp⟩
     | cons d bG =>
      right
      have hil:i<ds.length:=by rw [hds,aN,bd];omega
      have hol:=fG sa []
      simp at hol
      refine ⟨igo i hil,ut (show (c_ [] sa).length + 1<=61 by omega) (by decide),fun x H2 hyl=>?_⟩
      obtain ⟨d',Hs2,hd,s2,r2⟩:=iyld i x H2 hil hyl
      have hdd:d'=d:=by
       rw [hds,bc (by omega)] at hd
       simp [hdl] at hd
       exact hd.symm
      subst hdd
      obtain ⟨o,zs',hf,hz',rfl⟩:=rV hz
      have hf:=AJ hf
      obtain ⟨so,sz',hso,hsz,rfl⟩:=yQ hzs
      cases hb:RT nt d' (ko nt ix ρ) with
      | no=>rw [hb] at hf;cases hf
      | ex x n=>rw [hb] at hf;cases hf
      | ok ρ' =>
       rw [hb,bind_ok] at hf
       refine xg hnt ((fb.step st).step s2) r2 hb fun σ2 f2=>⟨ρ',?_⟩
       refine ⟨_,_,_,Hs2,f2,?_⟩
       cases ht:gt ρ' with
       | no=>rw [ht] at hf;cases hf
       | ex x n=>rw [ht] at hf;cases hf
       | ok b =>
        rw [ht,bind_ok] at hf
        intro H3 Hs3 s3
        cases b with
        | false =>
         rw [if_neg bq] at hf
         cases hf
         cases hso
         refine yD ⟨bG.length,by rw [<- hrl];simp,done++[d'],bG,zs',sa,sz',Hs3,by rw [hds];simp,by simp [hdl],rfl,(st.trans s2).trans s3,rfl,by omega,hz',hsz,by simpa using hy⟩
        | true =>
         rw [if_pos rfl] at hf
         refine yE ⟨ρ',_,_,_,Hs3,f2.step s3,?_⟩
         cases he:ge ρ' with
         | no=>rw [he] at hf;cases hf
         | ex x n=>rw [he] at hf;cases hf
         | ok y =>
          rw [he,bind_ok] at hf
          cases hf
          intro v H4 Hs4 s4 r4
          cases r4 with
          | str z =>
           cases hso
           exact ⟨z,bG.length,rfl,by rw [<- hrl];simp,done++[d'],bG,zs',sa++[z],sz',Hs4,by rw [hds];simp,by simp [hdl],rfl,((st.trans s2).trans s3).trans s4,(xm z sa []).symm,by simp;omega,hz',hsz,by rw [hy];simp⟩
          | none=>cases hso
          | bool _=>cases hso
          | int _=>cases hso
          | list _ _=>cases hso
          | tuple _ _=>cases hso
          | dictK _ _=>cases hso
          | dictT _ _ _=>cases hso
          | dictF _ _ _=>cases hso
  ·rw [if_neg hl] at q;exact q.elim
theorem KQ (nt:Nat) (hnt:nt=1\/nt=2) (hc:c.X.calm=true) (S:jD c.X scope N' nt ix) (hi:JI c tg iter gi) (hb:tX c N' scope nt tg ifs elt gt ge) (hs:∀ x,cS iter c.X.env x=pure x:=by intro _;rfl) :
  Od c (.SetComp elt [⟨tg,iter,ifs,0⟩] scope pos) (uJ nt ix gi gt ge):=.of fun ρ=>rP (EL hc S (wv hnt) (hi ρ) hb.at hs) fun σ H Q q=>Oe hnt q
end
def bX (n:Nat) (ds:List D):aw:=ds.map Sl.shr++qU (n - ds.length) Sl.no
def fh (n:Nat) (g:aw->R Fl):List D->R D:=fun ds=>match g (bX n ds) with
 | .ok (.nx _)=>.ok .none
 | .ok (.rt d)=>.ok d
 | .ex c m=>.ex c m
 | _=>.no
theorem xn {n:Nat}{ds:List D}{i:Nat}{s:Sl} (h:(bX n ds)[i]?=some s):(∃ d,ds[i]?=some d/\s=.shr d)\/s=.no:=by
 unfold bX at h
 by_cases hi:i<ds.length
 ·rw [aW (by simpa using hi),aX] at h
  cases hd:ds[i]? with
  | none=>rw [hd] at h;cases h
  | some z=>rw [hd] at h;cases h;exact .inl ⟨z,rfl,rfl⟩
 ·rw [bc (by simp;omega),bY] at h
  split at h<;>cases h
  exact .inr rfl
theorem Ik {N:List Str}{vs:List V}{i:Nat}{v:V} (h:vs[i]?=some v):(L2.start N vs)[i]?=some (some v):=by
 unfold L2.start
 have hi:i<vs.length:=(List.getElem?_eq_some_iff.mp h).1
 rw [aW (by simpa using hi),aX,h]
 rfl
theorem Fr.start {K : a8} {H Hs : Hp} {N : List Str} {vs : List V} {ds : List D} (sub : dB Hs H) (r : RDs K Hs vs ds) : Fr K H Hs (fun _ => none) (bX N.length ds) (L2.start N vs) H Hs := by
  have hl := r.length
  refine ⟨.refl sub, by simp [bX, L2.start, hl], fun i d h => ?_, fun i d h => ?_, fun i d h => ?_, fun i j d e a h _ _ _ => ?_, fun i a h => (nomatch h), fun i d h => ?_, fun i j d e h _ => ?_⟩
  · rcases xn h with ⟨z, hz, e⟩ | e
    · cases e
      obtain ⟨v, k1, k2⟩ := r.get' hz
      exact ⟨v, Ik k1, k2⟩
    · cases e
  all_goals (rcases xn h with ⟨z, _, e⟩ | e <;> cases e)
theorem Pk {P:aE}{w:aU}{K:a8}{mg:Str->Option a9}{base:bp}{cls:Str->ah}{x qual:Str}{st:cA}{f:ah}{fd:eK}{N ps:List Str}{k:Nat}{g:aw->R Fl} (F:HN K x qual st f fd) (S:bN N ps (aA st))
  (h:∀ (cdv:a9) (A:b9) (outer:List Env) (s:ac) (H:Hp) (E:XK),lv k (A.deeper (ro qual (aA st) s.heap.objs.size f cdv))->Ga ⟨js (pw P w) P w K mg base N qual (aA st) f cdv A outer s H E,cls,E⟩ (g_ st) g) :
  uC P w K mg base (pw P w) (k + 1) f fd ps (SY K cls ps.length (fh N.length g)):=by
 obtain ⟨oc,od,kV,doc,pm,an,cdv,ct,osl,rfl,lk,hcd⟩:=F.ex
 refine Sk lk hcd S (fun vs H Q E h_4=>by obtain ⟨Hs,ds,sub,hn,r,q⟩:=h_4;exact by rw [r.length];exact hn) fun A outer s H vs Q E hr hsp=>?_
 obtain ⟨Hs,ds,sub,hn,r,q⟩:=hsp
 refine ⟨_,h cdv A outer s H E hr (bX N.length ds),H,Hs,_,Hs,Fr.start sub r,?_⟩
 unfold fh at q
 cases hg:g (bX N.length ds) with
 | no=>rw [hg] at q;exact q
 | ex c n=>rw [hg] at q;exact q
 | ok fl =>
  rw [hg] at q
  cases fl with
  | nx ρ'=>exact fun σ' H' Hs' f'=>q .non H' Hs' f'.st .none
  | rt d=>exact fun v H' Hs' s r=>q v H' Hs' s r
  | bk ρ'=>exact q.elim
  | ct ρ'=>exact q.elim
theorem T5 {P:aE}{w:aU}{K:a8}{mg:Str->Option a9}{base:bp}{cls:Str->ah}{x qual:Str}{st:cA}{f:ah}{fd:eK}{N ps:List Str}{k:Nat}{g:aw->R Fl} (F:HN K x qual st f fd) (S:bN N ps (aA st)) (hm:mg x=some (.ref f)) (hb:mV K fd ps [])
  (h:∀ (cdv:a9) (A:b9) (outer:List Env) (s:ac) (H:Hp) (E:XK),lv k (A.deeper (ro qual (aA st) s.heap.objs.size f cdv))->Ga ⟨js (pw P w) P w K mg base N qual (aA st) f cdv A outer s H E,cls,E⟩ (g_ st) g) :
  Fn P w K mg base cls x (k + 1) ps.length (fh N.length g):=⟨f,fd,ps,Pk F S h,hm,F.kp,hb⟩
theorem eE {X:Cx}:rL (pw X.prog X.w) X E0:=fun _ _ _ _ _ _ _ h=>by
 obtain ⟨_,_,_,_,_,_,_,_,_,q⟩:=h
 exact q.elim
end
section
def clear2 (ρ:aw):aw:=ρ.map fun s=>match s with
 | .ow2 _=>.no
 | s=>s
section
variable {K:a8}
theorem Fr.clear2 {H0 Hs0 H Hs:Hp}{la:Nat->Option ah}{ρ:aw}{σ:St} (f:Fr K H0 Hs0 la ρ σ H Hs):Fr K H0 Hs0 la (clear2 ρ) σ H Hs/\∀ (j:Nat) (d:List (List D)),¬ (J.clear2 ρ)[j]?=some (Sl.ow2 d):=by
 have un:∀ {j:Nat}{s:Sl},(J.clear2 ρ)[j]?=some s->(∀ d,s≠.ow2 d)/\(ρ[j]?=some s\/s=.no):=fun {j s} e=>by
  unfold J.clear2 at e
  rw [aX] at e
  cases h:ρ[j]? with
  | none=>rw [h] at e;cases e
  | some t =>
   rw [h] at e
   cases t with
   | ow2 d=>cases e;exact ⟨fun _ z=>(by cases z),.inr rfl⟩
   | no=>cases e;exact ⟨fun _ z=>(by cases z),.inl rfl⟩
   | shr d=>cases e;exact ⟨fun _ z=>(by cases z),.inl rfl⟩
   | lck d=>cases e;exact ⟨fun _ z=>(by cases z),.inl rfl⟩
   | own d=>cases e;exact ⟨fun _ z=>(by cases z),.inl rfl⟩
 have is:∀ {j:Nat}{s:Sl},s≠.no->(J.clear2 ρ)[j]?=some s->ρ[j]?=some s:=fun {j s} n e=>(un e).2.resolve_right n
 have no2:∀ (j:Nat) (d:List (List D)),¬ (J.clear2 ρ)[j]?=some (Sl.ow2 d):=fun j d e=>(un e).1 d rfl
 exact ⟨⟨f.st,by simp [J.clear2,f.len],fun j d h=>f.sh j d (is (fun z=>by cases z) h),fun j d h=>f.ow j d (is (fun z=>by cases z) h),fun j d h=>f.lk j d (is (fun z=>by cases z) h),fun j k d e a h1 h2=>f.dj j k d e a (is (fun z=>by cases z) h1) (is (fun z=>by cases z) h2),f.lh,fun j d h=>(no2 j d h).elim,fun j k d e h _=>(no2 j d h).elim⟩,no2⟩
end
def pJ:List ah->Hp->Hp
 | [],H=>H
 | a::as,H=>pJ as (upd H a (.lst []))
section
variable {c:C}{e:aQ}{g gi:aw->R D}{pos p apos cpos spos:Pos}{x:Str}
theorem xo:∀ (as:List ah) (H:Hp),(∀ a∈as,H a=none)->as.Nodup->dB H (pJ as H)
 | [],H,_,_=>.refl H
 | a::as,H,h,nd=>by
  obtain ⟨n1,n2⟩:=List.nodup_cons.mp nd
  refine (lw (h a am)).trans (xo as _ (fun b hb=>?_) n2)
  rw [bg (fun (z:b=a)=>n1 (z ▸ hb))]
  exact h b (aj _ hb)
theorem CB:∀ (as:List ah) (H:Hp),as.Nodup->∀ a∈as,pJ as H a=some (.lst [])
 | a::as,H,nd,b,hb=>by
  obtain ⟨n1,n2⟩:=List.nodup_cons.mp nd
  show pJ as (upd H a (.lst [])) b=_
  by_cases hm:b∈as
  ·exact CB as _ n2 b hm
  ·have e:b=a:=(List.mem_cons.mp hb).resolve_right hm
   subst e
   have:∀ (as:List ah) (H:Hp),b∉as->pJ as H b=H b:=by
    intro as
    induction as with
    | nil=>intro H _;rfl
    | cons c as ih =>
     intro H h
     show pJ as (upd H c (.lst [])) b=_
     rw [ih _ (fun z=>h (aj _ z)),bg (fun (z:b=c)=>h (by rw [z];exact am))]
   rw [this as _ hm,bj]
theorem lA:∀ (as:List ah) (H:Hp) (b:ah),pJ as H b=none->H b=none/\b∉as
 | [],H,b,h=>⟨h,by simp⟩
 | a::as,H,b,h=>by
  obtain ⟨h1,h2⟩:=lA as (upd H a (.lst [])) b h
  by_cases hb:b=a
  ·subst hb;rw [bj] at h1;cases h1
  ·rw [bg hb] at h1
   exact ⟨h1,fun z=>(List.mem_cons.mp z).elim hb h2⟩
def Of (i:Nat):aw->R Fl:=fun ρ=>.ok (.nx ((clear2 ρ).set i (.ow2 [[],[],[],[]])))
theorem QX (i:Nat) {p1 p2 p3 p4:Pos}{pos':Pos} (hN:c.X.N.Nodup) (hi:c.X.N[i]?=some x:=by rfl) (hx:OU c.X.env.scope x:=by first | exact gj rfl | exact dQ rfl)
  (hs:fD (.List [.List [] p1,.List [] p2,.List [] p3,.List [] p4] p) (some (.Name x pos')) spos.line c.X.env=pure false:=by rfl)
  (hf:c.X.fn x=true\/c.X.env.scope.names.lookup x=some .local:=by first | exact .inl rfl | exact .inr rfl | assumption)
  (h1:aK [.List [] p1,.List [] p2,.List [] p3,.List [] p4] c.X.env=(false,dU (.List [] p1) c.X.env)::aK [.List [] p2,.List [] p3,.List [] p4] c.X.env:=by rfl)
  (h2:aK [.List [] p2,.List [] p3,.List [] p4] c.X.env=(false,dU (.List [] p2) c.X.env)::aK [.List [] p3,.List [] p4] c.X.env:=by rfl)
  (h3:aK [.List [] p3,.List [] p4] c.X.env=(false,dU (.List [] p3) c.X.env)::aK [.List [] p4] c.X.env:=by rfl)
  (h4:aK [.List [] p4] c.X.env=(false,dU (.List [] p4) c.X.env)::aK [] c.X.env:=by rfl) :
  JS c (.Assign [.Name x pos'] (.List [.List [] p1,.List [] p2,.List [] p3,.List [] p4] p) spos) (Of i):=.of fun ρ=>by
 refine wX (Et hN hi hx (rK (im (rK jC) (im (rK jC) (im (rK jC) (im (rK jC) jC h4) h3) h2) h1)) hs hf) fun D σ H h_0=>?_
 obtain ⟨H0,Hs0,la,Hs,f,q⟩:=h_0
 replace q:mY c.X.K c.cls c.E H0 Hs0 la D (Of i ρ):=q
 obtain ⟨f,no2⟩:=f.clear2
 refine ⟨cn _,fun a1 n1=>⟨cn _,fun a2 n2=>⟨cn _,fun a3 n3=>⟨cn _,fun a4 n4=>⟨cp (dg (show 4<=1000 by decide)),fun a n=>?_⟩⟩⟩⟩⟩
 have N:=lA [a1,a2,a3,a4] H a n
 have N4:=lA [a1,a2,a3] H a4 n4
 have N3:=lA [a1,a2] H a3 n3
 have N2:=lA [a1] H a2 n2
 simp only [bx,bn,or_false,not_or] at N N4 N3 N2
 have nd:[a1,a2,a3,a4].Nodup:=by
  simp only [List.nodup_cons,bx,bn,or_false,not_or,fm,and_true,not_false_eq_true]
  exact ⟨⟨cW N2.2,cW N3.2.1,cW N4.2.1⟩,⟨cW N3.2.2,cW N4.2.2.1⟩,cW N4.2.2.2⟩
 have free:∀ b∈[a1,a2,a3,a4],H b=none:=fun b hb=>by
  simp only [bx,bn,or_false] at hb
  rcases hb with rfl | rfl | rfl | rfl
  ·exact n1
  ·exact N2.1
  ·exact N3.1
  ·exact N4.1
 have nd5:(a::[a1,a2,a3,a4]).Nodup:=List.nodup_cons.mpr ⟨by simp only [bx,bn,or_false,not_or];exact N.2,nd⟩
 have sm:dB H (pJ [a1,a2,a3,a4] H):=xo _ _ free nd
 have all:dB H (upd (pJ [a1,a2,a3,a4] H) a (.lst [.ref a1,.ref a2,.ref a3,.ref a4])):=sm.trans (lw n)
 have free5:∀ b∈a::[a1,a2,a3,a4],H b=none:=fun b hb=>(List.mem_cons.mp hb).elim (fun z=>z ▸ N.1) (free b)
 have st:cD H Hs (upd (pJ [a1,a2,a3,a4] H) a (.lst [.ref a1,.ref a2,.ref a3,.ref a4])) Hs:=⟨all,.refl _,f.st.sub.trans all,fun _ _ _ _ z=>z⟩
 have f':=f.step st
 have hl:i<σ.length\/¬ i<σ.length:=Decidable.em _
 have nx:∀ {j:Nat}{s:Sl},(∀ d,s≠.ow2 d)->((clear2 ρ).set i (.ow2 [[],[],[],[]]))[j]?=some s->(clear2 ρ)[j]?=some s/\i≠j:=fun {j s} hs e=>by
  by_cases hj:i=j
  ·subst hj
   by_cases hi:i<(clear2 ρ).length
   ·rw [aH hi] at e;exact absurd (bF e).symm (hs _)
   ·rw [cm (by simpa using hi)] at e;cases e
  ·rw [al hj] at e;exact ⟨e,hj⟩
 refine q _ _ Hs ⟨f'.st,by simp [f'.len],fun j d h=>?_,fun j d h=>?_,fun j d h=>?_,fun j k d d' b h1 h2 h3 h4=>?_,f'.lh,fun j d h=>?_,fun j k d d' h1 h2=>?_⟩
 ·obtain ⟨h,hj⟩:=nx (fun _ z=>by cases z) h
  rw [al hj];exact f'.sh j d h
 ·obtain ⟨h,hj⟩:=nx (fun _ z=>by cases z) h
  rw [al hj];exact f'.ow j d h
 ·obtain ⟨h,hj⟩:=nx (fun _ z=>by cases z) h
  rw [al hj];exact f'.lk j d h
 ·obtain ⟨h1,hj⟩:=nx (fun _ z=>by cases z) h1
  obtain ⟨h2,hk⟩:=nx (fun _ z=>by cases z) h2
  rw [al hj] at h3
  rw [al hk] at h4
  exact f'.dj j k d d' b h1 h2 h3 h4
 ·by_cases hj:i=j
  ·subst hj
   by_cases hi:i<(clear2 ρ).length
   ·rw [aH hi] at h
    cases h
    have at4:=CB [a1,a2,a3,a4] H nd
    have ne:∀ b∈[a1,a2,a3,a4],b≠a:=fun b hb z=>(List.nodup_cons.mp nd5).1 (z ▸ hb)
    have go:∀ b∈[a1,a2,a3,a4],upd (pJ [a1,a2,a3,a4] H) a (.lst [.ref a1,.ref a2,.ref a3,.ref a4]) b=some (.lst []):=fun b hb=>by rw [bg (ne b hb)];exact at4 b hb
    refine ⟨a,[a1,a2,a3,a4],aH (by rw [<- f'.len];exact hi),bj,nd5,fun b hb=>⟨f.st.sub.free (free5 b hb),f.st.all.free (free5 b hb)⟩,fun b hb k e hk=>?_,.cons (go _ (by simp)) .nil (.cons (go _ (by simp)) .nil (.cons (go _ (by simp)) .nil (.cons (go _ (by simp)) .nil .nil)))⟩
    obtain ⟨hk,nk⟩:=nx (fun _ z=>by cases z) hk
    rw [al nk]
    intro z
    obtain ⟨b',o,k1,k2,_⟩:=f.ow k e hk
    rw [z] at k1
    cases k1
    rw [free5 b hb] at k2;cases k2
   ·rw [cm (by simpa using hi)] at h;cases h
  ·rw [al hj] at h;exact (no2 j d h).elim
 ·by_cases hj:i=j
  ·by_cases hk:i=k
   ·exact hj.symm.trans hk
   ·rw [al hk] at h2;exact (no2 k d' h2).elim
  ·rw [al hj] at h1;exact (no2 j d h1).elim
theorem KR {st:cA}{gs:aw->R Fl} (h:JS c st gs):JS c st (fun ρ=>gs (fe ρ)):=.of fun ρ=>wX (h (fe ρ)) fun D σ H h_1=>by
 obtain ⟨H0,Hs0,la,Hs,f,q⟩:=h_1
 obtain ⟨Hs',f'⟩:=f.shared
 exact ⟨H0,Hs0,la,Hs',f',q⟩
def shareAt (i:Nat) (ρ:aw):aw:=match ρ[i]? with
 | some (Sl.own d)=>ρ.set i (.shr d)
 | _=>ρ
theorem Fr.shareAt {K:a8}{H0 Hs0 H Hs:Hp}{la:Nat->Option ah}{ρ:aw}{σ:St} (f:Fr K H0 Hs0 la ρ σ H Hs) (i:Nat):∃ Hs',Fr K H0 Hs0 la (J.shareAt i ρ) σ H Hs':=by
 unfold J.shareAt
 split
 ·rename_i d ho
  obtain ⟨a,o,k1,k2,k3,k4,k5⟩:=f.ow i d ho
  have hil:i<ρ.length:=(List.getElem?_eq_some_iff.mp ho).1
  have up:dB Hs (upd Hs a o):=lw k3
  have nx:∀ {j:Nat}{s:Sl},(∀ d,s≠.shr d)->(ρ.set i (.shr d))[j]?=some s->ρ[j]?=some s/\i≠j:=fun {j s} hs e=>by
   by_cases hj:i=j
   ·subst hj
    rw [aH hil] at e;exact absurd (bF e).symm (hs d)
   ·rw [al hj] at e;exact ⟨e,hj⟩
  have ne:∀ (j:Nat) (e:D) (b:ah),i≠j->ρ[j]?=some (Sl.own e)->σ[j]?=some (some (V.ref b))->b≠a:=fun j e b hj h hb z=>by
   subst z
   exact hj (f.dj i j d e b ho h k1 hb)
  refine ⟨upd Hs a o,⟨f.st.all,f.st.sh.trans up,fun b u e=>?_,fun b u e t z=>?_⟩,by simp [f.len],fun j e h=>?_,fun j e h=>?_,fun j e h=>?_,fun j k d1 d2 b h1 h2 h3 h4=>?_,f.lh,fun j e h=>?_,fun j k d1 d2 h1 h2=>?_⟩
  ·by_cases hb:b=a
   ·subst hb;rw [bj] at e;cases e;exact k2
   ·rw [bg hb] at e;exact f.st.sub b u e
  ·rw [bg (bR e k4)];exact f.st.out b u e t z
  ·by_cases hj:i=j
   ·subst hj
    rw [aH hil] at h
    cases h
    exact ⟨_,k1,k5.share k3⟩
   ·rw [al hj] at h
    obtain ⟨v,q1,q2⟩:=f.sh j e h
    exact ⟨v,q1,q2.same up⟩
  ·obtain ⟨h,hj⟩:=nx (fun _ z=>by cases z) h
   obtain ⟨b,u,q1,q2,q3,q4,q5⟩:=f.ow j e h
   exact ⟨b,u,q1,q2,by rw [bg (ne j e b hj h q1)];exact q3,q4,q5.same up⟩
  ·obtain ⟨h,hj⟩:=nx (fun _ z=>by cases z) h
   obtain ⟨b,u,q1,q2,q3,q4,q5,q6⟩:=f.lk j e h
   exact ⟨b,u,q1,q2,q3,by rw [bg (bR q5 k4)];exact q4,q5,q6.same up⟩
  ·exact f.dj j k d1 d2 b (nx (fun _ z=>by cases z) h1).1 (nx (fun _ z=>by cases z) h2).1 h3 h4
  ·obtain ⟨h,hj⟩:=nx (fun _ z=>by cases z) h
   obtain ⟨b,as,O⟩:=f.o2 j e h
   refine ⟨b,as,O.at_,O.ob,O.nd,fun c hc=>⟨?_,(O.out c hc).2⟩,fun c hc k e' hk=>O.dj c hc k e' (nx (fun _ z=>by cases z) hk).1,O.inn.step (.refl _) up⟩
   rw [bg (fun z=>O.dj c hc i d ho (by rw [z];exact k1))]
   exact (O.out c hc).1
  ·exact f.u2 j k d1 d2 (nx (fun _ z=>by cases z) h1).1 (nx (fun _ z=>by cases z) h2).1
 ·exact ⟨Hs,f⟩
theorem EY (i:Nat) {st:cA}{gs:aw->R Fl} (h:JS c st gs):JS c st (fun ρ=>gs (shareAt i ρ)):=.of fun ρ=>wX (h (shareAt i ρ)) fun D σ H h_2=>by
 obtain ⟨H0,Hs0,la,Hs,f,q⟩:=h_2
 obtain ⟨Hs',f'⟩:=f.shareAt i
 exact ⟨H0,Hs0,la,Hs',f',q⟩
theorem zC.get {K:a8}{H Hs:Hp}{as:List ah}{dss:List (List D)} (h:zC K H Hs as dss):∀ {j:Nat}{ds:List D},dss[j]?=some ds->∃ b vs,as[j]?=some b/\H b=some (.lst vs)/\RDs K Hs vs ds:=by
 induction h with
 | nil=>intro j ds e;cases e
 | cons h r t ih =>
  intro j ds e
  cases j with
  | zero=>cases e;exact ⟨_,_,rfl,h,r⟩
  | succ j=>have q:=ih (j:=j) e;exact q
theorem zC.set {K:a8}{H Hs:Hp}{vs':List V}{ds':List D} (r':RDs K Hs vs' ds'):∀ {as:List ah}{dss:List (List D)}{j:Nat}{b:ah},zC K H Hs as dss->as[j]?=some b->as.Nodup->zC K (L2.upd H b (.lst vs')) Hs as (dss.set j ds')
 | _,_,_,_,.nil,h,_=>by simp at h
 | _,_,0,b,.cons h r t,e,nd=>by
  simp at e
  subst e
  exact .cons bj r' (t.upd (List.nodup_cons.mp nd).1)
 | _,_,j + 1,b,.cons (a:=a) h r t,e,nd=>by
  have e':_:=e
  simp only [ja] at e'
  obtain ⟨n1,n2⟩:=List.nodup_cons.mp nd
  have hb:b∈_:=dE e'
  exact .cons (by rw [bg (fun z=>n1 (by rw [z];exact hb))];exact h) r (zC.set r' t e' n2)
def n5 (i:Nat) (gi g:aw->R D):aw->R Fl:=fun ρ=>match ρ[i]? with
 | some (Sl.ow2 dss)=>(gi ρ).bind fun k=>match k with
  | .int j=>if 0<=j then (match dss[j.toNat]? with
   | some ds=>(g ρ).bind fun d=>if ds.length<1000 then .ok (.nx (ρ.set i (.ow2 (dss.set j.toNat (ds++[d]))))) else .no
   | none=>.no) else .no
  | _=>.no
 | _=>.no
variable {ie:aQ}
theorem xp (i:Nat) (hie:JE c ie gi) (h:JE c e g) (hN:c.X.N[i]?=some x:=by rfl) (hv:JJ c.X.env.scope x:=by first | exact gj rfl | exact dQ (gj rfl) | exact dQ (dQ rfl)) (hd:(x == ("__debug__" : Str))=false:=by decide)
  (hcd:(x == ("__classdict__" : Str))=false:=by decide) {p3:Pos} (hpx:tu ie:=by exact fun _ _=>rfl)
  (hbase:Hm (.Subscript (.Name x p) ie p3) "append" c.X.env (dU (.Subscript (.Name x p) ie p3) c.X.env)=dU (.Subscript (.Name x p) ie p3) c.X.env:=by rfl)
  (hfew:((iR cpos (aK [e] c.X.env)).all (fun x=>!x.1) && (backToKw cpos (MU [] c.X.env)).all (fun x=>x.1.isSome)
   && decide ([e].length + ([] : List yq).length + (if ([] : List yq).isEmpty then 0 else 1)<30))=true:=by rfl)
  (hline:(apos.endLine == cpos.line)=true:=by rfl) (hst:aK [e] c.X.env=(false,dU e c.X.env)::aK [] c.X.env:=by rfl) (hplain:(iR cpos (aK [] c.X.env)).any (·.1)=false:=by rfl)
  (hs:fD (.Call (.Attribute (.Subscript (.Name x p) ie p3) "append" apos) [e] [] cpos) none pos.line c.X.env=pure false:=by rfl) :
  JS c (.Expr (.Call (.Attribute (.Subscript (.Name x p) ie p3) "append" apos) [e] [] cpos) pos) (n5 i gi g):=.of fun ρ=>by
 refine wX (Aj (P4 zm yy yz zv (P0 tw (nA hN hv hd hcd) (hie ρ) hpx) (im (h ρ) jC hst) hbase hfew hline hst hplain) hs) fun D σ H h_3=>?_
 obtain ⟨H0,Hs0,la,Hs,f,q⟩:=h_3
 replace q:mY c.X.K c.cls c.E H0 Hs0 la D (n5 i gi g ρ):=q
 unfold n5 at q
 split at q
 ·rename_i dss ho
  obtain ⟨a,as,O⟩:=f.o2 i dss ho
  refine ⟨_,O.at_,?_⟩
  refine sE f q fun k v H1 Hs1 e1 s1 f1 r1=>?_
  rw [e1,bind_ok] at q
  cases r1 with
  | int j =>
   simp only at q
   by_cases hj:0<=j
   ·rw [if_pos hj] at q
    split at q
    ·rename_i ds hds
     obtain ⟨b,vs,hb,hH,rv⟩:=O.inn.get hds
     have hix:EB (as.map V.ref) j=some (.ref b):=by
      have:=tq (xs:=as.map V.ref) (j:=j.toNat) (v:=V.ref b) (by rw [aX,hb];rfl)
      rwa [eV hj] at this
     refine ⟨a,_,j,_,rfl,rfl,.of (s1.all _ _ O.ob),hix,.inl ⟨rfl,_,.of (s1.all _ _ hH)⟩,?_⟩
     refine sE f1 q fun d w H2 Hs2 e2 s2 f2 r2=>?_
     rw [e2,bind_ok] at q
     by_cases hl:ds.length<1000
     ·rw [if_pos hl] at q
      have st:=s1.trans s2
      refine ⟨b,vs,w,rfl,rfl,st.all _ _ hH,dg (by rw [rv.length];omega),?_⟩
      have hil:i<ρ.length:=(List.getElem?_eq_some_iff.mp ho).1
      obtain ⟨a',as',O2'⟩:=f2.o2 i dss ho
      have ea:a'=a:=by
       have:=O2'.at_
       rw [O.at_] at this
       cases this;rfl
      subst ea
      have eas:as'=as:=by
       have h1:=O2'.ob
       rw [st.all _ _ O.ob] at h1
       injection h1 with h1
       injection h1 with h1
       exact (Jd (fun x y z=>by cases z;rfl) |>.mp h1).symm
      subst eas
      have hbm:b∈a'::as':=aj _ (dE hb)
      have nb:b≠a':=fun z=>(List.nodup_cons.mp O.nd).1 (z ▸ dE hb)
      obtain ⟨bs,b0⟩:=O2'.out b hbm
      have nx:∀ {j':Nat}{s:Sl},(∀ d,s≠.ow2 d)->(ρ.set i (.ow2 (dss.set j.toNat (ds++[d]))))[j']?=some s->ρ[j']?=some s/\i≠j':=fun {j' s} hs e=>by
       by_cases hj:i=j'
       ·subst hj
        rw [aH hil] at e;exact absurd (bF e).symm (hs _)
       ·rw [al hj] at e;exact ⟨e,hj⟩
      refine q _ _ Hs2 ⟨⟨fun c u e=>?_,f2.st.sh,fun c u e=>?_,f2.st.out⟩,by simp [f2.len],fun j' d' h=>f2.sh j' d' (nx (fun _ z=>by cases z) h).1,fun j' d' h=>?_,fun j' d' h=>?_,fun j' k' d' e' a h1 h2=>f2.dj j' k' d' e' a (nx (fun _ z=>by cases z) h1).1 (nx (fun _ z=>by cases z) h2).1,f2.lh,fun j' d' h=>?_,fun j' k' d' e' h1 h2=>?_⟩
      ·rw [bg (bR e b0)];exact f2.st.all c u e
      ·rw [bg (bR e bs)];exact f2.st.sub c u e
      ·obtain ⟨h,_⟩:=nx (fun _ z=>by cases z) h
       obtain ⟨c',u,k1,k2,k3,k4,k5⟩:=f2.ow j' d' h
       refine ⟨c',u,k1,?_,k3,k4,k5⟩
       rw [bg (fun z=>O2'.dj b hbm j' d' h (by rw [<- z];exact k1))]
       exact k2
      ·obtain ⟨h,_⟩:=nx (fun _ z=>by cases z) h
       obtain ⟨c',u,k1,k2,k3,k4,k5,k6⟩:=f2.lk j' d' h
       refine ⟨c',u,k1,k2,?_,k4,k5,k6⟩
       rw [bg (bR k5 b0)]
       exact k3
      ·by_cases hj':i=j'
       ·subst hj'
        rw [aH hil] at h
        cases h
        refine ⟨a',as',O2'.at_,by rw [bg (cW nb)];exact O2'.ob,O2'.nd,O2'.out,fun c hc k e' hk=>O2'.dj c hc k e' (nx (fun _ z=>by cases z) hk).1,?_⟩
        exact zC.set ((rv.same st.sh).append (.cons r2 .nil)) O2'.inn hb (List.nodup_cons.mp O2'.nd).2
       ·rw [al hj'] at h
        exact (hj' (f2.u2 i j' _ _ ho h)).elim
      ·by_cases hj':i=j'
       ·by_cases hk':i=k'
        ·exact hj'.symm.trans hk'
        ·rw [al hk'] at h2
         exact (hk' (f2.u2 i k' _ _ ho h2)).elim
       ·rw [al hj'] at h1
        exact (hj' (f2.u2 i j' _ _ ho h1)).elim
     ·rw [if_neg hl] at q;exact q.elim
    ·exact q.elim
   ·rw [if_neg hj] at q;exact q.elim
  | none=>exact q.elim
  | bool _=>exact q.elim
  | str _=>exact q.elim
  | list _ _=>exact q.elim
  | tuple _ _=>exact q.elim
  | dictK _ _=>exact q.elim
  | dictT _ _ _=>exact q.elim
  | dictF _ _ _=>exact q.elim
 ·exact q.elim
end
end
section
open PyProof.Rows (OwnCls)
section
variable {X:Cx}
end
section
variable {c:C}{e:aQ}{g:aw->R D}{pos p apos cpos:Pos}{x:Str}
end
structure Er (mg:Str->Option a9) (base:bp) (cls:Str->ah) (x:Str):Prop where
 ex:∃ bmB newId initId Bn,OwnCls x (cls x) bmB newId mg base/\ExcBaseFacts Bn newId initId bmB
def uK (x:Str) (gs:aw->R (List D)):aw->R Fl:=fun ρ=>(gs ρ).bind fun ds=>if ds.length<=1000 then .ex x none else .no
section
variable {P:aE}{w:aU}{K:a8}{mg:Str->Option a9}{base:bp}{N:List Str}{qual:Str}{scope:dw}{f:ah}{cd:a9}{A:b9}{outer:List Env}{s:ac}{H:Hp}{E:XK}{cls:Str->ah}
theorem xq {x:Str}{np cpos pos:Pos}{e0:aQ}{bG:List aQ}{gs:aw->R (List D)} (R0:Er mg base cls x)
  (hg:Gl (js (pw P w) P w K mg base N qual scope f cd A outer s H E) x) (ha:G1 ⟨js (pw P w) P w K mg base N qual scope f cd A outer s H E,cls,E⟩ (e0::bG) gs)
  (he:aK (e0::bG) (js (pw P w) P w K mg base N qual scope f cd A outer s H E).env=(false,dU e0 (js (pw P w) P w K mg base N qual scope f cd A outer s H E).env)::aK bG (js (pw P w) P w K mg base N qual scope f cd A outer s H E).env:=by rfl)
  (hdb:(x == ("__debug__" : Str))=false:=by decide) (hpl:(iR cpos (aK bG (js (pw P w) P w K mg base N qual scope f cd A outer s H E).env)).any (·.1)=false:=by rfl) :
  JS ⟨js (pw P w) P w K mg base N qual scope f cd A outer s H E,cls,E⟩ (.Raise (some (.Call (.Name x np) (e0::bG) [] cpos)) none pos) (uK x gs):=.of fun ρ=>by
 obtain ⟨bmB,newId,initId,Bn,O,FB⟩:=R0.ex
 refine wX (Kt O FB hg (ha ρ) he hdb hpl) fun D σ H1 h_1=>?_
 obtain ⟨H0,Hs0,la,Hs,f,q⟩:=h_1
 replace q:mY K cls E H0 Hs0 la D (uK x gs ρ):=q
 refine ⟨H0,Hs0,la,Hs,f,?_⟩
 unfold uK at q
 cases hr:gs ρ with
 | no=>rw [hr] at q;exact q
 | ex y n=>rw [hr] at q;exact fun H' Hs' s=>q H' Hs' (f.st.trans s)
 | ok ds =>
  rw [hr,bind_ok] at q
  intro vs H2 Hs2 s2 r2
  by_cases hl:ds.length<=1000
  ·rw [if_pos hl] at q
   exact ⟨cp (dg (by rw [r2.length];exact hl)),q H2 Hs2 (f.st.trans s2)⟩
  ·rw [if_neg hl] at q;exact q.elim
end
end
section
structure Bi (mg:Str->Option a9):Prop where
 len:mg "len"=none
 isinstance:mg "isinstance"=none
 all:mg "all"=none
 any:mg "any"=none
 zip:mg "zip"=none
 tuple:mg "tuple"=none
 list:mg "list"=none
 sorted:mg "sorted"=none
 set:mg "set"=none
 range:mg "range"=none
 enumerate:mg "enumerate"=none
 dict:mg "dict"=none
 sum:mg "sum"=none
 max:mg "max"=none
 min:mg "min"=none
 reversed:mg "reversed"=none
 str:mg "str"=none
 int:mg "int"=none
 bool:mg "bool"=none
end
section
def bits (j:Nat):List Bool:=[decide (0=j),decide (1=j),decide (2=j),decide (3=j),decide (4=j),decide (5=j),decide (6=j),decide (7=j),decide (8=j),decide (9=j),decide (10=j)]
section
variable {X:Cx}{cls:Str->ah}{names:List Str}{base:bp}
end
end
end J
section
namespace J
open PySem L2
section
variable {c:C}{body:List cA}{x n:Str}{np np2 np3 hpos cpos rpos pos:Pos}{gb:aw->R Fl}{names:List Str}{wh:Str->Option Nat}
end
end J
namespace L2
open PySem
end L2
end
namespace J
open PySem L2
section
open PyProof.Rows (OwnCls)
abbrev Og:List a9:=[.type "ValueError",.type "Exception",.type "BaseException",.type "object"]
theorem QY {K:a8}{h:bp}{mg:Str->Option a9}{x:Str}{C:ah}{bmB:List a9}{newId:String} (X:K.In h) (G:h.Ns bK mg) (e:fF K bK x=some (some (.ref C))) (q:yA K C bmB newId=true) (m1:dh K C (.type "BaseException")=some true) :
  OwnCls x C bmB newId mg h/\∃ bm,SB h C bm/\∀ v,(v == bO C)=false->dh K C v=some true->bm.contains v=true:=by
 have hmg:=mE X G e
 unfold yA at q
 split at q
 ·rename_i dd cd sl look
  split at q
  ·rename_i C' bm k0 k1 k2 k3 n k5 hmro hslots
   simp only [aO,beq_iff_eq,Jw] at q
   obtain ⟨⟨⟨⟨⟨rfl,rfl⟩,nodel⟩,tl⟩,nsok⟩,noinit⟩:=q
   have slots:sl=#[k0,k1,k2,k3,some (.builtin n),k5]:=by
    cases sl with | mk l=>simp only at hslots;rw [hslots]
   have inMro:∀ v,dh K C' v=some true->cd.mro.contains v=true:=fun v hv=>by
    unfold dh qX at hv
    rw [look] at hv
    simp only [vg] at hv
    split at hv
    ·cases hv
    ·exact bF hv
   have bG:∀ v,(v == bO C')=false->dh K C' v=some true->bm.contains v=true:=fun v nv hv=>by
    have:=inMro v hv
    rw [hmro,Je,nv,sZ] at this
    exact this
   obtain ⟨nm,bs,mro,ns,qn,hd,sn,sub,ab,col,del⟩:=cd
   dsimp only at hmro nodel nsok noinit
   subst hmro nodel slots
   have at_:=X _ _ look
   exact ⟨⟨hmg,bm,ns,nm,qn,bs,hd,sn,sub,ab,col,dd,k0,k1,k2,k3,k5,_,at_,.of_isNs (lr X nsok),eg X nsok noinit,PySem.W.tail_of_in X tl⟩,
    bm,⟨⟨nm,qn,ns,bs,hd,sn,sub,ab,col,dd,k0,k1,k2,k3,k5,n,at_⟩,bG _ rfl m1⟩,bG⟩
  ·cases q
 ·cases q
structure TopC (K:a8) (x:Str) (C:ah):Prop where
 ns:fF K bK x=some (some (.ref C))
 ex:yA K C Og "ValueError.__new__"=true
 mb:dh K C (.type "BaseException")=some true
theorem TopC.er {K:a8}{h:bp}{mg:Str->Option a9}{cls:Str->ah}{x:Str}{C:ah} (T:TopC K x C) (X:K.In h) (G:h.Ns bK mg) (hc:cls x=C):Er mg h cls x:=by
 subst hc
 exact ⟨_,_,_,_,(QY X G T.ns T.ex T.mb).1,PySem.F.excBase_ValueError⟩
inductive T6 (K:a8) (F:List D->R D) (vs:List V) (H:Hp) (Q:VK) (z_3:XK):Prop
 | mk (Hs ds d:_) (h0:dB Hs H) (h1:ds.length=1) (h2:RDs K Hs vs ds) (h3:F ds=.ok d) (h4:∀ v H' Hs',cD H Hs H' Hs'->RD K Hs' v d->Q v H'):T6 K F vs H Q z_3
def T7 (K:a8) (F:List D->R D):Sp:=T6 K F
theorem QZ {K:a8}{cls:Str->ah}{F:List D->R D}:∀ vs H Q E,T7 K F vs H Q E->SY K cls 1 F vs H Q E:=fun vs H Q E ⟨Hs,ds,d,s,l,r,e,q⟩=>⟨Hs,ds,s,l,r,by rw [e];exact q⟩
def T8 (l:List (Str×ah)):Str->ah:=fun x=>(l.lookup x).getD 0
theorem Q_ {K:a8}{F:List D->R D}{H:Hp}{a:ah}{ns:List Int} (hF:F [.list (ns.map .int)]=.ok (.bool true)) (h:nB K H a (ns.map V.int)):T7 K F [.ref a] H (fun v _=>v=.bl true) fun _ _ _=>False:=by
 have ri:∀ ns:List Int,RDs K H (ns.map V.int) (ns.map .int):=fun ns=>by
  induction ns with
  | nil=>exact .nil
  | cons x r ih=>exact .cons (.int x) ih
 refine ⟨H,[.list (ns.map .int)],.bool true,.refl H,rfl,.cons (.list h (ri ns)) .nil,hF,?_⟩
 intro v H' Hs' _ r
 cases r
 rfl
theorem R1 {P:aE}{w:aU}{H:Hp}{s:ac}{e:a9}{s':ac} (h:pw P w [] H s (fun _ _ _=>False) e s'):False:=by
 obtain ⟨_,_,_,_,_,_,_,_,_,q⟩:=h
 exact q
theorem walkF {l:vL}{k:Nat}{q:aE}{loose:List Str}{XP:(Str->Option a9)->bp->Prop}{YP:aU->bp->Prop}{d:DefRec}{K:Params->a8}{x:Str}{F0:List D->R D}
  (hn:l.most=some 63) (hdf:d.params.defaults=[]) (hr:lv k vc) (hY:∀ (w:aU) (h:bp),YP w h->(K w.params).In h)
  (F:∀ (w:aU) (mg:Str->Option a9) (fa:ah) (h:bp),(K w.params).In h->h.Ns bK mg->mg d.name=some (.ref fa) ->
   ∃ fd:eK,(∀ (s:ac) (u:a9),yp s fd ⟨[u],[]⟩ [(x,u)])/\∀ base:bp,(K w.params).In base->base.Ns bK mg->uC l.prog w (K w.params) mg base (pw l.prog w) k fa fd [x] (T7 (K w.params) F0))
  (hF:∀ ns:List Int,ns.length<=63->F0 [.list (ns.map .int)]=.ok (.bool true)) :
  MG q loose XP YP l.row.toRowW d [] (fun f vs=>Ho f vs) :=
 L2.NO (n:=63) (k:=k) (x:=x) (CX:=fun w=>pw l.prog w) (sp:=fun w=>T7 (K w.params) F0) hn (by decide) hdf hr hY F (fun w H a ns hl _ hS=>Q_ (hF ns hl) hS) fun _ _ _ _ _ h=>R1 h
def Jj (i:Nat) (g:aw->R Fl):aw->R Fl:=fun ρ=>g (shareAt i ρ)
theorem AR {c:C} (i:Nat) {st:cA}{gs:aw->R Fl} (h:JS c st gs):JS c st (Jj i gs):=EY i h
end
section
section
variable {s:Sl}{ρ:aw}{d x y:D}{ds:List D}
theorem rZ {α β:Type} (a:α) (f:α->R β):(R.ok a).bind f=f a:=id rfl
def Oh (h:aw->R Fl):Fl->R Fl:=fun fl=>match fl with
 | .nx ρ'=>h ρ'
 | fl=>.ok fl
theorem CC (g h:aw->R Fl):aS g h (s::ρ)=(g (s::ρ)).bind (Oh h):=id rfl
theorem tZ (h:aw->R Fl) (ρ:aw):Oh h (.nx ρ)=h ρ:=id rfl
theorem CD (h:aw->R Fl) (d:D):Oh h (.rt d)=.ok (.rt d):=id rfl
def Ve (g h:aw->R Fl) (ρ:aw):Bool->R Fl:=fun b=>bif b then g ρ else h ρ
theorem T9 (t:aw->R Bool) (g h:aw->R Fl):fQ t g h (s::ρ)=(t (s::ρ)).bind (Ve g h (s::ρ)):=by
 show (t (s::ρ)).bind _=_
 congr 1
 funext b
 cases b<;>rfl
theorem KS (g h:aw->R Fl) (ρ:aw):Ve g h ρ false=h ρ:=id rfl
theorem KU (g h:aw->R Fl) (ρ:aw) (b:Bool):Ve g h ρ b=bif b then g ρ else h ρ:=id rfl
def Vf:D->R Fl:=fun d=>.ok (.rt d)
theorem Pl (g:aw->R D):dJ g (s::ρ)=(g (fe (s::ρ))).bind Vf:=id rfl
theorem Ta (d:D):Vf d=.ok (.rt d):=id rfl
def xr:Sl->Sl
 | .own d=>.shr d
 | .ow2 dss=>.shr (.list (dss.map .list))
 | s=>s
theorem Gh:fe (s::ρ)=xr s::fe ρ:=by cases s<;>rfl
theorem CF:fe []=[]:=id rfl
theorem Gi:xr .no=.no:=id rfl
theorem CG (d:D):xr (.shr d)=.shr d:=id rfl
theorem CH (d:D):xr (.own d)=.shr d:=id rfl
theorem CI (d:List (List D)):xr (.ow2 d)=.shr (.list (d.map .list)):=id rfl
def Tb (i:Nat) (ρ:aw):D->R Fl:=fun d=>.ok (.nx (ρ.set i (.shr d)))
theorem KW (i:Nat) (g:aw->R D):f_ i g (s::ρ)=(g (s::ρ)).bind (Tb i (s::ρ)):=id rfl
theorem KY (i:Nat) (ρ:aw) (d:D):Tb i ρ d=.ok (.nx (ρ.set i (.shr d))):=id rfl
def Pm (i:Nat) (ρ:aw):D->R Fl:=fun d=>.ok (.nx (ρ.set i (.own d)))
theorem KZ (i:Nat) (g:aw->R D):eC i g (s::ρ)=(g (s::ρ)).bind (Pm i (s::ρ)):=id rfl
theorem Gj (i:Nat) (ρ:aw) (d:D):Pm i ρ d=.ok (.nx (ρ.set i (.own d))):=id rfl
def K7 (ρ:aw):D->R Fl:=fun _=>.ok (.nx ρ)
theorem K_ (g:aw->R D):vn g (s::ρ)=(g (s::ρ)).bind (J.K7 (s::ρ)):=id rfl
theorem Gk (ρ:aw) (d:D):J.K7 ρ d=.ok (.nx ρ):=id rfl
def VV (gb:aw->R D) (h:D->D->R D) (ρ:aw):D->R D:=fun x=>(gb ρ).bind (h x)
theorem Tc (ga gb:aw->R D) (h:D->D->R D):g2 ga gb h (s::ρ)=(ga (s::ρ)).bind (VV gb h (s::ρ)):=id rfl
theorem Pn (gb:aw->R D) (h:D->D->R D) (ρ:aw) (x:D):VV gb h ρ x=(gb ρ).bind (h x):=id rfl
def L0:D->R Bool:=fun d=>match d with
 | .bool b=>.ok b
 | _=>.no
theorem Po (g:aw->R D):fL g (s::ρ)=(g (s::ρ)).bind L0:=id rfl
theorem L3 (b:Bool):L0 (.bool b)=.ok b:=id rfl
def Td:Bool->R Bool:=fun b=>.ok (!b)
theorem Pp (g:aw->R Bool):mI g (s::ρ)=(g (s::ρ)).bind Td:=id rfl
theorem L4 (b:Bool):Td b=.ok (!b):=id rfl
def Te (h:aw->R Bool) (ρ:aw):Bool->R Bool:=fun b=>bif b then h ρ else .ok false
def VW (h:aw->R Bool) (ρ:aw):Bool->R Bool:=fun b=>bif b then .ok true else h ρ
theorem Pq (g h:aw->R Bool):AD g h (s::ρ)=(g (s::ρ)).bind (Te h (s::ρ)):=by
 show (g (s::ρ)).bind _=_
 congr 1;funext b;cases b<;>rfl
theorem Tf (g h:aw->R Bool):Jh g h (s::ρ)=(g (s::ρ)).bind (VW h (s::ρ)):=by
 show (g (s::ρ)).bind _=_
 congr 1;funext b;cases b<;>rfl
theorem L5 (h:aw->R Bool) (ρ:aw) (b:Bool):Te h ρ b=bif b then h ρ else .ok false:=id rfl
theorem Pr (h:aw->R Bool) (ρ:aw) (b:Bool):VW h ρ b=bif b then .ok true else h ρ:=id rfl
def Ps:Bool->R D:=fun b=>.ok (.bool (!b))
theorem L6 (g:aw->R D):Ci g (s::ρ)=((g (s::ρ)).bind L0).bind Ps:=id rfl
theorem Gm (b:Bool):Ps b=.ok (.bool (!b)):=id rfl
def Pt (h:aw->R D) (ρ:aw):Bool->R D:=fun b=>bif b then h ρ else .ok (.bool false)
def Tg (h:aw->R D) (ρ:aw):Bool->R D:=fun b=>bif b then .ok (.bool true) else h ρ
theorem L7 (g h:aw->R D):r9 g h (s::ρ)=((g (s::ρ)).bind L0).bind (Pt h (s::ρ)):=by
 show (fL g (s::ρ)).bind _=(fL g (s::ρ)).bind _
 congr 1;funext b;cases b<;>rfl
theorem Pu (g h:aw->R D):O0 g h (s::ρ)=((g (s::ρ)).bind L0).bind (Tg h (s::ρ)):=by
 show (fL g (s::ρ)).bind _=(fL g (s::ρ)).bind _
 congr 1;funext b;cases b<;>rfl
theorem Gn (h:aw->R D) (ρ:aw) (b:Bool):Pt h ρ b=bif b then h ρ else .ok (.bool false):=id rfl
theorem L8 (h:aw->R D) (ρ:aw) (b:Bool):Tg h ρ b=bif b then .ok (.bool true) else h ρ:=id rfl
def Th (gb gc:aw->R D) (h h':D->D->R D) (ρ:aw):D->R D:=fun x=>(gb ρ).bind fun y=>(h x y).bind fun z=>match z with
 | .bool true=>(gc ρ).bind fun w=>h' y w
 | .bool false=>.ok (.bool false)
 | _=>.no
def Ti (gc:aw->R D) (h h':D->D->R D) (ρ:aw) (x:D):D->R D:=fun y=>(h x y).bind fun z=>match z with
 | .bool true=>(gc ρ).bind fun w=>h' y w
 | .bool false=>.ok (.bool false)
 | _=>.no
def Tj (gc:aw->R D) (h':D->D->R D) (ρ:aw) (y:D):D->R D:=fun z=>match z with
 | .bool true=>(gc ρ).bind (h' y)
 | .bool false=>.ok (.bool false)
 | _=>.no
theorem Go (ga gb gc:aw->R D) (h h':D->D->R D):pA ga gb gc h h' (s::ρ)=(ga (s::ρ)).bind (Th gb gc h h' (s::ρ)):=id rfl
theorem L9 (gb gc:aw->R D) (h h':D->D->R D) (ρ:aw) (x:D):Th gb gc h h' ρ x=(gb ρ).bind (Ti gc h h' ρ x):=id rfl
theorem La (gc:aw->R D) (h h':D->D->R D) (ρ:aw) (x y:D):Ti gc h h' ρ x y=(h x y).bind (Tj gc h' ρ y):=id rfl
theorem Lb (gc:aw->R D) (h':D->D->R D) (ρ:aw) (y:D) (b:Bool):Tj gc h' ρ y (.bool b)=bif b then (gc ρ).bind (h' y) else .ok (.bool false):=by cases b<;>rfl
def Lc (gs:aw->R (List D)) (ρ:aw):D->R (List D):=fun d=>(gs ρ).bind fun ds=>.ok (d::ds)
def Ld (d:D):List D->R (List D):=fun ds=>.ok (d::ds)
theorem Le (g:aw->R D) (gs:aw->R (List D)):J.ag g gs (s::ρ)=(g (s::ρ)).bind (Lc gs (s::ρ)):=id rfl
theorem CJ (gs:aw->R (List D)) (ρ:aw) (d:D):Lc gs ρ d=(gs ρ).bind (Ld d):=id rfl
theorem CK (d:D) (ds:List D):Ld d ds=.ok (d::ds):=id rfl
theorem Pw (ρ:aw):J.aM ρ=.ok []:=id rfl
def Px (k:List D->D):List D->R D:=fun ds=>if ds.length<=1000 then .ok (k ds) else .no
theorem Lf (gs:aw->R (List D)) (k:List D->D):eJ gs k (s::ρ)=(gs (s::ρ)).bind (Px k):=id rfl
theorem Gp (k:List D->D) (ds:List D):Px k ds=if ds.length<=1000 then .ok (k ds) else .no:=id rfl
theorem Lg (gs:aw->R (List D)) (h:List D->R D):c8 gs h (s::ρ)=(gs (s::ρ)).bind h:=id rfl
def VX (n:Nat) (F:List D->R D):List D->R D:=fun ds=>if ds.length=n then F ds else .no
theorem Tk (n:Nat) (F:List D->R D) (gs:aw->R (List D)):fA n F gs (s::ρ)=(gs (s::ρ)).bind (VX n F):=id rfl
theorem Py (n:Nat) (F:List D->R D) (ds:List D):VX n F ds=if ds.length=n then F ds else .no:=id rfl
theorem Pz (h:D->R D) (d:D):hZ h [d]=h d:=id rfl
theorem Lh (d:D) (ρ:aw):E4 (.shr d::ρ) 0=.ok d:=id rfl
theorem PB (s:Sl) (ρ:aw) (n:Nat):E4 (s::ρ) (n + 1)=E4 ρ n:=by simp [E4]
theorem Li (d:D) (ρ:aw):E5 (.shr d::ρ) 0=.ok d:=id rfl
theorem Lj (d:D) (ρ:aw):E5 (.own d::ρ) 0=.ok d:=id rfl
theorem PD (s:Sl) (ρ:aw) (n:Nat):E5 (s::ρ) (n + 1)=E5 ρ n:=by simp [E5]
def Tl (T:String):D->R D:=fun d=>if qk d then .ok (.bool (Cr T d)) else .no
theorem PF (g:aw->R D) (T:String):xa g T (s::ρ)=(g (s::ρ)).bind (Tl T):=id rfl
theorem Lk (T:String) (d:D):Tl T d=if qk d then .ok (.bool (Cr T d)) else .no:=id rfl
def Tn (gl gh:aw->R (Option Int)) (ρ:aw):D->R D:=fun x=>(gl ρ).bind fun l=>(gh ρ).bind fun h=>G9 x l h
def To (gh:aw->R (Option Int)) (ρ:aw) (x:D):Option Int->R D:=fun l=>(gh ρ).bind fun h=>G9 x l h
theorem Tp (g:aw->R D) (gl gh:aw->R (Option Int)):Ph g gl gh (s::ρ)=(g (s::ρ)).bind (Tn gl gh (s::ρ)):=id rfl
theorem Ll (gl gh:aw->R (Option Int)) (ρ:aw) (x:D):Tn gl gh ρ x=(gl ρ).bind (To gh ρ x):=id rfl
theorem Lm (gh:aw->R (Option Int)) (ρ:aw) (x:D) (l:Option Int):To gh ρ x l=(gh ρ).bind (G9 x l):=id rfl
theorem PH (ρ:aw):RQ ρ=.ok none:=id rfl
def Tq:D->R (Option Int):=fun d=>match d with
 | .int i=>.ok (some i)
 | _=>.no
theorem PJ (g:aw->R D):O5 g (s::ρ)=(g (s::ρ)).bind Tq:=id rfl
theorem Ln (i:Int):Tq (.int i)=.ok (some i):=id rfl
theorem R4 (g:aw->R D):k7 g (s::ρ)=(g (s::ρ)).bind xc:=id rfl
theorem Lo (gs:aw->R (List D)):vo gs (s::ρ)=(gs (s::ρ)).bind EV:=id rfl
theorem PK (gs:aw->R (List D)):EW gs (s::ρ)=(gs (s::ρ)).bind Uh:=id rfl
theorem PL (gs:aw->R (List D)):Oa gs (s::ρ)=(gs (s::ρ)).bind zp:=id rfl
def PM (nt:Nat) (ix:List Nat) (gt:aw->R Bool) (ge:aw->R D) (ρ:aw):List D->R D:=fun ds=>if ds.length<=1000 then (fg (fX nt (ko nt ix ρ) gt ge) ds).bind fun ys=>.ok (.list ys) else .no
def PN:List D->R D:=fun ys=>.ok (.list ys)
theorem Lp (nt:Nat) (ix:List Nat) (gi:aw->R (List D)) (gt:aw->R Bool) (ge:aw->R D):fo nt ix gi gt ge (s::ρ)=(gi (s::ρ)).bind (PM nt ix gt ge (s::ρ)):=id rfl
theorem Gq (nt:Nat) (ix:List Nat) (gt:aw->R Bool) (ge:aw->R D) (ρ:aw) (ds:List D):PM nt ix gt ge ρ ds=if ds.length<=1000 then (fg (fX nt (ko nt ix ρ) gt ge) ds).bind PN else .no:=id rfl
theorem Gr (ys:List D):PN ys=.ok (.list ys):=id rfl
theorem n6 (gi:aw->R (List D)) (kt:D->aw->R aw) (gb:aw->R Fl) (ds:List D) (h:gi (s::ρ)=.ok ds):kq gi kt gb (s::ρ)=iT kt gb ds (s::ρ):=by unfold kq;rw [h]
def Lq (k:D->aw->R aw) (ρ:aw):D->R Fl:=fun d=>match k d ρ with
 | .ok ρ'=>.ok (.nx ρ')
 | _=>.no
theorem PP (g:aw->R D) (k:D->aw->R aw):yP g k (s::ρ)=(g (s::ρ)).bind (Lq k (s::ρ)):=id rfl
theorem zI (ds:List D):xc (.list ds)=.ok ds:=id rfl
theorem zJ (ds:List D):xc (.tuple ds)=.ok ds:=id rfl
theorem zK (x:Str):xc (.str x)=.ok (mK x):=id rfl
theorem Lr (ds:List D):Uh [.tuple ds]=.ok (oE 0 ds):=id rfl
theorem Tr (ds es:List D):zp [.tuple ds,.tuple es]=.ok (vV ds es):=id rfl
def zL (ρ:aw) (i:Nat):Sl:=Oc ((ρ[i]?).getD .no)
def Ls (ix:List Nat) (ρ:aw):aw:=ix.map (zL ρ)
theorem Lu (ix:List Nat) (ρ:aw):ko 1 ix ρ=.no::Ls ix ρ:=id rfl
theorem Lv (ix:List Nat) (ρ:aw):ko 2 ix ρ=.no::.no::Ls ix ρ:=id rfl
theorem Lw (ρ:aw):Ls [] ρ=[]:=id rfl
theorem Lx (i:Nat) (ix:List Nat) (ρ:aw):Ls (i::ix) ρ=zL ρ i::Ls ix ρ:=id rfl
theorem Ly (s:Sl) (ρ:aw):zL (s::ρ) 0=Oc s:=id rfl
theorem Lz (s:Sl) (ρ:aw) (n:Nat):zL (s::ρ) (n + 1)=zL ρ n:=by simp [zL]
theorem zM (d:D):Oc (.shr d)=.shr d:=id rfl
theorem uL {i:Nat}{ρ:aw}{d:D} (h:ρ[i]?=some (Sl.own d)):shareAt i ρ=ρ.set i (.shr d):=by unfold shareAt;rw [h]
theorem d_ {α:Type} (f:D->R (Option D)) (c:α->D) (h:α->D):∀ (xs:List α),(∀ x∈xs,f (c x)=.ok (some (h x)))->fg f (xs.map c)=.ok (xs.map h)
 | [],_=>rfl
 | x::r,e=>by
  rw [ap,ap]
  unfold fg
  rw [e x am,bind_ok,d_ f c h r fun y hy=>e y (aj _ hy),bind_ok]
theorem eO {α:Type} (f:D->R (Option D)) (c:α->D) (h:α->D) (p:α->Bool):∀ (xs:List α),(∀ x∈xs,f (c x)=.ok (if p x then some (h x) else none))->fg f (xs.map c)=.ok ((xs.filter p).map h)
 | [],_=>rfl
 | x::r,e=>by
  rw [ap]
  unfold fg
  rw [e x am,bind_ok,eO f c h p r fun y hy=>e y (aj _ hy),bind_ok]
  cases hp:p x<;>simp [hp]
theorem PQ {ρ:aw}{gt:aw->R Bool}{ge:aw->R D}{d:D}:fX 1 ρ gt ge d=Ii (((gt (ρ.set 0 (.shr d)))).bind fun b=>if b then (ge (ρ.set 0 (.shr d))).bind fun y=>.ok (some y) else .ok none):=id rfl
theorem gd {ρ:aw}{gt:aw->R Bool}{ge:aw->R D}{d y:D} (h1:gt (ρ.set 0 (.shr d))=.ok true) (h2:ge (ρ.set 0 (.shr d))=.ok y):fX 1 ρ gt ge d=.ok (some y):=by
 rw [PQ,h1,bind_ok,if_pos rfl,h2];rfl
theorem m6 {ρ:aw}{gt:aw->R Bool}{ge:aw->R D}{d y:D}{b:Bool} (h1:gt (ρ.set 0 (.shr d))=.ok b) (h2:b=true->ge (ρ.set 0 (.shr d))=.ok y):fX 1 ρ gt ge d=.ok (if b then some y else none):=by
 rw [PQ,h1,bind_ok]
 cases b with
 | true=>rw [if_pos rfl,h2 rfl];rfl
 | false=>rfl
theorem Gs {j:Int} (h1:-(2 ^ 62)<=j) (h2:j<2 ^ 62):EV [.int j]=.ok (jg 0 j.toNat):=by
 have h:-(2 ^ 62)<=j/\j<2 ^ 62:=⟨h1,h2⟩
 unfold EV
 split
 ·rename_i j' e
  have e':j=j':=by injection e with e;injection e
  subst e'
  rw [if_pos h]
 ·rename_i hn
  exact (hn j rfl).elim
end
end
end J
section
namespace L2
open PySem PySem.Spec PyProof.Rows
end L2
namespace J
open PySem L2
open PyProof.Rows (envOfC)
section
variable {c:C}{e a b:aQ}{g ga gb:aw->R D}{pos rpos:Pos}{es:List aQ}{gs:aw->R (List D)}{x y:Str}{p q:Pos}
end
section
variable {c:C}{body:List cA}{x n:Str}{np np2 np3 hpos cpos rpos pos:Pos}{gb:aw->R Fl}{names:List Str}{wh:Str->Option Nat}
end
theorem W7 {α:Type}{us:List α} (h:us.length=1):∃ a,us=[a]:=by
 rcases us with _ | ⟨a0,_ | ⟨z,r⟩⟩
 ·simp at h
 ·exact ⟨_,rfl⟩
 ·simp at h
theorem W8 {α:Type}{us:List α} (h:us.length=2):∃ a b,us=[a,b]:=by
 rcases us with _ | ⟨a0,_ | ⟨a0,_ | ⟨z,r⟩⟩⟩
 ·simp at h
 ·simp at h
 ·exact ⟨_,_,rfl⟩
 ·simp at h
theorem W9 {α:Type}{us:List α} (h:us.length=3):∃ a b c,us=[a,b,c]:=by
 rcases us with _ | ⟨a0,_ | ⟨a0,_ | ⟨a0,_ | ⟨z,r⟩⟩⟩⟩
 ·simp at h
 ·simp at h
 ·simp at h
 ·exact ⟨_,_,_,rfl⟩
 ·simp at h
theorem Wa {α:Type}{us:List α} (h:us.length=4):∃ a b c d,us=[a,b,c,d]:=by
 rcases us with _ | ⟨a0,_ | ⟨a0,_ | ⟨a0,_ | ⟨a0,_ | ⟨z,r⟩⟩⟩⟩⟩
 ·simp at h
 ·simp at h
 ·simp at h
 ·simp at h
 ·exact ⟨_,_,_,_,rfl⟩
 ·simp at h
theorem Wb {α:Type}{us:List α} (h:us.length=5):∃ a b c d e,us=[a,b,c,d,e]:=by
 rcases us with _ | ⟨a0,_ | ⟨a0,_ | ⟨a0,_ | ⟨a0,_ | ⟨a0,_ | ⟨z,r⟩⟩⟩⟩⟩⟩
 ·simp at h
 ·simp at h
 ·simp at h
 ·simp at h
 ·simp at h
 ·exact ⟨_,_,_,_,_,rfl⟩
 ·simp at h
end J
end
namespace J
open PySem L2
section
section
variable {c:C}{e a b l tg:aQ}{g ga gb:aw->R D}{pos p:Pos}{gs:aw->R (List D)}{es:List aQ}{x:Str}
end
end
end J
section
namespace HT
open PySem PyProof.Rows
section
open PySem.SeqAt
open PySem.AutoSeq1 (wpAny_loadPart')
open PySem.MeetsSeq PySem.MeetsSeq2 PySem.MeetsSeq3
variable {prog:aE}{w:aU}{A:b9}{E:a9->ac->Prop}{s:ac}
end
end HT
namespace L2
open PySem PySem.Spec PyProof.Rows
section
variable {X:Cx}{e st:aQ}{te ts:TE}{pos p2:Pos}
end
end L2
namespace J
open PySem L2
section
variable {c:C}{e:aQ}{g:aw->R D}{pos p2 p3 p4:Pos}
end
end J
end
section
namespace L2
open PySem
def Jk (mask:Nat):Nat->Nat×Nat->Nat×Nat
 | 0,x=>x
 | n + 1,x=>Jk mask n (SetTable.leap mask x.1 x.2)
theorem Gu (mask:Nat):∀ (n m:Nat) (x:Nat×Nat),Jk mask (n + m) x=Jk mask m (Jk mask n x)
 | 0,m,x=>by rw [lQ];rfl
 | n + 1,m,x=>by
  rw [Nat.succ_add]
  exact Gu mask n m _
theorem Gv (mask:Nat):∀ (n:Nat) (x:Nat×Nat),(Jk mask n x).2=x.2 / 32 ^ n
 | 0,x=>by simp [Jk]
 | n + 1,x=>by
  show (Jk mask n _).2=_
  rw [Gv mask n]
  show x.2 / 32 / 32 ^ n=_
  rw [Nat.div_div_eq_div_mul,Ej,Ek]
theorem Gw (mask:Nat):∀ (n:Nat) (x:Nat×Nat),x.1<=mask->(Jk mask n x).1<=mask
 | 0,x,h=>h
 | n + 1,x,h=>Gw mask n _ (by
  show (x.1 * 5 + 1 + x.2 / 32) % (mask + 1)<=mask
  exact vM (Ae _ (El _)))
theorem zN {mask:Nat}{owner:Array (Option Nat)}:∀ (fuel i p:Nat),dq mask owner fuel i p=none->∀ n,n<fuel->(owner.getD (Jk mask n (i,p)).1 (some 0)).isSome=true
 | 0,_,_,_,n,h=>absurd h (lu n)
 | fuel + 1,i,p,e,n,h=>by
  unfold dq at e
  split at e
  ·cases e
  ·rename_i hf
   cases n with
   | zero =>
    have h0:=List.find?_eq_none.mp hf 0 (List.mem_range.mpr (by unfold SetTable.runEnd;split<;>omega))
    simp only [jB] at h0
    show (owner.getD i (some 0)).isSome=true
    cases q:owner.getD i (some 0) with
    | none=>rw [q] at h0;exact absurd rfl h0
    | some _=>rfl
   | succ n=>exact zN fuel _ _ e n (Em h)
theorem zO {mask:Nat}{owner:Array (Option Nat)}:∀ (fuel i p k:Nat),dq mask owner fuel i p=some k->owner.getD k (some 0)=none
 | 0,_,_,_,e=>nomatch e
 | fuel + 1,i,p,k,e=>by
  unfold dq at e
  split at e
  ·rename_i k' hf
   cases e
   have:=List.find?_some hf
   cases q:owner.getD (i + k') (some 0) with
   | none=>rfl
   | some _=>rw [q] at this;cases this
  ·exact zO fuel _ _ k e
def Jl (mask:Nat):Prop:=mask=7\/mask=15\/mask=31
def Tt (mask:Nat):Bool:=(bD (mask + 1)).all fun i=>(bD (mask + 1)).all fun j=>(bD (mask + 1)).any fun n=>decide ((Jk mask n (i,0)).1=j)
theorem Oi {mask:Nat} (h:Jl mask):Tt mask=true:=by
 rcases h with h | h | h<;>subst h<;>decide +kernel
theorem getD_none {owner:Array (Option Nat)}{k:Nat} (h:owner.getD k (some 0)=none):owner.toList[k]?=some none:=by
 by_cases hk:k<owner.size
 ·rw [hV,iI hk] at h
  rw [dm,iI hk]
  simpa using h
 ·rw [hV,Array.getElem?_eq_none (by omega)] at h
  cases h
theorem Il {mask:Nat} (hm:Jl mask) {owner:Array (Option Nat)}{j:Nat} (hj:j<=mask) (hn:owner.toList[j]?=some none) {i p:Nat} (hi:i<=mask) (hp:p<2 ^ 64) :
  ∃ k,dq mask owner (oS mask) i p=some k/\owner.toList[k]?=some none:=by
 cases e:dq mask owner (oS mask) i p with
 | some k=>exact ⟨k,rfl,getD_none (zO _ _ _ _ e)⟩
 | none =>
  exfalso
  have hz:(Jk mask 13 (i,p)).2=0:=by
   rw [Gv]
   exact Nat.div_eq_of_lt (aC hp (by decide))
  have h1:=Gw mask 13 (i,p) hi
  have g:=Oi hm
  unfold Tt at g
  rw [cr] at g
  have g:=g _ (List.mem_range.mpr (ic h1))
  rw [cr] at g
  have g:=g j (List.mem_range.mpr (ic hj))
  rw [iH] at g
  obtain ⟨n,hn1,hn2⟩:=g
  have hn1:=List.mem_range.mp hn1
  have hn2:=of_decide_eq_true hn2
  have hs:(Jk mask (13 + n) (i,p)).1=j:=by
   rw [Gu,<- hn2,<- hz]
  have:=zN _ _ _ e (13 + n) (by unfold oS;omega)
  rw [hs] at this
  have hq:owner.getD j (some 0)=none:=by
   rw [dm] at hn
   rw [hV,hn]
   rfl
  rw [hq] at this
  cases this
theorem Oj (h:Int):lY h<2 ^ 64:=by
 unfold lY
 have:=mF h (show (0:Int)<2 ^ 64 by decide)
 have:=q9 h (show (2 ^ 64:Int)≠0 by decide)
 omega
theorem CL {k:Nat}:∀ {l:List (Option Nat)}{j:Nat},l[j]?=some none->((l.set j (some k)).filterMap id).Perm (k::l.filterMap id)
 | [],_,h=>nomatch h
 | x::r,0,h=>by
  cases h
  exact .refl _
 | x::r,j + 1,h=>by
  have ih:=CL (k:=k) (l:=r) (j:=j) h
  cases x with
  | none=>exact ih
  | some y=>exact (ih.cons y).trans (.swap k y _)
theorem CM:∀ {l:List (Option Nat)},(l.filterMap id).length<l.length->∃ j,j<l.length/\l[j]?=some none
 | [],h=>absurd h (bv 0)
 | none::r,_=>⟨0,El _,rfl⟩
 | some y::r,h=>by
  obtain ⟨j,h1,h2⟩:=CM (l:=r) (Em h)
  exact ⟨j + 1,Nat.succ_lt_succ h1,h2⟩
def Gx (mask:Nat) (acc:Option (Array (Option Nat)×Nat)) (h:Int):Option (Array (Option Nat)×Nat):=acc.bind fun x=>(dq mask x.1 (oS mask) (lY h % (mask + 1)) (lY h)).bind fun j=>some (x.1.setIfInBounds j (some x.2),x.2 + 1)
theorem CN (mask:Nat) (hs:Array Int):sR mask hs=(hs.toList.foldl (Gx mask) (some (wE (mask + 1) none,0))).map (·.1):=by
 rw [Array.foldl_toList]
 rfl
theorem Gy {mask:Nat} (hm:Jl mask):∀ (l:List Int) (owner:Array (Option Nat)) (k:Nat),owner.size=mask + 1->(owner.toList.filterMap id).Perm (bD k)->k + l.length<=mask ->
  ∃ o',l.foldl (Gx mask) (some (owner,k))=some (o',k + l.length)/\o'.size=mask + 1/\(o'.toList.filterMap id).Perm (bD (k + l.length))
 | [],owner,k,h1,h2,_=>⟨owner,rfl,h1,h2⟩
 | h::r,owner,k,h1,h2,h3=>by
  simp only [bd] at h3 ⊢
  obtain ⟨j,j1,j2⟩:=CM (l:=owner.toList) (by rw [h2.length_eq,eI,av,h1];omega)
  rw [av,h1] at j1
  obtain ⟨m,m1,m2⟩:=Il hm (vM j1) j2 (i:=lY h % (mask + 1)) (vM (Ae _ (El _))) (Oj h)
  have e:Gx mask (some (owner,k)) h=some (owner.setIfInBounds m (some k),k + 1):=by
   unfold Gx
   simp only [vg,m1]
  rw [cf,e]
  obtain ⟨o',a1,a2,a3⟩:=Gy hm r (owner.setIfInBounds m (some k)) (k + 1) (by rw [Array.size_setIfInBounds];exact h1) (by
   rw [Array.toList_setIfInBounds]
   refine (CL m2).trans ?_
   rw [List.range_succ]
   exact ((h2.cons k).trans (List.perm_append_singleton k _).symm)) (by omega)
  rw [show k + 1 + r.length=k + (r.length + 1) by omega] at a1 a3
  exact ⟨o',a1,a2,a3⟩
theorem Gz {n:Nat}{o:Array (Option Nat)} (h:o.size=n):(bD n).filterMap (fun j=>o.getD j none)=o.toList.filterMap id:=by
 have e:(bD n).map (fun j=>o.getD j none)=o.toList:=by
  refine wj (by simp [h]) fun i h1 h2=>?_
  simp only [ao,eI] at h1
  rw [ke,Jf,hV,iI (by omega)]
  simp
 rw [<- e,lT]
 rfl
theorem GA {mask finger moves:Nat}{led plain:Bool}{hs:Array Int} (hm:Jl mask) (hl:hs.size<=mask):∃ place order,yi mask finger moves led plain hs=some ({ mask,place,dummies:=#[],finger,led,moves,plain },order)/\place.size=hs.size/\order.toList.Perm (bD hs.size):=by
 obtain ⟨o,h1,h2,h3⟩:=Gy hm hs.toList (wE (mask + 1) none) 0 (by simp) (by
  have:(wE (mask + 1) (none:Option Nat)).toList.filterMap id=[]:=by
   rw [Array.toList_replicate,List.filterMap_eq_nil_iff]
   intro x hx
   rw [(List.mem_replicate.mp hx).2]
   rfl
  rw [this]
  exact .refl _) (by rw [av];omega)
 have hc:sR mask hs=some o:=by
  rw [CN,h1]
  rfl
 rw [lQ,av] at h3
 refine ⟨_,_,by unfold yi;rw [hc];rfl,?_,?_⟩
 ·have e:=congrArg qV (Gz h2)
  rw [h3.length_eq,eI] at e
  rw [aR,ao,<- e]
  rw [vN,vN]
  congr 1
  funext j
  cases o.getD j none<;>rfl
 ·rw [List.map_filterMap]
  refine .trans (.of_eq ?_) h3
  rw [<- Gz h2]
  show List.filterMap _ _=List.filterMap _ _
  congr 1
  funext j
  cases o.getD j none<;>rfl
end L2
namespace L2
open PySem
section
variable {P:aE}{w:aU}{A:b9}{E:a9->ac->Prop}{s:ac}
theorem LA:∀ n:_root_.Fin 31,n.val<cj n.val/\(cj n.val=8\/cj n.val=16\/cj n.val=32):=by decide +kernel
theorem LB {n:Nat} (h:n<=30):n<=cj n - 1/\Jl (cj n - 1)/\cj n<=32:=by
 obtain ⟨h1,h2⟩:=LA ⟨n,by omega⟩
 simp only at h1 h2
 unfold Jl
 omega
theorem xt {es:Array (Int×a9)}{order:Array Nat} (h:order.toList.Perm (bD es.size)):(order.filterMap (es[·]?)).toList.Perm es.toList:=by
 rw [Array.toList_filterMap]
 refine (h.filterMap _).trans (.of_eq ?_)
 have e:(bD es.size).map (fun i=>es[i]?)=es.toList.map some:=by
  refine wj (by simp) fun i h1 h2=>?_
  simp only [ao,eI] at h1
  rw [ke,Jf,ke,Array.getElem_toList]
  exact iI h1
 have e2:(bD es.size).filterMap (fun i=>es[i]?)=((bD es.size).map (fun i=>es[i]?)).filterMap id:=by rw [lT];rfl
 rw [e2,e,lT]
 simp
theorem cH.of {h:bp}{a:ah}{es es':Array (Int×a9)}{ep:Nat}{t t':e6} (I:cH w h a es ep t) (p:es'.toList.Perm es.toList) (f:t'.fits es'.size=true) (l:t'.led=t.led) (pl:t'.plain=t.plain):cH w (h.update a (p7 es' t')) a es' (ep + 1) t':=by
 have sz:es'.size=es.size:=by rw [<- av,p.length_eq,av]
 refine ⟨qg I,fun e he=>I.txt e (p.mem_iff.mp he),(p.map jt).nodup_iff.mpr I.nd,by rw [sz];exact I.few,f,l.trans I.led,?_⟩
 rw [sz,pl]
 exact I.pl
theorem xu {t:e6}{n:Nat} (h:t.fits n=true):t.place.size=n/\t.fill<=t.mask:=by
 unfold lV at h
 rw [aO] at h
 exact ⟨eq_of_beq h.1,of_decide_eq_true h.2⟩
theorem GB {mask finger moves:Nat}{led plain:Bool}{place:Array Nat}{n:Nat} (h:place.size=n) (hm:n<=mask):lV { mask,place,dummies:=#[],finger,led,moves,plain } n=true:=by
 unfold lV Jx
 subst h
 simp only [beq_self_eq_true,t4,decide_eq_true_eq]
 exact hm
theorem EZ {a:ah}{es:Array (Int×a9)}{ep:Nat}{t:e6}{wanted:Nat}{Q:Unit->ac->Prop} (I:cH w s.heap a es ep t) (hw:wanted<=30) (hz:es.size<=wanted)
  (h:∀ h' es' ep' t',bA a s.heap h'->cH w h' a es' ep' t'->es'.toList.Perm es.toList->Jl t'.mask->wanted<=t'.mask->Q () { s with heap:=h' }):ar (aG P w) A (setRelay a wanted) Q E s:=by
 obtain ⟨w1,w2,w3⟩:=LB hw
 obtain ⟨place,order,e,hp,ho⟩:=GA (finger:=t.finger) (moves:=t.movedTo (cj wanted - 1)) (led:=t.led) (plain:=t.plain) (hs:=es.map (·.1)) w2 (by rw [qN];omega)
 rw [qN] at hp ho
 have pm:=xt ho
 have sz:(order.filterMap (es[·]?)).size=es.size:=by rw [<- av,pm.length_eq,av]
 unfold setRelay
 refine a7 (bt I.at_ rfl I.fits ?_)
 show ar _ _ (if cj wanted > sizeLine then _ else _) _ _ s
 have h32:(32:Nat)<=sizeLine:=by decide
 rw [if_neg (by omega)]
 refine a7 ?_
 unfold Hr
 rw [e]
 show ar _ _ (if ((order.filterMap (es[·]?)).size != es.size)=true then _ else pure (order.filterMap (es[·]?),_)) _ _ s
 rw [if_neg (by rw [sz];simp)]
 refine aa ?_
 have fit:lV { mask:=cj wanted - 1,place,dummies:=#[],finger:=t.finger,led:=t.led,moves:=t.movedTo (cj wanted - 1),plain:=t.plain } (order.filterMap (es[·]?)).size=true:=GB (by rw [sz];exact hp) (by rw [sz];omega)
 refine iG I.at_ rfl ?_ (by rw [sz];exact eY I.few)
 exact h _ _ _ _ (bE s.heap a _) (I.of pm fit rfl rfl) pm w2 w1
theorem AS {a:ah}{es:Array (Int×a9)}{ep:Nat}{t:e6}{more:Nat}{Q:Unit->ac->Prop} (I:cH w s.heap a es ep t) (hz:es.size + more<=15) (hm:es.size≠0\/Jl t.mask)
  (h:∀ h' es' ep' t',bA a s.heap h'->cH w h' a es' ep' t'->es'.toList.Perm es.toList->(es.size≠0\/Jl t'.mask)->more<=t'.mask->Q () { s with heap:=h' }):ar (aG P w) A (setRoomFor a more) Q E s:=by
 obtain ⟨f1,f2⟩:=xu I.fits
 unfold setRoomFor
 refine a7 (bt I.at_ rfl I.fits ?_)
 dsimp only
 unfold SetTable.roomFor
 by_cases hc:(t.fill + more) * 5 ≥ t.mask * 3
 ·rw [if_pos hc]
  refine EZ I (by rw [f1];omega) (by rw [f1];omega) fun h' es' ep' t' a1 a2 a3 a4 a5=>?_
  exact h h' es' ep' t' a1 a2 a3 (.inr a4) (by rw [f1] at a5;omega)
 ·rw [if_neg hc]
  exact aa (h s.heap es ep t (.refl ..) I (.refl _) hm (by omega))
end
end L2
namespace L2
open PySem
theorem ww {α σ:Type}{M:ym}{A:b9}{E:a9->ac->Prop}{Q:σ->ac->Prop}{f:α->σ->Sem (ForInStep σ)}{b:σ} (I:List α->ac->Prop)
  (step:∀ x r s,I (x::r) s->ar M A (f x b) (fun st s'=>st=.yield b/\I r s') E s) (fin:∀ s,I [] s->Q b s):∀ (l:List α) (s:ac),I l s->ar M A (forIn l b f) Q E s
 | [],s,h=>by rw [lU];exact aa (fin s h)
 | x::r,s,h=>by
  rw [j3]
  refine a7 (bi (step x r s h) (fun st s' q=>?_) fun _ _ e=>e)
  obtain ⟨rfl,q⟩:=q
  exact ww I step fin r s' q
section
variable {P:aE}{w:aU}{A:b9}{E:a9->ac->Prop}{s:ac}
theorem CO {l:List ah}{Q:Bool->ac->Prop} (h:∀ a∈l,∃ es ep t,cH w s.heap a es ep t) (q:Q true s):ar (aG P w) A (setsQuiet l) Q E s:=by
 unfold setsQuiet
 refine a7 (ww (fun r s'=>s'=s/\∀ a∈r,∃ es ep t,cH w s.heap a es ep t) (fun a r s' hI=>?_) (fun s' hI=>?_) l s ⟨rfl,h⟩)
 ·obtain ⟨rfl,hI⟩:=hI
  obtain ⟨es,ep,t,I⟩:=hI a am
  unfold setEntries
  refine a7 (a7 (bt I.at_ rfl I.fits (aa ?_)))
  dsimp only
  rw [<- Hw]
  refine a7 (ww (fun r2 s2=>s2=s'/\∀ e∈r2,rM w e) (fun e r2 s2 h2=>?_) (fun s2 h2=>?_) es.toList s' ⟨rfl,I.txt⟩)
  ·obtain ⟨rfl,h2⟩:=h2
   obtain ⟨x,tk,rfl⟩:=h2 e am
   exact aa ⟨rfl,rfl,fun e he=>h2 e (aj _ he)⟩
  ·obtain ⟨rfl,_⟩:=h2
   exact aa ⟨rfl,rfl,fun b hb=>hI b (aj _ hb)⟩
 ·obtain ⟨rfl,_⟩:=hI
  exact aa q
theorem Im {o:ah}{es:Array (Int×a9)}{ep:Nat}{t:e6}{Q:Array (Int×a9)->ac->Prop} (I:cH w s.heap o es ep t) (hb:w.params.followText "set-order"=true\/t.plain=true\/es.size<=1)
  (q:∀ es',es'.toList.Perm es.toList->Q es' s):ar (aG P w) A (setWalk o) Q E s:=by
 unfold setWalk
 refine a7 (bt I.at_ rfl I.fits (a7 (eR ?_)))
 cases hw:w.params.followText "set-order" with
 | true =>
  simp only [if_true]
  exact a7 (gP (aa (q _ (uE _ _))))
 | false =>
  simp only [bS,if_false]
  have hd:(!t.plain && decide (es.size > 1))=false:=by
   rcases hb with h | h | h
   ·rw [hw] at h;cases h
   ·rw [h];rfl
   ·rw [decide_eq_false (by omega),qY]
  have hl:t.led=true:=by rw [I.led,hw];rfl
  show ar _ _ (if (!t.plain && decide (es.size > 1))=true then _ else _) _ _ s
  rw [hd,if_neg bq]
  refine a7 ?_
  show ar _ _ (if (!t.led && decide (es.size > 1))=true then _ else pure ()) _ _ s
  rw [hl,if_neg (by simp)]
  exact aa (aa (q _ (.refl _)))
theorem vW {o a:ah}{eo es:Array (Int×a9)}{epo ep:Nat}{to t:e6}{Q:Array (Int×a9)->ac->Prop} (I:cH w s.heap o eo epo to) (J:cH w s.heap a es ep t)
  (q:∀ h' es' ep' t',bA a s.heap h'->cH w h' a es ep' t'->es'.toList.Perm eo.toList->Q es' { s with heap:=h' }):ar (aG P w) A (setWalkUnseen o [a] (some a)) Q E s:=by
 unfold setWalkUnseen
 refine a7 (bt I.at_ rfl I.fits (a7 (eR ?_)))
 cases hc:(w.params.followText "set-order" || to.led && to.plain || decide (eo.size<=1)) with
 | true =>
  rw [if_pos rfl]
  refine Im I ?_ fun es' p=>q s.heap es' ep t (.refl ..) J p
  rw [j5,j5,aO,decide_eq_true_eq] at hc
  rcases hc with (h | h) | h
  ·exact .inl h
  ·exact .inr (.inl h.2)
  ·exact .inr (.inr h)
 | false =>
  rw [if_neg bq]
  rw [FQ,FQ,decide_eq_false_iff_not] at hc
  obtain ⟨⟨c1,_⟩,c3⟩:=hc
  refine a7 (CO (fun b hb=>?_) ?_)
  ·rcases List.mem_cons.mp hb with h | h
   ·rw [h];exact ⟨_,_,_,I⟩
   ·rw [List.mem_singleton.mp h];exact ⟨_,_,_,J⟩
  rw [if_neg (by simp)]
  refine a7 (i3 ?_)
  dsimp only
  refine a7 (bt J.at_ rfl J.fits ?_)
  dsimp only
  have hpl:to.plain=false:=I.pl.resolve_left (by omega)
  have hled:(t.led && to.led)=t.led:=by rw [I.led,J.led,nr]
  split
  ·refine a7 (iG J.at_ rfl ?_ (eY J.few))
   refine aa (q _ _ _ _ (bE s.heap a _) (⟨qg J,J.txt,J.nd,J.few,?_,?_,?_⟩:cH w _ a es (ep + 1) _) (.refl _))
   ·exact J.fits
   ·exact hled.trans J.led
   ·exact .inr (by show (t.plain && to.plain)=false;rw [hpl,qY])
  ·exact aa (q s.heap eo ep t (.refl ..) J (.refl _))
end
end L2
namespace L2
open PySem
section
variable {P:aE}{w:aU}{A:b9}{E:a9->ac->Prop}{s:ac}
theorem cH.but {h h':bp}{a o:ah}{eo:Array (Int×a9)}{epo:Nat}{to:e6} (I:cH w h o eo epo to) (ne:a≠o) (sb:bA a h h'):cH w h' o eo epo to:=I.keep fun _ e=>(sb.2 o (cW ne)).trans e
theorem xv {a o:ah}{es eo:Array (Int×a9)}{ep epo:Nat}{t to:e6}{each:Sem Unit}{Q:Unit->ac->Prop} (ne:a≠o) (J:cH w s.heap a es ep t) (I:cH w s.heap o eo epo to)
  (hz:es.size + eo.size<=15) (hm:es.size≠0\/Jl t.mask) (he:∀ (s':ac) (Q':Unit->ac->Prop),cH w s'.heap o eo epo to->Q' () s'->ar (aG P w) A each Q' E s')
  (q:∀ h' tk' es' ep' t',bA a s.heap h'->cH w h' a es' ep' t'->(∀ x,x∈es'.toList.map jt↔x∈es.toList.map jt\/x∈eo.toList.map jt)->(es'.size≠0\/Jl t'.mask)->Q () { s with heap:=h',toks:=tk' }) :
  ar (aG P w) A (setMerge a o each) Q E s:=by
 unfold setMerge
 rw [if_neg (by simpa using ne)]
 refine a7 (bt I.at_ rfl I.fits ?_)
 dsimp only
 by_cases h0:eo.size=0
 ·rw [if_pos (by simpa [Array.isEmpty] using h0)]
  have e0:eo=#[]:=jY h0
  exact aa (q s.heap s.toks es ep t (.refl ..) J (fun x=>by rw [e0];simp) hm)
 rw [if_neg (by simpa [Array.isEmpty] using h0)]
 refine a7 (AS J hz hm fun h1 es1 ep1 t1 sb1 J1 p1 m1 r1=>?_)
 have I1:=I.but ne sb1
 have sz1:es1.size=es.size:=by rw [<- av,p1.length_eq,av]
 refine a7 (bt (s:={ s with heap:=h1 }) J1.at_ rfl J1.fits ?_)
 dsimp only
 obtain ⟨f1,f2⟩:=xu J1.fits
 have hpl:to.plain=false:=I.pl.resolve_left h0
 have hled:(t1.led && to.led)=t1.led:=by rw [I.led,J1.led,nr]
 have kp:∀ x,x∈es1.toList.map jt↔x∈es.toList.map jt:=fun x=>(p1.map jt).mem_iff
 by_cases hf:t1.fill=0
 ·have e1:es.size=0:=by
   unfold Jx at hf
   omega
  have mk:Jl t1.mask:=m1.resolve_left (by omega)
  have ee:es=#[]:=jY e1
  unfold Jy
  rw [if_neg (by rw [hf];decide)]
  split
  ·refine iG (s:={ s with heap:=h1 }) J1.at_ rfl ?_ (eY I.few)
   refine q _ s.toks _ _ _ (sb1.trans (bE h1 a _)) (⟨qg J1,I.txt,I.nd,I.few,?_,?_,?_⟩:cH w _ a eo (ep1 + 1) _) (fun x=>by rw [ee];simp) (.inl h0)
   ·exact I.fits
   ·exact hled.trans J1.led
   ·exact .inr (by show (t1.plain && to.plain)=false;rw [hpl,qY])
  ·obtain ⟨place,order,e,hp,ho⟩:=GA (finger:=t1.finger) (moves:=t1.moves) (led:=t1.led && to.led) (plain:=t1.plain && to.plain) (hs:=eo.map (·.1)) mk (by rw [qN];exact r1)
   rw [qN] at hp ho
   have pm:=xt ho
   have sz:(order.filterMap (eo[·]?)).size=eo.size:=by rw [<- av,pm.length_eq,av]
   refine a7 ?_
   rw [e]
   show ar _ _ (if ((order.filterMap (eo[·]?)).size != eo.size)=true then _ else pure (order.filterMap (eo[·]?),_)) _ _ _
   rw [if_neg (by rw [sz];simp)]
   refine aa ?_
   refine iG (s:={ s with heap:=h1 }) J1.at_ rfl ?_ (by rw [sz];exact eY I.few)
   refine q _ s.toks _ _ _ (sb1.trans (bE h1 a _)) (⟨qg J1,fun x hx=>I.txt x (pm.mem_iff.mp hx),(pm.map jt).nodup_iff.mpr I.nd,by rw [sz];exact I.few,GB (by rw [sz];exact hp) (by rw [sz];exact r1),hled.trans J1.led,.inr ?_⟩:cH w _ a (order.filterMap (eo[·]?)) (ep1 + 1) _) (fun x=>?_) (.inl (by rw [sz];exact h0))
   ·show (t1.plain && to.plain)=false;rw [hpl,qY]
   ·rw [(pm.map jt).mem_iff,ee];simp
  ·rename_i hq
   split at hq<;>cases hq
 ·unfold Jy
  rw [if_pos (by simpa using hf)]
  dsimp only
  refine a7 (vW (s:={ s with heap:=h1 }) I1 J1 fun h2 es2 ep2 t2 sb2 J2 p2=>?_)
  rw [<- Hw]
  have hl:es2.toList.length=eo.size:=by rw [p2.length_eq,av]
  refine a7 (ww (fun r s'=>∃ h' tk' e' p' t',s'={ s with heap:=h',toks:=tk' }/\bA a s.heap h'/\cH w h' a e' p' t'/\e'.size + r.length<=15/\(∀ e∈r,rM w e)/\∀ x,(x∈e'.toList.map jt\/x∈r.map jt)↔x∈es.toList.map jt\/x∈eo.toList.map jt) ?_ ?_ es2.toList _ ⟨h2,s.toks,es1,ep2,t2,rfl,sb1.trans sb2,J2,by omega,fun e he=>I.txt e (p2.mem_iff.mp he),fun x=>by rw [kp,(p2.map jt).mem_iff]⟩)
  ·rintro e r s' ⟨h',tk',e',p',t',rfl,sb',J',z',tx',k'⟩
   obtain ⟨x,tk,rfl⟩:=tx' e am
   simp only [bd] at z'
   dsimp only
   refine a7 (db (zz (s:={ s with heap:=h',toks:=tk' }) (⟨e',p',t',J',.refl _⟩:kj w h' a (e'.toList.map jt)) (by rw [ao,av];exact aC (show e'.size + 1<100 by omega) (by decide)) fun h'' tk'' sb'' S''=>?_))
   obtain ⟨e'',p'',t'',J'',pm''⟩:=S''
   have sb3:=sb'.trans sb''
   have I3:=I.but ne sb3
   refine a7 (he _ _ I3 ?_)
   refine a7 (bt (s:={ s with heap:=h'',toks:=tk'' }) I3.at_ rfl I3.fits ?_)
   dsimp only
   rw [if_neg (by simp)]
   refine aa ⟨rfl,h'',tk'',e'',p'',t'',rfl,sb3,J'',?_,fun e he=>tx' e (aj _ he),fun y=>?_⟩
   ·have:=pm''.length_eq
    rw [ao,av] at this
    have l2:(if x∈e'.toList.map jt then e'.toList.map jt else e'.toList.map jt++[x]).length<=e'.size + 1:=by
     split<;>simp
    omega
   ·rw [<- k' y,pm''.mem_iff]
    have ek:jt (hashStr w x,j8 x tk)=x:=rfl
    rw [ap,bx,ek]
    split
    ·rename_i hx
     constructor
     ·rintro (h | h)
      ·exact .inl h
      ·exact .inr (.inr h)
     ·rintro (h | h | h)
      ·exact .inl h
      ·rw [h];exact .inl hx
      ·exact .inr h
    ·rw [yj,dC]
     constructor
     ·rintro ((h | h) | h)
      ·exact .inl h
      ·exact .inr (.inl h)
      ·exact .inr (.inr h)
     ·rintro (h | h | h)
      ·exact .inl (.inl h)
      ·exact .inl (.inr h)
      ·exact .inr h
  ·rintro s' ⟨h',tk',e',p',t',rfl,sb',J',z',tx',k'⟩
   refine aa (q h' tk' e' p' t' sb' J' (fun x=>?_) (.inl ?_))
   ·rw [<- k' x];simp
   ·intro e0
    obtain ⟨e,hh⟩:∃ e,e∈eo.toList:=by
     cases hq:eo.toList with
     | nil=>rw [<- av,hq] at h0;exact absurd rfl h0
     | cons e r=>exact ⟨e,am⟩
    have:=(k' (jt e)).mpr (.inr (aT hh))
    rw [jY e0] at this
    simp at this
end
end L2
namespace L2
open PySem PyProof.Rows
theorem AT:N6 table "set.__or__"=some lM.«frozenset.__or__»:=Ee (id':="frozenset.__or__") (by kernel_rfl) rfl (by decide +kernel) (by kernel_rfl)
section
variable {P:aE}{w:aU}{A:b9}{E:a9->ac->Prop}{s:ac}
theorem cH.ty {a:ah}{es:Array (Int×a9)}{ep:Nat}{t:e6} (I:cH w s.heap a es ep t):s.TypeIs (.ref a) "set":=⟨_,I.at_,rfl⟩
theorem r_ {a:ah}{es:Array (Int×a9)}{ep:Nat}{t:e6}{Q:Bool->ac->Prop} (I:cH w s.heap a es ep t) (q:Q true s):ar (aG P w) A (qO (.ref a)) Q E s:=by
 unfold qO
 refine a7 (gR I.ty Jt ?_)
 exact aa q
theorem LC {h:bp}{a:ah} (e:h.get? a=some (eN w)):cH w h a #[] 0 (.fresh 0 0 (!w.params.followText "set-order")) :=
 ⟨e,(fun _ h=>nomatch h),fm,by decide,rfl,rfl,.inl rfl⟩
theorem Ol {a b:ah}{xs ys:List Str}{Q:a9->ac->Prop} (ha:kj w s.heap a xs) (hb:kj w s.heap b ys) (ne:a≠b) (hz:xs.length + ys.length<=15)
  (q:∀ h' tk',bA s.heap.objs.size (s.heap.push (eN w)) h'->kj w h' s.heap.objs.size (c_ xs ys)->Q (.ref s.heap.objs.size) { s with heap:=h',toks:=tk' }) :
  ar (aG P w) A (fN .BitOr (.ref a) (.ref b)) Q E s:=by
 obtain ⟨ea,pa,ta,Ia,ma⟩:=ha
 obtain ⟨eb,pb,tb,Ib,mb⟩:=hb
 have sa:ea.size=xs.length:=by rw [<- ma.length_eq,ao,av]
 have sb:eb.size=ys.length:=by rw [<- mb.length_eq,ao,av]
 refine wpAny_binaryOp_same Ia.ty Ib.ty F.fills_set_or F.slot_set_or (b_ F.slot_set_or Ia.ty AT ?_ (F.args_set_or_2 _ _))
 have lt1:a<s.heap.objs.size:=aq Ia.at_
 have lt2:b<s.heap.objs.size:=aq Ib.at_
 show ar _ _ (Nh "__or__" ⟨[.ref a,.ref b],[]⟩ >>= _) _ _ s
 refine a7 (a7 (aa (aa ?_)))
 dsimp only
 refine a7 (a7 (r_ Ia (r_ Ib ?_)))
 rw [if_neg (by simp)]
 refine a7 (aa (a7 ?_))
 show ar _ _ (rG a >>= _) _ _ s
 refine a7 ?_
 unfold rG Ni
 refine a7 (a7 (gR Ia.ty Jt (aa ?_)))
 rw [if_pos rfl]
 refine a7 (r6 ?_)
 have g0:(s.heap.push (eN w)).get? s.heap.objs.size=some (eN w):=ay _ rfl
 have J0:=LC g0
 have Ia1:cH w (s.heap.push (eN w)) a ea pa ta:=Ia.keep fun _ e=>ae _ e
 have Ib1:cH w (s.heap.push (eN w)) b eb pb tb:=Ib.keep fun _ e=>ae _ e
 have na:s.heap.objs.size≠a:=cW (aF lt1)
 have nb:s.heap.objs.size≠b:=cW (aF lt2)
 refine a7 (aa (a7 (xv (s:={ s with heap:=s.heap.push (eN w) }) na J0 Ia1 (by show 0 + ea.size<=15;omega) (.inr (.inl rfl)) (fun _ _ _ q=>aa q) fun h1 tk1 e1 p1 t1 sb1 J1 k1 m1=>aa ?_)))
 have Ib2:=Ib1.but nb sb1
 have n1:(e1.toList.map jt).length<=ea.size:=by
  have:=(lZ J1.nd Ia.nd).mpr fun x=>by rw [k1];simp
  rw [this.length_eq,ao,av]
  exact au _
 rw [ao,av] at n1
 show ar _ _ (if (bO b != bO a)=true then _ else _) _ _ _
 rw [if_pos (by simp;exact cW ne)]
 refine a7 (aa (a7 (db ?_)))
 show ar _ _ (j4 _ s.heap.objs.size (bO b)) _ _ _
 unfold j4
 refine a7 (r_ (s:={ s with heap:=h1,toks:=tk1 }) Ib2 ?_)
 rw [if_pos rfl]
 refine a7 (aa ?_)
 unfold Nj setEpoch
 refine a7 (a7 (bt (s:={ s with heap:=h1,toks:=tk1 }) Ib2.at_ rfl Ib2.fits (aa ?_)))
 refine xv (s:={ s with heap:=h1,toks:=tk1 }) nb J1 Ib2 (by omega) m1 (fun s' Q' I' q'=>?_) fun h2 tk2 e2 p2 t2 sb2 J2 k2 m2=>?_
 ·unfold Nk setEpoch
  refine a7 (a7 (bt I'.at_ rfl I'.fits (aa ?_)))
  dsimp only
  rw [if_neg (by simp)]
  exact aa q'
 ·refine aa (aa ⟨_,rfl,(fun z=>nomatch z),q h2 tk2 (sb1.trans sb2) ⟨e2,p2,t2,J2,?_⟩⟩)
  refine (lZ J2.nd (i7 _ _ (ma.nodup_iff.mp Ia.nd))).mpr fun x=>?_
  rw [k2,io,k1,ma.mem_iff,mb.mem_iff]
  simp
end
end L2
namespace L2
open PySem PyProof.Rows
theorem R5 {X:Cx}:oX X (fN .BitOr) (fun x y H Q=>∃ a b xs ys,x=.ref a/\y=.ref b/\a≠b/\H a=some (kF X.w a xs)/\H b=some (kF X.w b ys)/\xs.length + ys.length<=15/\∀ p,H p=none->Q (.ref p) (upd H p (kF X.w p (c_ xs ys)))):=by
 intro pins s σ H x y v u Q I rx ry h
 obtain ⟨a,b,xs,ys,rfl,rfl,ne,ha,hb,hz,q⟩:=h
 cases rx
 cases ry
 have Sa:=(show dk X.prog X.w H s.heap a (kF X.w a xs) from I.hok a _ ha).1
 have Sb:=(show dk X.prog X.w H s.heap b (kF X.w b ys) from I.hok b _ hb).1
 refine Ol Sa Sb ne hz fun h' tk' sb S=>?_
 refine ⟨.ref s.heap.objs.size,_,I.laid (t':=tk') (fun b o e=>?_) (au _) (Az S),rfl,q _ (I.hok.fresh (au _))⟩
 exact (sb.2 b (aF (aq e))).trans (ae _ e)
end L2
namespace J
open PySem L2
section
variable {c:C}{a b:aQ}{ga gb:aw->R (List Str)}{pos:Pos}
def R6 (xs ys:List Str):R (List Str):=if xs.length + ys.length<=15 then .ok (c_ xs ys) else .no
def LD (ga gb:aw->R (List Str)):aw->R (List Str):=fun ρ=>(ga ρ).bind fun xs=>(gb ρ).bind (J.R6 xs)
theorem R7 (ha:Od c a ga) (hb:Od c b gb):Od c (.BinOp a .BitOr b pos) (LD ga gb):=.of fun ρ=>rP (OY R5 (ha ρ) (hb ρ)) fun σ H Q h_0=>by
 obtain ⟨H0,Hs0,la,Hs,f,q⟩:=h_0
 refine Gg (w:=c.X.w) f q fun xs p H1 Hs1 e1 s1 f1 n1=>?_
 unfold LD at q
 rw [e1,bind_ok] at q
 have s2:cD H1 Hs1 (upd H1 p (kF c.X.w p xs)) Hs1:=.mine f1.st.sub n1
 refine Gg (w:=c.X.w) (f1.step s2) (q.on (s1.trans s2) (q':=fun _=>True) fun _ _=>trivial) fun ys p2 H2 Hs2 e2 s3 f2 n2=>?_
 rw [e2,bind_ok] at q
 unfold J.R6 at q
 by_cases hz:xs.length + ys.length<=15
 ·rw [if_pos hz] at q
  have k1:H2 p=some (kF c.X.w p xs):=s3.all p _ bj
  have ne:p≠p2:=fun z=>by rw [z,n2] at k1;cases k1
  have s4:cD H2 Hs2 (upd H2 p2 (kF c.X.w p2 ys)) Hs2:=.mine f2.st.sub n2
  exact ⟨p,p2,xs,ys,rfl,rfl,ne,by rw [bg ne];exact k1,bj,hz,fun l hl=>q l _ _ (s1.trans (s2.trans (s3.trans s4))) hl⟩
 ·rw [if_neg hz] at q;exact q.elim
end
end J
namespace J
open PySem L2
section
variable {c:C}{a b:aQ}{gs:aw->R (List D)}{pos px py pt pt2:Pos}{x y:Str}
def Vg (i j:Nat) (ρ:aw):List D->R Fl
 | [d,e]=>.ok (.nx ((ρ.set i (.shr d)).set j (.shr e)))
 | _=>.no
def LF (i j:Nat) (gs:aw->R (List D)):aw->R Fl:=fun ρ=>(gs ρ).bind (Vg i j ρ)
theorem R8 (i j:Nat) {kt k2:_} (hc:c.X.calm=true) (hN:c.X.N.Nodup) (ha:G1 c [a,b] gs) (hi:c.X.N[i]?=some x:=by rfl) (hj:c.X.N[j]?=some y:=by rfl) (hij:i≠j:=by decide)
  (hx:c.X.env.scope.names.lookup x=some .local:=by rfl) (hy:c.X.env.scope.names.lookup y=some .local:=by rfl) (hw:wc [.Tuple [.Name x px,.Name y py] kt pt] (.Tuple [a,b] k2 pt2) c.X.env=pure (some [x,y]):=by rfl)
  (hs:wa [.Tuple [.Name x px,.Name y py] kt pt] (.Tuple [a,b] k2 pt2) pos.line c.X.env=pure false:=by rfl):JS c (.Assign [.Tuple [.Name x px,.Name y py] kt pt] (.Tuple [a,b] k2 pt2) pos) (LF i j gs):=.of fun ρ=>wX (Qn hc hN hi hj hij hx hy (ha ρ) hw hs) fun D σ H h_0=>by
 obtain ⟨H0,Hs0,la,Hs,f,q⟩:=h_0
 refine ⟨H0,Hs0,la,Hs,f,?_⟩
 unfold LF at q
 cases hr:gs ρ with
 | ok ds =>
  rw [hr,bind_ok] at q
  intro vs H' Hs' s r
  match ds,r,q with
  | [],_,q=>exact q.elim
  | [_],_,q=>exact q.elim
  | [d,e],.cons r1 (.cons r2 .nil),q=>exact ⟨_,_,rfl,q _ _ Hs' (((f.step s).set i r1).set j r2)⟩
  | _::_::_::_,_,q=>exact q.elim
 | ex z n =>
  rw [hr] at q
  exact fun H' Hs' s=>q H' Hs' (f.st.trans s)
 | no=>rw [hr] at q;exact q.elim
end
end J
namespace J
open PySem L2
end J
end
section
namespace L2
open PySem PySem.Spec PyProof.Rows
section
variable {prog:aE}{w:aU}{A:b9}{E:a9->ac->Prop}{s:ac}{R:oZ->ac->Prop}
end
end L2
namespace L2
open PySem PySem.Spec PyProof.Rows
section
variable {prog:aE}{w:aU}{A:b9}{E:a9->ac->Prop}{s:ac}{R:oZ->ac->Prop}
end
end L2
namespace L2
open PySem PySem.Spec PyProof.Rows
end L2
namespace J
open PySem L2
section
variable {c:C}{e:aQ}{g:aw->R D}{p cpos:Pos}
end
end J
namespace L2
open PySem PySem.Spec PyProof.Rows
end L2
namespace J
open PySem L2
section
variable {c:C}{a:aQ}{gs:aw->R (List D)}{p pos:Pos}
end
end J
namespace L2
open PySem PySem.Spec PyProof.Rows
end L2
namespace J
open PySem L2
section
variable {c:C}{tg a:aQ}{gs:aw->R (List D)}{p pos:Pos}
end
end J
namespace J
open PySem L2
end J
end
namespace J
open PySem L2 PyProof.Rows
section
structure En where
 P:aE
 w:aU
 K:a8
 mg:Str->Option a9
 base:bp
 cls:Str->ah
abbrev FN (e:En):=Fn e.P e.w e.K e.mg e.base e.cls
abbrev ER (e:En):=Er e.mg e.base e.cls
abbrev Cn (mg:Str->Option a9) (x:Str) (n:Int):Prop:=∃ t,mg x=some (.int n t)
structure gK (K:a8) (mg:Str->Option a9) (x:Str) (st:cA):Prop where
 ex:∃ f fd,HN K x x st f fd/\mg x=some (.ref f)
section
variable {K:a8}{h:bp}{mg:Str->Option a9}{x:Str}
theorem d_in {st:cA}{A:ah}{od an:Option ah}{sl:Array (Option a9)}{oc kV dc pm cv ct:a9} (X:K.In h) (G:h.Ns bK mg) (a:fF K bK x=some (some (.ref A)))
  (l:K.lookup A=some ⟨oc,od,.func (fE x x (jO st) (g_ st) (aA st) .none kV dc pm an cv ct),sl⟩) (c:lm K cv x=true) (k:j9 K (.ref A)=true):gK K mg x st :=
 ⟨_,_,K6 l c k,mE X G a⟩
theorem cn_in {n:Int}{tk:Tok} (X:K.In h) (G:h.Ns bK mg) (t:fF K bK x=some (some (.int n tk))):Cn mg x n:=⟨_,mE X G t⟩
inductive Zs (K:a8):List Str->Prop
 | nil:Zs K []
 | cons {x:Str}{r:List Str}:fF K bK x=some none->Zs K r->Zs K (x::r)
theorem Zs.get {r:List Str} (z:Zs K r):∀ x∈r,fF K bK x=some none:=by
 induction z with
 | nil=>exact fun _ h=>nomatch h
 | cons a _ ih =>
  intro y hy
  rcases List.mem_cons.mp hy with e | e
  ·rw [e];exact a
  ·exact ih y e
abbrev zn:List Str:=["len","isinstance","all","any","zip","tuple","list","sorted","set","range","enumerate","dict","sum","max","min","reversed","str","int","bool","ValueError"]
theorem Tu (X:K.In h) (G:h.Ns bK mg) (z:Zs K zn):Bi mg:=by
 have q:∀ x∈zn,mg x=none:=fun x hx=>PySem.W.mg_none_of X G (z.get x hx)
 exact ⟨q _ (by decide),q _ (by decide),q _ (by decide),q _ (by decide),q _ (by decide),q _ (by decide),q _ (by decide),q _ (by decide),q _ (by decide),q _ (by decide),q _ (by decide),q _ (by decide),q _ (by decide),q _ (by decide),q _ (by decide),q _ (by decide),q _ (by decide),q _ (by decide),q _ (by decide)⟩
end
section
variable {P:aE}{w:aU}{K:a8}{mg:Str->Option a9}{base:bp}{N:List Str}{qual:Str}{scope:dw}{f:ah}{cd:a9}{A:b9}{outer:List Env}{s:ac}{H:Hp}{E:XK}
theorem px:rL (pw P w) (js (pw P w) P w K mg base N qual scope f cd A outer s H E) E:=Cf fun _ _ h=>h
end
section
variable {c:C}{x y:Str}{e:aQ}{es:List aQ}{gs:aw->R (List D)}{p q pos:Pos}
theorem jc {k j n:Nat}{F:List D->R D} (G:Fn c.X.prog c.X.w c.X.K c.X.mg c.X.base c.cls x k n F) (hr:lv j c.X.A) (hx:rL (pw c.X.prog c.X.w) c.X c.E) (ha:G1 c (e::es) gs)
  (hk:k<=j:=by decide) (hg:Gl c.X x:=by exact rfl) (hdb:(x == ("__debug__" : Str))=false:=by decide) (he:aK (e::es) c.X.env=(false,dU e c.X.env)::aK es c.X.env:=by rfl) (hpl:(iR pos (aK es c.X.env)).any (·.1)=false:=by rfl) :
  JE c (.Call (.Name x p) (e::es) [] pos) (fA n F gs):=O8 G (hr.mono hk) hg hx ha hdb he hpl
end
abbrev Bq (x:Str) (st:cA) (us:List a9) (r:List (Str×a9)):Prop:=∀ (kV doc pm:a9) (an:Option ah) (cdv ct:a9),MT (fE x x (jO st) (g_ st) (aA st) .none kV doc pm an cdv ct) ⟨us,[]⟩=pure r
section
variable {K:a8}{x:Str}{st:cA}{f:ah}{fd:eK}
theorem b1 {a:Str} (F:HN K x x st f fd) (h:∀ u,Bq x st [u] [(a,u)]:=by exact fun _ _ _ _ _ _ _=>rfl):mV K fd [a] []:=F.binds fun _ _ _ _ _ _ us hl=>by obtain ⟨_,rfl⟩:=W7 hl;exact h ..
theorem b2 {a b:Str} (F:HN K x x st f fd) (h:∀ u v,Bq x st [u,v] [(a,u),(b,v)]:=by exact fun _ _ _ _ _ _ _ _=>rfl):mV K fd [a,b] []:=F.binds fun _ _ _ _ _ _ us hl=>by obtain ⟨_,_,rfl⟩:=W8 hl;exact h ..
theorem b3 {a b c:Str} (F:HN K x x st f fd) (h:∀ u v w,Bq x st [u,v,w] [(a,u),(b,v),(c,w)]:=by exact fun _ _ _ _ _ _ _ _ _=>rfl):mV K fd [a,b,c] []:=F.binds fun _ _ _ _ _ _ us hl=>by obtain ⟨_,_,_,rfl⟩:=W9 hl;exact h ..
theorem b4 {a b c d:Str} (F:HN K x x st f fd) (h:∀ u v w z,Bq x st [u,v,w,z] [(a,u),(b,v),(c,w),(d,z)]:=by exact fun _ _ _ _ _ _ _ _ _ _=>rfl):mV K fd [a,b,c,d] []:=F.binds fun _ _ _ _ _ _ us hl=>by obtain ⟨_,_,_,_,rfl⟩:=Wa hl;exact h ..
theorem b5 {a b c d e:Str} (F:HN K x x st f fd) (h:∀ u v w z y,Bq x st [u,v,w,z,y] [(a,u),(b,v),(c,w),(d,z),(e,y)]:=by exact fun _ _ _ _ _ _ _ _ _ _ _=>rfl):mV K fd [a,b,c,d,e] []:=F.binds fun _ _ _ _ _ _ us hl=>by obtain ⟨_,_,_,_,_,rfl⟩:=Wb hl;exact h ..
end
theorem oG {e:En}{x:Str}{st:cA}{N ps:List Str}{k:Nat}{g:aw->R Fl} (D:gK e.K e.mg x st) (S:bN N ps (aA st)) (b:∀ {f:ah}{fd:eK},HN e.K x x st f fd->mV e.K fd ps [])
  (h:∀ (f:ah) (cdv:a9) (A:b9) (outer:List Env) (s:ac) (H:Hp) (E:XK),lv k (A.deeper (ro x (aA st) s.heap.objs.size f cdv))->Ga ⟨js (pw e.P e.w) e.P e.w e.K e.mg e.base N x (aA st) f cdv A outer s H E,e.cls,E⟩ (g_ st) g) :
  FN e x (k + 1) ps.length (fh N.length g):=by
 obtain ⟨f,fd,F,hm⟩:=D.ex
 exact T5 F S hm (b F) (h f)
def VY (N P:List Str) (sc:dw):Bool:=decide (sc.kind=.function) && !sc.isCoroutine && !sc.isGenerator && decide N.Nodup && decide (N.take P.length=P) && P.all (fun x=>decide (sc.names.lookup x=some .local) || decide (sc.names.lookup x=some .cell)) && sc.names.all fun y=>decide (y.2≠.free)
theorem dL {N P:List Str}{sc:dw} (h:VY N P sc=true):bN N P sc:=by
 unfold VY at h
 simp only [aO,decide_eq_true_eq,Jw,cr,j5] at h
 obtain ⟨⟨⟨⟨⟨⟨a,b⟩,c⟩,d⟩,e⟩,f⟩,g⟩:=h
 exact ⟨a,b,c,d,e,f,g⟩
structure Cw (K:a8) (x:Str) (C:ah):Prop where
 ns:fF K bK x=some (some (.ref C))
 cl:∃ cd,qX K C=some cd
 ty:Jz K (.ref C)=some (.type "type")
theorem cw_in {K:a8}{x:Str}{C:ah}{cd:ClassData} (a:fF K bK x=some (some (.ref C))) (i:qX K C=some cd) (y:Jz K (.ref C)=some (.type "type")):Cw K x C:=⟨a,⟨_,i⟩,y⟩
inductive Sb (K:a8) (C:ah):List (ah×Bool)->Prop
 | nil:Sb K C []
 | cons {D:ah}{b:Bool}{l:List (ah×Bool)}:MK K (.ref C) (.ref D)=some b->(b=false->C≠D)->Sb K C l->Sb K C ((D,b)::l)
structure Wy (K:a8) (C CP:ah) (l:List (ah×Bool)):Prop where
 x1:ll K (.ref C) "__getattribute__"=some (some (.builtin "BaseException.__getattribute__"))
 x2:ll K (.ref C) "__getattr__"=some none
 x3:ll K (.ref C) "__class__"=some (some (.builtin "object.__class__"))
 x4:FK K (.builtin "object.__class__") "__get__"=some (some (.builtin "getset_descriptor.__get__"))
 x5:J5 K (.builtin "object.__class__")=some true
 x6:dh K C (.type "object")=some true
 x7:dh K C (.ref CP)=some true
 x8:MK K (.ref C) (.type "ValueError")=some true
 x9:(bO CP == bO C)=false
 sb:Sb K C l
end
end J
section
namespace L2
open PySem PySem.Spec PyProof.Rows
section
variable {prog:aE}{w:aU}{A:b9}{E:a9->ac->Prop}{s:ac}{it d:ah}{i n ep:Nat}{o:Obj}{es:Array vd}
theorem Om {Q:Option a9->ac->Prop}{e:vd} (hit:s.heap.IsKeyIter it d i es.size ep) (hd:s.heap.get? d=some o) (ho:o.data=.dict es ep) (he:es[i]?=some e)
  (h:∀ h':bp,h'.IsKeyIter it d (i + 1) es.size ep->bA it s.heap h'->Q (some e.key) { s with heap:=h' }) :
  ar (aG prog w) A (jy (.ref it)) Q E s:=by
 obtain ⟨⟨c0,d0,dt,sl⟩,q1,q2,q3⟩:=id hit
 simp only at q2 q3
 subst q2 q3
 unfold jy
 refine a7 (lN ?_)
 refine cc (name:=fZ "__next__") hit.typeIs f9 ?_
 refine b_ f9 hit.typeIs qZ ?_ (qP _)
 refine a7 (eL (a:=.ref it) rfl ?_)
 refine a7 (a7 (a7 (hX hit.typeIs (aa ?_))))
 refine a7 (Eg q1 rfl ?_)
 show ar _ _ (if (bO d == dS)=true then _ else _) _ _ s
 rw [if_neg (by simp)]
 refine a7 (eL (a:=d) rfl ?_)
 refine a7 (yB hd ho ?_)
 show ar _ _ (if ((es.size:Int) != (es.size:Int))=true then _ else _) _ _ s
 rw [if_neg (by simp)]
 refine a7 (eL (a:=d) rfl ?_)
 refine a7 (BR hd ho ?_)
 show ar _ _ (if ((ep:Int) != (ep:Int))=true then _ else _) _ _ s
 rw [if_neg (by simp)]
 refine aa ?_
 have e0:(if (i:Int)<0 then none else es[(i:Int).toNat]?)=some e:=by
  rw [if_neg (by omega)]
  simpa using he
 simp only [e0]
 refine a7 (a7 (hX hit.typeIs (aa ?_)))
 refine a7 (ML hit.typeIs ?_)
 refine a7 (fO q1 rfl (by simp [lc]) ?_)
 have st:∀ k x,k=1->x=cb ((i:Int) + 1)->(s.heap.update it (dX (·.setIfInBounds k x))).IsKeyIter it d (i + 1) es.size ep:=fun k x hk hx=>by
  subst hk hx
  have q:=fu (dX (·.setIfInBounds 1 (cb ((i:Int) + 1)))) q1 rfl
  refine ⟨_,q,rfl,?_⟩
  show Data.fields ((#[.ref d,.int i 0,.int es.size 0,.int ep 0] : Array a9).setIfInBounds 1 (cb ((i:Int) + 1)))=_
  simp [cb]
 have st1:=st _ _ rfl rfl
 refine a7 (db (a7 (ML st1.typeIs ?_)))
 refine aa ?_
 exact aa ⟨_,rfl,aa (h _ st1 (bE ..))⟩
theorem R9 {Q:Option a9->ac->Prop} (hh:A.handled=none) (hit:s.heap.IsKeyIter it d i es.size ep) (hd:s.heap.get? d=some o) (ho:o.data=.dict es ep) (he:es.size<=i)
  (h:∀ h':bp,FO it s.heap h'->Q none { s with heap:=h' }) :
  ar (aG prog w) A (jy (.ref it)) Q E s:=by
 obtain ⟨⟨c0,d0,dt,sl⟩,q1,q2,q3⟩:=id hit
 simp only at q2 q3
 subst q2 q3
 unfold jy
 refine a7 (lN ?_)
 refine cc (name:=fZ "__next__") hit.typeIs f9 ?_
 refine b_ f9 hit.typeIs qZ ?_ (qP _)
 refine a7 (eL (a:=.ref it) rfl ?_)
 refine a7 (a7 (a7 (hX hit.typeIs (aa ?_))))
 refine a7 (Eg q1 rfl ?_)
 show ar _ _ (if (bO d == dS)=true then _ else _) _ _ s
 rw [if_neg (by simp)]
 refine a7 (eL (a:=d) rfl ?_)
 refine a7 (yB hd ho ?_)
 show ar _ _ (if ((es.size:Int) != (es.size:Int))=true then _ else _) _ _ s
 rw [if_neg (by simp)]
 refine a7 (eL (a:=d) rfl ?_)
 refine a7 (BR hd ho ?_)
 show ar _ _ (if ((ep:Int) != (ep:Int))=true then _ else _) _ _ s
 rw [if_neg (by simp)]
 refine aa ?_
 have e0:(if (i:Int)<0 then none else es[(i:Int).toNat]?)=none:=by
  rw [if_neg (by omega)]
  simpa using he
 simp only [e0]
 refine a7 (a7 (hX hit.typeIs (aa ?_)))
 refine a7 (fO q1 rfl (by simp [lc]) ?_)
 show ar _ _ (rA (.type "StopIteration") [] >>= _) _ _ _
 refine a7 ?_
 simp only [rA,N8]
 refine a7 (bL ?_ (by size_fits))
 refine a7 (m:=ki _ _) (eL (a:=dS) ?_ ?_)
 ·first
   | rfl
   | (simp only [ki];rfl)
 refine bL ?_ (by size_fits)
 simp only [qM]
 refine a7 (Ht ?_)
 rw [show A.in1.handled=none from hh]
 refine a7 (aa (N9 ?_))
 refine a7 (gR (T:="StopIteration") (b:=true) ⟨_,ay _ rfl,rfl⟩ uv ?_)
 exact aa (h _ (((bE ..).extBut.push _).push _))
theorem Ra {Q:a9->ac->Prop} (hs:(d == eZ)=false) (hd:s.heap.get? d=some o) (hx:o.ExactDict) (ho:o.data=.dict es ep)
  (h:Q (.ref s.heap.objs.size) { s with heap:=s.heap.push { cls:=.type "dict_keyiterator",data:=.fields #[.ref d,.int 0 0,.int es.size 0,.int ep 0] } }) :
  ar (aG prog w) A (wA (.ref d)) Q E s:=by
 have ty:s.TypeIs (.ref d) "dict":=⟨o,hd,hx.1⟩
 refine yw ty Ag (b_ Ag ty PySem.F.entry_dict_iter ?_ (PySem.F.args_dict_iter_1 _))
 refine a7 (a7 (wpAny_notOrdered_dict ty (a7 (eL (a:=(bO d,[])) rfl (aa ?_)))))
 refine a7 (eL (a:=d) rfl ?_)
 refine a7 (eL (a:=()) (by unfold Builtin.Dict.showsAll;rw [hs];rfl) ?_)
 refine a7 (yB hd ho ?_)
 refine a7 (BR hd ho ?_)
 refine a7 (bL ?_ (by size_fits))
 exact aa ⟨_,rfl,"dict_keyiterator",_,⟨_,ay _ rfl,rfl⟩,PySem.F.slot_dict_keyiterator_next.lookup,h⟩
end
def Vh (a:ah) (o:Obj) (kvs:List (List dv×V)):It :=
 ⟨fun i H=>H a=some (.frz o (.dT kvs))/\i<kvs.length,fun i H x H'=>H'=H/\∃ k v b,kvs[i]?=some (k,v)/\x=.ref b/\H b=some (.tup (k.map kV)),fun i H=>H a=some (.frz o (.dT kvs))/\kvs.length<=i⟩
theorem Io {α β:Type}{F:α->β->Prop}{l:List α}{m:List β} (h:E6 F l m):∀ {i:Nat}{x:α},l[i]?=some x->∃ y,m[i]?=some y/\F x y:=by
 induction h with
 | nil=>intro i x e;simp at e
 | cons a _ ih =>
  intro i x e
  cases i with
  | zero=>cases e;exact ⟨_,rfl,a⟩
  | succ i=>exact ih e
theorem xw {P:aE}{w:aU}{H:Hp}{h:bp}{a:ah}{o:Obj}{kvs:List (List dv×V)} (ok:oA P w H h) (e:H a=some (.frz o (.dT kvs))):(a == eZ)=false/\h.get? a=some o/\o.ExactDict/\∃ es ep,o.data=.dict es ep/\es.size=kvs.length /\
  ∀ (i:Nat) (k:List dv) (v:V),kvs[i]?=some (k,v)->∃ (en:vd) (b:ah),es[i]?=some en/\en.key=bO b/\H b=some (.tup (k.map kV)):=by
 obtain ⟨h0,z,y,xs,r,o',es,ep,h1,h2,h3,h4,h5⟩:=(show dk P w H h a (.frz o (.dT kvs)) from ok a _ e)
 rw [h0] at h1
 cases h1
 refine ⟨y,h0,h2,es,ep,h3,?_,fun i k v hk=>?_⟩
 ·rw [<- av,h4,ao]
  exact (gO r).symm
 ·obtain ⟨q,q1,q2⟩:=Io r hk
  refine ⟨entryOfKey (j0 (ej P w)) q,q.2.1,?_,?_,q2.2.1⟩
  ·rw [<- dm,h4,aX,q1]
   rfl
  ·rfl
theorem Ip {P:aE}{w:aU}{K:a8}{tg:aQ}{a it:ah}{o:Obj}{kvs:List (List dv×V)}{es:Array vd}{ep:Nat} (hd:o.data=.dict es ep) (hn:es.size=kvs.length) :
  wI P w K tg (Vh a o kvs) [it] it (fun i h=>h.IsKeyIter it a i es.size ep) where
 mem:=by simp
 obj:=fun i h st b hb=>by
  have e:b=it:=by simpa using hb
  subst e
  obtain ⟨o,e,c,d⟩:=st
  exact ⟨o,e,fun v z=>by rw [d] at z;cases z⟩
 keep:=fun i h h' st k=>st.at fun o e=>k it (by simp) o e
 item:=by
  intro X hP hw hK hc i pins s σ H E I hf st hg
  subst hP hw hK
  obtain ⟨hq,hi⟩:=hg
  obtain ⟨_,g1,_,es',ep',g2,g3,g4⟩:=xw I.hok hq
  rw [hd] at g2
  cases g2
  obtain ⟨en,b,e1,e2,e3⟩:=g4 i _ _ (aY hi)
  obtain ⟨f0,f1,f2,f3,f4,f5⟩:=hf it (by simp)
  refine Om st g1 hd e1 fun h' st' sb=>?_
  have I1:bQ X pins σ H { s with heap:=h' }:=I.turned (t':=s.toks) (fun b o hb e=>(sb.2 b hb).trans e) f0 f1 f3 f4 f5
  obtain ⟨o',e,c,d⟩:=id st'
  refine ⟨_,rfl,FT (s:={ s with heap:=h' }) e c d (by decide) ⟨.ref b,H,I1,?_,⟨rfl,_,_,b,aY hi,rfl,e3⟩,st',fun b hb=>(hf b hb).1⟩⟩
  rw [e2]
  rfl
 done:=by
  intro X hP hw hK hc i pins s σ H E I hf st hg
  subst hP hw hK
  obtain ⟨hq,hi⟩:=hg
  obtain ⟨_,g1,_,es',ep',g2,g3,g4⟩:=xw I.hok hq
  obtain ⟨f0,f1,f2,f3,f4,f5⟩:=hf it (by simp)
  exact R9 (I.ok.hd hc) st g1 hd (by omega) fun h' eb=>⟨rfl,I.turned (t':=s.toks) (fun b o hb e=>eb b o hb e) f0 f1 f3 f4 f5⟩
 self:=fun _ _ _ _ _ st h=>wpAny_pyIter_keyiter st h
def Tv (tl:TE):TI:=fun σ H R=>tl σ H fun x H1=>∃ a o kvs,x=.ref a/\H1 a=some (.frz o (.dT kvs))/\R (Vh a o kvs) H1
theorem GC {X:Cx}{tg l:aQ}{tl:TE} (hl:PE X l tl):PI X tg l (Tv tl):=by
 intro pins s σ H R I h
 refine eB (hl pins s σ H _ I h) fun v s1 h1=>?_
 obtain ⟨x,H1,I1,r1,q1⟩:=h1
 obtain ⟨a,o,kvs,e,hq,q⟩:=q1
 subst e
 cases r1
 obtain ⟨y,g1,g0,es,ep,g2,g3,g4⟩:=xw I1.hok hq
 refine Ra y g1 g0 g2 ?_
 refine ⟨s1.heap.objs.size,[s1.heap.objs.size],_,_,H1,rfl,I1.kept (t':=s1.toks) fun b o e=>ae _ e,Ip g2 g3,⟨_,ay _ rfl,rfl,rfl⟩,fun b hb=>?_,q⟩
 rw [List.mem_singleton.mp hb]
 exact I1.fpOk (au _) (I1.hok.fresh (au _))
def Wc (tk tv:TE):TE:=fun σ H Q=>∀ p,H p=none->tk σ (upd H p (.dT [])) fun y H1=>tv σ H1 fun v H2=>∃ kvs k b,H2 p=some (.dT kvs)/\y=.ref b/\H2 b=some (.tup (k.map kV))/\kvs.length<sizeLine/\Q (.ref p) (upd H2 p (.dT (kC kvs k v)))
theorem LG {X:Cx}{k v:aQ}{pos:Pos}{tk tv:TE} (hu:X.A.units + 1<iE) (hk:PE X k tk) (hv:PE X v tv):PE X (.Dict [some k] [v] pos) (Wc tk tv):=by
 intro pins s σ H Q I h
 refine wpAny_Dict_any rfl rfl (by simp) (by simp) ?_
 have I0:bQ X pins σ (upd H s.heap.objs.size (.dT [])) { s with heap:=s.heap.push { cls:=.type "dict",data:=.dict #[] } }:=I.laid (a:=s.heap.objs.size) (o:=.dT []) (t':=s.toks) (fun _ _ q=>ae _ q) (au _) (K9 s.heap I.big)
 have h0:=h s.heap.objs.size (I.hok.fresh (au _))
 simp only [pairTrees,evalPairs]
 refine a7 (eB (hk pins _ σ _ _ I0 h0) fun u1 s1 h1=>?_)
 obtain ⟨y,H1,I1,r1,q1⟩:=h1
 refine a7 (db (a7 (eB (hv pins s1 σ H1 _ I1 q1) fun u2 s2 h2=>?_)))
 obtain ⟨z,H2,I2,r2,q2⟩:=h2
 obtain ⟨kvs,ks,b,e1,e2,e3,e4,q⟩:=q2
 refine a7 (eF (aa ?_))
 refine a7 (db (aa (aa ?_)))
 subst e2
 cases r1
 unfold storeAll
 simp only [j3,lU,bind_assoc]
 obtain ⟨z1,hd,xs,rel,dd⟩:=P6 I2.hok e1
 have hz:xs.length<=sizeLine:=by rw [<- gO rel];exact z1
 have hl:(kC kvs ks z).length<=sizeLine:=by have:=j_ kvs ks z;omega
 refine a7 (wpAny_dictSet_heap (by show X.A.units<iE;omega) (pp I2.hok e3) dd (fun h' dd' hs=>?_) hz)
 obtain ⟨o',es,ep,hq,g2,g3,g4,_,g5⟩:=dd'
 have I3:=Aq (t':=s2.toks + (j0 (ej X.prog X.w)).draws ks) I2 (by rw [e1];exact iw) hs ⟨o',hq⟩ (ob:=.dT (kC kvs ks z)) ⟨hl,hd,_,(rel.put ks e3 r2).keeps fun c ys ec=>(by rw [bg (JF ec e1 (fun z=>nomatch z))];exact ec),o',es,ep,hq,g2,g3,g4,g5⟩
 exact aa ⟨.ref s.heap.objs.size,_,I3,rfl,q⟩
end L2
namespace J
open PySem L2
def keysOf:List D->Option (List dv)
 | []=>some []
 | d::r=>(rc d).bind fun k=>(keysOf r).map (k::·)
def k9:D->Option (List dv)
 | .tuple ds=>keysOf ds
 | _=>none
theorem zP:∀ {ds:List D}{ks:List dv},keysOf ds=some ks->ds=ks.map kD
 | [],ks,h=>by cases h;rfl
 | d::r,ks,h=>by
  unfold keysOf at h
  cases hk:rc d with
  | none=>rw [hk] at h;cases h
  | some y =>
   rw [hk,vg] at h
   cases hr:keysOf r with
   | none=>rw [hr] at h;cases h
   | some l =>
    rw [hr] at h
    cases h
    rw [ap,<- xk hk,<- zP hr]
theorem n8 {d:D}{ks:List dv} (h:k9 d=some ks):d=tD ks:=by
 cases d<;>first | (cases h;done) | skip
 rename_i ds
 unfold tD
 rw [<- zP (show keysOf ds=some ks from h)]
theorem zQ:∀ ks:List dv,keysOf (ks.map kD)=some ks
 | []=>rfl
 | k::r=>by rw [ap,keysOf,keyOf_of,zQ r];rfl
theorem LH (ks:List dv):k9 (tD ks)=some ks:=zQ ks
theorem GD:∀ a b:List dv,gS (a.map kD) (b.map kD)=decide (a=b)
 | [],[]=>by simp [gS]
 | [],_::_=>by simp [gS]
 | _::_,[]=>by simp [gS]
 | x::a,y::b=>by
  rw [ap,ap]
  simp only [gS]
  rw [AN,GD a b]
  by_cases h:x=y<;>by_cases h2:a=b<;>simp [h,h2]
theorem AU (a b:List dv):aZ (tD a) (tD b)=decide (a=b):=by
 unfold tD
 simp only [aZ]
 exact GD a b
theorem RDt.any {K:a8}{H:Hp}{kvs:List (List dv×V)} (y:List dv):∀ {ds:List (D×D)},RDt K H kvs ds->(ds.any fun kv=>aZ kv.1 (tD y))=kvs.any fun kv=>decide (kv.1=y):=by
 induction kvs with
 | nil=>intro ds h;cases h;rfl
 | cons x r ih=>intro ds h;cases h with | cons h t=>rw [dW,dW,ih t,AU]
theorem RDt.repl {K:a8}{H:Hp} (y:List dv) {v:V}{d:D} (rv:RD K H v d) {kvs:List (List dv×V)}:∀ {ds:List (D×D)},RDt K H kvs ds ->
  RDt K H (kvs.map fun kv=>if kv.1=y then (kv.1,v) else kv) (ds.map fun kv=>if aZ kv.1 (tD y) then (kv.1,d) else kv):=by
 induction kvs with
 | nil=>intro ds h;cases h;exact .nil
 | cons x r ih =>
  intro ds h
  cases h with
  | @cons k _ _ _ _ h t =>
   rw [ap,ap]
   have e:=AU k y
   by_cases hk:k=y
   ·subst hk
    rw [show (if k=k then (k,v) else (k,_))=(k,v) from if_pos rfl,show (if aZ (tD k) (tD k)=true then (tD k,d) else (tD k,_))=(tD k,d) from if_pos (by rw [e];simp)]
    exact .cons rv (ih t)
   ·simp only [e,hk,if_neg,decide_false,bS,not_false_eq_true]
    exact .cons h (ih t)
theorem RDt.snoc {K:a8}{H:Hp} (y:List dv) {v:V}{d:D} (rv:RD K H v d) {kvs:List (List dv×V)}:∀ {ds:List (D×D)},RDt K H kvs ds->RDt K H (kvs++[(y,v)]) (ds++[(tD y,d)]):=by
 induction kvs with
 | nil=>intro ds h;cases h;exact .cons rv .nil
 | cons x r ih=>intro ds h;cases h with | cons h t=>exact .cons h (ih t)
theorem RDt.put {K:a8}{H:Hp}{kvs:List (List dv×V)}{ds:List (D×D)} (r:RDt K H kvs ds) (y:List dv) {v:V}{d:D} (rv:RD K H v d):RDt K H (kC kvs y v) (m_ ds (tD y) d):=by
 unfold kC m_
 rw [r.any y]
 split
 ·exact r.repl y rv
 ·exact r.snoc y rv
theorem E_ {κ:Type} [DecidableEq κ] {kvs:List (κ×V)}{y:κ}{v:V}:kC kvs y v≠[]:=by
 unfold kC
 split
 ·rename_i h
  intro z
  have:=List.map_eq_nil_iff.mp z
  subst this
  cases h
 ·simp
theorem RDt.val {K:a8}{H:Hp}{kvs:List (List dv×V)} (y:List dv):∀ {ds:List (D×D)},RDt K H kvs ds->(mX kvs y=none/\ji ds (tD y)=none)\/∃ v d,mX kvs y=some v/\ji ds (tD y)=some d/\RD K H v d:=by
 induction kvs with
 | nil=>intro ds h;cases h;exact .inl ⟨rfl,rfl⟩
 | cons x r ih =>
  intro ds h
  cases h with
  | @cons k _ _ _ _ h t =>
   unfold mX ji
   rw [bT,bT,AU]
   by_cases hk:k=y
   ·simp only [hk,decide_true,cU]
    exact .inr ⟨_,_,rfl,rfl,h⟩
   ·simp only [hk,decide_false]
    exact ih t
def GE:List (D×D)->List (D×D)
 | (.none,_)::r=>r
 | l=>l
def gD (ds:List (D×D)):Bool:=!ds.isEmpty && ds.all fun kv=>(k9 kv.1).isSome
theorem RDk.notT {K:a8}{H:Hp}{kvs:List (dv×V)}{ds:List (D×D)} (h:RDk K H kvs ds) (e:gD (GE ds)=true):False:=by
 cases h with
 | nil=>cases e
 | @cons k _ _ _ _ h t =>
  cases k<;>simp [GE,gD,kD,k9] at e
theorem RDt.un {K:a8}{H:Hp}{kvs:List (List dv×V)}{ds:List (D×D)} (h:RDt K H kvs ds):GE ds=ds:=by
 cases h<;>rfl
theorem qo {K:a8}{H Hs:Hp}{v:V}{ks:List dv} (sub:dB Hs H) (h:RB K H Hs v (tD ks)):∃ b,v=.ref b/\H b=some (.tup (ks.map kV)):=by
 rcases h with h | ⟨_,o,rfl,_,_,ow⟩
 ·cases h with
  | tuple q r =>
   have:=wq (c:=kD) (k:=kV) (fun h=>EX h) r
   subst this
   exact ⟨_,rfl,sub _ _ q⟩
 ·cases ow
theorem GF {K:a8}{H Hs:Hp}{v:V}{ds:List (D×D)} (sub:dB Hs H) (h:RB K H Hs v (.dict ds)) (e:gD (GE ds)=true):∃ a kvs,v=.ref a/\RDt K Hs kvs (GE ds)/\∀ (b:ah) (k:List dv),H b=some (.tup (k.map kV))->tH H a (.ref b) (mX kvs k):=by
 obtain ⟨a,ea,hh⟩:=h.dict sub
 clear h
 subst ea
 rcases hh with ⟨kvs,h1,h2⟩ | ⟨kvs,h1,hn,h2⟩ | ⟨o,kvs,es,rfl,h1,hn,h2⟩
 ·exact (h2.notT e).elim
 ·exact ⟨a,kvs,rfl,by rw [h2.un];exact h2,fun b k hb=>tH.t h1 hb⟩
 ·exact ⟨a,kvs,rfl,h2,fun b k hb=>.inr ⟨kvs,k,b,.inr ⟨o,h1⟩,rfl,hb,rfl⟩⟩
def uM:D->D->R D
 | .dict ds,k=>match k9 k with
  | some _=>if gD (GE ds)=true then (match ji (GE ds) k with
   | some d=>.ok d
   | none=>.no) else .no
  | none=>.no
 | _,_=>.no
section
variable {c:C}{a b e k:aQ}{ga gb g gk:aw->R D}{pos p apos:Pos}{x:Str}
theorem nK (hu:c.X.A.units + 1<iE) (ha:JB c a ga) (hb:JB c b gb) (hs:tu b:=by exact fun _ _=>rfl):JE c (.Subscript a b pos) (g2 ga gb uM):=.of fun ρ=>by
 refine rP (FW hu (ha ρ) (hb ρ) hs) fun σ H Q h_2=>?_
 obtain ⟨H0,Hs0,la,Hs,f,q⟩:=h_2
 refine one f q fun d v H1 Hs1 e1 s1 f1 r1=>?_
 unfold g2 at q
 rw [e1,bind_ok] at q
 refine one f1 (q.on s1 (q':=fun _=>True) fun _ _=>trivial) fun y w H2 Hs2 e2 s2 f2 r2=>?_
 rw [e2,bind_ok] at q
 unfold uM at q
 split at q
 ·rename_i ds
  split at q
  ·rename_i ky hy
   obtain rfl:=n8 hy
   by_cases hf:gD (GE ds)=true
   ·rw [if_pos hf] at q
    obtain ⟨p,kvs,rfl,h2,h3⟩:=GF f2.st.sub (r1.step s2) hf
    obtain ⟨b,rfl,hb⟩:=qo f2.st.sub r2
    rcases h2.val ky with ⟨_,h4⟩ | ⟨u,d,h4,h5,h6⟩
    ·rw [h4] at q;exact q.elim
    ·rw [h5] at q
     exact ⟨p,u,rfl,by rw [<- h4];exact h3 b ky hb,q _ H2 Hs2 (s1.trans s2) h6⟩
   ·rw [if_neg hf] at q;exact q.elim
  ·exact q.elim
 ·exact q.elim
def On (neg:Bool):D->D->R D
 | k,.dict ds=>match k9 k with
  | some _=>if gD (GE ds)=true then .ok (.bool (if neg then !(ji (GE ds) k).isSome else (ji (GE ds) k).isSome)) else .no
  | none=>.no
 | _,_=>.no
theorem zR (hu:c.X.A.units + 1<iE):vT c.X (bH .NotIn) (On true):=by
 refine ⟨fun pins s σ H x y v u Q I rv ru h=>?_,fun x y c n=>?_⟩
 ·obtain ⟨Hs,dx,dy,sub,rx,ry,d,hd,q⟩:=h
  unfold On at hd
  split at hd
  ·rename_i ds
   split at hd
   ·rename_i ky hy
    obtain rfl:=n8 hy
    split at hd
    ·rename_i hf
     cases hd
     obtain ⟨p,kvs,rfl,h2,h3⟩:=GF sub ry hf
     obtain ⟨b,rfl,hb⟩:=qo sub rx
     cases ru
     refine L2.NQ hu I (h3 b ky hb) rv fun s' I'=>⟨.bl _,H,I',rfl,?_⟩
     have e:(mX kvs ky).isSome=(ji (GE ds) (tD ky)).isSome:=by
      rcases h2.val ky with ⟨h4,h5⟩ | ⟨u,d,h4,h5,h6⟩<;>rw [h4,h5]<;>rfl
     rw [e]
     exact q _ H Hs (.refl sub) (.bool _)
    ·cases hd
   ·cases hd
  ·cases hd
 ·unfold On
  split<;>(try split)<;>(try split)<;>exact fun h=>by cases h
def lB (i:Nat) (gk g:aw->R D):aw->R Fl:=fun ρ=>match ρ[i]? with
 | some (Sl.own (.dict kvs))=>(g ρ).bind fun d=>(gk ρ).bind fun k=>match k9 k with
  | some _=>if kvs.length<1000/\gD kvs=true then .ok (.nx (ρ.set i (.own (.dict (m_ kvs k d))))) else .no
  | none=>.no
 | _=>.no
theorem xx (i:Nat) (h:JE c e g) (hk:JE c k gk) (hu:c.X.A.units + 1<iE) (hN:c.X.N[i]?=some x:=by rfl) (hv:JJ c.X.env.scope x:=by first | exact gj rfl | exact dQ (gj rfl) | exact dQ (dQ rfl)) (hd:(x == ("__debug__" : Str))=false:=by decide)
  (hcd:(x == ("__classdict__" : Str))=false:=by decide) (hs:fD e (some (.Subscript (.Name x p) k apos)) pos.line c.X.env=pure false:=by rfl):JS c (.Assign [.Subscript (.Name x p) k apos] e pos) (lB i gk g):=.of fun ρ=>by
 refine wX (FX hu (nA hN hv hd hcd) (hk ρ) (h ρ) hs) fun D σ H h_1=>?_
 obtain ⟨H0,Hs0,la,Hs,f,q⟩:=h_1
 replace q:mY c.X.K c.cls c.E H0 Hs0 la D (lB i gk g ρ):=q
 unfold lB at q
 split at q
 ·rename_i kvs ho
  obtain ⟨a,o,k1,k2,k3,k4,k5⟩:=f.ow i _ ho
  refine sE f q fun d v H1 Hs1 e1 s1 f1 r1=>?_
  rw [e1,bind_ok] at q
  refine ⟨_,k1,sE f1 q fun y w H2 Hs2 e2 s2 f2 r2=>?_⟩
  rw [e2,bind_ok] at q
  split at q
  ·rename_i ky hy
   obtain rfl:=n8 hy
   by_cases hl:kvs.length<1000/\gD kvs=true
   ·rw [if_pos hl] at q
    cases k5 with
    | dK r=>exact (r.notT (by cases r with | nil=>exact hl.2 | @cons k _ _ _ _ _ _=>cases k<;>exact hl.2)).elim
    | dF n r=>cases hl.2
    | dT n r =>
     have ha:=s2.all _ _ (s1.all _ _ k2)
     have r':=(r.same s1.sh).same s2.sh
     obtain ⟨b,rfl,hb⟩:=qo f2.st.sub (.inl r2)
     exact ⟨a,_,rfl,yF.t ha hb (dg (by rw [r.length];omega)),q _ _ Hs2 (f2.write i ho k1 (.dT E_ (r'.put ky (r1.same s2.sh))))⟩
   ·rw [if_neg hl] at q;exact q.elim
  ·exact q.elim
 ·exact q.elim
end
end J
namespace J
open PySem L2
def ka (i:Nat) (ρ:aw):aw:=match ρ[i]? with
 | some (Sl.own (.dict ((.tuple ks,v)::r)))=>ρ.set i (.own (.dict ((.none,.none)::(.tuple ks,v)::r)))
 | _=>ρ
theorem Oo {X:Cx}{pins:List (ah×Obj)}{σ:St}{H:Hp}{s:ac}{a:ah}{kvs:List (List dv×V)} (I:bQ X pins σ H s) (h:H a=some (.dT kvs)):∃ o,bQ X pins σ (upd H a (.frz o (.dT kvs))) s:=by
 obtain ⟨z,y,xs,pr,o,es,ep,e1,e2,e3,e4,e5⟩:=(show dk X.prog X.w H s.heap a (.dT kvs) from I.hok a _ h)
 have new:dk X.prog X.w (upd H a (.frz o (.dT kvs))) s.heap a (.frz o (.dT kvs)) :=
  ⟨e1,z,y,xs,Paired.mapP pr fun p q w=>⟨w.1,by rw [bg (JF w.2.1 h (fun z=>nomatch z))];exact w.2.1,w.2.2⟩,o,es,ep,e1,e2,e3,e4,e5⟩
 have:=I.write (x:=a) (e:=a) (h':=s.heap) (t':=s.toks) (by rw [h];trivial) (.inl rfl) (fun b u _ q=>q) ⟨o,e1⟩ new
 exact ⟨o,this⟩
theorem Tw {X:Cx}{st:cA}{t:TS} (h:PS X st t):PS X st (fun D σ H=>t D σ H\/∃ a kvs,H a=some (.dT kvs)/\∀ o,t D σ (upd H a (.frz o (.dT kvs)))):=fun pins s σ H D I q=>by
 rcases q with q | ⟨a,kvs,ha,q⟩
 ·exact h pins s σ H D I q
 ·obtain ⟨o,I'⟩:=Oo I ha
  exact h pins s σ _ D I' (q o)
theorem Rb {c:C} (i:Nat) {st:cA}{gs:aw->R Fl} (h:JS c st gs):JS c st (fun ρ=>gs (ka i ρ)):=.of fun ρ=>wX (Tw (h (ka i ρ))) fun D' σ H hh=>by
 obtain ⟨H0,Hs0,la,Hs,f,q⟩:=hh
 by_cases hx:∃ ks v r,ρ[i]?=some (Sl.own (.dict ((.tuple ks,v)::r)))
 ·obtain ⟨ks,v,r,ho⟩:=hx
  have e:ka i ρ=ρ.set i (.own (.dict ((.none,.none)::(.tuple ks,v)::r))):=by unfold ka;rw [ho]
  obtain ⟨a,o,k1,k2,k3,k4,k5⟩:=f.ow i _ ho
  generalize hd:E2 ((.tuple ks,v)::r)=d0 at k5
  cases k5 with
  | lst r=>cases hd
  | dK rk =>
   cases hd
   generalize hd:((.tuple ks,v)::r:List (D×D))=d1 at rk
   cases rk with
   | nil=>cases hd
   | @cons k _ _ _ _ _ _=>cases k<;>cases hd
  | dF n r=>cases hd
  | dT n r =>
   cases hd
   exact .inr ⟨a,_,k2,fun o=>⟨H0,Hs0,la,Hs,by rw [e];exact f.write i ho k1 (.dF n r),q⟩⟩
 ·have e:ka i ρ=ρ:=by
   unfold ka
   split
   ·rename_i ks v r ho;exact (hx ⟨ks,v,r,ho⟩).elim
   ·rfl
  refine .inl ⟨H0,Hs0,la,Hs,by rw [e];exact f,q⟩
def xy:D->R (List D)
 | .dict ((.none,.none)::ds)=>.ok (ds.map (·.1))
 | _=>.no
def xz (g:aw->R D):aw->R (List D):=fun ρ=>(g ρ).bind xy
theorem RDt.get {K:a8}{H:Hp}{kvs:List (List dv×V)}:∀ {ds:List (D×D)}{i:Nat}{k:List dv}{v:V},RDt K H kvs ds->kvs[i]?=some (k,v)->∃ d,ds[i]?=some (tD k,d):=by
 induction kvs with
 | nil=>intro ds i k v h e;simp at e
 | cons x r ih =>
  intro ds i k v h e
  cases h with
  | cons h t =>
   cases i with
   | zero=>cases e;exact ⟨_,rfl⟩
   | succ i=>have q:=ih (i:=i) t e;exact q
theorem LI {K:a8}{H:Hp}:∀ ks:List dv,RDs K H (ks.map kV) (ks.map kD)
 | []=>.nil
 | k::r=>.cons (by cases k<;>constructor) (LI r)
theorem GG {K:a8}{Hn Hs:Hp}{a:ah}{o:Obj}{kvs:List (List dv×V)}{ds:List (D×D)} (h:Hn a=some (.frz o (.dT kvs))) (r:RDt K Hs kvs ds):MQ K (Vh a o kvs) (ds.map (·.1)) Hn Hs:=fun H2 Hs2 e1 e2 e3=>by
 have q:=e1 _ _ h
 have hl:=r.length
 refine ⟨fun i hi=>⟨q,?_⟩,fun i hi=>⟨q,?_⟩,fun i x H3 hi y=>?_⟩
 ·rw [ao] at hi;omega
 ·rw [ao] at hi;omega
 ·obtain ⟨rfl,k,v,b,y1,rfl,y3⟩:=y
  obtain ⟨d,y4⟩:=r.get y1
  have same:dB Hs2 (upd Hs2 b (.tup (k.map kV))):=fun c u e=>by
   by_cases hc:c=b
   ·subst hc
    have:=e3 _ _ e
    rw [y3] at this
    cases this
    exact bj
   ·rw [bg hc];exact e
  refine ⟨tD k,upd Hs2 b (.tup (k.map kV)),by rw [aX,y4];rfl,⟨.refl _,same,fun c u e=>?_,fun c u e t z=>?_⟩,.tuple bj (LI k)⟩
  ·by_cases hc:c=b
   ·subst hc;rw [bj] at e;cases e;exact y3
   ·rw [bg hc] at e;exact e3 _ _ e
  ·by_cases hc:c=b
   ·subst hc;rw [y3] at e;cases e;cases t
   ·rw [bg hc];exact z
section
variable {c:C}{tg l k v e:aQ}{g gk gv:aw->R D}{pos:Pos}
theorem AV (h:JB c l g):JI c tg l (xz g):=.of fun ρ=>by
 refine Gb (GC (h ρ)) fun σ H Q hh=>?_
 obtain ⟨H0,Hs0,la,Hs,f,q⟩:=hh
 refine one f q fun d v H1 Hs1 e1 s1 f1 r1=>?_
 unfold xz at q
 rw [e1,bind_ok] at q
 unfold xy at q
 split at q
 ·obtain ⟨a,ea,hh⟩:=r1.dict f1.st.sub
  rcases hh with ⟨kvs,h1,h2⟩ | ⟨kvs,h1,hn,h2⟩ | ⟨o,kvs,es,he,h1,hn,h2⟩
  ·generalize hd:((.none,.none)::_:List (D×D))=d0 at h2
   cases h2 with
   | nil=>cases hd
   | @cons k _ _ _ _ _ _=>cases k<;>cases hd
  ·generalize hd:((.none,.none)::_:List (D×D))=d0 at h2
   cases h2<;>cases hd
  ·cases he
   exact ⟨a,o,kvs,ea,h1,q _ H1 Hs1 H1 s1 (.refl _) (GG h1 h2)⟩
 ·exact q.elim
def PR (gk gv:aw->R D):aw->R D:=fun ρ=>(gk ρ).bind fun k=>(gv ρ).bind fun v=>match k9 k with
 | some _=>.ok (.dict [(k,v)])
 | none=>.no
theorem CQ (hu:c.X.A.units + 1<iE) (hk:JE c k gk) (hv:JE c v gv):JN c (.Dict [some k] [v] pos) (PR gk gv):=.of fun ρ=>by
 refine rP (LG hu (hk ρ) (hv ρ)) fun σ H Q hh=>?_
 obtain ⟨H0,Hs0,la,Hs,f,q⟩:=hh
 intro p hp
 have sm:cD H Hs (upd H p (.dT [])) Hs:=.mine f.st.sub hp
 have np:Hs p=none:=f.st.sub.free hp
 unfold PR at q
 refine yM (f.step sm) (q.on sm (q':=fun _=>True) fun _ _=>trivial) fun y w H1 Hs1 e1 s1 f1 r1=>?_
 rw [e1,bind_ok] at q
 refine yM f1 (q.on (sm.trans s1) (q':=fun _=>True) fun _ _=>trivial) fun z u H2 Hs2 e2 s2 f2 r2=>?_
 rw [e2,bind_ok] at q
 split at q
 ·rename_i ky hy
  obtain rfl:=n8 hy
  obtain ⟨b,rfl,hb⟩:=qo f1.st.sub (.inl r1)
  have s12:=s1.trans s2
  have hp2:H2 p=some (.dT []):=s12.all _ _ bj
  have hn2:Hs2 p=none:=s12.out _ _ bj rfl np
  let H3:Hp:=fun x=>if x=p then none else H2 x
  have h3:∀ x,x≠p->H3 x=H2 x:=fun x hx=>if_neg hx
  have st:cD H Hs H3 Hs2:=by
   refine ⟨fun x o e=>?_,s12.sh,fun x o e=>?_,fun x o e t n=>?_⟩
   ·have hx:=bR e hp
    rw [h3 x hx]
    exact s12.all _ _ (by rw [bg hx];exact e)
   ·have hx:x≠p:=fun z=>by rw [z,hn2] at e;cases e
    rw [h3 x hx]
    exact f2.st.sub _ _ e
   ·have hx:=bR e hp
    exact s12.out _ _ (by rw [bg hx];exact e) t n
  have:=q p (.dT [(ky,u)]) H3 Hs2 st (if_pos rfl) (.dT (by simp) (.cons r2 .nil))
  have e3:upd H3 p (.dT [(ky,u)])=upd H2 p (.dT (kC [] ky u)):=by
   funext x
   by_cases hx:x=p
   ·subst hx;rw [bj,bj];rfl
   ·rw [bg hx,bg hx,h3 x hx]
  rw [e3] at this
  exact ⟨[],ky,b,hp2,rfl,s2.all _ _ hb,by rw [BG];decide,this⟩
 ·exact q.elim
def AW (g:aw->R D):aw->R Bool:=fun ρ=>(g ρ).bind fun d=>match d with
 | .list ds=>.ok (!ds.isEmpty)
 | _=>.no
theorem Rc (h:JB c e g) (he:∀ whole,rm e c.X.env whole=(do let v <- whole;vb e.pos;DX [v] (truthy v)):=by intro _;rfl):JT c e (AW g):=.of fun ρ=>SK (J_ (h ρ) he) fun σ H Q hh=>by
 obtain ⟨H0,Hs0,la,Hs,f,q⟩:=hh
 refine one f q fun d v H1 Hs1 e1 s1 f1 r1=>?_
 unfold AW at q
 rw [e1,bind_ok] at q
 split at q
 ·obtain ⟨a,vs,rfl,qa,ra⟩:=r1.list f1.st.sub
  refine ⟨_,.inl ⟨vs,qa,rfl⟩,?_⟩
  cases ra with
  | nil=>exact q H1 Hs1 s1
  | cons _ _=>exact q H1 Hs1 s1
 ·exact q.elim
end
end J
namespace L2
open PySem PySem.Spec PyProof.Rows
theorem CS {ns:List Int}:∀ {its:List a9},du (ns.map V.int) its->∀ {i:Nat}{v:a9},its[i]?=some v->∃ n t,ns[i]?=some n/\v=.int n t:=by
 induction ns with
 | nil=>intro its r i v e;cases r;simp at e
 | cons x r ih =>
  intro its rr i v e
  cases rr with
  | cons a b =>
   cases i with
   | zero=>cases e;obtain ⟨t,rfl⟩:=a;exact ⟨x,t,rfl,rfl⟩
   | succ i=>have q:=ih b (i:=i) e;exact q
theorem yR {X:Cx} (hc:X.calm=true):jb X (.builtin "min") (fun xs H Q=>∃ p,∃ ns:List Int,xs=[.ref p]/\nB X.K H p (ns.map V.int)/\0<ns.length/\∀ m,m∈ns->(∀ a∈ns,m<=a)->Q (.int m) H):=by
 intro pins s σ H xs us Q I r h
 obtain ⟨p,ns,rfl,hq,hz,q⟩:=h
 obtain ⟨u,rfl,rx⟩:=kz r
 cases rx
 obtain ⟨its,r',pl,hl⟩:=I.list hq
 have ln:its.toArray.size=ns.length:=by have:=r'.length;simp at this ⊢;omega
 obtain ⟨o,ho,hk⟩:=pl.isList
 refine call_min_walk (kf pl.isList ⟨_,_,_,_,_,_,fun i j=>decide (ns.getD i 0<ns.getD j 0),rfl,yu (by simpa using I.ok.hd hc) _ p (aF (aq ho)) its.toArray,⟨⟨_,ay _ rfl,rfl,rfl⟩,pl.isList.push _⟩,?_,?_,?_,fun v h' tk hv kp=>?_⟩)
 ·intro b hb
  simp only [bx,bn,or_false] at hb
  have hp:=aq ho
  have hs:(s.heap.push { cls:=.type "list_iterator",data:=.fields #[bO p,j7 0 0] }).objs.size=s.heap.objs.size + 1:=Array.size_push ..
  rcases hb with rfl | rfl
  ·exact JA (da _) hs.symm
  ·exact JA (dY hp) hs.symm
 ·omega
 ·refine CmpOf.ints_lt (fun i=>ns.getD i 0) fun i v hi=>?_
  obtain ⟨n,t,e1,rfl⟩:=CS r' (i:=i) (by simpa using hi)
  exact ⟨t,by simp [cV,e1]⟩
 ·rw [ln] at hv
  obtain ⟨b1,b2⟩:=argBest_lt (fun i=>ns.getD i 0) (ns.length - 1)
  obtain ⟨n,t,e1,rfl⟩:=CS r' (by simpa using hv)
  refine ⟨.int n,H,I.kept (t':=tk) fun b o e=>kp b o ?_ (ae _ e),⟨t,rfl⟩,q n (dE e1) fun a ha=>?_⟩
  ·simp only [dC]
   exact aF (aq e)
  ·obtain ⟨j,hj,e⟩:=iN ha
   have:=b2 j (by omega)
   simpa [cV,e1,hj,e] using this
end L2
namespace J
open PySem L2
def pK:List D->Option (List Int)
 | []=>some []
 | .int b::r=>(pK r).map (b::·)
 | _::_=>none
theorem vp {ds:List D}:∀ {bs:List Int},pK ds=some bs->ds=bs.map bB:=by
 induction ds with
 | nil=>intro bs h;cases h;rfl
 | cons d r ih =>
  intro bs h
  cases d with
  | int b =>
   have h:(pK r).map (b::·)=some bs:=h
   cases hr:pK r with
   | none=>rw [hr] at h;cases h
   | some z=>rw [hr] at h;cases h;rw [ih hr];rfl
  | _=>cases h
theorem sd:∀ bs:List Int,pK (bs.map bB)=some bs
 | []=>rfl
 | b::r=>by show (pK (r.map bB)).map (b::·)=_;rw [sd r];rfl
def F1:List Int->Int
 | []=>0
 | x::r=>r.foldl min x
theorem xA:∀ (r:List Int) (x:Int),(r.foldl min x∈x::r)/\∀ a∈x::r,r.foldl min x<=a
 | [],x=>⟨by simp,fun a ha=>by simp at ha;subst ha;exact Int.le_refl _⟩
 | y::r,x=>by
  obtain ⟨h1,h2⟩:=xA r (min x y)
  rw [cf]
  refine ⟨?_,fun a ha=>?_⟩
  ·rcases List.mem_cons.mp h1 with h | h
   ·rw [h]
    by_cases hxy:x<=y
    ·rw [Int.min_eq_left hxy];simp
    ·rw [Int.min_eq_right (by omega)];simp
   ·exact aj _ (aj _ h)
  ·have h0:=h2 (min x y) am
   rcases List.mem_cons.mp ha with h | h
   ·subst h
    exact Int.le_trans h0 (Int.min_le_left _ _)
   ·rcases List.mem_cons.mp h with h | h
    ·subst h
     exact Int.le_trans h0 (Int.min_le_right _ _)
    ·exact h2 a (aj _ h)
theorem Re {ns:List Int}{m:Int} (h1:m∈ns) (h2:∀ a∈ns,m<=a):m=F1 ns:=by
 cases ns with
 | nil=>cases h1
 | cons x r =>
  obtain ⟨k1,k2⟩:=xA r x
  exact Int.le_antisymm (h2 _ k1) (k2 _ h1)
def F2:D->R D
 | .list ds=>match pK ds with
  | some ns=>if 0<ns.length then .ok (.int (F1 ns)) else .no
  | none=>.no
 | _=>.no
theorem Rf {X:Cx} (hc:X.calm=true):Ie X (.builtin "min") (hZ F2):=by
 refine pF (fun d c n=>?_) fun pins s σ H x u Q Hs d d' I ru sub rx hd q=>?_
 ·unfold F2
  split<;>(try split)<;>(try split)<;>exact fun h=>by cases h
 ·unfold F2 at hd
  split at hd
  ·split at hd
   ·split at hd
    ·rename_i ns hs hz
     cases hd
     obtain ⟨a,vs,rfl,qa,ra⟩:=rx.list sub
     rw [vp hs] at ra
     rw [tR ra] at qa
     exact yR hc pins s σ H _ _ Q I (.cons ru .nil) ⟨a,ns,rfl,qa,hz,fun m h1 h2=>by rw [Re h1 h2];exact q _ H Hs (.refl sub) (.int _)⟩
    ·cases hd
   ·cases hd
  ·cases hd
end J
namespace J
open PySem L2
def Op (i:Nat) (g:aw->R Fl):aw->R Fl:=fun ρ=>g (ka i ρ)
theorem F3 {c:C} (i:Nat) {st:cA}{gs:aw->R Fl} (h:JS c st gs):JS c st (Op i gs):=Rb i h
end J
namespace J
open PySem L2
end J
namespace J
open PySem L2
def rS (i:Nat) (ρ:aw):R D:=E4 ρ i
def rB (i:Nat) (ρ:aw):R D:=E5 ρ i
def kI (n:Int) (_:aw):R D:=.ok (.int n)
def kB (b:Bool) (_:aw):R D:=.ok (.bool b)
def kN (_:aw):R D:=.ok .none
def kT (_:aw):R Bool:=.ok true
theorem Tx (i:Nat) (ρ:aw):rS i ρ=E4 ρ i:=id rfl
theorem Rg (i:Nat) (ρ:aw):rB i ρ=E5 ρ i:=id rfl
theorem Tz (n:Int) (ρ:aw):kI n ρ=.ok (.int n):=id rfl
theorem TC (b:Bool) (ρ:aw):kB b ρ=.ok (.bool b):=id rfl
theorem TD (ρ:aw):kN ρ=.ok .none:=id rfl
end J
end
section
namespace L2
open PySem PySem.Spec PyProof.Rows
section
variable {X:Cx}{tg:aQ}
end
end L2
namespace J
open PySem L2
section
variable {c:C}{tg a b d:aQ}{p pos:Pos}{gs:aw->R (List D)}
end
end J
end
namespace L2
open PySem PySem.Spec PyProof.Rows
section
open Builtin Builtin.ObjectAttr
inductive GH (h:bp) (bmB:List a9) (nms:List Str):List a9->Prop
 | base:GH h bmB nms bmB
 | own {A:ah}{c0:a9}{dd:Option ah}{cd:ClassData}{sl:Array (Option a9)}{mA:Str->Option a9}{tl:List a9} :
   h.get? A=some { cls:=c0,dict:=dd,data:=.cls cd,slots:=sl }->h.Ns cd.ns mA->(∀ n∈nms,mA n=none)->GH h bmB nms tl->GH h bmB nms (.ref A::tl)
section
variable {M:ym}{A:b9}{E:a9->ac->Prop}{h:bp}{g:Array E8}{d:I_}{t:Nat}{os:OsState}
variable {nm q:Str}{C N x:ah}{bs bm bmB:List a9}{hdct:Bool}{sn:List Str}{sub:List a9}{ab:Bool}{col:Option Bool}{dd:Option ah}{k0 k1 k2 k3 k5:Option a9}{B newId initId sa owner:String}{nms:List Str}{name:Str}{v:a9}{mN:Str->Option a9}
end
section
variable {prog:aE}{w:aU}{A:b9}{E:a9->ac->Prop}{h:bp}{g:Array E8}{d:I_}{t:Nat}{os:OsState}
variable {nm q:Str}{C N x:ah}{bs bm bmB:List a9}{sn:List Str}{sub:List a9}{ab:Bool}{col:Option Bool}{dd:Option ah}{k0 k1 k2 k3 k5:Option a9}{B newId initId sa owner:String}{nms:List Str}{name:Str}{v:a9}{mN:Str->Option a9}
end
end
section
section
variable {prog:aE}{w:aU}{A:b9}{E:a9->ac->Prop}{h:bp}{g:Array E8}{d:I_}{t:Nat}{os:OsState}
variable {nm q:Str}{C N:ah}{bs bm bmB:List a9}{hdct:Bool}{sn:List Str}{sub:List a9}{ab:Bool}{col:Option Bool}{dd:Option ah}{k0 k1 k2 k3 k5:Option a9}{B newId initId:String}
end
section
variable {M:ym}{A:b9}{E:a9->ac->Prop}{env:Env}
variable {nm q:Str}{C N:ah}{bs bm:List a9}{hdct:Bool}{sn:List Str}{sub:List a9}{ab:Bool}{col:Option Bool}{dd:Option ah}{k0 k1 k2 k3 k5:Option a9}{newId:String}
end
section
variable {prog:aE}{w:aU}{A:b9}{E:a9->ac->Prop}{s:ac}{env:Env}
variable {nm q:Str}{C N:ah}{bs bm bmB:List a9}{hdct:Bool}{sn:List Str}{sub:List a9}{ab:Bool}{col:Option Bool}{dd:Option ah}{k0 k1 k2 k3 k5:Option a9}{B newId initId:String}
end
end
section
structure Rh (h:bp) (fI:ah):Prop where
 ex:∃ (oI:Obj) (fd:eK) (p1 p2 p3 p4:Pos),h.get? fI=some oI/\oI.cls=.type "function"/\oI.data=.func fd/\h.CodeRec fd.code fd.qualname/\fd.scope.isCoroutine=false/\fd.scope.isGenerator=false/\fd.scope.kind=.function /\
  fd.scope.names=[(("self" : Str),oT),(("number" : Str),oT)]/\fd.body=.stmts [.Assign [.Attribute (.Name "self" p1) "number" p2] (.Name "number" p3) p4]/\∀ (s:ac) (e v:a9),(∀ b o,h.get? b=some o->s.heap.get? b=some o)->yp s fd ⟨[e,v],[]⟩ [("self",e),("number",v)]
section
variable {prog:aE}{w:aU}{A:b9}{E:a9->ac->Prop}{s:ac}
variable {nm q:Str}{C N e fI:ah}{bs bm bmB:List a9}{sn:List Str}{sub:List a9}{ab:Bool}{col:Option Bool}{dd:Option ah}{k0 k1 k2 k3 k5:Option a9}{B newId initId sa owner:String}{nms:List Str}{v:a9}{mN:Str->Option a9}
end
section
variable {M:ym}{A:b9}{E:a9->ac->Prop}{s:ac}
end
end
section
structure Vi (x:Str) (C:ah) (mg:Str->Option a9) (base:bp):Prop where
 bound:mg x=some (.ref C)
 obj:∃ nm q N bs bm sn sub ab col dd k0 k1 k2 k3 k5 mN fI,base.get? C=some (excClassObj nm q C N bs bm true sn sub ab col dd k0 k1 k2 k3 k5 "ValueError.__new__")/\base.Ns N mN/\mN "__init__"=some (.ref fI)/\mN "__setattr__"=none/\mN "number"=none /\
  GH base [.type "ValueError",.type "Exception",.type "BaseException",.type "object"] ["__init__","__setattr__","number"] bm/\Rh base fI
section
variable {P:aE}{w:aU}{K:a8}{mg:Str->Option a9}{base:bp}{N:List Str}{qual:Str}{scope:dw}{f:ah}{cd:a9}{A:b9}{outer:List Env}{s:ac}{H:Hp}{E:XK}
end
end
end L2
namespace J
open PySem L2
section
open PySem.W (nsIn nsOkIn codeIn fnOf)
theorem TF {K:a8}{h:bp}{N:ah}{mg:Str->Option a9}{n:Str}{v:a9} (X:K.In h) (G:h.Ns N mg) (e:nsIn K N n=some (some v)):mg n=some v:=by
 obtain ⟨o,es,ep,ho,hd,_,hf⟩:=G
 unfold fF at e
 split at e
 ·rename_i c d es' n' sl q
  have:=X _ _ q
  rw [ho] at this
  cases this
  cases hd
  split at e
  ·rename_i he
   rw [<- hf]
   unfold nsFind findBy
   rw [<- Hi,he]
   cases e
   rfl
  ·split at e<;>cases e
 ·cases e
structure Vj (K:a8) (x:Str) (C:ah) (st:cA):Prop where
 ns:nsIn K bK x=some (some (.ref C))
 own:∀ {h:bp}{mg:Str->Option a9},K.In h->h.Ns bK mg->Vi x C mg h
 mb:dh K C (.type "BaseException")=some true
 ox:∀ {h:bp},K.In h->∃ bm,SB h C bm/\∀ v,(v == bO C)=false->dh K C v=some true->bm.contains v=true
theorem topN {K:a8}{x:Str}{C CP fI T0 Nn NP:ah}{st:cA}{nm qn nmP qnP fq:Str}{bs bsP mroP subP sub:List a9}{sn snP:List Str}{ab abP hdP delP:Bool}{col colP:Option Bool}{dd dP od dT an:Option ah}{k0 k1 k2 k3 k5:Option a9}{c0 kV doc pm cdv ct cT:a9}{slP slF slT:Array (Option a9)}{nT:Nat}{p1 p2 p3 p4:Pos}{cN cM:a9}{dN dM:Option ah}{esN esM:Array vd}{epN epM:Nat}{slN slM:Array (Option a9)}
  (a1:nsIn K bK x=some (some (.ref C))) (a4:dh K C (.type "BaseException")=some true)
  (a2:K.lookup C=some ⟨.type "type",dd,.cls ⟨nm,bs,[.ref C,.ref CP,.type "ValueError",.type "Exception",.type "BaseException",.type "object"],Nn,qn,true,sn,sub,ab,col,false⟩,#[k0,k1,k2,k3,some (.builtin "ValueError.__new__"),k5]⟩)
  (a3:K.lookup CP=some ⟨c0,dP,.cls ⟨nmP,bsP,mroP,NP,qnP,hdP,snP,subP,abP,colP,delP⟩,slP⟩)
  (b1:nsIn K Nn "__init__"=some (some (.ref fI))) (b2:nsIn K Nn "__setattr__"=some none) (b3:nsIn K Nn "number"=some none)
  (c1:nsIn K NP "__init__"=some none) (c2:nsIn K NP "__setattr__"=some none) (c3:nsIn K NP "number"=some none)
  (d1:K.lookup fI=some ⟨.type "function",od,.func (fnOf "__init__" fq (jO st) (g_ st) (aA st) (.ref T0) kV doc pm an cdv ct),slF⟩)
  (d2:K.lookup T0=some ⟨cT,dT,.seq #[.none] nT,slT⟩) (d3:codeIn K cdv fq=true)
  (g1:K.lookup Nn=some ⟨cN,dN,.dict esN epN,slN⟩) (g2:K.lookup NP=some ⟨cM,dM,.dict esM epM,slM⟩) (g3:(esN.toList.all fun e=>match e.key with | .str _ _=>true | _=>false)=true) (g4:(esM.toList.all fun e=>match e.key with | .str _ _=>true | _=>false)=true)
  (f1:g_ st=[.Assign [.Attribute (.Name "self" p1) "number" p2] (.Name "number" p3) p4]) (f2:(aA st).names=[(("self" : Str),oT),(("number" : Str),oT)])
  (f3:(aA st).isCoroutine=false) (f4:(aA st).isGenerator=false) (f5:(aA st).kind=.function)
  (f6:∀ e v,∃ k,MT (fnOf "__init__" fq (jO st) (g_ st) (aA st) (.ref T0) kV doc pm an cdv ct) ⟨[e,v],[]⟩=Jb (.ref T0) >>= k/\k (some #[.none])=pure [(("self" : Str),e),(("number" : Str),v)]):Vj K x C st:=by
 have e1:nsOkIn K Nn=true:=by unfold JC;rw [g1];show esN.all _=true;rw [<- vO];exact g3
 have e2:nsOkIn K NP=true:=by unfold JC;rw [g2];show esM.all _=true;rw [<- vO];exact g4
 refine ⟨a1,fun {h mg} X G=>⟨mE X G a1,nm,qn,Nn,bs,_,sn,sub,ab,col,dd,k0,k1,k2,k3,k5,h.nsMap Nn,fI,X _ _ a2,.of_isNs (lr X e1),?_,eg X e1 b2,eg X e1 b3,?_,⟨_,_,p1,p2,p3,p4,X _ _ d1,rfl,rfl,Ea X d3,f3,f4,f5,f2,congrArg FuncBody.stmts f1,fun s e v kb=>?_⟩⟩,a4,fun {h} X=>⟨_,⟨⟨nm,qn,Nn,bs,true,sn,sub,ab,col,dd,k0,k1,k2,k3,k5,_,X _ _ a2⟩,rfl⟩,fun v nv hv=>?_⟩⟩
 ·exact TF X (.of_isNs (lr X e1)) b1
 ·refine .own (X _ _ a3) (.of_isNs (lr X e2)) (fun n hn=>?_) .base
  rcases List.mem_cons.mp hn with z | hn
  ·rw [z];exact eg X e2 c1
  rcases List.mem_cons.mp hn with z | hn
  ·rw [z];exact eg X e2 c2
  ·rw [List.mem_singleton.mp hn];exact eg X e2 c3
 ·obtain ⟨k,k1,k2⟩:=f6 e v
  exact BindsTo.of_defaults rfl (kb _ _ (X _ _ d2)) rfl k1 k2
 ·unfold dh qX at hv
  rw [a2] at hv
  have:(bO C::[bO CP,.type "ValueError",.type "Exception",.type "BaseException",.type "object"]).contains v=true:=by simpa using hv
  rw [Je,nv,sZ] at this
  exact this
section
variable {P:aE}{w:aU}{K:a8}{mg:Str->Option a9}{base:bp}{N:List Str}{qual:Str}{scope:dw}{f:ah}{cd:a9}{A:b9}{outer:List Env}{s:ac}{H:Hp}{E:XK}{cls:Str->ah}
end
end
section
section
variable {c:C}{e:aQ}{g:aw->R D}{pos p:Pos}
end
end
end J
section
namespace L2
open PySem PySem.Spec PyProof.Rows
theorem Oq {ns:List Int}{its:List a9} (h:du (ns.map V.int) its):AllInts its.toArray/\numsOf its=ns:=by
 induction ns generalizing its with
 | nil=>cases h;exact ⟨fun v hv=>absurd hv (by simp),rfl⟩
 | cons n r ih =>
  cases h with
  | cons a b =>
   obtain ⟨t,rfl⟩:=a
   obtain ⟨h1,h2⟩:=ih b
   refine ⟨fun v hv=>?_,?_⟩
   ·rcases (by simpa using hv:v=.int n t\/_) with z | z
    ·exact ⟨n,t,z⟩
    ·exact h1 v (by simpa using z)
   ·show n::numsOf _=_
    rw [h2]
theorem yS {X:Cx} (hc:X.calm=true):jb X (.builtin "sum") (fun xs H Q=>∃ p,∃ ns:List Int,xs=[.ref p]/\nB X.K H p (ns.map V.int)/\Q (.int ns.sum) H):=by
 intro pins s σ H xs us Q I r h
 obtain ⟨p,ns,rfl,hq,q⟩:=h
 obtain ⟨u,rfl,rx⟩:=kz r
 cases rx
 obtain ⟨its,r',pl,hl⟩:=I.list hq
 obtain ⟨ha,hn⟩:=Oq r'
 obtain ⟨xs,hx⟩:=ha.items
 have hl:=pl.isList
 rw [hx] at hl
 have hs:preSum (numAt xs) xs.size=ns.sum:=by
  rw [<- hn,show its=its.toArray.toList from rfl,hx,nums_intItems,preSum_eq,E3 (by simp)]
 refine sum_intListG (I.ok.hd hc) hl fun h' tk t' hk=>?_
 rw [hs]
 exact ⟨.int ns.sum,H,I.kept (t':=tk) hk,⟨t',rfl⟩,q⟩
end L2
namespace L2
open PySem PySem.Spec PyProof.Rows
end L2
namespace J
open PySem L2
def Iq:D->R D
 | .list ds=>match pK ds with
  | some ns=>.ok (.int ns.sum)
  | none=>.no
 | _=>.no
theorem Ri {X:Cx} (hc:X.calm=true):Ie X (.builtin "sum") (hZ Iq):=by
 refine pF (fun d c n=>?_) fun pins s σ H x u Q Hs d d' I ru sub rx hd q=>?_
 ·unfold Iq
  split<;>(try split)<;>exact fun h=>by cases h
 ·unfold Iq at hd
  split at hd
  ·split at hd
   ·rename_i ns hs
    cases hd
    obtain ⟨a,vs,rfl,qa,ra⟩:=rx.list sub
    rw [vp hs] at ra
    rw [tR ra] at qa
    exact yS hc pins s σ H _ _ Q I (.cons ru .nil) ⟨a,ns,rfl,qa,q _ H Hs (.refl sub) (.int _)⟩
   ·cases hd
  ·cases hd
end J
end
namespace J
open PySem L2
section
end
end J
namespace L2
open PySem PySem.Spec PyProof.Rows
section
section
variable {prog:aE}{w:aU}{A:b9}{R:oZ->ac->Prop}{s:ac}
theorem AX {kx vx target iter:aQ}{ifs:List aQ}{scope:dw}{pos:Pos}{it:a9}{Da:ah}{env:Env} (I:Nat->ac->Prop)
  (turn:∀ n s,I n s->ar (aG prog w) A (jy it) (fun r s₁=>match r with
   | none=>R (.ok .next) s₁
   | some v=>ar (aG prog w) A (e_ target it v) (fun _ s₁'=>ar (aG prog w) A (jx target env v) (fun _ s₂ =>
     ar (aG prog w) A (forIn ifs true fun c r=>if r=true then do let ok <- rm c env (dU c env);pure (dR ok) else pure (dR r)) (fun ok s₃ =>
      if ok=true then ar (aG prog w) A (dU kx env) (fun x s₄=>ar (aG prog w) A (dU vx env) (fun y s₅ =>
       ar (aG prog w) A (dictSet Da x y) (fun _ s₆=>∃ m,m<n/\I m s₆) (fun _ _=>False) s₅) (fun _ _=>False) s₄) (fun _ _=>False) s₃
      else ∃ m,m<n/\I m s₃) (fun _ _=>False) s₂) (fun _ _=>False) s₁') (fun _ _=>False) s₁) (fun _ _=>False) s)
  (n:Nat) (h:I n s) :
  gN (aG prog w) A (.compLoop (.DictComp kx vx [⟨target,iter,ifs,0⟩] scope pos) 0 it (.ref Da) env) R s:=by
 refine Jq rfl I (fun n s hI=>?_) n h
 show ar _ A ((MW (.DictComp kx vx [⟨target,iter,ifs,0⟩] scope pos) 0 it (.ref Da) env).onRaise (fun x=>do J8 x env;BN x)) _ _ s
 refine MX ?_
 rw [compTurn_dict]
 have nf:∀ {α:Type}{t:Sem α}{Q:α->ac->Prop}{E':a9->ac->Prop}{s:ac},ar (aG prog w) A t Q (fun _ _=>False) s->ar (aG prog w) A t Q E' s :=
  fun h=>bi h (fun _ _ q=>q) fun _ _ f=>f.elim
 refine a7 (eF (a7 (nf (bi (turn n s hI) (fun r s₁ h₁=>?_) fun _ _ h'=>h'))))
 cases r with
 | none=>exact aa h₁
 | some v =>
  refine a7 (nf (bi h₁ (fun _ s₁' h₁'=>?_) fun _ _ h'=>h'))
  refine a7 (nf (bi h₁' (fun _ s₂ h₂=>a7 (nf (bi h₂ (fun ok s₃ h₃=>?_) fun _ _ h'=>h'))) fun _ _ h'=>h'))
  cases ok with
  | false=>exact aa ⟨rfl,h₃⟩
  | true =>
   exact a7 (a7 (nf (bi h₃ (fun x s₄ h₄=>a7 (db (nf (bi h₄ (fun y s₅ h₅=>a7 (eF (db (nf (bi h₅ (fun _ s₆ h₆=>aa ⟨rfl,h₆⟩) fun _ _ h'=>h'))))) fun _ _ h'=>h')))) fun _ _ h'=>h')))
end
def Uj (H H':Hp):Prop:=∀ b ys,H b=some (.tup ys)->H' b=some (.tup ys)
def Vk (P:aE) (w:aU) (o:Obj) (xs:List (List dv×ah×a9)):Prop:=o.ExactDict/\∃ es ep,o.data=.dict es ep/\es.toList=xs.map (entryOfKey (j0 (ej P w)))/\(xs.map (·.1)).Nodup
abbrev F4:=List (List dv×V)
theorem TH {P:aE}{w:aU}{H:Hp}{h:bp} (ok:oA P w H h) {l:F4}{m:List (List dv×ah×a9)} (q:KT H l m):∀ x∈m,(j0 (ej P w)).is h x.1 x.2.1:=by
 induction q with
 | nil=>intro x hx;exact nomatch hx
 | @cons p q ps qs hq t ih =>
  intro x hx
  rcases List.mem_cons.mp hx with e | hx
  ·subst e
   exact pp ok (by rw [<- hq.1];exact hq.2.1)
  ·exact ih x hx
inductive VZ (X:Cx) (pins:List (ah×Obj)) (N':List Str) (scope:dw) (cl:List (Str×ah)) (C:ah) (s2:ac) (H2:Hp) (fp:List ah) (nt:Nat) (ix:List Nat) (σ:St) (tn:Nat->bp->Prop) (W:Nat->Nat->F4->Hp->Prop) (n:Nat) (s':ac):Prop
 | mk (i:Nat) (acc:F4) (xs:List (List dv×ah×a9)) (oD:Obj) (H':Hp) (I:bQ (bM X N' scope cl C s2 H2 fp (X.pn++pins)) [(s2.heap.objs.size,oD)] (gL nt ix σ) H' s') (S:Vk X.prog X.w oD xs) (kt:KT H' acc xs) (ls:acc.length<=sizeLine) (t:tn i s'.heap) (f:∀ b∈fp,H' b=none) (w:W i n acc H'):VZ X pins N' scope cl C s2 H2 fp nt ix σ tn W n s'
theorem F5 {X:Cx}{kx vx tg iter:aQ}{ifs:List aQ}{scope:dw}{pos:Pos}{g:TG}{tt:TT}{te tv:TE}{N':List Str}{nt:Nat}{ix:List Nat}
  (hu:X.A.units<iE) (hc:X.calm=true) (S:jD X scope N' nt ix) (lo:MO nt g)
  (hb:∀ cl C s₀ H₀ ex pn,PG (bM X N' scope cl C s₀ H₀ ex pn) tg g/\HP (bM X N' scope cl C s₀ H₀ ex pn) ifs tt/\PE (bM X N' scope cl C s₀ H₀ ex pn) kx te/\PE (bM X N' scope cl C s₀ H₀ ex pn) vx tv)
  {cl:List (Str×ah)} (c1:∀ x c,cl.lookup x=some c->X.env.cells.lookup x=some c) (c2:∀ y∈scope.names,y.2=.free->∃ c,cl.lookup y.1=some c)
  {pins:List (ah×Obj)}{σ:St}{H2:Hp}{s2:ac}{it:ah}{fp:List ah}{tn:Nat->bp->Prop}{J:It}{Q:VK}{E:a9->ac->Prop}
  (I2:bQ X pins σ H2 s2) (T:wI X.prog X.w X.K tg J fp it tn) (st2:tn 0 s2.heap) (f2:∀ b∈fp,mU X pins H2 b)
  {W:Nat->Nat->F4->Hp->Prop} (w0:∃ m,W 0 m [] H2)
  (turn:∀ i m acc H,W i m acc H->(J.stop i H/\∀ p,H p=none->Q (.ref p) (upd H p (.dT acc))) \/
   (J.go i H/\acc.length<sizeLine/\∀ x H',J.yld i H x H'->g x (gL nt ix σ) H' fun σ2 H2=>tt σ2 H2 fun b H3 =>
    if b=true then te σ2 H3 fun y H4=>tv σ2 H4 fun v H5=>∃ k c m',y=.ref c/\H5 c=some (.tup (k.map kV))/\Uj H H5/\m'<m/\W (i + 1) m' (kC acc k v) H5 else ∃ m',m'<m/\Uj H H3/\W (i + 1) m' acc H3))
  {RR:a9->ah->oZ->ac->Prop}
  (hRR:∀ D C m s' (acc:F4) H',H' D=none->mU X pins (upd H' D (.dT acc)) C->Q (.ref D) (upd H' D (.dT acc))->s'.heap.Ns C m->(∀ h',bA C s'.heap h'->bQ X pins σ (upd H' D (.dT acc)) { s' with heap:=h' })->RR (.ref D) C (.ok .next) s') :
  ar (aG X.prog X.w) X.A newDict (fun acc s₃=>ar (aG X.prog X.w) X.A (nz scope X.env.globals cl [] X.env.qual none .none (some X.env)) (fun cenv s₄ =>
   gN (aG X.prog X.w) X.A (.compStart (.DictComp kx vx [⟨tg,iter,ifs,0⟩] scope pos) 0 (.ref it) acc { cenv with scope:=relabel scope X.env }) (RR acc cenv.locals) s₄) E s₃) E s2:=by
 refine bL (As fun h₁ hh₁=>?_)
 dsimp only at hh₁ ⊢
 generalize hG2:s2.heap.push { cls:=.type "dict",data:=.dict #[] }=G2 at hh₁ ⊢
 have hC:G2.objs.size=s2.heap.objs.size + 1:=by rw [<- hG2,c9]
 have hDC:s2.heap.objs.size≠G2.objs.size:=by rw [hC];exact aF (da _)
 have hCle:s2.heap.objs.size<=G2.objs.size:=by rw [hC];exact jp _
 have below:∀ b,b<s2.heap.objs.size->b≠G2.objs.size:=fun b hb=>by rw [hC];exact aF (dY hb)
 have kp:∀ b o,G2.get? b=some o->h₁.get? b=some o:=fun b o e=>by rw [hh₁];exact ju _ _ b o (ae _ e)
 have hns₁:h₁.Ns G2.objs.size (fun _=>none):=by rw [hh₁];exact (BO G2 (.type "dict")).keeps (ju _ _)
 have ok₁:Jr h₁ (G2.objs.size + 1) (aP (G2.objs.size + 1) scope.names []):=by rw [hh₁];exact uD G2 scope.names
 have cne:∀ x c,(aP (G2.objs.size + 1) scope.names cl).lookup x=some c->X.env.cells.lookup x=some c\/s2.heap.objs.size<c:=fun x c e=>by
  rcases jd e with a | ⟨_,a⟩
  ·exact .inr (aC (ic hCle) (ok₁.empty x c a).2)
  ·exact .inl (c1 x c a)
 have old:∀ b o,s2.heap.get? b=some o->h₁.get? b=some o:=fun b o e=>kp b o (hG2 ▸ ae _ e)
 have hacc:h₁.get? s2.heap.objs.size=some { cls:=.type "dict",data:=.dict #[] }:=kp _ _ (hG2 ▸ ay _ rfl)
 have ff:∀ b∈fp,b<s2.heap.objs.size:=fun b hb=>by
  obtain ⟨o,e,_⟩:=T.obj _ _ st2 b hb
  exact aq e
 have I3:bQ (bM X N' scope (aP (G2.objs.size + 1) scope.names cl) G2.objs.size s2 H2 fp (X.pn++pins)) [] (gL nt ix σ) H2 { s2 with heap:=h₁,toks:=s2.toks }:=wN S I2 c1 c2 f2 ff hCle hns₁ old ok₁
 obtain ⟨pg,pt,pe,pv⟩:=hb (aP (G2.objs.size + 1) scope.names cl) G2.objs.size s2 H2 fp (X.pn++pins)
 have hDfs:s2.heap.objs.size∉qc X.stack:=fun z=>by
  rcases List.mem_cons.mp (I2.stkSub _ z) with e | e
  ·exact absurd I2.lt (by rw [<- e];exact bv _)
  ·exact I2.nofs (au _) e
 have st1:tn 0 h₁:=T.keep _ _ _ st2 fun b _ o e=>old b o e
 have hDf:s2.heap.objs.size∉fp:=fun z=>absurd (ff _ z) (bv _)
 have stat:∀ {H':Hp}{pl:List (ah×Obj)},(∀ p∈pl,p.1∉fp)->(∀ b∈fp,H' b=none)->∀ b∈fp,mU (bM X N' scope (aP (G2.objs.size + 1) scope.names cl) G2.objs.size s2 H2 fp (X.pn++pins)) pl H' b:=fun hpl hn b hb=>by
  obtain ⟨f0,f1,f2',f3,f4,f5⟩:=f2 b hb
  refine ⟨hn b hb,below b (ff b hb),fun z=>?_,.inl hb,fun x c e=>(cne x c e).elim (f4 x c) fun q z=>o_ q (by rw [z];exact ff b hb),fun p hp z=>?_⟩
  ·rcases List.mem_cons.mp (I2.stkSub _ z) with e | e
   ·exact f1 e
   ·exact f2' e
  ·rcases List.mem_append.mp hp with q | q
   ·exact f5 p q z
   ·exact hpl p q (z ▸ hb)
 obtain ⟨m0,w0⟩:=w0
 have loop:gN (aG X.prog X.w) X.A (.compLoop (.DictComp kx vx [⟨tg,iter,ifs,0⟩] scope pos) 0 (.ref it) (.ref s2.heap.objs.size) (MY scope (aP (G2.objs.size + 1) scope.names cl) G2.objs.size X.env))
    (RR (.ref s2.heap.objs.size) G2.objs.size) { s2 with heap:=h₁,toks:=s2.toks }:=by
  refine AX (VZ X pins N' scope (aP (G2.objs.size + 1) scope.names cl) G2.objs.size s2 H2 fp nt ix σ tn W) ?_ m0
   ⟨0,[],[],_,H2,I3.pin1 hacc (I2.hok.fresh (au _)) hDC hDfs (fun v z=>nomatch z),⟨⟨rfl,rfl,rfl⟩,#[],0,rfl,rfl,fm⟩,.nil,cn _,st1,fun b hb=>(f2 b hb).1,w0⟩
  rintro n s3 ⟨i,acc,xs,oD,H3,J3,hS3,kt3,ls3,st3,fr3,w3⟩
  have plD:∀ p∈[(s2.heap.objs.size,oD)],p.1∉fp:=fun p hp=>by
   have:p=(s2.heap.objs.size,oD):=by simpa using hp
   rw [this];exact hDf
  have hne:(s2.heap.objs.size == eZ)=false:=by
   have:=I2.big
   simp only [beq_eq_false_iff_ne]
   exact fY this
  rcases turn i n acc H3 w3 with ⟨stop,qn⟩ | ⟨go,hlt,step⟩
  ·refine eB (T.done (bM X N' scope (aP (G2.objs.size + 1) scope.names cl) G2.objs.size s2 H2 fp (X.pn++pins)) rfl rfl rfl hc i _ s3 _ H3 _ J3 (stat plD fr3) st3 stop) fun r s4 h_0=>?_
   obtain ⟨hr,I4⟩:=h_0
   subst hr
   obtain ⟨pD,pN,_⟩:=I4.pin (s2.heap.objs.size,_) (az _ (List.mem_singleton.mpr rfl))
   obtain ⟨mm,hn,_⟩:=I4.loc
   have hCn:H3 G2.objs.size=none:=I4.free
   refine hRR _ _ mm s4 acc H3 pN (I2.fpOk hCle (by rw [bg (cW hDC)];exact hCn)) (qn _ pN) hn fun h' sb=>?_
   have hu:Un (qc X.stack) fp H2 (upd H3 s2.heap.objs.size (.dT acc)) s2.heap h':=Un.grow I4.base sb hCle (au _) pN
   refine I2.call' (s':={ s4 with heap:=h' }) (ch:=fp) I4.os hu ?_ I4.bare fun b hb=>?_
   ·obtain ⟨x1,es,ep,x2,x3,x4⟩:=hS3
    exact qf (wO I4.hok hCn sb) pN ⟨ls3,hne,xs,kt3.keeps fun c ys ec=>(by rw [bg (bR ec pN)];exact ec),oD,es,ep,(sb.2 _ hDC).trans pD,x1,x2,x3,x4⟩
   ·obtain ⟨_,f1,_,f3,f4,f5⟩:=f2 b hb
    exact ⟨f3,f1,f4,f5⟩
  ·refine eB (T.item (bM X N' scope (aP (G2.objs.size + 1) scope.names cl) G2.objs.size s2 H2 fp (X.pn++pins)) rfl rfl rfl hc i _ s3 _ H3 _ J3 (stat plD fr3) st3 go) fun r s4 h_1=>?_
   obtain ⟨u,hr,h4⟩:=h_1
   subst hr
   refine eB h4 fun _ s5 h_2=>?_
   obtain ⟨x,H5,I5,r5,y5,st5,fr5⟩:=h_2
   have I5':=I5.pinned (stat plD fr5) (T.obj _ _ st5)
   refine eB (pg _ s5 _ H5 x u _ I5' r5 (lo _ _ _ _ (step x H5 y5))) fun _ s6 h_3=>?_
   obtain ⟨σ6,H6,I6,q6,l6,k6⟩:=h_3
   have hw:∀ (j:Nat) v,(gL nt ix σ)[j]?=some (some v)->σ6[j]?=some (some v):=fun j v e=>by
    by_cases hj:nt<=j
    ·rw [k6 j hj];exact e
    ·unfold gL at e
     rw [aW (by simpa using hj),bY,if_pos (by omega)] at e
     cases e
   refine eB (pt _ s6 σ6 H6 _ I6 q6) fun b s7 h_4=>?_
   obtain ⟨H7,I7,q7⟩:=h_4
   have fpk:∀ {s8:ac}{σ8:St}{H8:Hp},bQ (bM X N' scope (aP (G2.objs.size + 1) scope.names cl) G2.objs.size s2 H2 fp (X.pn++pins)) ([(s2.heap.objs.size,oD)]++rJ fp s5.heap) σ8 H8 s8 ->
     tn (i + 1) s8.heap/\∀ b∈fp,H8 b=none:=fun {s8 σ8 H8} I8=>by
    refine ⟨T.keep _ _ _ st5 fun b hb o e=>(I8.pin (b,o) (az _ (az _ (i6 hb e)))).1,fun b hb=>?_⟩
    obtain ⟨o,e,d⟩:=T.obj _ _ st5 b hb
    exact (I8.pin (b,o) (az _ (az _ (i6 hb e)))).2.1
   cases b with
   | false =>
    simp only [bS,if_false] at q7 ⊢
    obtain ⟨m',hm,tk7,w7⟩:=q7
    obtain ⟨t7,f7⟩:=fpk I7
    exact ⟨m',hm,i + 1,acc,xs,oD,H7,(I7.weak l6.symm hw).unpinned,hS3,kt3.keeps tk7,ls3,t7,f7,w7⟩
   | true =>
    simp only [if_true] at q7 ⊢
    refine eB (pe _ s7 σ6 H7 _ I7 q7) fun u8 s8 h_5=>?_
    obtain ⟨y,Ha,Ia,ra,qa⟩:=h_5
    refine eB (pv _ s8 σ6 Ha _ Ia qa) fun u9 s9 h_6=>?_
    obtain ⟨v,H8,I8,r8,k,c,m',hy,hc8,tk8,hm,w8⟩:=h_6
    obtain ⟨t8,f8⟩:=fpk I8
    obtain ⟨pD,pN,_⟩:=I8.pin (s2.heap.objs.size,_) (az _ (bf _ (List.mem_singleton.mpr rfl)))
    subst hy
    cases ra
    have kt8:KT H8 acc xs:=kt3.keeps tk8
    obtain ⟨x1,es,ep,x2,x3,x4⟩:=hS3
    have dd:s9.heap.DictOfH (j0 (ej X.prog X.w)) s2.heap.objs.size xs:=⟨oD,es,ep,pD,x1,x2,x3,TH I8.hok kt8,x4⟩
    have lx:xs.length=acc.length:=(gO kt8).symm
    refine wpAny_dictSet_heap hu (pp I8.hok hc8) dd (fun h9 dd9 sb9=>?_) (by omega)
    obtain ⟨o9,es9,ep9,e9',y1,y2,y3,_,y4⟩:=dd9
    refine ⟨m',hm,i + 1,_,_,o9,H8,?_,⟨y1,es9,ep9,y2,y3,y4⟩,kt8.put k hc8 r8,by have:=j_ acc k v;omega,T.keep _ _ _ t8 fun b hb o e=>sb9.extBut b o (fun z=>hDf (z ▸ hb)) e,f8,w8⟩
    have I8':bQ (bM X N' scope (aP (G2.objs.size + 1) scope.names cl) G2.objs.size s2 H2 fp (X.pn++pins)) [] (gL nt ix σ) H8 s9:=(I8.weak l6.symm hw).pins_of fun p hp=>absurd hp (by simp)
    have I9:bQ (bM X N' scope (aP (G2.objs.size + 1) scope.names cl) G2.objs.size s2 H2 fp (X.pn++pins)) [] (gL nt ix σ) H8 { s9 with heap:=h9,toks:=s9.toks + (j0 (ej X.prog X.w)).draws k } :=
     I8'.turned (it:=s2.heap.objs.size) (fun b o hb e=>sb9.extBut b o hb e) pN hDC (.inr (au _)) (fun x c e z=>by
      rcases cne x c e with e | e
      ·obtain ⟨v,q⟩:=I2.cell x c e
       exact absurd q.lt (by rw [z];exact bv _)
      ·exact absurd e (by rw [z];exact bv _)) fun p hp z=>by
      have hp:p∈X.pn++pins:=(List.mem_append.mp hp).elim id fun z=>absurd z (by simp)
      exact absurd (aq (I2.pin p hp).1) (by rw [z];exact bv _)
    exact I9.pin1 e9' pN hDC hDfs (fun v z=>by rw [y2] at z;cases z)
 exact codeAny_compStart_dict loop (T.self _ 0 _ _ _ st1 loop)
inductive PU (nt:Nat) (ix:List Nat) (g:TG) (tt:TT) (te tv:TE) (σ:St) (Q:VK) (J:It) (H1:Hp):Prop
 | mk (W:Nat->Nat->F4->Hp->Prop) (w0:∃ m,W 0 m [] H1) (turn:∀ i m acc H,W i m acc H ->
 (J.stop i H/\∀ p,H p=none->Q (.ref p) (upd H p (.dT acc))) \/
 (J.go i H/\acc.length<sizeLine/\∀ x H',J.yld i H x H'->g x (gL nt ix σ) H' fun σ2 H2=>tt σ2 H2 fun b H3 =>
  if b=true then te σ2 H3 fun y H4=>tv σ2 H4 fun v H5=>∃ k c m',y=.ref c/\H5 c=some (.tup (k.map kV))/\Uj H H5/\m'<m/\W (i + 1) m' (kC acc k v) H5 else ∃ m',m'<m/\Uj H H3/\W (i + 1) m' acc H3)):PU nt ix g tt te tv σ Q J H1
def LJ (nt:Nat) (ix:List Nat) (wi:TI) (g:TG) (tt:TT) (te tv:TE):TE:=fun σ H Q=>wi σ H (PU nt ix g tt te tv σ Q)
end
end L2
namespace J
open PySem L2
section
section
variable {c:C}{pos:Pos}{x:Str}{kx vx iter tg:aQ}{ifs:List aQ}{scope:dw}{N':List Str}{nt:Nat}{ix:List Nat}{gi:aw->R (List D)}{gt:aw->R Bool}{gk gv:aw->R D}
def Rj (gk gv:aw->R D):aw->R D:=fun ρ=>(gk ρ).bind fun k=>(gv ρ).bind fun v=>match k9 k with
 | some _=>.ok (.tuple [k,v])
 | none=>.no
def Rk (acc:List (D×D)):D->List (D×D)
 | .tuple [k,v]=>m_ acc k v
 | _=>acc
def RV (ys:List D):List (D×D):=ys.foldl Rk []
def se (nt:Nat) (ix:List Nat) (gi:aw->R (List D)) (gt:aw->R Bool) (gk gv:aw->R D):aw->R D:=fun ρ=>(gi ρ).bind fun ds=>if ds.length<=1000 then (fg (fX nt (ko nt ix ρ) gt (Rj gk gv)) ds).bind fun ys=>if ys=[] then .no else .ok (.dict (RV ys)) else .no
theorem LK (ys:List D) (k v:D):RV (ys++[.tuple [k,v]])=m_ (RV ys) k v:=by
 unfold RV
 rw [List.foldl_append]
 rfl
inductive V_ (K:a8) (f:D->R (Option D)) (ds ys:List D) (H1 Hs1:Hp) (i m:Nat) (acc:F4) (H':Hp):Prop
 | mk (done bG zs ya Hs':_) (h0:ds=done++bG) (h1:done.length=i) (h2:bG.length=m) (h3:cD H1 Hs1 H' Hs') (h4:RDt K Hs' acc (RV ya)) (h5:acc.length<=i) (hne:ya≠[]->acc≠[]) (h6:fg f bG=.ok zs) (h7:ys=ya++zs):V_ K f ds ys H1 Hs1 i m acc H'
theorem LL {K:a8}{cls:Str->ah}{E:XK}{ρ:aw}{σ:St}{H:Hp}{Q:VK} (hnt:nt=1\/nt=2)
  (q:TN K cls E ρ (se nt ix gi gt gk gv ρ) σ H Q) :
  LJ nt ix (T2 K cls E ρ (gi ρ)) (AK K nt) (fun σ H Q=>∃ ρ',EM K cls E0 ρ' (gt ρ') σ H Q) (fun σ H Q=>∃ ρ',TR K cls E0 ρ' (gk ρ') σ H Q) (fun σ H Q=>∃ ρ',TR K cls E0 ρ' (gv ρ') σ H Q) σ H Q:=by
 obtain ⟨H0,Hs0,la,Hs,f,q⟩:=q
 refine ⟨H0,Hs0,la,Hs,f,?_⟩
 unfold se at q
 cases hi:gi ρ with
 | no=>rw [hi] at q;exact q
 | ex x n=>rw [hi] at q;exact q
 | ok ds =>
  rw [hi,bind_ok] at q
  intro J H1 Hs1 Hn s1 sn it
  by_cases hl:ds.length<=1000
  ·rw [if_pos hl] at q
   cases hm:fg (fX nt (ko nt ix ρ) gt (Rj gk gv)) ds with
   | no=>rw [hm] at q;exact q.elim
   | ex x n=>exact (tW (xh _ _ _ _) _ _ _ hm).elim
   | ok ys =>
    rw [hm,bind_ok] at q
    by_cases hye:ys=[]
    ·rw [if_pos hye] at q;exact q.elim
    rw [if_neg hye] at q
    obtain ⟨lb,fb⟩:=(f.step s1).block nt ix
    refine ⟨V_ K (fX nt (ko nt ix ρ) gt (Rj gk gv)) ds ys H1 Hs1,
     ⟨ds.length,[],ds,ys,[],Hs1,rfl,rfl,rfl,.refl s1.sub,.nil,cn _,fun z=>(z rfl).elim,hm,rfl⟩,?_⟩
    rintro i m acc H' ⟨done,bG,zs,ya,Hs',hds,hdl,hrl,st,ra,yl,hne,hz,hy⟩
    obtain ⟨igo,istop,iyld⟩:=it H' Hs' (sn.trans st.all) st.sh st.sub
    cases bG with
    | nil =>
     left
     cases hz
     rw [bZ] at hds hy
     subst hy hds
     exact ⟨istop i (by omega),fun p hp=>q p _ H' Hs' (s1.trans st) hp (.dT (hne hye) ra)⟩
    | cons d bG =>
     right
     have hil:i<ds.length:=by rw [hds,aN,bd];omega
     refine ⟨igo i hil,dg (by omega),fun x H2 hyl=>?_⟩
     obtain ⟨d',Hs2,hd,s2,r2⟩:=iyld i x H2 hil hyl
     have hdd:d'=d:=by
      rw [hds,bc (by omega)] at hd
      simp [hdl] at hd
      exact hd.symm
     subst hdd
     obtain ⟨o,zs',hf,hz',rfl⟩:=rV hz
     have hf:=AJ hf
     cases hb:RT nt d' (ko nt ix ρ) with
     | no=>rw [hb] at hf;cases hf
     | ex x n=>rw [hb] at hf;cases hf
     | ok ρ' =>
      rw [hb,bind_ok] at hf
      refine xg hnt ((fb.step st).step s2) r2 hb fun σ2 f2=>⟨ρ',?_⟩
      refine ⟨_,_,_,Hs2,f2,?_⟩
      cases ht:gt ρ' with
      | no=>rw [ht] at hf;cases hf
      | ex x n=>rw [ht] at hf;cases hf
      | ok b =>
       rw [ht,bind_ok] at hf
       intro H3 Hs3 s3
       cases b with
       | false =>
        rw [if_neg bq] at hf
        cases hf
        refine yD ⟨bG.length,by rw [<- hrl];simp,fun b ys e=>(s2.trans s3).all _ _ e,done++[d'],bG,zs',ya,Hs3,by rw [hds];simp,by simp [hdl],rfl,(st.trans s2).trans s3,ra.same (s2.trans s3).sh,by omega,hne,hz',by simpa using hy⟩
       | true =>
        rw [if_pos rfl] at hf
        refine yE ⟨ρ',_,_,_,Hs3,f2.step s3,?_⟩
        unfold Rj at hf
        cases he:gk ρ' with
        | no=>rw [he] at hf;cases hf
        | ex x n=>rw [he] at hf;cases hf
        | ok y =>
         rw [he,bind_ok] at hf
         intro v H4 Hs4 s4 r4
         refine ⟨ρ',_,_,_,Hs4,(f2.step s3).step s4,?_⟩
         cases hv:gv ρ' with
         | no=>rw [hv] at hf;cases hf
         | ex x n=>rw [hv] at hf;cases hf
         | ok z =>
          rw [hv,bind_ok] at hf
          intro u H5 Hs5 s5 r5
          cases hk:k9 y with
          | none=>rw [hk] at hf;cases hf
          | some ky =>
           rw [hk] at hf
           cases hf
           obtain rfl:=n8 hk
           obtain ⟨b,rfl,hb5⟩:=qo s5.sub (.inl (r4.same s5.sh))
           have sA:=((s2.trans s3).trans s4).trans s5
           exact ⟨ky,b,bG.length,rfl,hb5,fun b ys e=>sA.all _ _ e,by rw [<- hrl];simp,done++[d'],bG,zs',ya++[.tuple [tD ky,z]],Hs5,by rw [hds];simp,by simp [hdl],rfl,st.trans sA,by rw [LK];exact (ra.same sA.sh).put ky r5,by have:=j_ acc ky u;omega,fun _=>E_,hz',by rw [hy];simp⟩
  ·rw [if_neg hl] at q;exact q.elim
def F6 (c:C) (N':List Str) (scope:dw) (nt:Nat) (tg:aQ) (ifs:List aQ) (kx vx:aQ) (gt:aw->R Bool) (gk gv:aw->R D):Prop :=
 ∀ cl A s₀ H₀ ex pn,PG (c.comp N' scope cl A s₀ H₀ ex pn).X tg (AK c.X.K nt)/\RU (c.comp N' scope cl A s₀ H₀ ex pn) ifs gt/\JE (c.comp N' scope cl A s₀ H₀ ex pn) kx gk/\JE (c.comp N' scope cl A s₀ H₀ ex pn) vx gv
theorem F6.at (h:F6 c N' scope nt tg ifs kx vx gt gk gv):∀ cl A s₀ H₀ ex pn,PG (bM c.X N' scope cl A s₀ H₀ ex pn) tg (AK c.X.K nt)/\HP (bM c.X N' scope cl A s₀ H₀ ex pn) ifs (fun σ H Q=>∃ ρ',EM c.X.K c.cls E0 ρ' (gt ρ') σ H Q) /\
  PE (bM c.X N' scope cl A s₀ H₀ ex pn) kx (fun σ H Q=>∃ ρ',TR c.X.K c.cls E0 ρ' (gk ρ') σ H Q)/\PE (bM c.X N' scope cl A s₀ H₀ ex pn) vx (fun σ H Q=>∃ ρ',TR c.X.K c.cls E0 ρ' (gv ρ') σ H Q):=fun cl A s₀ H₀ ex pn=>by
 obtain ⟨h1,h2,h3,h4⟩:=h cl A s₀ H₀ ex pn
 exact ⟨h1,fun pins s σ H Q I z=>by obtain ⟨ρ',q⟩:=z;exact h2 ρ' pins s σ H Q I q,fun pins s σ H Q I z=>by obtain ⟨ρ',q⟩:=z;exact h3 ρ' pins s σ H Q I q,fun pins s σ H Q I z=>by obtain ⟨ρ',q⟩:=z;exact h4 ρ' pins s σ H Q I q⟩
end
end
end J
section
namespace L2
open PySem PySem.Spec PyProof.Rows
theorem LM {X:Cx}{kx vx tg iter:aQ}{ifs:List aQ}{scope:dw}{pos spos py:Pos}{wi:TI}{g:TG}{tt:TT}{te tv:TE}{N':List Str}{nt:Nat}{ix:List Nat}{i:Nat}{y:Str}
  (hu:X.A.units<iE) (hN:X.N.Nodup) (hiN:X.N[i]?=some y) (hy:X.env.scope.names.lookup y=some .local)
  (hc:X.calm=true) (S:jD X scope N' nt ix) (lo:MO nt g) (hi:PI X tg iter wi)
  (hb:∀ cl C s₀ H₀ ex pn,PG (bM X N' scope cl C s₀ H₀ ex pn) tg g/\HP (bM X N' scope cl C s₀ H₀ ex pn) ifs tt/\PE (bM X N' scope cl C s₀ H₀ ex pn) kx te/\PE (bM X N' scope cl C s₀ H₀ ex pn) vx tv)
  (hsw:fD (.DictComp kx vx [⟨tg,iter,ifs,0⟩] scope pos) (some (.Name y py)) spos.line X.env=pure true:=by rfl)
  (hs:∀ x,cS iter X.env x=pure x:=by intro _;rfl):PS X (.Assign [.Name y py] (.DictComp kx vx [⟨tg,iter,ifs,0⟩] scope pos) spos) (P9 i (LJ nt ix wi g tt te tv)):=by
 intro pins s σ H D I h
 obtain ⟨cl,hcl,c1,c2⟩:=nC (scope:=scope) (env:=X.env) fun y hy hf=>I.ok.has y.1 (S.free y hy hf)
 rw [MH _ _ _ _ hsw]
 refine a7 (eF (a7 ?_))
 show ar _ X.A (do let _ <- Hq (.DictComp kx vx [⟨tg,iter,ifs,0⟩] scope pos) scope X.env _ newDict false (dU iter X.env) (some (jx (.Name y py) X.env))) _ _ s
 refine a7 (bi (jr (use:=some (jx (.Name y py) X.env)) (Q:=fun _ s'=>SP X pins D .next s') rfl hs hcl S.kind S.loc
  (eB (hi pins s σ H _ I h) fun v s1 h1=>eB h1 fun itv s2 h2=>?_)) (fun _ s' hq=>aa (aa hq)) fun _ _ e=>e)
 obtain ⟨it,fp,tn,J,H2,e,I2,T,st2,f2,W,w0,turn⟩:=h2
 subst e
 refine F5 (Q:=fun x H1=>D.nx (σ.set i (some x)) H1) (RR:=fun acc C=>M_ (aG X.prog X.w) X.A X.xe (some (jx (.Name y py) X.env)) (fun _ s'=>SP X pins D .next s') acc C) hu hc S lo hb c1 c2 I2 T st2 f2 w0 turn ?_
 intro L C m s' acc H' hD fC q hn hI
 show ar _ X.A (jx (.Name y py) X.env (.ref L)) _ _ _
 have I3:bQ X pins σ (upd H' L (.dT acc)) s':=hI s'.heap (.refl ..)
 refine yo (uz I3 hN hiN (.inl hy) (v:=.ref L) rfl (fun s4 I4 ⟨a,sb,ha⟩=>?_) (.inr hy))
 obtain ⟨g0,g1,g2,g3,g4,g5⟩:=fC
 have hCa:C≠a:=by
  rcases ha with z | z
  ·rw [z];exact g1
  ·exact fun e=>g4 y a z e.symm
 refine ⟨m,hn.sameBut sb hCa,fun h5 sb5=>?_⟩
 exact ⟨_,_,I4.turned (t':=s4.toks) (fun b o hb e=>(sb5.2 b hb).trans e) g0 g1 g3 g4 g5,q⟩
end L2
namespace J
open PySem L2
section
variable {c:C}{pos:Pos}{x:Str}{kx vx iter tg:aQ}{ifs:List aQ}{scope:dw}{N':List Str}{nt:Nat}{ix:List Nat}{gi:aw->R (List D)}{gt:aw->R Bool}{gk gv:aw->R D}
theorem CT (i:Nat) {spos py:Pos} (nt:Nat) (hnt:nt=1\/nt=2) (hu:c.X.A.units + 1<iE) (hN:c.X.N.Nodup) (hc:c.X.calm=true) (S:jD c.X scope N' nt ix) (hi:JI c tg iter gi) (hb:F6 c N' scope nt tg ifs kx vx gt gk gv)
  (hiN:c.X.N[i]?=some x:=by rfl) (hy:c.X.env.scope.names.lookup x=some .local:=by rfl)
  (hsw:fD (.DictComp kx vx [⟨tg,iter,ifs,0⟩] scope pos) (some (.Name x py)) spos.line c.X.env=pure true:=by rfl)
  (hs:∀ x,cS iter c.X.env x=pure x:=by intro _;rfl):JS c (.Assign [.Name x py] (.DictComp kx vx [⟨tg,iter,ifs,0⟩] scope pos) spos) (eC i (se nt ix gi gt gk gv)):=.of fun ρ=>wX (LM (by omega) hN hiN hy hc S (wv hnt) (hi ρ) hb.at hsw hs) fun D σ H h_6=>by
 obtain ⟨H0,Hs0,la,Hs,f,q⟩:=h_6
 refine LL (Q:=fun x H1=>D.nx (σ.set i (some x)) H1) hnt (sN f q fun d a o H1 Hs1 e1 f1 n1 r1=>?_)
 unfold eC at q
 rw [e1,bind_ok] at q
 exact q _ _ Hs1 (f1.setO i n1 r1)
end
end J
end
namespace J
open PySem L2
section
def vq (i:Nat) (gk g:aw->R D):aw->R Fl:=fun ρ=>match ρ[i]? with
 | some (Sl.own (.dict kvs))=>(gk ρ).bind fun k=>match k9 k with
  | some _=>if kvs.length<1000/\gD kvs=true then match ji kvs k with
   | some (.int a)=>(g ρ).bind fun d=>match d with
    | .int b=>.ok (.nx (ρ.set i (.own (.dict (m_ kvs k (.int (a + b)))))))
    | _=>.no
   | _=>.no else .no
  | none=>.no
 | _=>.no
theorem Os {c:C}{e k:aQ}{g gk:aw->R D}{x:Str}{p pos apos:Pos} (i:Nat) (h:JE c e g) (hk:JE c k gk) (hu:c.X.A.units + 1<iE) (hN:c.X.N[i]?=some x:=by rfl) (hv:JJ c.X.env.scope x:=by first | exact gj rfl | exact dQ (gj rfl) | exact dQ (dQ rfl)) (hd:(x == ("__debug__" : Str))=false:=by decide)
  (hcd:(x == ("__classdict__" : Str))=false:=by decide) (ha:∀ ov iv new,augStore k ov iv new=(do DX [new,ov,iv] (setItem ov iv new);release [new,ov,iv] [];pure .next):=by intros;rfl):JS c (.AugAssign (.Subscript (.Name x p) k apos) .Add e pos) (vq i gk g):=.of fun ρ=>by
 refine wX (NS hu (nA hN hv hd hcd) (hk ρ) (h ρ) Qz ha) fun D σ H h_1=>?_
 obtain ⟨H0,Hs0,la,Hs,f,q⟩:=h_1
 replace q:mY c.X.K c.cls c.E H0 Hs0 la D (vq i gk g ρ):=q
 unfold vq at q
 split at q
 ·rename_i kvs ho
  obtain ⟨a,o,k1,k2,k3,k4,k5⟩:=f.ow i _ ho
  refine ⟨_,k1,sE f q fun y w H1 Hs1 e1 s1 f1 r1=>?_⟩
  rw [e1,bind_ok] at q
  split at q
  ·rename_i ky hy
   obtain rfl:=n8 hy
   by_cases hl:kvs.length<1000/\gD kvs=true
   ·rw [if_pos hl] at q
    cases k5 with
    | dK r=>exact (r.notT (by cases r with | nil=>exact hl.2 | @cons k _ _ _ _ _ _=>cases k<;>exact hl.2)).elim
    | dF n r=>cases hl.2
    | dT n r =>
     obtain ⟨b,rfl,hb⟩:=qo f1.st.sub (.inl r1)
     have ha1:=s1.all _ _ k2
     split at q
     ·rename_i z hz
      rcases r.val ky with ⟨_,h5⟩ | ⟨u,d,h4,h5,h6⟩
      ·rw [h5] at hz;cases hz
      ·rw [h5] at hz
       cases hz
       have hu:u=.int z:=by cases h6;rfl
       subst hu
       refine ⟨a,.int z,rfl,by rw [<- h4];exact tH.t ha1 hb,sE f1 q fun d2 v2 H2 Hs2 e2 s2 f2 r2=>?_⟩
       rw [e2,bind_ok] at q
       have ha2:=s2.all _ _ ha1
       have hb2:=s2.all _ _ hb
       have r':=(r.same s1.sh).same s2.sh
       cases r2 with
       | int m=>exact ⟨z,m,rfl,rfl,_,yF.t ha2 hb2 (dg (by rw [r.length];omega)),q _ _ Hs2 (f2.write i ho k1 (.dT E_ (r'.put ky (.int _))))⟩
       | list _ _=>exact q.elim
       | none=>exact q.elim
       | bool _=>exact q.elim
       | str _=>exact q.elim
       | tuple _ _=>exact q.elim
       | dictK _ _=>exact q.elim
       | dictT _ _ _=>exact q.elim
       | dictF _ _ _=>exact q.elim
     ·exact q.elim
   ·rw [if_neg hl] at q;exact q.elim
  ·exact q.elim
 ·exact q.elim
end
section
theorem LN {c:C}{tg l:aQ}{g:aw->R D} (h:JE c l g):Ji c tg l (xz g):=.of fun ρ=>by
 refine Gb (GC (h ρ)) fun σ H Q hh=>?_
 obtain ⟨H0,Hs0,la,Hs,f,q⟩:=hh
 refine yM f q fun d v H1 Hs1 e1 s1 f1 r1=>?_
 unfold xz at q
 rw [e1,bind_ok] at q
 unfold xy at q
 split at q
 ·generalize hd:((.none,.none)::_:List (D×D))=d0 at r1
  cases r1 with
  | dictK e h2=>cases h2 with
   | nil=>cases hd
   | @cons k _ _ _ _ _ _=>cases k<;>cases hd
  | dictT n e h2=>cases h2<;>cases hd
  | @dictF a o kvs es e n h2 =>
   cases hd
   exact ⟨a,o,kvs,rfl,f1.st.sub _ _ e,q _ H1 Hs1 s1 (GG e h2)⟩
 ·exact q.elim
end
end J
namespace Z
open PySem L2 J
section
def jj:aw->R Fl:=(dJ (Ci (c8 (ag (fo 1 [1] (k7 (rB 0)) kT (g2 (rB 0) (rB 1) (Cm false))) aM) (hZ (gU fun bs=>bs.any id)))))
def eu:List D->R D:=fh 2 jj
def qp:aw->R Fl:=(dJ (c8 (ag (fo 1 [1] (k7 (rB 0)) (fL (g2 (rB 0) (rB 1) (Cm true))) (rS 0)) aM) (hZ gW)))
def qq:List D->R D:=fh 2 qp
def t_:aw->R Fl:=(dJ (c8 (ag (k8 (LD (nJ (rB 0)) (nJ (rB 1)))) aM) (hZ gW)))
def u0:List D->R D:=fh 2 t_
def qr:aw->R Fl:=(aS (fQ (Jh (mI (fL (xa (rB 0) "str"))) (mI (fL (pA (kI 1) (c8 (ag (rB 0) aM) (hZ iC)) (kI 6) Pe Pe)))) (dJ (kB false)) (fun ρ=>.ok (.nx ρ))) (dJ (c8 (ag (fo 1 [] (k7 (rB 0)) kT (pA (fun _=>.ok (.str "a")) (rB 0) (fun _=>.ok (.str "z")) Pe Pe)) aM) (hZ (gU fun bs=>bs.all id)))))
def nc:List D->R D:=fh 1 qr
def gE:aw->R Fl:=(aS (fQ (Jh (mI (fL (xa (rB 0) "tuple"))) (mI (fL (c8 (ag (fo 1 [] (k7 (rB 0)) kT (fA 1 nc (ag (rS 0) aM))) aM) (hZ (gU fun bs=>bs.all id)))))) (dJ (kB false)) (fun ρ=>.ok (.nx ρ))) (dJ (c8 (ag (fo 2 [] (Oa (ag (rS 0) (ag (Ph (rB 0) (O5 (kI 1)) RQ) aM))) kT (g2 (rB 0) (rB 1) yN)) aM) (hZ (gU fun bs=>bs.all id)))))
def fi:List D->R D:=fh 1 gE
def m7:aw->R Fl:=(dJ (r9 (fA 1 fi (ag (rS 1) aM)) (c8 (ag (fo 1 [0] (k7 (rB 1)) kT (g2 (rB 0) (rB 1) (Cm false))) aM) (hZ (gU fun bs=>bs.all id)))))
def eS:List D->R D:=fh 2 m7
def nL:aw->R Fl:=(aS (fQ (Jh (mI (fL (xa (rB 0) "int"))) (fL (xa (rB 0) "bool"))) (dJ (kB false)) (fun ρ=>.ok (.nx ρ))) (dJ (pA (rB 1) (rB 0) (rB 2) Pe Pe)))
def nM:List D->R D:=fh 3 nL
def m8:aw->R Fl:=(aS (fQ (Jh (mI (fL (xa (rB 1) "tuple"))) (fL (g2 (c8 (ag (rB 1) aM) (hZ iC)) (kI 6) (oO true)))) (dJ (kB false)) (fun ρ=>.ok (.nx ρ))) (aS (yP (rS 1) (kH 6 (cx (bC 2) (cx (bC 3) (cx (bC 4) (cx (bC 5) (cx (bC 6) (cx (bC 7) lS)))))))) (aS (fQ (Jh (mI (fL (fA 1 nc (ag (rS 2) aM)))) (mI (fL (fA 3 nM (ag (rS 7) (ag (kI 0) (ag (kI 9) aM))))))) (dJ (kB false)) (fun ρ=>.ok (.nx ρ))) (aS (fQ (mI (fL (c8 (ag (fo 1 [0] (k7 (eJ (ag (rS 3) (ag (rS 4) (ag (rS 5) (ag (rS 6) aM)))) .tuple)) kT (fA 2 eS (ag (rS 1) (ag (rS 0) aM)))) aM) (hZ (gU fun bs=>bs.all id))))) (dJ (kB false)) (fun ρ=>.ok (.nx ρ))) (dJ (r9 (fA 2 eu (ag (rS 3) (ag (rS 4) aM))) (fA 2 eu (ag (rS 5) (ag (rS 6) aM)))))))))
def m9:List D->R D:=fh 8 m8
def qt:aw->R Fl:=(aS (fQ (Jh (mI (fL (xa (rB 0) "tuple"))) (fL (g2 (c8 (ag (rB 0) aM) (hZ iC)) (kI 2) (oO true)))) (dJ (kB false)) (fun ρ=>.ok (.nx ρ))) (aS (yP (rS 0) (kH 2 (cx (bC 1) (cx (bC 2) lS)))) (aS (fQ (Jh (mI (fL (fA 1 fi (ag (rS 1) aM)))) (fL (g2 (c8 (ag (rB 1) aM) (hZ iC)) (kI 6) Pf))) (dJ (kB false)) (fun ρ=>.ok (.nx ρ))) (aS (fQ (Jh (mI (fL (xa (rB 2) "tuple"))) (fL (g2 (c8 (ag (rB 2) aM) (hZ iC)) (kI 6) Pf))) (dJ (kB false)) (fun ρ=>.ok (.nx ρ))) (aS (fQ (mI (fL (c8 (ag (fo 1 [1] (k7 (rB 2)) kT (fA 2 m9 (ag (rS 1) (ag (rS 0) aM)))) aM) (hZ (gU fun bs=>bs.all id))))) (dJ (kB false)) (fun ρ=>.ok (.nx ρ))) (dJ (g2 (tY (uJ 1 [] (k7 (rB 2)) kT (g2 (rB 0) (kI 0) bw))) (c8 (ag (rB 2) aM) (hZ iC)) (oO false))))))))
def qu:List D->R D:=fh 3 qt
def qv:aw->R Fl:=(aS (fQ (Jh (mI (fL (xa (rB 1) "tuple"))) (fL (g2 (c8 (ag (rB 1) aM) (hZ iC)) (kI 2) (oO true)))) (dJ (kB false)) (fun ρ=>.ok (.nx ρ))) (aS (yP (rS 1) (kH 2 (cx (bC 2) (cx (bC 3) lS)))) (dJ (r9 (fA 2 eS (ag (g2 (rB 0) (kI 0) bw) (ag (rS 2) aM))) (r9 (fA 2 eS (ag (g2 (rB 0) (kI 0) bw) (ag (rS 3) aM))) (fA 2 eu (ag (rS 2) (ag (rS 3) aM))))))))
def qw:List D->R D:=fh 4 qv
def jR:aw->R Fl:=(fQ (mI (fL (fA 2 eS (ag (g2 (rB 0) (kI 0) bw) (ag (rS 1) aM))))) (uK "NoState" (ag (fun _=>.ok (.str "a state is a rising tuple of the book's facts, none twice")) aM)) (fun ρ=>.ok (.nx ρ)))
def jS:List D->R D:=fh 2 jR
def kJ:aw->R Fl:=(fQ (mI (fL (fA 2 qw (ag (rS 0) (ag (rS 1) aM))))) (uK "NoWant" (ag (fun _=>.ok (.str "a want is a tuple of two states with nothing in common")) aM)) (fun ρ=>.ok (.nx ρ)))
def kK:List D->R D:=fh 2 kJ
def qx:aw->R Fl:=(aS (yP (rS 1) (kH 2 (cx (bC 2) (cx (bC 3) lS)))) (dJ (r9 (c8 (ag (fo 1 [0] (k7 (rB 2)) kT (g2 (rB 0) (rB 1) (Cm false))) aM) (hZ (gU fun bs=>bs.all id))) (fA 2 eu (ag (rS 3) (ag (rS 0) aM))))))
def ng:List D->R D:=fh 4 qx
def md:aw->R Fl:=(dJ (fA 2 ng (ag (rS 1) (ag (eJ (ag (g2 (rB 0) (kI 1) bw) (ag (g2 (rB 0) (kI 2) bw) aM)) .tuple) aM))))
def mf:List D->R D:=fh 2 md
def jk:aw->R Fl:=(aS (LF 2 3 (ag (g2 (rB 0) (kI 3) bw) (ag (g2 (rB 0) (kI 4) bw) aM))) (dJ (fA 2 u0 (ag (fA 2 qq (ag (rS 1) (ag (rS 3) aM))) (ag (rS 2) aM)))))
def jl:List D->R D:=fh 4 jk
def qy:aw->R Fl:=(aS (fQ (mI (fL (fA 1 qu (ag (rS 0) aM)))) (uK "NoBook" (ag (fun _=>.ok (.str "a book is a tuple of facts and errands, each as the document tells")) aM)) (fun ρ=>.ok (.nx ρ))) (dJ (rS 0)))
def qz:List D->R D:=fh 1 qy
def jT:aw->R Fl:=(aS (vn (fA 1 qz (ag (rS 0) aM))) (vn (fA 2 jS (ag (rS 0) (ag (rS 1) aM)))))
def jU:List D->R D:=fh 2 jT
def mh:aw->R Fl:=(aS (vn (fA 2 jU (ag (rS 0) (ag (rS 1) aM)))) (vn (fA 2 kK (ag (rS 0) (ag (rS 2) aM)))))
def mi:List D->R D:=fh 3 mh
def kL:aw->R Fl:=(dJ (fo 1 [1] (k7 (g2 (rB 0) (kI 1) bw)) (fL (fA 2 mf (ag (rS 0) (ag (rS 1) aM)))) (eJ (ag (rS 0) (ag (fA 2 jl (ag (rS 0) (ag (rS 1) aM))) aM)) .tuple)))
def gF:List D->R D:=fh 2 kL
def kM:aw->R Fl:=(aS (eC 2 (PR (rS 1) (eJ aM .list))) (aS (eC 3 (eJ (ag (rS 1) aM) .list)) (aS (iD (AW (rB 3)) (aS (eC 4 (eJ aM .list)) (aS (oF 3 (bC 5) (kq (k7 (fA 2 gF (ag (rS 0) (ag (rS 5) aM)))) (kH 2 (cx (bC 6) (cx (bC 7) lS))) (fQ (fL (g2 (rB 7) (rB 2) (On true))) (aS (lB 2 (rS 7) (g2 (g2 (rB 2) (rB 5) uM) (eJ (ag (g2 (rB 6) (kI 0) bw) aM) .list) dH)) (rW 4 (rS 7))) (fun ρ=>.ok (.nx ρ))))) (Jj 4 (f_ 3 (rS 4))))) 100000) (Op 2 (dJ (rS 2))))))
def kO:List D->R D:=fh 8 kM
def kP:aw->R Fl:=(aS (eC 3 (se 1 [] (xz (rB 2)) kT (rS 0) (kI 0))) (aS (lB 3 (rS 1) (kI 1)) (aS (kq (xz (rS 2)) (bC 4) (kq (k7 (fA 2 gF (ag (rS 0) (ag (rS 4) aM)))) (kH 2 (cx (bC 5) (cx (bC 6) lS))) (fQ (fL (g2 (c8 (ag (g2 (rB 2) (rB 6) uM) aM) (hZ iC)) (g2 (c8 (ag (g2 (rB 2) (rB 4) uM) aM) (hZ iC)) (kI 1) dH) (oO false))) (vq 3 (rS 6) (g2 (rB 3) (rB 4) uM)) (fun ρ=>.ok (.nx ρ))))) (Op 3 (dJ (rS 3))))))
def kQ:List D->R D:=fh 7 kP
def qA:aw->R Fl:=(aS (eC 2 (fo 1 [1] (xz (rB 0)) (fL (fA 2 ng (ag (rS 0) (ag (rS 1) aM)))) (rS 0))) (dJ (fo 1 [0,2] (k7 (rB 2)) (fL (g2 (c8 (ag (g2 (rB 1) (rB 0) uM) aM) (hZ iC)) (c8 (ag (g2 (rB 1) (g2 (rB 2) (kI 0) bw) uM) aM) (hZ iC)) (oO false))) (rS 0))))
def jF:List D->R D:=fh 3 qA
def iP:aw->R Fl:=(aS (vn (fA 3 mi (ag (rS 0) (ag (rS 1) (ag (rS 2) aM))))) (aS (f_ 3 (fA 2 kO (ag (rS 0) (ag (rS 1) aM)))) (aS (f_ 4 (fA 3 kQ (ag (rS 0) (ag (rS 1) (ag (rS 3) aM))))) (dJ (c8 (ag (fo 1 [4] (k7 (fA 2 jF (ag (rS 3) (ag (rS 2) aM)))) kT (g2 (rB 1) (rB 0) uM)) aM) (hZ Iq))))))
def fB:List D->R D:=fh 5 iP
def jV:aw->R Fl:=(aS (fQ (fL (g2 (rB 1) (c8 (ag (rB 0) aM) (hZ iC)) yN)) (dJ (g2 (rB 0) (rB 1) bw)) (fun ρ=>.ok (.nx ρ))) (aS (fQ (fL (g2 (rB 0) (eJ aM .list) (oO false))) (dJ (kI 0)) (fun ρ=>.ok (.nx ρ))) (dJ (g2 (g2 (g2 (rB 0) (g2 (rB 1) (c8 (ag (rB 0) aM) (hZ iC)) H_) bw) (kI 31) vU) (rB 1) dH))))
def jW:List D->R D:=fh 2 jV
def mj:aw->R Fl:=(aS (f_ 3 (g2 (g2 (g2 (g2 (fA 2 jW (ag (rS 0) (ag (rS 1) aM))) (g2 (kI 7919) (rB 1) vU) dH) (kI 1) dH) (kI 48271) vU) (kI 2147483647) H_)) (dJ (g2 (g2 (g2 (g2 (g2 (rB 3) (rB 3) vU) (g2 (kI 7) (rB 3) vU) dH) (rB 1) dH) (kI 2147483629) H_) (rB 2) H_)))
def bu:List D->R D:=fh 4 mj
def nN:aw->R Fl:=(aS (f_ 2 (fun _=>.ok (.str ""))) (aS (kq (vo (ag (g2 (eJ (ag (kI 1) (ag (kI 2) (ag (kI 3) (ag (kI 6) (ag (kI 1) (ag (kI 4) aM)))))) .list) (fA 3 bu (ag (rS 0) (ag (rS 1) (ag (kI 6) aM)))) bw) aM)) (bC 3) (f_ 2 (g2 (rB 2) (g2 (fun _=>.ok (.str "abcdefghijklmnopqrstuvwxyz")) (fA 3 bu (ag (rS 0) (ag (g2 (g2 (rB 1) (kI 1) dH) (rB 3) dH) (ag (kI 26) aM)))) bw) dH))) (dJ (rS 2))))
def jG:List D->R D:=fh 4 nN
def ml:aw->R Fl:=(aS (eC 3 (fun _=>.ok (.dict []))) (aS (kq (vo (ag (fA 3 bu (ag (rS 0) (ag (rS 1) (ag (g2 (rB 2) (kI 1) dH) aM)))) aM)) (bC 4) (AO 3 (fA 2 jG (ag (rS 0) (ag (g2 (g2 (rB 1) (kI 1) dH) (g2 (kI 8) (rB 4) vU) dH) aM))) (kB true))) (dJ (c8 (ag (c8 (ag (c8 (ag (rB 3) aM) (hZ jQ)) aM) (hZ qm)) aM) (hZ gW)))))
def mn:List D->R D:=fh 5 ml
def nO:aw->R Fl:=(dJ (c8 (ag (fo 2 [0,1,3] (EW (ag (rS 2) aM)) (fL (g2 (fA 3 bu (ag (rS 2) (ag (g2 (rB 3) (rB 0) dH) (ag (kI 12) aM)))) (rB 4) yN)) (rS 1)) aM) (hZ gW)))
def nP:List D->R D:=fh 4 nO
def nQ:aw->R Fl:=(aS (f_ 4 (g2 (rB 2) (fA 3 bu (ag (rS 0) (ag (g2 (rB 1) (kI 10) dH) (ag (c8 (ag (rB 2) aM) (hZ iC)) aM)))) bw)) (aS (f_ 5 (g2 (rB 2) (fA 3 bu (ag (rS 0) (ag (g2 (rB 1) (kI 11) dH) (ag (c8 (ag (rB 2) aM) (hZ iC)) aM)))) bw)) (aS (f_ 6 (g2 (rB 2) (fA 3 bu (ag (rS 0) (ag (g2 (rB 1) (kI 12) dH) (ag (c8 (ag (rB 2) aM) (hZ iC)) aM)))) bw)) (aS (f_ 7 (Ph (eJ (ag (rS 4) (ag (rS 5) aM)) .list) RQ (O5 (g2 (kI 1) (g2 (fA 3 bu (ag (rS 0) (ag (g2 (rB 1) (kI 13) dH) (ag (kI 3) aM)))) (kI 2) KB) dH)))) (aS (eC 8 (fo 1 [7,0,1] (k7 (eJ (ag (rS 6) aM) .list)) (AD (fL (g2 (rB 0) (rB 1) (Cm true))) (fL (g2 (fA 3 bu (ag (rS 2) (ag (g2 (rB 3) (kI 14) dH) (ag (kI 4) aM)))) (kI 0) (oO false)))) (rS 0))) (aS (eC 9 (fo 1 [6,0,1] (k7 (eJ (ag (rS 4) aM) .list)) (AD (fL (g2 (rB 0) (rB 1) (oO true))) (fL (g2 (fA 3 bu (ag (rS 2) (ag (g2 (rB 3) (kI 15) dH) (ag (kI 3) aM)))) (kI 0) (oO false)))) (rS 0))) (aS (Jj 8 (Jj 9 (eC 10 (fo 1 [] (k7 (eJ (ag (rS 7) (ag (rS 8) (ag (eJ (ag (rS 6) aM) .list) (ag (rS 9) aM)))) .tuple)) kT (c8 (ag (k8 (nJ (rB 0))) aM) (hZ gW)))))) (dJ (eJ (ag (rS 3) (ag (g2 (rB 10) (kI 0) bw) (ag (g2 (rB 10) (kI 1) bw) (ag (g2 (rB 10) (kI 2) bw) (ag (g2 (rB 10) (kI 3) bw) (ag (fA 3 bu (ag (rS 0) (ag (rS 1) (ag (kI 5) aM)))) aM)))))) .tuple)))))))))
def nR:List D->R D:=fh 11 nQ
def ip:aw->R Fl:=(aS (fQ (AD (fL (g2 (rB 2) (eJ aM .tuple) (oO true))) (fL (g2 (fA 3 bu (ag (rS 0) (ag (kI 97) (ag (kI 2) aM)))) (kI 0) (oO false)))) (dJ (fA 4 nR (ag (rS 0) (ag (rS 1) (ag (rS 2) (ag (rS 3) aM)))))) (fun ρ=>.ok (.nx ρ))) (aS (Of 4) (aS (kq (EW (ag (rS 2) aM)) (kH 2 (cx (bC 5) (cx (bC 6) lS))) (aS (f_ 7 (fA 3 bu (ag (rS 0) (ag (g2 (g2 (rB 1) (kI 10) dH) (rB 5) dH) (ag (kI 8) aM))))) (aS (fQ (fL (g2 (rB 7) (kI 3) yN)) (n5 4 (g2 (eJ (ag (kI 0) (ag (kI 0) (ag (kI 1) aM))) .list) (rB 7) bw) (rS 6)) (fun ρ=>.ok (.nx ρ))) (aS (f_ 7 (fA 3 bu (ag (rS 0) (ag (g2 (g2 (rB 1) (kI 20) dH) (rB 5) dH) (ag (kI 8) aM))))) (fQ (fL (g2 (rB 7) (kI 4) yN)) (n5 4 (g2 (eJ (ag (kI 2) (ag (kI 2) (ag (kI 3) (ag (kI 3) aM)))) .list) (rB 7) bw) (rS 6)) (fun ρ=>.ok (.nx ρ))))))) (aS (fun ρ=>(eC 8 (fo 1 [] (k7 (rB 4)) kT (c8 (ag (rB 0) aM) (hZ gW)))) (fe ρ)) (dJ (eJ (ag (rS 3) (ag (g2 (rB 8) (kI 0) bw) (ag (g2 (rB 8) (kI 1) bw) (ag (g2 (rB 8) (kI 2) bw) (ag (g2 (rB 8) (kI 3) bw) (ag (fA 3 bu (ag (rS 0) (ag (rS 1) (ag (kI 5) aM)))) aM)))))) .tuple))))))
def iq:List D->R D:=fh 9 ip
def lC:aw->R Fl:=(aS (f_ 4 (fA 3 mn (ag (rS 0) (ag (rS 1) (ag (rS 2) aM))))) (aS (eC 5 (fun _=>.ok (.dict []))) (aS (kq (vo (ag (fA 3 bu (ag (rS 0) (ag (g2 (rB 1) (kI 60) dH) (ag (g2 (rB 3) (kI 1) dH) aM)))) aM)) (bC 6) (aS (f_ 7 (fA 2 jG (ag (rS 0) (ag (g2 (g2 (rB 1) (kI 70) dH) (g2 (kI 40) (rB 6) vU) dH) aM)))) (AO 5 (rS 7) (fA 4 iq (ag (rS 0) (ag (g2 (g2 (rB 1) (kI 80) dH) (g2 (kI 40) (rB 6) vU) dH) (ag (rS 4) (ag (rS 7) aM)))))))) (aS (f_ 8 (c8 (ag (rB 5) aM) (hZ jQ))) (aS (f_ 9 (fA 3 bu (ag (rS 0) (ag (g2 (rB 1) (kI 61) dH) (ag (g2 (c8 (ag (rB 8) aM) (hZ iC)) (kI 1) dH) aM))))) (dJ (eJ (ag (rS 4) (ag (c8 (ag (fo 1 [5] (k7 (g2 (Ph (rB 8) (O5 (rS 9)) RQ) (Ph (rB 8) RQ (O5 (rS 9))) dH)) kT (g2 (rB 1) (rB 0) bw)) aM) (hZ gW)) aM)) .tuple)))))))
def lD:List D->R D:=fh 10 lC
def lE:aw->R Fl:=(aS (eC 3 (eJ aM .list)) (aS (eC 4 (eJ aM .list)) (aS (kq (EW (ag (rS 2) aM)) (kH 2 (cx (bC 5) (cx (bC 6) lS))) (aS (f_ 7 (fA 3 bu (ag (rS 0) (ag (g2 (rB 1) (rB 5) dH) (ag (kI 8) aM))))) (fQ (fL (g2 (rB 7) (kI 2) yN)) (rW 3 (rS 6)) (fQ (fL (g2 (rB 7) (kI 2) (oO false))) (rW 4 (rS 6)) (fun ρ=>.ok (.nx ρ)))))) (dJ (eJ (ag (c8 (ag (rB 3) aM) (hZ gW)) (ag (c8 (ag (rB 4) aM) (hZ gW)) aM)) .tuple)))))
def sg:List D->R D:=fh 8 lE
def nU:aw->R Fl:=(aS (f_ 3 (fA 4 lD (ag (rS 0) (ag (kI 100) (ag (rS 1) (ag (rS 2) aM)))))) (aS (f_ 4 (fA 4 nP (ag (rS 0) (ag (kI 20) (ag (g2 (rB 3) (kI 0) bw) (ag (g2 (eJ (ag (kI 2) (ag (kI 4) aM)) .list) (fA 3 bu (ag (rS 0) (ag (kI 97) (ag (kI 2) aM)))) bw) aM)))))) (dJ (eJ (ag (rS 3) (ag (rS 4) (ag (fA 3 sg (ag (rS 0) (ag (kI 30) (ag (g2 (rB 3) (kI 0) bw) aM)))) aM))) .tuple))))
def nV:List D->R D:=fh 5 nU
def nW:aw->R Fl:=(dJ (r9 (c8 (ag (fo 1 [0] (k7 (g2 (rB 1) (kI 0) bw)) kT (g2 (rB 0) (rB 1) (Cm false))) aM) (hZ (gU fun bs=>bs.all id))) (Ci (c8 (ag (fo 1 [0] (k7 (g2 (rB 1) (kI 1) bw)) kT (g2 (rB 0) (rB 1) (Cm false))) aM) (hZ (gU fun bs=>bs.any id))))))
def gG:List D->R D:=fh 2 nW
def nX:aw->R Fl:=(aS (fQ (mI (fL (fA 2 gG (ag (rS 1) (ag (Ph (rB 0) (O5 (kI 1)) (O5 (kI 3))) aM))))) (dJ kN) (fun ρ=>.ok (.nx ρ))) (aS (eC 2 (fo 1 [0] (k7 (rB 1)) (fL (g2 (rB 0) (g2 (rB 1) (kI 4) bw) (Cm true))) (rS 0))) (dJ (c8 (ag (k8 (nJ (g2 (rB 2) (c8 (ag (g2 (rB 0) (kI 3) bw) aM) (hZ jQ)) dH))) aM) (hZ gW)))))
def iU:List D->R D:=fh 3 nX
def kR:aw->R Fl:=(aS (eC 2 (PR (rS 1) (kI 0))) (aS (eC 3 (eJ (ag (rS 1) aM) .list)) (aS (f_ 4 (kI 0)) (aS (iD (fL (g2 (rB 4) (c8 (ag (rB 3) aM) (hZ iC)) yN)) (aS (kq (k7 (g2 (rB 0) (kI 1) bw)) (bC 5) (aS (f_ 6 (fA 2 iU (ag (rS 5) (ag (g2 (rB 3) (rB 4) bw) aM)))) (fQ (AD (fL (g2 (rB 6) kN (G4 true))) (fL (g2 (rB 6) (rB 2) (On true)))) (aS (lB 2 (rS 6) (g2 (g2 (rB 2) (g2 (rB 3) (rB 4) bw) uM) (kI 1) dH)) (rW 3 (rS 6))) (fun ρ=>.ok (.nx ρ))))) (f_ 4 (g2 (rB 4) (kI 1) dH))) 100000) (Op 2 (dJ (rS 2)))))))
def kS:List D->R D:=fh 7 kR
def qB:aw->R Fl:=(aS (f_ 3 (fA 2 kS (ag (rS 0) (ag (rS 1) aM)))) (aS (eC 4 (fo 1 [2,3] (xz (rB 3)) (fL (fA 2 gG (ag (rS 0) (ag (rS 1) aM)))) (g2 (rB 2) (rB 0) uM))) (aS (fQ (fL (g2 (rB 4) (eJ aM .list) (oO false))) (dJ kN) (fun ρ=>.ok (.nx ρ))) (dJ (c8 (ag (rB 4) aM) (hZ F2))))))
def le:List D->R D:=fh 5 qB
def mo:aw->R Fl:=(aS (eC 4 (eJ (ag (rS 1) aM) .list)) (aS (kq (vo (ag (rB 3) aM)) (bC 5) (aS (eC 6 (eJ aM .list)) (aS (oF 4 (bC 7) (kq (k7 (g2 (rB 0) (kI 1) bw)) (bC 8) (aS (f_ 9 (fA 2 iU (ag (rS 8) (ag (rS 7) aM)))) (fQ (fL (g2 (rB 9) kN (G4 true))) (rW 6 (rS 9)) (fun ρ=>.ok (.nx ρ)))))) (Jj 6 (f_ 4 (rS 6)))))) (dJ (c8 (ag (fo 1 [2] (k7 (rB 4)) (fL (fA 2 gG (ag (rS 0) (ag (rS 1) aM)))) (rS 0)) aM) (hZ iC)))))
def mq:List D->R D:=fh 10 mo
def GI:aw->R Fl:=(aS (yP (fA 3 nV (ag (rS 0) (ag (kI 5) (ag (kI 5) aM)))) (kH 3 (cx (bC 1) (cx (bC 2) (cx (bC 3) lS))))) (aS (f_ 4 (fA 3 le (ag (rS 1) (ag (rS 2) (ag (rS 3) aM))))) (aS (f_ 5 (fA 3 fB (ag (rS 1) (ag (rS 2) (ag (rS 3) aM))))) (aS (fQ (fL (g2 (rB 4) kN (G4 false))) (dJ (g2 (rB 5) (kI 0) (oO false))) (fun ρ=>.ok (.nx ρ))) (dJ (r9 (g2 (rB 5) (kI 0) Pf) (O0 (g2 (rB 4) (kI 4) Pf) (g2 (rB 5) (fA 4 mq (ag (rS 1) (ag (rS 2) (ag (rS 3) (ag (rS 4) aM))))) (oO false)))))))))
def F_law:List D->R D:=fh 6 GI
end
end Z
section
set_option hygiene false
namespace Z
open PySem L2 J
local macro_rules | `(tactic| walk_at "zz") => `(tactic| simp only [Tx, Rg, Tz, TC, TD, CC, tZ, CD, T9, KS, KU, Pl, Ta, Gh, CF, Gi, CG, CH, CI, KW, KY, KZ, Gj, K_, Gk, Tc, Pn, Po, L3, Pp, L4, Pq, Tf, L5, Pr, L6, Gm, L7, Pu, Gn, L8, Go, L9, La, Lb, Le, CJ, CK, Pw, Lf, Gp, Lg, Tk, Py, Pz, Lh, PB, Li, Lj, PD, PF, Lk, Tp, Ll, Lm, PH, PJ, Ln, R4, Lo, PK, PL, Lp, Gq, Gr, PP, zI, zJ, zK, Lr, Tr, Lu, Lv, Lw, Lx, Ly, Lz, zM, rZ, dH, vU, H_, KB, EO, yN, Pe, Pf, Ic, iC, ap, dA, bd, cq, ao, MM, pd, Hx, Hy, uo, uq, Nat.reduceSub, Nat.reduceAdd, Nl, Nm, Nat.sub_self, if_true, if_false, ite_true, ite_false, bS, decide_true, decide_false, cond_true, cond_false, nu, jw, au, cn, Eo, Int.reduceLE, Int.reduceAdd, Int.reduceMul, Nat.reduceLT, Int.reduceNeg, reduceIte])
local macro_rules | `(tactic| walk_at "yy") => `(tactic| simp only [Tx, Rg, Tz, TC, TD, CC, tZ, CD, Pl, Ta, Gh, CF, Gi, CG, CH, CI, KW, KY, KZ, Gj, K_, Gk, Tc, Pn, Po, L3, Pp, L4, Pq, Tf, L5, Pr, L6, Gm, L7, Pu, Gn, L8, Go, L9, La, Lb, Le, CJ, CK, Pw, Lf, Gp, Lg, Tk, Py, Pz, Lh, PB, Li, Lj, PD, PF, Lk, Tp, Ll, Lm, PH, PJ, Ln, R4, Lo, PK, PL, Lp, Gq, Gr, PP, zI, zJ, zK, Lr, Tr, Lu, Lv, Lw, Lx, Ly, Lz, zM, rZ, dH, iC, ap, dA, bd, cq, ao, MM, pd, Hx, Hy, uo, uq, Nat.reduceSub, Nat.reduceAdd, Nl, Nm, Nat.sub_self, if_true, if_false, ite_true, ite_false, bS, decide_true, decide_false, cond_true, cond_false, nu, jw, au, cn, Eo, Int.reduceLE, Int.reduceAdd, Int.reduceMul, Nat.reduceLT, Int.reduceNeg, reduceIte])
theorem cE {n:Nat}{g:aw->R Fl}{ds:List D}{d:D} (h:g (bX n ds)=.ok (.rt d)):fh n g ds=.ok d:=by unfold fh;rw [h]
def GJ (ns:List Int) (k:Int):Int:=if k<ns.length then ns.getD k.toNat 0 else if ns=[] then 0 else ns.getD (k % ns.length).toNat 0 * 31 + k
theorem LO (ns:List Int):cL (ns.map .int)=true:=by
 induction ns with
 | nil=>rfl
 | cons x r ih=>simp [cL,ii,ih]
theorem Ot (ns:List Int):aZ (.list (ns.map .int)) (.list [])=decide (ns=[]):=by
 cases ns with
 | nil=>rfl
 | cons x r=>simp [aZ,gS]
theorem Rl (ns:List Int):oO false (.list (ns.map .int)) (.list [])=.ok (.bool (decide (ns=[]))):=by
 unfold oO
 have h1:(gy (ns.map .int)).canLay0=true:=by simp only [ii];exact LO ns
 have h2:(gy []).canLay0=true:=rfl
 have h3:min (gy (ns.map .int)).depth (gy []).depth<=60:=bU (oM _ _) (by decide)
 rw [h1,h2,decide_eq_true h3,Ot]
 rfl
theorem Rm (ns:List Int) (k:Int) (h0:0<=k) (h1:k<ns.length):EB (ns.map bB) k=some (.int (ns.getD k.toNat 0)):=by
 have hk:k.toNat<ns.length:=by omega
 have:=tq (xs:=ns.map bB) (j:=k.toNat) (v:=.int (ns.getD k.toNat 0)) (by rw [aX,aY hk];simp [hk])
 rwa [eV h0] at this
theorem LP (ns:List Int) (k:Int) (h0:0<=k) (h1:k<ns.length):bw (.list (ns.map .int)) (.int k)=.ok (.int (ns.getD k.toNat 0)):=by
 have e:∀ xs k,bw (.list xs) k=EU (.list xs) k:=fun _ _=>rfl
 rw [e]
 unfold EU
 simp only [Rm ns k h0 h1]
theorem GK {i j:Int} (h1:-(2 ^ 64)<j) (h2:j<2 ^ 64):zD i j=true:=by
 unfold zD
 simp only [j5,aO,decide_eq_true_eq]
 exact .inr ⟨h1,h2⟩
theorem qC {i j:Int} (h1:-(2 ^ 64)<i) (h2:i<2 ^ 64):zD i j=true:=by
 unfold zD
 simp only [j5,aO,decide_eq_true_eq]
 exact .inl ⟨h1,h2⟩
theorem Ou (ns:List Int) (k:Int) (hk:0<=k):jW [.list (ns.map .int),.int k]=.ok (.int (GJ ns k)):=by
 unfold jW
 refine cE ?_
 unfold jV bX GJ
 walk_at "zz"
 by_cases h:k<ns.length
 ·simp only [h,decide_true,cond_true,if_true,LP ns k hk h,bind_ok]
  walk_at "zz"
 ·simp only [h,decide_false,cond_false,if_false]
  walk_at "zz"
  rw [Rl]
  walk_at "zz"
  by_cases h2:ns=[]
  ·simp only [h2,decide_true,cond_true,if_true]
   walk_at "zz"
  ·have hl:(0:Int)<ns.length:=by have:0<ns.length:=List.length_pos_iff.mpr h2;omega
   simp only [h2,decide_false,cond_false,if_false,hl,decide_true]
   walk_at "zz"
   simp only [h2,decide_false,cond_false,if_false,hl,decide_true,if_true]
   walk_at "zz"
   rw [LP ns _ (q9 _ (by omega)) (mF _ hl)]
   walk_at "zz"
   rw [GK (by decide) (by decide)]
   walk_at "zz"
def xB (ns:List Int) (k:Int):Int:=(GJ ns k + 7919 * k + 1) * 48271 % 2147483647
def eX (ns:List Int) (k m:Int):Int:=(xB ns k * xB ns k + 7 * xB ns k + k) % 2147483629 % m
theorem fH (ns:List Int) (k m:Int) (h:0<m):0<=eX ns k m:=q9 _ (by omega)
theorem gH (ns:List Int) (k m:Int) (h:0<m):eX ns k m<m:=mF _ h
theorem fw (ns:List Int) (k m:Int) (hk:0<=k) (hm:0<m):bu [.list (ns.map .int),.int k,.int m]=.ok (.int (eX ns k m)):=by
 have d0:0<=xB ns k:=q9 _ (by decide)
 have d1:xB ns k<2147483647:=mF _ (by decide)
 unfold bu
 refine cE ?_
 unfold mj bX
 walk_at "zz"
 rw [Ou ns k hk]
 walk_at "zz"
 rw [qC (by decide) (by decide)]
 walk_at "zz"
 rw [GK (by decide) (by decide)]
 walk_at "zz"
 rw [show (GJ ns k + 7919 * k + 1) * 48271 % 2147483647=xB ns k from rfl,qC (i:=xB ns k) (by omega) (by omega)]
 walk_at "zz"
 rw [qC (i:=7) (by decide) (by decide)]
 walk_at "zz"
 rw [decide_eq_true hm]
 walk_at "zz"
 rfl
theorem pL {α β:Type}{kt:D->aw->R aw}{gb:aw->R Fl} (c:α->D) (f:β->α->β) (P:List α->β->aw->Prop) (h:∀ x bG b ρ,P (x::bG) b ρ->∃ ρ1 ρ',kt (c x) ρ=.ok ρ1/\gb ρ1=.ok (.nx ρ')/\P bG (f b x) ρ') :
  ∀ (xs:List α) (b:β) (ρ:aw),P xs b ρ->∃ ρ',iT kt gb (xs.map c) ρ=.ok (.nx ρ')/\P [] (xs.foldl f b) ρ'
 | [],b,ρ,p=>⟨ρ,rfl,p⟩
 | x::r,b,ρ,p=>by
  obtain ⟨ρ1,ρ2,h1,h2,h3⟩:=h x r b ρ p
  obtain ⟨ρ3,h4,h5⟩:=pL c f P h r (f b x) ρ2 h3
  refine ⟨ρ3,?_,h5⟩
  rw [ap]
  unfold iT
  rw [h1]
  simp only [h2]
  exact h4
theorem GL {α β:Type}{kt:D->aw->R aw}{gb hh:aw->R Fl}{r:R Fl} (c:α->D) (f:β->α->β) (P:List α->β->aw->Prop) {xs:List α} (b:β) {ρ:aw}
  (h:∀ x bG b ρ,P (x::bG) b ρ->∃ ρ1 ρ',kt (c x) ρ=.ok ρ1/\gb ρ1=.ok (.nx ρ')/\P bG (f b x) ρ') (p0:P xs b ρ) (k:∀ ρ',P [] (xs.foldl f b) ρ'->hh ρ'=r):(iT kt gb (xs.map c) ρ).bind (Oh hh)=r:=by
 obtain ⟨ρ',e,p⟩:=pL c f P h xs b ρ p0
 rw [e,bind_ok,tZ]
 exact k ρ' p
theorem AY (n:Nat) (h:n<=1000):EV [.int (n:Int)]=.ok ((bD n).map fun (i:Nat)=>bB (i:Int)):=by
 have e:EV [.int (n:Int)]=.ok (jg 0 (n:Int).toNat):=Gs (by omega) (by omega)
 rw [e]
 unfold jg
 rw [jz]
 exact congrArg R.ok (dZ fun a _=>congrArg bB (Int.zero_add _))
def BL (x:Str):Bool:=decide (1<=x.cps.size) && decide (x.cps.size<=6/\x.cps.size≠5) && x.cps.toList.all fun c=>decide (97<=c) && decide (c<=122)
def re (ns:List Int) (k:Int):Nat:=[1,2,3,6,1,4].getD (eX ns k 6).toNat 0
def AZ (ns:List Int) (k:Int) (i:Nat):Nat:=97 + (eX ns (k + 1 + i) 26).toNat
def kc (ns:List Int) (k:Int):Str:=⟨((bD (re ns k)).map (AZ ns k)).toArray⟩
theorem GM (ns:List Int) (k:Int):1<=re ns k/\(re ns k<=6/\re ns k≠5):=by
 have h0:=fH ns k 6 (by decide)
 have h1:=gH ns k 6 (by decide)
 unfold re
 have:∀ j:_root_.Fin 6,1<=[1,2,3,6,1,4].getD j.val 0/\([1,2,3,6,1,4].getD j.val 0<=6/\[1,2,3,6,1,4].getD j.val 0≠5):=by decide
 exact this ⟨(eX ns k 6).toNat,by omega⟩
theorem Ov (ns:List Int) (k:Int) (i:Nat):97<=AZ ns k i/\AZ ns k i<=122:=by
 have h0:=fH ns (k + 1 + i) 26 (by decide)
 have h1:=gH ns (k + 1 + i) 26 (by decide)
 unfold AZ
 omega
theorem CU (ns:List Int) (k:Int):BL (kc ns k)=true:=by
 have ⟨h1,h2⟩:=GM ns k
 unfold BL kc
 simp only [aR,ao,eI,aO,decide_eq_true_eq,cr]
 refine ⟨⟨h1,h2⟩,fun c hc=>?_⟩
 obtain ⟨i,_,rfl⟩:=List.mem_map.mp hc
 exact Ov ns k i
theorem LQ (j:Int) (h0:0<=j) (h1:j<26):bw (.str "abcdefghijklmnopqrstuvwxyz") (.int j)=.ok (.str ⟨#[97 + j.toNat]⟩):=by
 have e:∀ x k,bw (.str x) k=EU (.str x) k:=fun _ _=>rfl
 rw [e]
 unfold EU
 have hc:("abcdefghijklmnopqrstuvwxyz" : Str).cps.toList=(bD 26).map (97 + ·):=by decide +kernel
 have hl:("abcdefghijklmnopqrstuvwxyz" : Str).length<=1000:=by decide +kernel
 have hj:j.toNat<26:=by omega
 have hx:=tq (xs:=(bD 26).map (97 + ·)) (j:=j.toNat) (v:=97 + j.toNat) (by rw [aX,Hu hj];rfl)
 rw [eV h0] at hx
 simp only [hl,if_true,hc,hx]
theorem Ow (j:Int) (h0:0<=j) (h1:j<6):bw (.list [.int 1,.int 2,.int 3,.int 6,.int 1,.int 4]) (.int j)=.ok (.int (([1,2,3,6,1,4].getD j.toNat 0:Nat):Int)):=by
 obtain ⟨n,rfl⟩:=Int.eq_ofNat_of_zero_le h0
 have hn:n<6:=by omega
 match n,hn with
 | 0,_=>rfl
 | 1,_=>rfl
 | 2,_=>rfl
 | 3,_=>rfl
 | 4,_=>rfl
 | 5,_=>rfl
theorem A_ (l:List Nat):∀ (acc:Str),l.foldl (fun (a:Str) c=>a++⟨#[c]⟩) acc=⟨(acc.cps.toList++l).toArray⟩:=by
 induction l with
 | nil=>intro acc;simp
 | cons c r ih =>
  intro acc
  rw [cf,ih]
  show (⟨((acc.cps++#[c]).toList++r).toArray⟩:Str)=_
  simp
theorem Ir:("" : Str).cps.toList=[]:=by decide +kernel
theorem GN (ns:List Int) (k:Int) (hk:0<=k):jG [.list (ns.map .int),.int k]=.ok (.str (kc ns k)):=by
 have h0:=fH ns k 6 (by decide)
 have h1:=gH ns k 6 (by decide)
 have ⟨w1,w2⟩:=GM ns k
 unfold jG
 refine cE ?_
 unfold nN bX
 walk_at "zz"
 rw [n6 (ds:=(bD (re ns k)).map fun (i:Nat)=>bB i)]
 ·refine GL (fun (i:Nat)=>bB i) (fun (a:Str) i=>a++⟨#[AZ ns k i]⟩) (fun bG a ρ=>a.length + bG.length<=900/\∃ z,ρ=[.shr (.list (ns.map .int)),.shr (.int k),.shr (.str a),z]) "" ?_ ⟨by rw [eI,show ("" : Str).length=0 by decide];omega,_,rfl⟩ ?_
  ·rintro i bG a ρ ⟨hl,z,rfl⟩
   simp only [bd] at hl
   refine ⟨_,[.shr (.list (ns.map .int)),.shr (.int k),.shr (.str (a++⟨#[AZ ns k i]⟩)),.shr (.int i)],rfl,?_,?_,_,rfl⟩
   ·walk_at "zz"
    rw [fw ns _ 26 (by omega) (by decide)]
    walk_at "zz"
    rw [LQ _ (fH _ _ _ (by decide)) (gH _ _ _ (by decide))]
    walk_at "zz"
    have hz:a.length + (⟨#[97 + (eX ns (k + 1 + i) 26).toNat]⟩:Str).length<=1000:=by
     show a.length + 1<=1000
     omega
    rw [if_pos hz]
    walk_at "zz"
    rw [show 97 + (eX ns (k + 1 + i) 26).toNat=AZ ns k i from rfl]
   ·show (a.cps++#[_]).size + bG.length<=900
    rw [Array.size_append]
    show a.cps.size + 1 + bG.length<=900
    have:a.length=a.cps.size:=rfl
    omega
  ·rintro ρ' ⟨_,z,rfl⟩
   walk_at "zz"
   have:(bD (re ns k)).foldl (fun (a:Str) i=>a++⟨#[AZ ns k i]⟩) ""=kc ns k:=by
    have:=A_ ((bD (re ns k)).map (AZ ns k)) ""
    rw [List.foldl_map] at this
    rw [this,Ir]
    unfold kc
    rw [pd]
   rw [this]
 ·walk_at "zz"
  rw [fw ns k 6 hk (by decide)]
  walk_at "zz"
  have et:=Ow (eX ns k 6) h0 h1
  have ew:[1,2,3,6,1,4].getD (eX ns k 6).toNat 0=re ns k:=rfl
  rw [ew] at et
  rw [et]
  walk_at "zz"
  rw [AY (re ns k) (by omega)]
def kU (l:List (Str×D)):List (D×D):=l.map fun p=>(.str p.1,p.2)
def u3 (l:List (Str×D)) (x:Str) (d:D):List (Str×D):=if l.any (fun p=>decide (p.1=x)) then l.map (fun p=>if p.1=x then (p.1,d) else p) else l++[(x,d)]
theorem u4 (x y:Str):aZ (.str x) (.str y)=decide (x=y):=by
 show (x == y)=_
 rw [q8]
theorem Ox (l:List (Str×D)) (x:Str) (d:D):m_ (kU l) (.str x) d=kU (u3 l x d):=by
 unfold m_ u3 kU
 rw [oU]
 have e:((fun kv:D×D=>aZ kv.1 (.str x))∘fun p:Str×D=>(a_ p.1,p.2))=fun p=>decide (p.1=x):=by
  funext p
  exact u4 p.1 x
 rw [e]
 split
 ·rw [bI,bI]
  apply dZ
  intro p _
  simp only [Function.comp,u4]
  by_cases h:p.1=x
  ·simp [h]
  ·simp [h]
 ·simp
theorem xC (l:List (Str×D)):gM (kU l)=true:=by
 unfold gM kU
 rw [oV,cr]
 intro p _
 rfl
theorem CV (l:List (Str×D)) (x:Str) (d:D):(u3 l x d).length<=l.length + 1:=by
 unfold u3
 split<;>simp
theorem zS (l:List (Str×D)) (x:Str) (d:D):(u3 l x d).map (·.1)=if x∈l.map (·.1) then l.map (·.1) else l.map (·.1)++[x]:=by
 unfold u3
 have e:(l.any fun p=>decide (p.1=x))=decide (x∈l.map (·.1)):=by
  rw [l9]
  simp only [iH,decide_eq_true_eq,DZ]
 rw [e]
 by_cases h:x∈l.map (·.1)
 ·rw [decide_eq_true h,if_pos rfl,if_pos h,bI]
  apply dZ
  intro p _
  by_cases hp:p.1=x<;>simp [hp]
 ·rw [decide_eq_false h,if_neg bq,if_neg h,aV]
  rfl
theorem LR {Q:Str->D->Prop}{l:List (Str×D)}{x:Str}{d:D} (h:∀ p∈l,Q p.1 p.2) (hx:Q x d):∀ p∈u3 l x d,Q p.1 p.2:=by
 unfold u3
 split
 ·intro p hp
  obtain ⟨p',hp',rfl⟩:=List.mem_map.mp hp
  by_cases e:p'.1=x
  ·rw [if_pos e];rw [e];exact hx
  ·rw [if_neg e];exact h p' hp'
 ·intro p hp
  rcases List.mem_append.mp hp with hp | hp
  ·exact h p hp
  ·rw [List.mem_singleton.mp hp];exact hx
theorem Iu {l:List Str}{x:Str} (h:l.Nodup):(if x∈l then l else l++[x]).Nodup:=by
 by_cases hx:x∈l
 ·rw [if_pos hx];exact h
 ·rw [if_neg hx];exact wo h hx
theorem PV {i:Nat}{gk g:aw->R D}{ρ:aw}{l:List (Str×D)}{x:Str}{d:D} (hi:ρ[i]?=some (Sl.own (.dict (kU l)))) (hg:g ρ=.ok d) (hk:gk ρ=.ok (.str x)) (hl:l.length<1000):AO i gk g ρ=.ok (.nx (ρ.set i (.own (.dict (kU (u3 l x d)))))):=by
 have hl':(kU l).length<1000:=by unfold kU;rw [ao];exact hl
 have e:AO i gk g ρ=(g ρ).bind fun d=>(gk ρ).bind fun k=>match rc k with
  | some _=>if (kU l).length<1000/\gM (kU l)=true then .ok (.nx (ρ.set i (.own (.dict (m_ (kU l) k d))))) else .no
  | none=>.no:=by
  unfold AO
  simp only [hi]
  try rfl
 rw [e,hg,rZ,hk,rZ]
 simp only [rc,if_pos (lX hl' (xC l)),Ox]
theorem CW (l:List (Str×D)):jQ (.dict (kU l))=.ok (.list ((l.map (·.1)).map .str)):=by
 have e:∀ kvs,jQ (.dict kvs)=if gM kvs=true then .ok (.list (kvs.map (·.1))) else .no:=fun _=>rfl
 rw [e,if_pos (xC l)]
 unfold kU
 rw [bI,bI]
 rfl
theorem sorted_strs (ss:List Str) (h:ss.length<64):qm (.list (ss.map .str))=.ok (.list ((jf ss).map .str)):=by
 have e:∀ ds,qm (.list ds)=match fP ds with
  | some ss=>if ss.length<64 then .ok (.list ((jf ss).map .str)) else .no
  | none=>.no:=fun _=>rfl
 rw [e,strsOf_map]
 simp only [if_pos h]
theorem fS (ds:List D):gW (.list ds)=.ok (.tuple ds):=id rfl
def B0 (ns:List Int) (k:Int) (n:Nat):List Str:=(bD n).map fun (i:Nat)=>kc ns (k + 1 + 8 * (i:Int))
def B1 (ns:List Int) (k m:Int):List Str:=jf (c_ [] (B0 ns k (eX ns k (m + 1)).toNat))
structure LS (fs:List Str) (n:Nat):Prop where
 ok:∀ x∈fs,BL x=true
 up:fs.Pairwise fun a b=>oB a b=true
 len:fs.length<=n
theorem LU {α:Type}{a b:List α} (h:a.Perm b):a.length=b.length:=h.length_eq
theorem F7 (ns:List Int) (k m:Int) (hm:0<=m):LS (B1 ns k m) m.toNat:=by
 have h0:=fH ns k (m + 1) (by omega)
 have h1:=gH ns k (m + 1) (by omega)
 have hp:=gz (c_ [] (B0 ns k (eX ns k (m + 1)).toNat))
 refine ⟨fun x hx=>?_,?_,?_⟩
 ·have hx:=hp.mem_iff.mp hx
  rw [io] at hx
  rcases hx with hx | hx
  ·cases hx
  ·obtain ⟨i,_,rfl⟩:=List.mem_map.mp hx
   exact CU _ _
 ·exact uH (pq _) (hp.nodup_iff.mpr (i7 _ [] fm))
 ·unfold B1
  rw [LU hp]
  have:=fG (B0 ns k (eX ns k (m + 1)).toNat) []
  unfold B0 at this ⊢
  simp at this
  omega
theorem Iv (f:Nat->Str) (l:List Nat):∀ acc:List (Str×D),((l.foldl (fun (a:List (Str×D)) i=>u3 a (f i) (.bool true)) acc).map (·.1))=c_ (acc.map (·.1)) (l.map f):=by
 induction l with
 | nil=>intro acc;rfl
 | cons i r ih =>
  intro acc
  rw [cf,ih,ap,zS]
  rfl
theorem LV (ns:List Int) (k m:Int) (hk:0<=k) (hm:0<=m) (hm2:m<=20):mn [.list (ns.map .int),.int k,.int m]=.ok (.tuple ((B1 ns k m).map .str)):=by
 have h0:=fH ns k (m + 1) (by omega)
 have h1:=gH ns k (m + 1) (by omega)
 unfold mn
 refine cE ?_
 unfold ml bX
 walk_at "zz"
 rw [n6 (ds:=(bD (eX ns k (m + 1)).toNat).map fun (i:Nat)=>bB i)]
 ·refine GL (fun (i:Nat)=>bB i) (fun (a:List (Str×D)) i=>u3 a (kc ns (k + 1 + 8 * (i:Int))) (.bool true)) (fun bG a ρ=>a.length + bG.length<=60/\∃ z,ρ=[.shr (.list (ns.map .int)),.shr (.int k),.shr (.int m),.own (.dict (kU a)),z]) [] ?_ ⟨by simp;omega,_,rfl⟩ ?_
  ·rintro i bG a ρ ⟨hl,z,rfl⟩
   simp only [bd] at hl
   refine ⟨_,[.shr (.list (ns.map .int)),.shr (.int k),.shr (.int m),.own (.dict (kU (u3 a (kc ns (k + 1 + 8 * (i:Int))) (.bool true)))),.shr (.int i)],rfl,?_,?_,_,rfl⟩
   ·refine (PV (l:=a) (x:=kc ns (k + 1 + 8 * (i:Int))) (d:=.bool true) rfl rfl ?_ (by omega)).trans rfl
    walk_at "zz"
    rw [qC (by decide) (by decide)]
    walk_at "zz"
    rw [GN ns _ (by omega)]
   ·have:=CV a (kc ns (k + 1 + 8 * (i:Int))) (.bool true)
    omega
  ·rintro ρ' ⟨hl,z,rfl⟩
   simp only [cq] at hl
   walk_at "zz"
   rw [CW]
   walk_at "zz"
   have ek:=Iv (fun i=>kc ns (k + 1 + 8 * (i:Int))) (bD (eX ns k (m + 1)).toNat) []
   rw [ek,sorted_strs]
   ·walk_at "zz"
    rw [fS]
    walk_at "zz"
    rfl
   ·rw [<- ek,ao];omega
 ·walk_at "zz"
  rw [fw ns k (m + 1) hk (by omega)]
  walk_at "zz"
  have:=AY (eX ns k (m + 1)).toNat (by omega)
  rw [eV h0] at this
  exact this
structure cy where
 name:Str
 needs:List Str
 bars:List Str
 makes:List Str
 ends:List Str
 price:Int
abbrev ax (xs:List Str):D:=.tuple (xs.map .str)
def dD (e:cy):D:=.tuple [.str e.name,ax e.needs,ax e.bars,ax e.makes,ax e.ends,.int e.price]
structure qD (fs xs:List Str):Prop where
 up:xs.Pairwise fun a b=>oB a b=true
 mem:∀ x∈xs,x∈fs
structure rf (fs:List Str) (e:cy):Prop where
 name:BL e.name=true
 needs:qD fs e.needs
 bars:qD fs e.bars
 makes:qD fs e.makes
 ends:qD fs e.ends
 nb:∀ x∈e.needs,x∉e.bars
 me:∀ x∈e.makes,x∉e.ends
 p0:0<=e.price
 p9:e.price<=9
def BM (xs:List Str):List Str:=jf (c_ [] xs)
theorem mr {xs:List Str}{x:Str}:x∈BM xs↔x∈xs:=by
 unfold BM
 rw [(gz _).mem_iff,io]
 simp
theorem F8 (xs:List Str):(BM xs).Pairwise fun a b=>oB a b=true:=uH (pq _) ((gz _).nodup_iff.mpr (i7 _ [] fm))
theorem wx {fs xs:List Str} (h:∀ x∈xs,x∈fs):qD fs (BM xs):=⟨F8 xs,fun x hx=>h x (mr.mp hx)⟩
theorem B2 (fs:List Str) (j:Int) (h0:0<=j) (h1:j<fs.length):∃ x,x∈fs/\bw (ax fs) (.int j)=.ok (.str x):=by
 have hj:j.toNat<fs.length:=by omega
 refine ⟨fs[j.toNat],iF hj,?_⟩
 have e:∀ xs k,bw (.tuple xs) k=EU (.tuple xs) k:=fun _ _=>rfl
 rw [e]
 have hx:=tq (xs:=fs.map a_) (j:=j.toNat) (v:=.str fs[j.toNat]) (by rw [aX,aY hj];rfl)
 rw [eV h0] at hx
 unfold EU
 simp only [hx]
theorem xD (x:Str):∀ ys:List Str,((ys.map a_).any fun y=>aZ y (.str x))=decide (x∈ys)
 | []=>rfl
 | y::r=>by
  rw [ap,dW,xD x r,u4]
  by_cases h:y=x
  ·subst h;simp
  ·simp [h,cW h]
theorem xE (ys:List Str):(ys.map a_).all kA=true:=by
 rw [oV,cr];intro _ _;rfl
theorem Oy (neg:Bool) (x:Str) (ys:List Str):Cm neg (.str x) (.list (ys.map .str))=.ok (.bool (if neg then !decide (x∈ys) else decide (x∈ys))):=by
 have e:Cm neg (.str x) (.list (ys.map .str))=if kA (.str x) && (ys.map a_).all kA then .ok (.bool (if neg then !((ys.map a_).any fun y=>aZ y (.str x)) else (ys.map a_).any fun y=>aZ y (.str x))) else .no:=rfl
 rw [e,xE,xD]
 rfl
theorem pM (neg:Bool) (x:Str) (ys:List Str):Cm neg (.str x) (ax ys)=.ok (.bool (if neg then !decide (x∈ys) else decide (x∈ys))):=by
 have e:Cm neg (.str x) (ax ys)=if kA (.str x) && (ys.map a_).all kA then .ok (.bool (if neg then !((ys.map a_).any fun y=>aZ y (.str x)) else (ys.map a_).any fun y=>aZ y (.str x))) else .no:=rfl
 rw [e,xE,xD]
 rfl
theorem jm (neg:Bool) (a b:Int):oO neg (.int a) (.int b)=.ok (.bool (if neg then !decide (a=b) else decide (a=b))):=by
 have e:oO neg (.int a) (.int b)=.ok (.bool (if neg then !(a == b) else (a == b))):=rfl
 rw [e,q8]
theorem B3 {x:Str} (h:BL x=true):(a_ x).canLay0=true:=by
 unfold BL at h
 simp only [aO,cr,decide_eq_true_eq] at h
 show PyData.strOk x=true
 unfold PyData.strOk
 rw [<- vO,cr]
 intro c hc
 have:=h.2 c hc
 exact decide_eq_true (by omega)
theorem Oz (neg:Bool) {x y:Str} (hx:BL x=true) (hy:BL y=true):oO neg (.str x) (.str y)=.ok (.bool (if neg then !decide (x=y) else decide (x=y))):=by
 unfold oO
 rw [B3 hx,B3 hy,u4]
 rfl
theorem xF (ss:List Str) (h:ss.length<60):rX (.list (ss.map .str))=.ok (c_ [] ss):=by
 have e:∀ ds,rX (.list ds)=match fP ds with
  | some ss=>if ss.length<60 then .ok (c_ [] ss) else .no
  | none=>.no:=fun _=>rfl
 rw [e,strsOf_map]
 simp only [if_pos h]
theorem GO (g:aw->R D) (s:Sl) (ρ:aw):nJ g (s::ρ)=(g (s::ρ)).bind rX:=id rfl
def PX:List Str->R D:=fun ss=>if ss.length<64 then .ok (.list ((jf ss).map .str)) else .no
theorem uN (g:aw->R (List Str)) (s:Sl) (ρ:aw):k8 g (s::ρ)=(g (s::ρ)).bind PX:=id rfl
theorem xG (ss:List Str) (h:ss.length<64):PX ss=.ok (.list ((jf ss).map .str)):=if_pos h
theorem Iw (ss:List Str) (h:ss.length<60) (ρ:aw):(c8 (J.ag (k8 (nJ (rB 0))) J.aM) (hZ gW)) (.shr (.list (ss.map .str))::ρ)=.ok (ax (BM ss)):=by
 walk_at "zz"
 rw [uN,GO]
 walk_at "zz"
 rw [xF ss h]
 walk_at "zz"
 rw [xG _ (by have:=fG ss [];simp at this;omega)]
 walk_at "zz"
 rw [fS]
 rfl
theorem CY {ρ:aw}{gt:aw->R Bool}{x:Str}{b:Bool}{s:Sl}{r:aw} (hρ:ρ=s::r) (h:gt (.shr (.str x)::r)=.ok b):fg (fX 1 ρ gt (rS 0)) [.str x]=.ok ((if b then [x] else []).map .str):=by
 subst hρ
 have e:=m6 (ρ:=s::r) (gt:=gt) (ge:=(rS 0)) (d:=.str x) (y:=.str x) (b:=b) h fun _=>rfl
 unfold fg
 rw [e,rZ]
 unfold fg
 rw [rZ]
 cases b<;>rfl
theorem Rn (p q r t:List Str) (hp:p.length<60) (hq:q.length<60) (hr:r.length<60) (ht:t.length<60):fg (fX 1 [Sl.no] kT (c8 (J.ag (k8 (nJ (rB 0))) J.aM) (hZ gW))) [.list (p.map .str),.list (q.map .str),.list (r.map .str),.list (t.map .str)]=.ok [ax (BM p),ax (BM q),ax (BM r),ax (BM t)] :=
 d_ _ (fun ss:List Str=>gy (ss.map .str)) (fun ss=>ax (BM ss)) [p,q,r,t] fun ss hs=>gd rfl (Iw ss (by simp at hs;rcases hs with h | h | h | h<;>(rw [h];assumption)) _)
theorem PY (a b c d:D):bw (.list [a,b,c,d]) (.int 0)=.ok a:=id rfl
theorem PZ (a b c d:D):bw (.list [a,b,c,d]) (.int 1)=.ok b:=id rfl
theorem P_ (a b c d:D):bw (.list [a,b,c,d]) (.int 2)=.ok c:=id rfl
theorem Q0 (a b c d:D):bw (.list [a,b,c,d]) (.int 3)=.ok d:=id rfl
theorem OA (ns:List Int) (k:Int) (hk:0<=k) (fs:List Str) (hf:∀ x∈fs,BL x=true) (h0:0<fs.length) (nm:Str) (hn:BL nm=true) :
  ∃ e,nR [.list (ns.map .int),.int k,ax fs,.str nm]=.ok (dD e)/\rf fs e/\e.name=nm:=by
 have hl:(0:Int)<(fs.length:Int):=by omega
 obtain ⟨a,ha,ea⟩:=B2 fs (eX ns (k + 10) fs.length) (fH _ _ _ hl) (gH _ _ _ hl)
 obtain ⟨b,hb,eb⟩:=B2 fs (eX ns (k + 11) fs.length) (fH _ _ _ hl) (gH _ _ _ hl)
 obtain ⟨c,hc,ec⟩:=B2 fs (eX ns (k + 12) fs.length) (fH _ _ _ hl) (gH _ _ _ hl)
 have m13a:=fH ns (k + 13) 3 (by decide)
 have m13b:=gH ns (k + 13) 3 (by decide)
 obtain ⟨nd,hnd,hnl,end_⟩:∃ nd:List Str,(∀ x∈nd,x∈fs)/\nd.length<60/\G9 (.list [.str a,.str b]) none (some (1 + eX ns (k + 13) 3 / 2))=.ok (.list (nd.map .str)):=by
  by_cases h2:eX ns (k + 13) 3=2
  ·exact ⟨[a,b],by simp [ha,hb],by simp,by rw [h2];rfl⟩
  ·have:eX ns (k + 13) 3 / 2=0:=by omega
   exact ⟨[a],by simp [ha],by simp,by rw [this];rfl⟩
 let bb:Bool:=!decide (c∈nd) && decide (eX ns (k + 14) 4=0)
 let be:Bool:=!decide (a=c) && decide (eX ns (k + 15) 3=0)
 have p0:=fH ns k 5 (by decide)
 have p1:=gH ns k 5 (by decide)
 refine ⟨⟨nm,BM nd,BM (if bb then [c] else []),BM [c],BM (if be then [a] else []),eX ns k 5⟩,?_,⟨hn,wx hnd,wx ?_,wx (by simp [hc]),wx ?_,fun x h1 h2=>?_,fun x h1 h2=>?_,p0,by show eX ns k 5<=9;omega⟩,rfl⟩
 ·unfold nR
  refine cE ?_
  unfold nQ bX
  walk_at "zz"
  rw [fw ns _ _ (by omega) hl]
  walk_at "zz"
  rw [ea]
  walk_at "zz"
  rw [fw ns (k + 11) _ (by omega) hl]
  walk_at "zz"
  rw [eb]
  walk_at "zz"
  rw [fw ns (k + 12) _ (by omega) hl]
  walk_at "zz"
  rw [ec]
  walk_at "zz"
  rw [fw ns (k + 13) 3 (by omega) (by decide)]
  walk_at "zz"
  simp only [Eo,decide_true,nr,if_true]
  walk_at "zz"
  rw [end_]
  walk_at "zz"
  rw [CY (b:=bb) rfl]
  ·walk_at "zz"
   rw [CY (b:=be) rfl]
   ·walk_at "zz"
    simp only [Jj]
    rw [uL rfl,uL rfl]
    walk_at "zz"
    have pk:=Rn nd (if bb then [c] else []) [c] (if be then [a] else []) hnl (by cases bb<;>simp) (by simp) (by cases be<;>simp)
    rw [show ([c].map a_)=[a_ c] from rfl] at pk
    rw [pk]
    walk_at "zz"
    rw [PY]
    walk_at "zz"
    rw [PZ]
    walk_at "zz"
    rw [P_]
    walk_at "zz"
    rw [Q0]
    walk_at "zz"
    rw [fw ns k 5 hk (by decide)]
    walk_at "zz"
    rfl
   ·walk_at "zz"
    rw [Oz true (hf a ha) (hf c hc)]
    walk_at "zz"
    by_cases hac:a=c
    ·simp only [be,hac,decide_true,nu,zh,if_true,cond_false]
    ·simp only [be,hac,decide_false,jw,t4,if_true,cond_true]
     rw [fw ns (k + 15) 3 (by omega) (by decide)]
     walk_at "zz"
     rw [jm]
     walk_at "zz"
  ·walk_at "zz"
   rw [Oy]
   walk_at "zz"
   by_cases hcn:c∈nd
   ·simp only [bb,hcn,decide_true,nu,zh,if_true,cond_false]
   ·simp only [bb,hcn,decide_false,jw,t4,if_true,cond_true]
    rw [fw ns (k + 14) 4 (by omega) (by decide)]
    walk_at "zz"
    rw [jm]
    walk_at "zz"
 ·intro x hx
  cases hbb:bb
  ·simp [hbb] at hx
  ·simp [hbb] at hx;rw [hx];exact hc
 ·intro x hx
  cases hbe:be
  ·simp [hbe] at hx
  ·simp [hbe] at hx;rw [hx];exact ha
 ·have h2:x∈(if bb then [c] else []):=mr.mp h2
  cases hbb:bb
  ·simp [hbb] at h2
  ·simp [hbb] at h2
   subst h2
   have:(!decide (x∈nd))=true:=by
    have:(!decide (x∈nd) && decide (eX ns (k + 14) 4=0))=true:=hbb
    simp only [aO] at this
    exact this.1
   simp at this
   exact this (mr.mp h1)
 ·cases hbe:be
  ·have h2:x∈(if be then [a] else []):=mr.mp h2
   simp [hbe] at h2
  ·skip
   have h4:x∈[c]:=mr.mp h1
   have h5:x∈(if be then [a] else []):=mr.mp h2
   simp only [dC] at h4
   simp only [hbe,if_true,dC] at h5
   have:(!decide (a=c) && decide (eX ns (k + 15) 3=0))=true:=hbe
   simp only [aO] at this
   have h3:=this.1
   simp at h3
   exact h3 (h5.symm.trans h4)
theorem B4 {i:Nat}{gi g:aw->R D}{ρ:aw}{dss:List (List D)}{ds:List D}{d:D}{j:Int} (hi:ρ[i]?=some (Sl.ow2 dss)) (hj:gi ρ=.ok (.int j)) (h0:0<=j) (hd:dss[j.toNat]?=some ds) (hg:g ρ=.ok d) (hl:ds.length<1000):n5 i gi g ρ=.ok (.nx (ρ.set i (.ow2 (dss.set j.toNat (ds++[d]))))):=by
 unfold n5
 simp only [hi,hj,bind_ok,if_pos h0,hd,hg,if_pos hl]
def ms (n:Nat):List Str->List (Nat×Str)
 | []=>[]
 | x::r=>(n,x)::ms (n + 1) r
abbrev cI (p:Nat×Str):D:=.tuple [.int (p.1:Nat),.str p.2]
theorem wy:∀ (xs:List Str) (n:Nat),oE n (xs.map .str)=(ms n xs).map cI
 | [],_=>rfl
 | x::r,n=>by
  show cO [.int n,.str x]::oE (n + 1) (r.map .str)=cI (n,x)::(ms (n + 1) r).map cI
  rw [wy r (n + 1)]
theorem qF:∀ (xs:List Str) (n:Nat),(ms n xs).map (·.2)=xs
 | [],_=>rfl
 | x::r,n=>by
  show x::(ms (n + 1) r).map (·.2)=x::r
  rw [qF r]
theorem CZ:∀ (fs:List Str),(∀ x∈fs,BL x=true)->cL (fs.map .str)=true
 | [],_=>rfl
 | x::r,h=>by
  have h1:=B3 (h x am)
  have h2:=CZ r fun y hy=>h y (aj _ hy)
  simp only [ap,cL,h1,h2,nr]
theorem GP (fs:List Str) (hf:∀ x∈fs,BL x=true):oO true (ax fs) (.tuple [])=.ok (.bool (!decide (fs=[]))):=by
 unfold oO
 have h1:(ax fs).canLay0=true:=by simp only [ii];exact CZ fs hf
 have h2:(cO []).canLay0=true:=rfl
 have h3:min (ax fs).depth (cO []).depth<=60:=bU (oM _ _) (by decide)
 have h4:aZ (ax fs) (.tuple [])=decide (fs=[]):=by
  cases fs with
  | nil=>rfl
  | cons x r=>simp [aZ,gS]
 rw [h1,h2,decide_eq_true h3,h4]
 rfl
structure mL (pre p q:List Str):Prop where
 sp:p.Sublist pre
 sq:q.Sublist pre
 d:∀ x∈p,x∉q
theorem mL.skip {pre p q:List Str} (h:mL pre p q) (x:Str):mL (pre++[x]) p q:=⟨h.sp.trans (iY _ _),h.sq.trans (iY _ _),h.d⟩
theorem mL.left {pre p q:List Str} (h:mL pre p q) (x:Str) (hx:x∉pre):mL (pre++[x]) (p++[x]) q:=⟨h.sp.append (eh _),h.sq.trans (iY _ _),fun y hy hq=>by
 rcases List.mem_append.mp hy with h1 | h1
 ·exact h.d y h1 hq
 ·rw [List.mem_singleton.mp h1] at hq
  exact hx (h.sq.subset hq)⟩
theorem mL.right {pre p q:List Str} (h:mL pre p q) (x:Str) (hx:x∉pre):mL (pre++[x]) p (q++[x]):=⟨h.sp.trans (iY _ _),h.sq.append (eh _),fun y hy hq=>by
 rcases List.mem_append.mp hq with h1 | h1
 ·exact h.d y hy h1
 ·rw [List.mem_singleton.mp h1] at hy
  exact hx (h.sp.subset hy)⟩
abbrev o4 (p q r t:List Str):Sl:=.ow2 [p.map .str,q.map .str,r.map .str,t.map .str]
theorem TJ (j:Int) (h0:0<=j) (h1:j<3):∃ b:Bool,bw (.list [.int 0,.int 0,.int 1]) (.int j)=.ok (.int (if b then 0 else 1)):=by
 have:j=0\/j=1\/j=2:=by omega
 rcases this with h | h | h<;>subst h
 ·exact ⟨true,rfl⟩
 ·exact ⟨true,rfl⟩
 ·exact ⟨false,rfl⟩
theorem TK (j:Int) (h0:0<=j) (h1:j<4):∃ b:Bool,bw (.list [.int 2,.int 2,.int 3,.int 3]) (.int j)=.ok (.int (if b then 2 else 3)):=by
 have:j=0\/j=1\/j=2\/j=3:=by omega
 rcases this with h | h | h | h<;>subst h
 ·exact ⟨true,rfl⟩
 ·exact ⟨true,rfl⟩
 ·exact ⟨false,rfl⟩
 ·exact ⟨false,rfl⟩
theorem u5 (p:List Str) (x:Str):(p++[x]).map a_=p.map .str++[.str x]:=by simp
theorem LW {a b c d e f:Sl}{pre p q r t:List Str}{x:Str}{j:Int} (hp:mL pre p q) (hx:x∉pre) (hl:pre.length<900) (h0:0<=j) :
  ∃ p' q',mL (pre++[x]) p' q'/\fQ (fL (g2 (rB 7) (kI 3) yN)) (n5 4 (g2 (eJ (J.ag (kI 0) (J.ag (kI 0) (J.ag (kI 1) J.aM))) .list) (rB 7) bw) (rS 6)) (fun ρ=>.ok (.nx ρ)) [a,b,c,d,o4 p q r t,e,.shr (.str x),.shr (.int j),f]=.ok (.nx [a,b,c,d,o4 p' q' r t,e,.shr (.str x),.shr (.int j),f]):=by
 by_cases h3:j<3
 ·obtain ⟨bo,e3⟩:=TJ j h0 h3
  have lp:p.length<1000:=by have:=hp.sp.length_le;omega
  have lq:q.length<1000:=by have:=hp.sq.length_le;omega
  cases bo
  ·refine ⟨p,q++[x],hp.right x hx,?_⟩
   walk_at "zz"
   rw [decide_eq_true h3]
   walk_at "zz"
   simp only [o4,u5]
   refine (B4 (j:=1) (ds:=q.map .str) (d:=.str x) rfl ?_ (by decide) rfl rfl (by rw [ao];exact lq)).trans rfl
   walk_at "zz"
   rw [e3]
   rfl
  ·refine ⟨p++[x],q,hp.left x hx,?_⟩
   walk_at "zz"
   rw [decide_eq_true h3]
   walk_at "zz"
   simp only [o4,u5]
   refine (B4 (j:=0) (ds:=p.map .str) (d:=.str x) rfl ?_ (by decide) rfl rfl (by rw [ao];exact lp)).trans rfl
   walk_at "zz"
   rw [e3]
   rfl
 ·refine ⟨p,q,hp.skip x,?_⟩
  walk_at "zz"
  rw [decide_eq_false h3]
  walk_at "zz"
theorem LX {a b c d e f:Sl}{pre p q r t:List Str}{x:Str}{j:Int} (hp:mL pre r t) (hx:x∉pre) (hl:pre.length<900) (h0:0<=j) :
  ∃ r' t',mL (pre++[x]) r' t'/\fQ (fL (g2 (rB 7) (kI 4) yN)) (n5 4 (g2 (eJ (J.ag (kI 2) (J.ag (kI 2) (J.ag (kI 3) (J.ag (kI 3) J.aM)))) .list) (rB 7) bw) (rS 6)) (fun ρ=>.ok (.nx ρ)) [a,b,c,d,o4 p q r t,e,.shr (.str x),.shr (.int j),f]=.ok (.nx [a,b,c,d,o4 p q r' t',e,.shr (.str x),.shr (.int j),f]):=by
 by_cases h3:j<4
 ·obtain ⟨bo,e3⟩:=TK j h0 h3
  have lp:r.length<1000:=by have:=hp.sp.length_le;omega
  have lq:t.length<1000:=by have:=hp.sq.length_le;omega
  cases bo
  ·refine ⟨r,t++[x],hp.right x hx,?_⟩
   walk_at "zz"
   rw [decide_eq_true h3]
   walk_at "zz"
   simp only [o4,u5]
   refine (B4 (j:=3) (ds:=t.map .str) (d:=.str x) rfl ?_ (by decide) rfl rfl (by rw [ao];exact lq)).trans rfl
   walk_at "zz"
   rw [e3]
   rfl
  ·refine ⟨r++[x],t,hp.left x hx,?_⟩
   walk_at "zz"
   rw [decide_eq_true h3]
   walk_at "zz"
   simp only [o4,u5]
   refine (B4 (j:=2) (ds:=r.map .str) (d:=.str x) rfl ?_ (by decide) rfl rfl (by rw [ao];exact lp)).trans rfl
   walk_at "zz"
   rw [e3]
   rfl
 ·refine ⟨r,t,hp.skip x,?_⟩
  walk_at "zz"
  rw [decide_eq_false h3]
  walk_at "zz"
theorem TL (i:Nat) (ρ:aw):Of i ρ=.ok (.nx ((clear2 ρ).set i (.ow2 [[],[],[],[]]))):=id rfl
theorem mL.sub {fs p q:List Str} (up:fs.Pairwise fun a b=>oB a b=true) (h:mL fs p q):qD fs p/\qD fs q:=⟨⟨up.sublist h.sp,fun x hx=>h.sp.subset hx⟩,⟨up.sublist h.sq,fun x hx=>h.sq.subset hx⟩⟩
theorem LY (p:List Str) (ρ:aw):(c8 (J.ag (rB 0) J.aM) (hZ gW)) (.shr (.list (p.map .str))::ρ)=.ok (ax p):=by
 walk_at "zz"
 rw [fS]
theorem TM (p q r t:List Str):fg (fX 1 [Sl.no] kT (c8 (J.ag (rB 0) J.aM) (hZ gW))) [.list (p.map .str),.list (q.map .str),.list (r.map .str),.list (t.map .str)]=.ok [ax p,ax q,ax r,ax t] :=
 d_ _ (fun ss:List Str=>gy (ss.map .str)) (fun ss=>ax ss) [p,q,r,t] fun ss hs=>gd rfl (LY ss _)
theorem Ix (ns:List Int) (k:Int) (hk:0<=k) (fs:List Str) (hf:∀ x∈fs,BL x=true) (up:fs.Pairwise fun a b=>oB a b=true) (nd:fs.Nodup) (hl:fs.length<=6) (nm:Str) (hn:BL nm=true) :
  ∃ e,iq [.list (ns.map .int),.int k,ax fs,.str nm]=.ok (dD e)/\rf fs e/\e.name=nm:=by
 have p0:=fH ns k 5 (by decide)
 have p1:=gH ns k 5 (by decide)
 have go:∀ ρ:aw,ρ=[.shr (.list (ns.map .int)),.shr (.int k),.shr (ax fs),.shr (.str nm),.no,.no,.no,.no,.no]->(!decide (fs=[]) && decide (eX ns 97 2=0))=false->∃ e,ip ρ=.ok (.rt (dD e))/\rf fs e/\e.name=nm:=by
  rintro ρ rfl hc
  obtain ⟨ρ',h1,p,q,r,t,h2,h3,h4⟩:∃ ρ',(kq (EW (J.ag (rS 2) J.aM)) (kH 2 (cx (bC 5) (cx (bC 6) lS))) (aS (f_ 7 (fA 3 bu (J.ag (rS 0) (J.ag (g2 (g2 (rB 1) (kI 10) dH) (rB 5) dH) (J.ag (kI 8) J.aM))))) (aS (fQ (fL (g2 (rB 7) (kI 3) yN)) (n5 4 (g2 (eJ (J.ag (kI 0) (J.ag (kI 0) (J.ag (kI 1) J.aM))) .list) (rB 7) bw) (rS 6)) (fun ρ=>.ok (.nx ρ))) (aS (f_ 7 (fA 3 bu (J.ag (rS 0) (J.ag (g2 (g2 (rB 1) (kI 20) dH) (rB 5) dH) (J.ag (kI 8) J.aM))))) (fQ (fL (g2 (rB 7) (kI 4) yN)) (n5 4 (g2 (eJ (J.ag (kI 2) (J.ag (kI 2) (J.ag (kI 3) (J.ag (kI 3) J.aM)))) .list) (rB 7) bw) (rS 6)) (fun ρ=>.ok (.nx ρ))))))) [.shr (.list (ns.map .int)),.shr (.int k),.shr (ax fs),.shr (.str nm),o4 [] [] [] [],.no,.no,.no,.no]=.ok (.nx ρ')/\∃ p q r t,mL fs p q/\mL fs r t/\∃ z5 z6 z7,ρ'=[.shr (.list (ns.map .int)),.shr (.int k),.shr (ax fs),.shr (.str nm),o4 p q r t,z5,z6,z7,.no]:=by
   rw [n6 (ds:=(ms 0 fs).map cI)]
   ·have H:=pL cI (fun (a:Unit) (_:Nat×Str)=>a) (fun bG _ ρ=>∃ pre,pre++bG.map (·.2)=fs/\∃ p q r t,mL pre p q/\mL pre r t/\∃ z5 z6 z7,ρ=[.shr (.list (ns.map .int)),.shr (.int k),.shr (ax fs),.shr (.str nm),o4 p q r t,z5,z6,z7,.no]) (kt:=kH 2 (cx (bC 5) (cx (bC 6) lS))) (gb:=(aS (f_ 7 (fA 3 bu (J.ag (rS 0) (J.ag (g2 (g2 (rB 1) (kI 10) dH) (rB 5) dH) (J.ag (kI 8) J.aM))))) (aS (fQ (fL (g2 (rB 7) (kI 3) yN)) (n5 4 (g2 (eJ (J.ag (kI 0) (J.ag (kI 0) (J.ag (kI 1) J.aM))) .list) (rB 7) bw) (rS 6)) (fun ρ=>.ok (.nx ρ))) (aS (f_ 7 (fA 3 bu (J.ag (rS 0) (J.ag (g2 (g2 (rB 1) (kI 20) dH) (rB 5) dH) (J.ag (kI 8) J.aM))))) (fQ (fL (g2 (rB 7) (kI 4) yN)) (n5 4 (g2 (eJ (J.ag (kI 2) (J.ag (kI 2) (J.ag (kI 3) (J.ag (kI 3) J.aM)))) .list) (rB 7) bw) (rS 6)) (fun ρ=>.ok (.nx ρ)))))))
    obtain ⟨ρ',h1,pre,h2,p,q,r,t,h3,h4,h5⟩:=H (by
     rintro ⟨i,x⟩ bG _ ρ ⟨pre,h2,p,q,r,t,h3,h4,z5,z6,z7,rfl⟩
     have hx:x∉pre:=by
      rw [<- h2,ap] at nd
      have:=(List.nodup_append.mp nd).2.2
      intro hx
      exact this x hx x am rfl
     have hpl:pre.length<900:=by
      have:=congrArg qV h2
      rw [aN] at this
      omega
     obtain ⟨p',q',k1,k2⟩:=LW (a:=.shr (.list (ns.map .int))) (b:=.shr (.int k)) (c:=.shr (ax fs)) (d:=.shr (.str nm)) (e:=.shr (.int (i:Nat))) (f:=.no) (r:=r) (t:=t) (j:=eX ns (k + 10 + i) 8) h3 hx hpl (fH _ _ _ (by decide))
     obtain ⟨r',t',k3,k4⟩:=LX (a:=.shr (.list (ns.map .int))) (b:=.shr (.int k)) (c:=.shr (ax fs)) (d:=.shr (.str nm)) (e:=.shr (.int (i:Nat))) (f:=.no) (p:=p') (q:=q') (j:=eX ns (k + 20 + i) 8) h4 hx hpl (fH _ _ _ (by decide))
     refine ⟨[.shr (.list (ns.map .int)),.shr (.int k),.shr (ax fs),.shr (.str nm),o4 p q r t,.shr (.int (i:Nat)),.shr (.str x),z7,.no],[.shr (.list (ns.map .int)),.shr (.int k),.shr (ax fs),.shr (.str nm),o4 p' q' r' t',.shr (.int (i:Nat)),.shr (.str x),.shr (.int (eX ns (k + 20 + i) 8)),.no],rfl,?_,pre++[x],?_,p',q',r',t',k1,k3,_,_,_,rfl⟩
     ·rw [CC,KW]
      walk_at "yy"
      rw [fw ns _ 8 (by omega) (by decide)]
      walk_at "yy"
      rw [k2]
      walk_at "yy"
      rw [fw ns _ 8 (by omega) (by decide)]
      walk_at "yy"
      rw [k4]
     ·rw [<- h2];simp) (ms 0 fs) () [.shr (.list (ns.map .int)),.shr (.int k),.shr (ax fs),.shr (.str nm),o4 [] [] [] [],.no,.no,.no,.no] ⟨[],by rw [qF];rfl,[],[],[],[],⟨eh _,eh _,fun _ h=>nomatch h⟩,⟨eh _,eh _,fun _ h=>nomatch h⟩,_,_,_,rfl⟩
    refine ⟨ρ',h1,p,q,r,t,?_,?_,h5⟩
    ·simp only [dA,bZ] at h2
     rw [<- h2];exact h3
    ·simp only [dA,bZ] at h2
     rw [<- h2];exact h4
   ·walk_at "zz"
    rw [wy]
  obtain ⟨s1,s2⟩:=h2.sub up
  obtain ⟨s3,s4⟩:=h3.sub up
  obtain ⟨z5,z6,z7,rfl⟩:=h4
  refine ⟨⟨nm,p,q,r,t,eX ns k 5⟩,?_,⟨hn,s1,s2,s3,s4,h2.d,h3.d,p0,by show eX ns k 5<=9;omega⟩,rfl⟩
  unfold ip
  have hand:AD (fL (g2 (rB 2) (eJ J.aM .tuple) (oO true))) (fL (g2 (fA 3 bu (J.ag (rS 0) (J.ag (kI 97) (J.ag (kI 2) J.aM)))) (kI 0) (oO false))) [.shr (.list (ns.map .int)),.shr (.int k),.shr (ax fs),.shr (.str nm),.no,.no,.no,.no,.no]=.ok false:=by
   walk_at "zz"
   rw [GP fs hf]
   walk_at "zz"
   by_cases h:fs=[]
   ·simp only [h,decide_true,nu,cond_false]
   ·simp only [h,decide_false,jw,cond_true,t4] at hc ⊢
    rw [fw ns 97 2 (by decide) (by decide)]
    walk_at "zz"
    rw [jm]
    walk_at "zz"
    rw [hc]
  rw [CC,T9,hand]
  simp only [rZ,KS,TL,clear2,ap,dA,uq,uo,rZ,tZ,CC]
  rw [show Sl.ow2 [[],[],[],[]]=o4 [] [] [] [] from rfl,h1]
  walk_at "zz"
  rw [TM]
  walk_at "zz"
  rw [PY]
  walk_at "zz"
  rw [PZ]
  walk_at "zz"
  rw [P_]
  walk_at "zz"
  rw [Q0]
  walk_at "zz"
  rw [fw ns k 5 hk (by decide)]
  walk_at "zz"
  rfl
 by_cases hc:(!decide (fs=[]) && decide (eX ns 97 2=0))=true
 ·have h0:0<fs.length:=by
   rcases fs with _ | ⟨x,r⟩
   ·simp at hc
   ·simp
  obtain ⟨e,h1,h2⟩:=OA ns k hk fs hf h0 nm hn
  refine ⟨e,?_,h2⟩
  unfold iq
  refine cE ?_
  unfold ip bX
  walk_at "zz"
  rw [GP fs hf]
  walk_at "zz"
  simp only [aO] at hc
  rw [hc.1]
  walk_at "zz"
  rw [fw ns 97 2 (by decide) (by decide)]
  walk_at "zz"
  rw [jm]
  walk_at "zz"
  rw [hc.2]
  walk_at "zz"
  rw [h1]
  walk_at "zz"
 ·obtain ⟨e,h1,h2⟩:=go _ rfl (Bool.eq_false_iff.mpr hc)
  exact ⟨e,by unfold iq;exact cE h1,h2⟩
theorem L_ (ds:List D) (t:Nat) (h:t<=ds.length):yO ds (some (t:Int)) none=ds.drop t:=by
 unfold yO
 rw [HT.FU,HT.BZ,Nat.min_eq_left h,E3 (by rw [wf];exact au _)]
theorem Ro (ds:List D) (t:Nat) (h:t<=ds.length):yO ds none (some (t:Int))=ds.take t:=by
 unfold yO
 rw [HT.FU,HT.BZ,Nat.min_eq_left h,List.drop_zero,Nat.sub_zero]
theorem TQ (ds:List D) (t:Nat) (h:t<=ds.length):G9 (.list ds) (some (t:Int)) none=.ok (.list (ds.drop t)):=by
 rw [<- L_ ds t h];rfl
theorem TU (ds:List D) (t:Nat) (h:t<=ds.length):G9 (.list ds) none (some (t:Int))=.ok (.list (ds.take t)):=by
 rw [<- Ro ds t h];rfl
theorem Rp {l:List (Str×D)} (nd:(l.map (·.1)).Nodup) {p:Str×D} (hp:p∈l):bw (.dict (kU l)) (.str p.1)=.ok p.2:=by
 have e:∀ kvs x,bw (.dict kvs) (.str x)=if gM kvs=true then (match ji kvs (.str x) with
   | some d=>.ok d
   | none=>.no) else .no:=fun _ _=>rfl
 rw [e,if_pos (xC l)]
 have:ji (kU l) (.str p.1)=some p.2:=by
  unfold ji kU
  clear e
  induction l with
  | nil=>cases hp
  | cons q r ih =>
   rw [ap] at nd
   obtain ⟨n1,n2⟩:=List.nodup_cons.mp nd
   rw [ap,bT,u4]
   rcases List.mem_cons.mp hp with h | h
   ·subst h;simp
   ·have:q.1≠p.1:=fun z=>n1 (z ▸ aT h)
    rw [decide_eq_false this]
    exact ih n2 h
 rw [this]
structure dO (fs:List Str) (es:List cy):Prop where
 rise:LS fs 6
 len:es.length<=6
 nd:(es.map (·.name)).Nodup
 ok:∀ e∈es,rf fs e
def cP (fs:List Str) (es:List cy):D:=.tuple [ax fs,.tuple (es.map dD)]
theorem TV (fs:List Str):∀ (l:List (Str×D)),(∀ p∈l,∃ e,p.2=dD e/\rf fs e/\e.name=p.1)->∃ es:List cy,l.map (·.2)=es.map dD/\es.map (·.name)=l.map (·.1)/\∀ e∈es,rf fs e
 | [],_=>⟨[],rfl,rfl,fun _ h=>nomatch h⟩
 | p::r,h=>by
  obtain ⟨e,h1,h2,h3⟩:=h p am
  obtain ⟨es,k1,k2,k3⟩:=TV fs r fun q hq=>h q (aj _ hq)
  refine ⟨e::es,by rw [ap,ap,h1,k1],by rw [ap,ap,h3,k2],fun x hx=>?_⟩
  rcases List.mem_cons.mp hx with z | z
  ·rw [z];exact h2
  ·exact k3 x z
theorem Iy {α:Type} (l:List α) (t:Nat):(l.drop t++l.take t).Perm l:=by
 refine List.perm_append_comm.trans ?_
 rw [List.take_append_drop]
theorem kd {l:List Str} (h:l.Pairwise fun a b=>oB a b=true):l.Nodup:=h.imp fun hab z=>by
 rw [z,rO] at hab
 cases hab
theorem OB (ns:List Int) (k:Int) (hk:0<=k) (m n:Int) (hm0:0<=m) (hm:m<=6) (hn0:0<=n) (hn:n<=6):∃ fs es,lD [.list (ns.map .int),.int k,.int m,.int n]=.ok (cP fs es)/\dO fs es/\fs.length<=m.toNat/\es.length<=n.toNat:=by
 have hr:=F7 ns k m hm0
 generalize hfs:B1 ns k m=fs at hr
 have hrl:=hr.len
 have hr:LS fs 6:=⟨hr.ok,hr.up,by have:=hr.len;omega⟩
 have nd:=kd hr.up
 have m0:=fH ns (k + 60) (n + 1) (by omega)
 have m1:=gH ns (k + 60) (n + 1) (by omega)
 suffices H:∃ es,lD [.list (ns.map .int),.int k,.int m,.int n]=.ok (cP fs es)/\dO fs es/\es.length<=n.toNat from H.elim fun es h=>⟨fs,es,h.1,h.2.1,hrl,h.2.2⟩
 unfold lD
 suffices H:∃ es,lC (bX 10 [.list (ns.map .int),.int k,.int m,.int n])=.ok (.rt (cP fs es))/\dO fs es/\es.length<=n.toNat from H.elim fun es h=>⟨es,cE h.1,h.2⟩
 have H:=pL (fun (i:Nat)=>bB i) (fun (a:Unit) (_:Nat)=>a) (fun bG _ ρ=>∃ l,l.length + bG.length<=n.toNat/\(l.map (·.1)).Nodup/\(∀ p∈l,∃ e,p.2=dD e/\rf fs e/\e.name=p.1)/\∃ z6 z7,ρ=[.shr (.list (ns.map .int)),.shr (.int k),.shr (.int m),.shr (.int n),.shr (ax fs),.own (.dict (kU l)),z6,z7,.no,.no]) (kt:=bC 6) (gb:=aS (f_ 7 (fA 2 jG (J.ag (rS 0) (J.ag (g2 (g2 (rB 1) (kI 70) dH) (g2 (kI 40) (rB 6) vU) dH) J.aM)))) (AO 5 (rS 7) (fA 4 iq (J.ag (rS 0) (J.ag (g2 (g2 (rB 1) (kI 80) dH) (g2 (kI 40) (rB 6) vU) dH) (J.ag (rS 4) (J.ag (rS 7) J.aM)))))))
 obtain ⟨ρ',h1,l,h2,h3,h4,z6,z7,h5⟩:=H (by
  rintro i bG _ ρ ⟨l,h2,h3,h4,z6,z7,rfl⟩
  simp only [bd] at h2
  have hw:=CU ns (k + 70 + 40 * (i:Int))
  obtain ⟨e,e1,e2,e3⟩:=Ix ns (k + 80 + 40 * (i:Int)) (by omega) fs hr.ok hr.up nd hr.len (kc ns (k + 70 + 40 * (i:Int))) hw
  have pl:=CV l (kc ns (k + 70 + 40 * (i:Int))) (dD e)
  refine ⟨[.shr (.list (ns.map .int)),.shr (.int k),.shr (.int m),.shr (.int n),.shr (ax fs),.own (.dict (kU l)),.shr (.int i),z7,.no,.no],[.shr (.list (ns.map .int)),.shr (.int k),.shr (.int m),.shr (.int n),.shr (ax fs),.own (.dict (kU (u3 l (kc ns (k + 70 + 40 * (i:Int))) (dD e)))),.shr (.int i),.shr (.str (kc ns (k + 70 + 40 * (i:Int)))),.no,.no],rfl,?_,u3 l (kc ns (k + 70 + 40 * (i:Int))) (dD e),by omega,?_,?_,_,_,rfl⟩
  ·walk_at "zz"
   rw [qC (by decide) (by decide)]
   walk_at "zz"
   rw [GN ns _ (by omega)]
   walk_at "zz"
   refine (PV (l:=l) (x:=kc ns (k + 70 + 40 * (i:Int))) (d:=dD e) rfl ?_ rfl (by omega)).trans rfl
   walk_at "zz"
   rw [qC (by decide) (by decide)]
   walk_at "zz"
   exact e1
  ·rw [zS];exact Iu h3
  ·exact LR (Q:=fun x d=>∃ e,d=dD e/\rf fs e/\e.name=x) h4 ⟨e,rfl,e2,e3⟩) (bD (eX ns (k + 60) (n + 1)).toNat) () [.shr (.list (ns.map .int)),.shr (.int k),.shr (.int m),.shr (.int n),.shr (ax fs),.own (.dict (kU [])),.no,.no,.no,.no] ⟨[],by rw [eI];simp only [cq];omega,fm,fun _ h=>(nomatch h),_,_,rfl⟩
 simp only [cq,jB] at h2
 have t0:=fH ns (k + 61) ((l.length:Int) + 1) (by omega)
 have t1:=gH ns (k + 61) ((l.length:Int) + 1) (by omega)
 obtain ⟨t,ht⟩:∃ t:Nat,eX ns (k + 61) ((l.length:Int) + 1)=t:=⟨_,(eV t0).symm⟩
 have tl:t<=l.length:=by omega
 have pm:=Iy l t
 obtain ⟨es,k1,k2,k3⟩:=TV fs (l.drop t++l.take t) fun p hp=>h4 p (pm.mem_iff.mp hp)
 have kl:es.length=l.length:=by
  have:=congrArg qV k1
  rw [ao,ao,pm.length_eq] at this
  exact this.symm
 refine ⟨es,?_,⟨hr,by omega,?_,k3⟩,by omega⟩
 ·unfold lC bX
  walk_at "yy"
  rw [LV ns k m hk hm0 (by omega),hfs]
  walk_at "yy"
  rw [n6 (ds:=(bD (eX ns (k + 60) (n + 1)).toNat).map fun (i:Nat)=>bB i)]
  ·rw [show E2 []=E2 (kU []) from rfl,h1,h5]
   walk_at "yy"
   rw [CW]
   walk_at "yy"
   rw [fw ns _ _ (by omega) (by omega),ht]
   walk_at "yy"
   clear H h1
   rw [TQ _ t (by simpa using tl)]
   walk_at "yy"
   rw [TU _ t (by simpa using tl)]
   walk_at "yy"
   have e1:(List.drop t (vh a_ (vh (fun x=>x.fst) l))++List.take t (vh a_ (vh (fun x=>x.fst) l)))=(l.drop t++l.take t).map fun p=>a_ p.1:=by
    rw [aV,List.map_drop,List.map_take,bI];rfl
   rw [e1,if_pos (by rw [<- aN,e1,ao,pm.length_eq];omega)]
   have pl:=pm.length_eq
   have px:∀ p∈l.drop t++l.take t,p∈l:=fun p hp=>pm.mem_iff.mp hp
   clear e1 pm k2
   generalize l.drop t++l.take t=L at pl px k1 ⊢
   walk_at "yy"
   rw [if_pos (by omega)]
   rw [d_ _ (fun p:Str×D=>a_ p.1) (fun p=>p.2) L fun p hp=>gd rfl (by
    walk_at "yy"
    exact Rp h3 (px p hp))]
   walk_at "yy"
   rw [fS]
   walk_at "yy"
   rw [k1]
   rfl
  ·walk_at "yy"
   rw [fw ns (k + 60) (n + 1) (by omega) (by omega)]
   walk_at "yy"
   have:=AY (eX ns (k + 60) (n + 1)).toNat (by omega)
   rw [eV m0] at this
   exact this
 ·rw [k2]
  exact ((pm.map _).nodup_iff).mpr h3
theorem zT {α:Type} (b:α->Bool):∀ xs:List α,m5 (xs.map fun x=>df (b x))=some (xs.map b)
 | []=>rfl
 | x::r=>by
  show (m5 (r.map fun x=>df (b x))).map (b x::·)=_
  rw [zT b r]
  rfl
theorem jX {α:Type} (k:List Bool->Bool) (b:α->Bool) (xs:List α):gU k (.list (xs.map fun x=>df (b x)))=.ok (.bool (k (xs.map b))):=by
 have e:∀ ds,gU k (.list ds)=match m5 ds with
  | some bs=>.ok (.bool (k bs))
  | none=>.no:=fun _=>rfl
 rw [e,zT]
theorem M0 {s s':Sl}{ρ:aw}{gt:aw->R Bool}{ge:aw->R D}{d d' y:D} (h1:gt (.shr d::.shr d'::ρ)=.ok true) (h2:ge (.shr d::.shr d'::ρ)=.ok y):fX 2 (s::s'::ρ) gt ge (.tuple [d,d'])=.ok (some y):=by
 have e:fX 2 (s::s'::ρ) gt ge (.tuple [d,d'])=Ii ((gt (.shr d::.shr d'::ρ)).bind fun b=>if b then (ge (.shr d::.shr d'::ρ)).bind fun y=>.ok (some y) else .ok none):=id rfl
 rw [e,h1,bind_ok,if_pos rfl,h2];rfl
theorem Rq (x:Str):qk (.str x)=true:=id rfl
theorem M1 (i:Int):qk (.int i)=true:=id rfl
theorem B5 {α:Type} (c:α->D) (h:∀ x,qk (c x)=true):∀ xs:List α,noDs (xs.map c)=true
 | []=>rfl
 | x::r=>by
  show (qk (c x) && noDs (r.map c))=true
  rw [h x,B5 c h r];rfl
theorem M2 (xs:List D):qk (.tuple xs)=noDs xs:=id rfl
theorem mv (xs:List Str):qk (ax xs)=true:=by
 rw [M2]
 exact B5 _ (fun _=>rfl) xs
theorem GQ (e:cy):qk (dD e)=true:=by
 have:qk (dD e)=(true && (qk (ax e.needs) && (qk (ax e.bars) && (qk (ax e.makes) && (qk (ax e.ends) && (true && true)))))):=rfl
 rw [this,mv,mv,mv,mv];rfl
theorem Q1 (es:List cy):qk (.tuple (es.map dD))=true:=by
 rw [M2]
 exact B5 _ GQ es
theorem OC (fs:List Str) (es:List cy):qk (cP fs es)=true:=by
 have:qk (cP fs es)=(qk (ax fs) && (qk (.tuple (es.map dD)) && true)):=rfl
 rw [this,mv,Q1];rfl
theorem Rr (x:Str):Cr "str" (.str x)=true:=id rfl
theorem xH (x:List D):Cr "tuple" (.tuple x)=true:=id rfl
theorem Rs (x:Int):Cr "int" (.int x)=true:=id rfl
theorem Rt (x:Int):Cr "bool" (.int x)=false:=id rfl
theorem OD:∀ c:_root_.Fin 123,97<=c.val->(!oB ⟨#[c.val]⟩ "a")=true/\(!oB "z" ⟨#[c.val]⟩)=true:=by decide +kernel
theorem zU {x:Str} (h:BL x=true):nc [.str x]=.ok (.bool true):=by
 have hw:=h
 unfold BL at h
 simp only [aO,decide_eq_true_eq,cr] at h
 obtain ⟨⟨h1,h2⟩,h3⟩:=h
 have hl:x.length=x.cps.size:=rfl
 unfold nc
 refine cE ?_
 unfold qr bX
 walk_at "zz"
 rw [Rq,Rr]
 walk_at "zz"
 rw [if_pos (by omega)]
 walk_at "zz"
 rw [decide_eq_true (by omega)]
 walk_at "zz"
 rw [decide_eq_true (by omega)]
 walk_at "zz"
 unfold mK
 walk_at "zz"
 rw [if_pos (by rw [av];omega)]
 rw [d_ _ (fun c:Nat=>a_ ⟨#[c]⟩) (fun _=>df true) x.cps.toList fun c hc=>gd rfl (by
  obtain ⟨a1,a2⟩:=h3 c hc
  obtain ⟨b1,b2⟩:=OD ⟨c,by omega⟩ a1
  walk_at "zz"
  simp only at b1 b2
  rw [b1]
  walk_at "zz"
  rw [b2])]
 walk_at "zz"
 rw [jX _ (fun _=>true)]
 walk_at "zz"
 simp
theorem C_:∀ (xs ys:List Str),vV (xs.map .str) (ys.map .str)=(xs.zip ys).map fun p=>cO [.str p.1,.str p.2]
 | [],_=>rfl
 | _::_,[]=>rfl
 | x::r,y::r'=>by
  show cO [.str x,.str y]::vV (r.map .str) (r'.map .str)=_
  rw [C_ r r']
  rfl
theorem M3:∀ {l:List Str},(l.Pairwise fun a b=>oB a b=true)->∀ p∈l.zip (l.drop 1),oB p.1 p.2=true
 | [],_,p,hp=>by cases hp
 | [_],_,p,hp=>by cases hp
 | a::b::r,h,p,hp=>by
  obtain ⟨h1,h2⟩:=List.pairwise_cons.mp h
  rcases List.mem_cons.mp hp with z | z
  ·rw [z];exact h1 b am
  ·exact M3 h2 p z
theorem OE (xs:List Str):G9 (ax xs) (some 1) none=.ok (ax (xs.drop 1)):=by
 have e:G9 (ax xs) (some 1) none=.ok (.tuple (yO (xs.map .str) (some 1) none)):=rfl
 rw [e]
 cases xs with
 | nil=>rfl
 | cons x r =>
  rw [show (1:Int)=((1:Nat):Int) from rfl,L_ _ 1 (by simp)]
  rfl
theorem vt {xs:List Str} (hw:∀ x∈xs,BL x=true) (up:xs.Pairwise fun a b=>oB a b=true) (hl:xs.length<=6):fi [ax xs]=.ok (.bool true):=by
 unfold fi
 refine cE ?_
 unfold gE bX
 walk_at "zz"
 rw [mv,xH]
 walk_at "zz"
 rw [if_pos (by omega)]
 rw [d_ _ (fun x:Str=>a_ x) (fun _=>df true) xs fun x hx=>gd rfl (by
  walk_at "zz"
  rw [zU (hw x hx)])]
 walk_at "zz"
 rw [jX _ (fun _=>true)]
 walk_at "zz"
 rw [show ((xs.map fun _=>true).all id)=true by simp]
 walk_at "zz"
 rw [OE]
 walk_at "zz"
 rw [C_]
 walk_at "zz"
 rw [if_pos (by simp;omega)]
 rw [d_ _ (fun p:Str×Str=>cO [.str p.1,.str p.2]) (fun _=>df true) (xs.zip (xs.drop 1)) fun p hp=>M0 rfl (by
  walk_at "zz"
  rw [M3 up p hp])]
 walk_at "zz"
 rw [jX _ (fun _=>true)]
 walk_at "zz"
 simp
theorem iV {fs xs:List Str} (hw:∀ x∈fs,BL x=true) (h:qD fs xs) (hl:xs.length<=6):eS [ax fs,ax xs]=.ok (.bool true):=by
 unfold eS
 refine cE ?_
 unfold m7 bX
 walk_at "zz"
 rw [vt (fun x hx=>hw x (h.mem x hx)) h.up hl]
 walk_at "zz"
 rw [if_pos (by omega)]
 rw [d_ _ (fun x:Str=>a_ x) (fun _=>df true) xs fun x hx=>gd rfl (by
  walk_at "zz"
  rw [pM,decide_eq_true (h.mem x hx)]
  rfl)]
 walk_at "zz"
 rw [jX _ (fun _=>true)]
 walk_at "zz"
 simp
theorem uO {xs ys:List Str} (h:∀ x∈xs,x∉ys) (hl:xs.length<=6):eu [ax xs,ax ys]=.ok (.bool true):=by
 unfold eu
 refine cE ?_
 unfold jj bX
 walk_at "zz"
 rw [if_pos (by omega)]
 rw [d_ _ (fun x:Str=>a_ x) (fun _=>df false) xs fun x hx=>gd rfl (by
  walk_at "zz"
  rw [pM,decide_eq_false (h x hx)]
  rfl)]
 walk_at "zz"
 rw [jX _ (fun _=>false)]
 walk_at "zz"
 simp
theorem F9 {l i m:Int} (h0:l<=i) (h1:i<=m):nM [.int i,.int l,.int m]=.ok (.bool true):=by
 unfold nM
 refine cE ?_
 unfold nL bX
 walk_at "zz"
 rw [M1,Rs]
 walk_at "zz"
 rw [M1,Rt]
 walk_at "zz"
 rw [decide_eq_true h0]
 walk_at "zz"
 rw [decide_eq_true h1]
theorem B6:∀ (xs fs:List Str),xs.Nodup->(∀ x∈xs,x∈fs)->xs.length<=fs.length
 | [],_,_,_=>cn _
 | x::r,fs,nd,h=>by
  obtain ⟨n1,n2⟩:=List.nodup_cons.mp nd
  have hx:=h x am
  have:=B6 r (fs.erase x) n2 fun y hy=>(FR fun (z:y=x)=>n1 (z ▸ hy)).mpr (h y (aj _ hy))
  rw [BK hx] at this
  have:0<fs.length:=oW hx
  rw [bd]
  omega
theorem eD {fs xs:List Str} (h:qD fs xs) (hl:fs.length<=6):xs.length<=6:=by
 exact bU (B6 xs fs (kd h.up) h.mem) hl
theorem Vl (a b c d e f g:D):Lq (kH 6 (cx (bC 2) (cx (bC 3) (cx (bC 4) (cx (bC 5) (cx (bC 6) (cx (bC 7) lS))))))) [Sl.shr a,Sl.shr (.tuple [b,c,d,e,f,g]),.no,.no,.no,.no,.no,.no] (.tuple [b,c,d,e,f,g])=.ok (.nx [Sl.shr a,Sl.shr (.tuple [b,c,d,e,f,g]),.shr b,.shr c,.shr d,.shr e,.shr f,.shr g]):=id rfl
theorem D0 {fs:List Str} (hr:LS fs 6) {e:cy} (g:rf fs e):m9 [ax fs,dD e]=.ok (.bool true):=by
 have l1:=eD g.needs hr.len
 have l2:=eD g.bars hr.len
 have l3:=eD g.makes hr.len
 have l4:=eD g.ends hr.len
 unfold m9
 refine cE ?_
 unfold m8 bX
 walk_at "zz"
 rw [GQ]
 unfold dD
 walk_at "zz"
 rw [xH]
 walk_at "zz"
 rw [jm]
 walk_at "zz"
 rw [show decide (((6:Nat):Int)=6)=true from rfl]
 walk_at "zz"
 rw [Vl]
 ·walk_at "zz"
  rw [zU g.name]
  walk_at "zz"
  rw [F9 g.p0 g.p9]
  walk_at "zz"
  have pk:=d_ (fX 1 [Sl.no,Sl.shr (ax fs)] kT (fA 2 eS (J.ag (rS 1) (J.ag (rS 0) J.aM)))) (fun x:List Str=>ax x) (fun _=>df true) [e.needs,e.bars,e.makes,e.ends] fun x hx=>gd rfl (by
   walk_at "zz"
   simp only [bx,bn,or_false] at hx
   rcases hx with z | z | z | z<;>rw [z]
   ·rw [iV hr.ok g.needs l1]
   ·rw [iV hr.ok g.bars l2]
   ·rw [iV hr.ok g.makes l3]
   ·rw [iV hr.ok g.ends l4])
  simp only [ap,dA] at pk
  rw [pk]
  walk_at "zz"
  rw [show gU (fun bs=>bs.all id) (.list [.bool true,.bool true,.bool true,.bool true])=.ok (.bool true) from rfl]
  walk_at "zz"
  rw [uO g.nb l1]
  walk_at "zz"
  rw [uO g.me l3]
  walk_at "zz"
theorem M4 (l:List Str) (nd:l.Nodup):(c_ [] l).length=l.length:=by
 have h1:=B6 (c_ [] l) l (i7 l [] fm) fun x hx=>((io l [] x).mp hx).elim (fun h=>nomatch h) id
 have h2:=B6 l (c_ [] l) nd fun x hx=>(io l [] x).mpr (.inr hx)
 omega
theorem Iz (es:List cy) (hl:es.length<=6) (nd:(es.map (·.name)).Nodup) (s:Sl) (ρ:aw) (h:(s::ρ)[2]?=some (.shr (.tuple (es.map dD)))):tY (uJ 1 [] (k7 (rB 2)) kT (g2 (rB 0) (kI 0) bw)) (s::ρ)=.ok (.int (es.length:Nat)):=by
 have hr:E5 (s::ρ) 2=.ok (.tuple (es.map dD)):=by unfold E5;rw [h]
 unfold tY uJ
 rw [R4,Rg,hr]
 walk_at "zz"
 rw [if_pos (by omega)]
 rw [d_ _ dD (fun e=>a_ e.name) es fun e he=>gd rfl (by
  walk_at "zz"
  rfl)]
 walk_at "zz"
 have:(es.map fun e=>a_ e.name)=(es.map (·.name)).map .str:=by rw [bI];rfl
 rw [this,strsOf_map]
 simp only [rZ,M4 _ nd,ao]
theorem Vm (b c:D):Lq (kH 2 (cx (bC 1) (cx (bC 2) lS))) [Sl.shr (.tuple [b,c]),.no,.no] (.tuple [b,c])=.ok (.nx [Sl.shr (.tuple [b,c]),.shr b,.shr c]):=id rfl
theorem IA {fs:List Str}{es:List cy} (g:dO fs es):qu [cP fs es]=.ok (.bool true):=by
 have l1:=g.rise.len
 have l2:=g.len
 unfold qu
 refine cE ?_
 unfold qt bX
 walk_at "zz"
 rw [OC]
 unfold cP
 walk_at "zz"
 rw [xH]
 walk_at "zz"
 rw [jm]
 walk_at "zz"
 rw [show decide (((2:Nat):Int)=2)=true from rfl]
 walk_at "zz"
 rw [Vm]
 walk_at "zz"
 rw [vt g.rise.ok g.rise.up l1]
 walk_at "zz"
 rw [decide_eq_false (by omega)]
 walk_at "zz"
 rw [Q1,xH]
 walk_at "zz"
 rw [decide_eq_false (by omega)]
 walk_at "zz"
 rw [if_pos (by omega)]
 rw [d_ _ dD (fun _=>df true) es fun e he=>gd rfl (by
  walk_at "zz"
  rw [D0 g.rise (g.ok e he)])]
 walk_at "zz"
 rw [jX _ (fun _=>true)]
 walk_at "zz"
 rw [show ((es.map fun _=>true).all id)=true by simp]
 walk_at "zz"
 rw [Iz es l2 g.nd _ _ rfl]
 walk_at "zz"
 rw [jm,decide_eq_true rfl]
 rfl
theorem Fa {fs:List Str}{es:List cy} (g:dO fs es):qz [cP fs es]=.ok (cP fs es):=by
 unfold qz
 refine cE ?_
 unfold qy bX
 walk_at "zz"
 rw [IA g]
 walk_at "zz"
theorem D1 {α:Type} (c:α->D):∀ xs:List α,(∀ x∈xs,(c x).canLay0=true)->cL (xs.map c)=true
 | [],_=>rfl
 | x::r,h=>by
  have h1:=h x am
  have h2:=D1 c r fun y hy=>h y (aj _ hy)
  simp only [ap,cL,h1,h2,nr]
theorem D2 {i:Nat}{g:aw->R D}{ρ:aw}{ds:List D}{d:D} (hi:ρ[i]?=some (Sl.own (.list ds))) (hg:g ρ=.ok d) (hl:ds.length<1000):rW i g ρ=.ok (.nx (ρ.set i (.own (.list (ds++[d]))))):=by
 unfold rW
 simp only [hi,hg,bind_ok,if_pos hl]
theorem M5 {s s':Sl}{ρ:aw}{gt:aw->R Bool}{ge:aw->R D}{d d' y:D}{b:Bool} (h1:gt (.shr d::.shr d'::ρ)=.ok b) (h2:b=true->ge (.shr d::.shr d'::ρ)=.ok y):fX 2 (s::s'::ρ) gt ge (.tuple [d,d'])=.ok (if b then some y else none):=by
 have e:fX 2 (s::s'::ρ) gt ge (.tuple [d,d'])=Ii ((gt (.shr d::.shr d'::ρ)).bind fun b=>if b then (ge (.shr d::.shr d'::ρ)).bind fun y=>.ok (some y) else .ok none):=id rfl
 rw [e,h1,bind_ok]
 cases b with
 | true=>rw [if_pos rfl,h2 rfl];rfl
 | false=>rfl
theorem zV:∀ (xs:List Str) (n:Nat),(ms n xs).length=xs.length
 | [],_=>rfl
 | x::r,n=>by
  show (ms (n + 1) r).length + 1=r.length + 1
  rw [zV r]
theorem OF (ns:List Int) (k:Int) (hk:0<=k) (fs:List Str) (hl:fs.length<=6) (m:Int):∃ ss:List Str,nP [.list (ns.map .int),.int k,ax fs,.int m]=.ok (ax ss)/\ss.Sublist fs:=by
 refine ⟨((ms 0 fs).filter fun q=>decide (eX ns (k + (q.1:Int)) 12<m)).map (·.2),?_,?_⟩
 ·unfold nP
  refine cE ?_
  unfold nO bX
  walk_at "zz"
  rw [wy]
  walk_at "zz"
  rw [if_pos (by rw [zV];omega)]
  rw [eO _ cI (fun q=>a_ q.2) (fun q=>decide (eX ns (k + (q.1:Int)) 12<m)) (ms 0 fs) fun q hq=>M5 (by
   walk_at "zz"
   rw [fw ns _ 12 (by omega) (by decide)]
   walk_at "zz") fun _=>rfl]
  walk_at "zz"
  rw [fS]
  walk_at "zz"
  unfold ax
  rw [bI]
  rfl
 ·have:=(sS (l:=ms 0 fs) (p:=fun q=>decide (eX ns (k + (q.1:Int)) 12<m))).map (·.2)
  rw [qF] at this
  exact this
theorem Fb {fs xs:List Str} (up:fs.Pairwise fun a b=>oB a b=true) (h:xs.Sublist fs):qD fs xs:=⟨up.sublist h,fun x hx=>h.subset hx⟩
structure vv (fs m b:List Str):Prop where
 must:qD fs m
 bars:qD fs b
 mb:∀ x∈m,x∉b
abbrev j6 (m b:List Str):D:=.tuple [ax m,ax b]
theorem GR (p:List Str) (x:Str):p.map a_++[a_ x]=(p++[x]).map .str:=by simp
theorem OG (ns:List Int) (k:Int) (hk:0<=k) (fs:List Str) (up:fs.Pairwise fun a b=>oB a b=true) (hl:fs.length<=6):∃ m b,sg [.list (ns.map .int),.int k,ax fs]=.ok (j6 m b)/\vv fs m b:=by
 have nd:=kd up
 suffices H:∃ p q,lE (bX 8 [.list (ns.map .int),.int k,ax fs])=.ok (.rt (j6 p q))/\mL fs p q by
  obtain ⟨p,q,h1,h2⟩:=H
  exact ⟨p,q,cE h1,Fb up h2.sp,Fb up h2.sq,h2.d⟩
 unfold lE bX
 walk_at "yy"
 rw [n6 (ds:=(ms 0 fs).map cI)]
 ·have H:=pL cI (fun (a:Unit) (_:Nat×Str)=>a) (fun bG _ ρ=>∃ pre,pre++bG.map (·.2)=fs/\∃ p q,mL pre p q/\∃ z5 z6 z7,ρ=[.shr (.list (ns.map .int)),.shr (.int k),.shr (ax fs),.own (.list (p.map .str)),.own (.list (q.map .str)),z5,z6,z7]) (kt:=kH 2 (cx (bC 5) (cx (bC 6) lS))) (gb:=aS (f_ 7 (fA 3 bu (J.ag (rS 0) (J.ag (g2 (rB 1) (rB 5) dH) (J.ag (kI 8) J.aM))))) (fQ (fL (g2 (rB 7) (kI 2) yN)) (rW 3 (rS 6)) (fQ (fL (g2 (rB 7) (kI 2) (oO false))) (rW 4 (rS 6)) (fun ρ=>.ok (.nx ρ)))))
  obtain ⟨ρ',h1,pre,h2,p,q,h3,z5,z6,z7,h4⟩:=H (by
   rintro ⟨i,x⟩ bG _ ρ ⟨pre,h2,p,q,h3,z5,z6,z7,rfl⟩
   have hx:x∉pre:=by
    rw [<- h2,ap] at nd
    have:=(List.nodup_append.mp nd).2.2
    intro hx
    exact this x hx x am rfl
   have hpl:pre.length<900:=by
    have:=congrArg qV h2
    rw [aN] at this
    omega
   have lp:=h3.sp.length_le
   have lq:=h3.sq.length_le
   refine ⟨[.shr (.list (ns.map .int)),.shr (.int k),.shr (ax fs),.own (.list (p.map .str)),.own (.list (q.map .str)),.shr (.int (i:Nat)),.shr (.str x),z7],?_⟩
   by_cases c1:eX ns (k + (i:Nat)) 8<2
   ·refine ⟨[.shr (.list (ns.map .int)),.shr (.int k),.shr (ax fs),.own (.list ((p++[x]).map .str)),.own (.list (q.map .str)),.shr (.int (i:Nat)),.shr (.str x),.shr (.int (eX ns (k + (i:Nat)) 8))],rfl,?_,pre++[x],by rw [<- h2];simp,_,_,h3.left x hx,_,_,_,rfl⟩
    walk_at "zz"
    rw [fw ns _ 8 (by omega) (by decide)]
    walk_at "zz"
    rw [decide_eq_true c1]
    walk_at "zz"
    rw [<- GR]
    exact D2 (ds:=p.map .str) rfl rfl (by rw [ao];omega)
   ·by_cases c2:eX ns (k + (i:Nat)) 8=2
    ·refine ⟨[.shr (.list (ns.map .int)),.shr (.int k),.shr (ax fs),.own (.list (p.map .str)),.own (.list ((q++[x]).map .str)),.shr (.int (i:Nat)),.shr (.str x),.shr (.int (eX ns (k + (i:Nat)) 8))],rfl,?_,pre++[x],by rw [<- h2];simp,_,_,h3.right x hx,_,_,_,rfl⟩
     walk_at "zz"
     rw [fw ns _ 8 (by omega) (by decide)]
     walk_at "zz"
     rw [decide_eq_false c1]
     walk_at "zz"
     rw [jm]
     walk_at "zz"
     rw [decide_eq_true c2]
     walk_at "zz"
     rw [<- GR]
     exact D2 (ds:=q.map .str) rfl rfl (by rw [ao];omega)
    ·refine ⟨[.shr (.list (ns.map .int)),.shr (.int k),.shr (ax fs),.own (.list (p.map .str)),.own (.list (q.map .str)),.shr (.int (i:Nat)),.shr (.str x),.shr (.int (eX ns (k + (i:Nat)) 8))],rfl,?_,pre++[x],by rw [<- h2];simp,_,_,h3.skip x,_,_,_,rfl⟩
     walk_at "zz"
     rw [fw ns _ 8 (by omega) (by decide)]
     walk_at "zz"
     rw [decide_eq_false c1]
     walk_at "zz"
     rw [jm]
     walk_at "zz"
     rw [decide_eq_false c2]
     walk_at "zz") (ms 0 fs) () [.shr (.list (ns.map .int)),.shr (.int k),.shr (ax fs),.own (.list []),.own (.list []),.no,.no,.no] ⟨[],by rw [qF];rfl,[],[],⟨eh _,eh _,fun _ h=>nomatch h⟩,_,_,_,rfl⟩
  refine ⟨p,q,?_,?_⟩
  ·rw [h1,h4]
   walk_at "zz"
   rw [fS]
   walk_at "zz"
   rw [fS]
   walk_at "zz"
  ·simp only [dA,bZ] at h2
   rw [<- h2];exact h3
 ·walk_at "zz"
  rw [wy]
theorem Ru (j:Int) (h0:0<=j) (h1:j<2):∃ m:Int,bw (.list [.int 2,.int 4]) (.int j)=.ok (.int m):=by
 have:j=0\/j=1:=by omega
 rcases this with h | h<;>subst h
 ·exact ⟨2,rfl⟩
 ·exact ⟨4,rfl⟩
theorem M6 (fs:List Str) (es:List cy):bw (cP fs es) (.int 0)=.ok (ax fs):=id rfl
theorem Rv (fs:List Str) (es:List cy):bw (cP fs es) (.int 1)=.ok (.tuple (es.map dD)):=id rfl
theorem OH (ns:List Int) (m n:Int) (hm0:0<=m) (hm:m<=6) (hn0:0<=n) (hn:n<=6):∃ fs es ss wm wb,nV [.list (ns.map .int),.int m,.int n]=.ok (.tuple [cP fs es,ax ss,j6 wm wb])/\dO fs es/\qD fs ss/\vv fs wm wb/\fs.length<=m.toNat/\es.length<=n.toNat:=by
 obtain ⟨fs,es,hb,gb,fl⟩:=OB ns 100 (by decide) m n hm0 hm hn0 hn
 obtain ⟨pt,hp⟩:=Ru (eX ns 97 2) (fH _ _ _ (by decide)) (gH _ _ _ (by decide))
 obtain ⟨ss,hs,gs⟩:=OF ns 20 (by decide) fs gb.rise.len pt
 obtain ⟨wm,wb,hw,gw⟩:=OG ns 30 (by decide) fs gb.rise.up gb.rise.len
 refine ⟨fs,es,ss,wm,wb,?_,gb,Fb gb.rise.up gs,gw,fl⟩
 unfold nV
 refine cE ?_
 unfold nU bX
 walk_at "zz"
 rw [hb]
 walk_at "zz"
 rw [M6]
 walk_at "zz"
 rw [fw ns 97 2 (by decide) (by decide)]
 walk_at "zz"
 rw [hp]
 walk_at "zz"
 rw [hs]
 walk_at "zz"
 rw [M6]
 walk_at "zz"
 rw [hw]
 walk_at "zz"
theorem M7 {xs ys:List Str} (hl:xs.length<=60):eu [ax xs,ax ys]=.ok (.bool (!xs.any fun x=>decide (x∈ys))):=by
 unfold eu
 refine cE ?_
 unfold jj bX
 walk_at "zz"
 rw [if_pos (by omega)]
 rw [d_ _ (fun x:Str=>a_ x) (fun x=>df (decide (x∈ys))) xs fun x hx=>gd rfl (by
  walk_at "zz"
  rw [pM]
  rfl)]
 walk_at "zz"
 rw [jX _ (fun x=>decide (x∈ys))]
 walk_at "zz"
 rw [oU]
 rfl
theorem Q2 (neg:Bool) (xs:List Str):G4 neg (ax xs) .none=.ok (.bool neg):=by cases neg<;>rfl
theorem M8 (neg:Bool):G4 neg .none .none=.ok (.bool (!neg)):=by cases neg<;>rfl
theorem Vn (e:cy):bw (dD e) (.int 0)=.ok (.str e.name):=id rfl
theorem Vo (e:cy):bw (dD e) (.int 3)=.ok (ax e.makes):=id rfl
theorem Vp (e:cy):bw (dD e) (.int 4)=.ok (ax e.ends):=id rfl
theorem TW (e:cy):G9 (dD e) (some 1) (some 3)=.ok (j6 e.needs e.bars):=id rfl
theorem tw {xs:List D}{j:Nat}{v:D} (h:xs[j]?=some v):bw (.list xs) (.int (j:Nat))=.ok v:=by
 have e:bw (.list xs) (.int (j:Nat))=EU (.list xs) (.int (j:Nat)):=rfl
 rw [e]
 unfold EU
 simp only [tq h]
theorem Vq (a x y z:D) (r:aw):Lq (kH 3 (cx (bC 1) (cx (bC 2) (cx (bC 3) lS)))) (Sl.shr a::.no::.no::.no::r) (.tuple [x,y,z])=.ok (.nx (.shr a::.shr x::.shr y::.shr z::r)):=id rfl
def br (st a b:List Str):Bool:=(a.all fun x=>decide (x∈st)) && !b.any fun x=>decide (x∈st)
theorem Vr (m b:List Str):bw (j6 m b) (.int 0)=.ok (ax m):=id rfl
theorem Vs (m b:List Str):bw (j6 m b) (.int 1)=.ok (ax b):=id rfl
theorem B7 {st a b:List Str} (ha:a.length<=60) (hb:b.length<=60):gG [ax st,j6 a b]=.ok (.bool (br st a b)):=by
 unfold gG
 refine cE ?_
 unfold nW bX
 walk_at "zz"
 rw [Vr]
 walk_at "zz"
 rw [if_pos (by omega)]
 rw [d_ _ (fun x:Str=>a_ x) (fun x=>df (decide (x∈st))) a fun x hx=>gd rfl (by
  walk_at "zz"
  rw [pM]
  rfl)]
 walk_at "zz"
 rw [jX _ (fun x=>decide (x∈st))]
 walk_at "zz"
 rw [Vs]
 walk_at "zz"
 rw [if_pos (by omega)]
 rw [d_ _ (fun x:Str=>a_ x) (fun x=>df (decide (x∈st))) b fun x hx=>gd rfl (by
  walk_at "zz"
  rw [pM]
  rfl)]
 walk_at "zz"
 rw [jX _ (fun x=>decide (x∈st))]
 walk_at "zz"
 unfold br
 rw [oV,oU]
 have e:(id∘fun x=>decide (x∈st))=fun x=>decide (x∈st):=rfl
 rw [e]
 cases (a.all fun x=>decide (x∈st))<;>rfl
theorem B8 {n:Nat}{g:aw->R Fl}{ds:List D}{ρ:aw} (h:g (bX n ds)=.ok (.nx ρ)):fh n g ds=.ok .none:=by unfold fh;rw [h]
theorem TX (a x y:D):Lq (kH 2 (cx (bC 2) (cx (bC 3) lS))) [Sl.shr a,.shr (.tuple [x,y]),.no,.no] (.tuple [x,y])=.ok (.nx [.shr a,.shr (.tuple [x,y]),.shr x,.shr y]):=id rfl
theorem xI {st a b:List Str} (ha:a.length<=60) (hb:b.length<=60):ng [ax st,j6 a b]=.ok (.bool (br st a b)):=by
 unfold ng
 refine cE ?_
 unfold qx bX j6
 walk_at "zz"
 rw [TX]
 walk_at "zz"
 rw [if_pos (by omega)]
 rw [d_ _ (fun x:Str=>a_ x) (fun x=>df (decide (x∈st))) a fun x hx=>gd rfl (by
  walk_at "zz"
  rw [pM]
  rfl)]
 walk_at "zz"
 rw [jX _ (fun x=>decide (x∈st))]
 walk_at "zz"
 rw [M7 (by omega)]
 unfold br
 rw [oV]
 have e:(id∘fun x=>decide (x∈st))=fun x=>decide (x∈st):=rfl
 rw [e]
 cases (a.all fun x=>decide (x∈st))<;>rfl
theorem IB {fs ss:List Str}{es:List cy} (g:dO fs es) (h:qD fs ss):jS [cP fs es,ax ss]=.ok .none:=by
 unfold jS
 refine B8 (ρ:=[.shr (cP fs es),.shr (ax ss)]) ?_
 unfold jR bX
 walk_at "zz"
 rw [M6]
 walk_at "zz"
 rw [iV g.rise.ok h (eD h g.rise.len)]
 walk_at "zz"
theorem M9 {fs ss:List Str}{es:List cy} (g:dO fs es) (h:qD fs ss):jU [cP fs es,ax ss]=.ok .none:=by
 unfold jU
 refine B8 (ρ:=[.shr (cP fs es),.shr (ax ss)]) ?_
 unfold jT bX
 walk_at "zz"
 rw [Fa g]
 walk_at "zz"
 rw [IB g h]
 walk_at "zz"
theorem Ma {fs:List Str}{es:List cy}{x y:D}{p q r:Bool} (n:qk (.tuple [x,y])=true) (hx:eS [ax fs,x]=.ok (.bool p)) (hy:p=true->eS [ax fs,y]=.ok (.bool q)) (hs:p=true->q=true->eu [x,y]=.ok (.bool r)):qw [cP fs es,.tuple [x,y]]=.ok (.bool (p && (q && r))):=by
 unfold qw
 refine cE ?_
 unfold qv bX
 walk_at "zz"
 rw [n,xH]
 walk_at "zz"
 rw [jm]
 walk_at "zz"
 rw [show decide (((2:Nat):Int)=2)=true from rfl]
 walk_at "zz"
 rw [TX]
 walk_at "zz"
 rw [M6]
 walk_at "zz"
 rw [hx]
 cases p with
 | false=>rfl
 | true =>
  walk_at "zz"
  rw [M6]
  walk_at "zz"
  rw [hy rfl]
  cases q with
  | false=>rfl
  | true =>
   walk_at "zz"
   rw [hs rfl rfl]
   cases r<;>rfl
theorem Mb {fs m b:List Str}{es:List cy} (g:dO fs es) (h:vv fs m b):kK [cP fs es,j6 m b]=.ok .none:=by
 have n:qk (j6 m b)=true:=by
  have:qk (j6 m b)=(qk (ax m) && (qk (ax b) && true)):=rfl
  rw [this,mv,mv];rfl
 have l1:=eD h.must g.rise.len
 have l2:=eD h.bars g.rise.len
 unfold kK
 refine B8 (ρ:=[.shr (cP fs es),.shr (j6 m b)]) ?_
 unfold kJ bX
 walk_at "zz"
 rw [Ma n (iV g.rise.ok h.must l1) (fun _=>iV g.rise.ok h.bars l2) (fun _ _=>uO h.mb l1)]
 walk_at "zz"
 rfl
theorem Rw {fs ss m b:List Str}{es:List cy} (g:dO fs es) (h:qD fs ss) (w:vv fs m b):mi [cP fs es,ax ss,j6 m b]=.ok .none:=by
 unfold mi
 refine B8 (ρ:=[.shr (cP fs es),.shr (ax ss),.shr (j6 m b)]) ?_
 unfold mh bX
 walk_at "zz"
 rw [M9 g h]
 walk_at "zz"
 rw [Mb g w]
 walk_at "zz"
theorem Mc (xs:List D):jQ (.tuple xs)=.ok (.list xs):=id rfl
structure GS (e:cy):Prop where
 needs:e.needs.length<=6
 bars:e.bars.length<=6
 makes:e.makes.length<=6
 ends:e.ends.length<=6
theorem pO {fs:List Str}{es:List cy} (g:dO fs es) {e:cy} (he:e∈es):GS e :=
 ⟨eD (g.ok e he).needs g.rise.len,eD (g.ok e he).bars g.rise.len,eD (g.ok e he).makes g.rise.len,eD (g.ok e he).ends g.rise.len⟩
theorem Vt (e:cy):bw (dD e) (.int 1)=.ok (ax e.needs):=id rfl
theorem Vu (e:cy):bw (dD e) (.int 2)=.ok (ax e.bars):=id rfl
def GT (e:cy) (st:List Str):Option (List Str):=if br st e.needs e.bars then some (BM ((st.filter fun x=>!decide (x∈e.ends))++e.makes)) else none
def OI:Option (List Str)->D
 | none=>.none
 | some s=>ax s
theorem B9 {e:cy} (he:GS e) {st:List Str} (hs:st.length<=30):iU [dD e,ax st]=.ok (OI (GT e st)):=by
 have:=he.needs
 have:=he.bars
 have:=he.makes
 unfold iU
 refine cE ?_
 unfold nX bX
 walk_at "zz"
 rw [TW]
 walk_at "zz"
 rw [B7 (by omega) (by omega)]
 walk_at "zz"
 unfold GT
 cases hg:br st e.needs e.bars with
 | false =>
  walk_at "zz"
  rfl
 | true =>
  walk_at "zz"
  rw [if_pos (by omega)]
  rw [eO _ (fun x:Str=>a_ x) (fun x=>a_ x) (fun x=>!decide (x∈e.ends)) st fun x hx=>m6 (by
   walk_at "zz"
   rw [Vp]
   walk_at "zz"
   rw [pM]
   rfl) fun _=>rfl]
  have hf:(st.filter fun x=>!decide (x∈e.ends)).length<=st.length:=ed _ _
  walk_at "zz"
  rw [uN,GO]
  walk_at "zz"
  rw [Vo]
  walk_at "zz"
  rw [Mc]
  walk_at "zz"
  rw [if_pos (by omega)]
  walk_at "zz"
  rw [<- aV,xF _ (by rw [aN];omega)]
  walk_at "zz"
  rw [xG _ (by have:=fG ((st.filter fun x=>!decide (x∈e.ends))++e.makes) [];simp only [cq,aN] at this;omega)]
  walk_at "zz"
  rw [fS]
  rfl
theorem Md:∀ {a b:List Str},(a.Pairwise fun x y=>oB x y=true)->(b.Pairwise fun x y=>oB x y=true)->(∀ x,x∈a↔x∈b)->a=b:=by
 intro a b ha hb h
 have na:=kd ha
 have nb:=kd hb
 have p:a.Perm b:=(lZ na nb).mpr h
 exact p.eq_of_pairwise (fun x y _ _ h1 h2=>by
  have:=qi h1 h2
  rw [rO] at this
  cases this) ha hb
def aI (e:cy) (st:List Str):List Str:=BM ((st.filter fun x=>!decide (x∈e.ends))++e.makes)
theorem Fc {e:cy}{st:List Str}{x:Str}:x∈aI e st↔(x∈st/\x∉e.ends)\/x∈e.makes:=by
 unfold aI
 rw [mr]
 simp [yk]
theorem uP (e:cy) (st:List Str):GT e st=if br st e.needs e.bars then some (aI e st) else none:=rfl
theorem zW (s:List Str):OI (some s)=ax s:=rfl
theorem zX:OI none=.none:=rfl
theorem TY (ga gb:aw->R (List Str)) (s:Sl) (ρ:aw) {xs ys:List Str} (h1:ga (s::ρ)=.ok xs) (h2:gb (s::ρ)=.ok ys) (hl:xs.length + ys.length<=15):LD ga gb (s::ρ)=.ok (c_ xs ys):=by
 unfold LD J.R6
 rw [h1,bind_ok,h2,bind_ok,if_pos hl]
theorem zY (ss:List Str) (h:ss.length<60):rX (ax ss)=.ok (c_ [] ss):=by
 have e:∀ ds,rX (.tuple ds)=match fP ds with
  | some ss=>if ss.length<60 then .ok (c_ [] ss) else .no
  | none=>.no:=fun _=>rfl
 rw [e,strsOf_map]
 simp only [if_pos h]
theorem Rx (xs ys:List Str):jf (c_ (c_ [] xs) (c_ [] ys))=BM (xs++ys):=by
 refine Md (uH (pq _) ((gz _).nodup_iff.mpr (i7 _ _ (i7 _ [] fm)))) (F8 _) fun x=>?_
 rw [(gz _).mem_iff,io,io,io,mr,yj]
 simp
theorem IC {xs ys:List Str} (h:xs.length + ys.length<=12):u0 [ax xs,ax ys]=.ok (ax (BM (xs++ys))):=by
 have l1:=fG xs []
 have l2:=fG ys []
 simp only [cq] at l1 l2
 have l3:=fG (c_ [] ys) (c_ [] xs)
 unfold u0
 refine cE ?_
 unfold t_ bX
 walk_at "zz"
 rw [uN,TY _ _ _ _ (zY xs (by omega)) (zY ys (by omega)) (by omega)]
 walk_at "zz"
 rw [xG _ (by omega),Rx]
 walk_at "zz"
 rw [fS]
 walk_at "zz"
theorem Fd {xs ys:List Str} (h:xs.length<=60):qq [ax xs,ax ys]=.ok (ax (xs.filter fun x=>!decide (x∈ys))):=by
 unfold qq
 refine cE ?_
 unfold qp bX
 walk_at "zz"
 rw [if_pos (by omega)]
 rw [eO _ (fun x:Str=>a_ x) (fun x=>a_ x) (fun x=>!decide (x∈ys)) xs fun x hx=>m6 (by
  walk_at "zz"
  rw [pM]
  rfl) fun _=>rfl]
 walk_at "zz"
 rw [fS]
 walk_at "zz"
theorem TZ {i j:Nat}{gs:aw->R (List D)}{s:Sl}{ρ:aw}{d e:D} (h:gs (s::ρ)=.ok [d,e]):LF i j gs (s::ρ)=.ok (.nx (((s::ρ).set i (.shr d)).set j (.shr e))):=by
 unfold LF
 rw [h]
 rfl
theorem ID {e:cy} (he:GS e) {st:List Str} (hs:st.length<=6):jl [dD e,ax st]=.ok (ax (aI e st)):=by
 have:=he.makes
 have hf:(st.filter fun x=>!decide (x∈e.ends)).length<=st.length:=ed _ _
 unfold jl
 refine cE ?_
 unfold jk bX
 walk_at "zz"
 rw [TZ (d:=ax e.makes) (e:=ax e.ends) rfl]
 walk_at "zz"
 rw [Fd (by omega)]
 walk_at "zz"
 rw [IC (by omega)]
 rfl
theorem IE {e:cy} (he:GS e) {st:List Str}:mf [dD e,ax st]=.ok (.bool (br st e.needs e.bars)):=by
 have:=he.needs
 have:=he.bars
 unfold mf
 refine cE ?_
 unfold md bX
 walk_at "zz"
 rw [Vt]
 walk_at "zz"
 rw [Vu]
 walk_at "zz"
 rw [xI (by omega) (by omega)]
 walk_at "zz"
abbrev D3 (rs:List cy):D:=.list (rs.map fun e=>a_ e.name)
theorem kW {kt:D->aw->R aw}{gb:aw->R Fl}{d:D}{r:List D}{ρ ρ1 ρ2:aw} (h1:kt d ρ=.ok ρ1) (h2:gb ρ1=.ok (.nx ρ2)):iT kt gb (d::r) ρ=iT kt gb r ρ2:=by
 rw [iT,h1]
 simp only [h2]
def Ry (fs:List Str):List (List Str):=fs.foldl (fun acc f=>acc++acc.map (·++[f])) [[]]
theorem Me {i:Nat}{kt:D->aw->R aw}{gb:aw->R Fl}{ρ:aw}{d:D} (h:ρ[i]?=some (Sl.shr d)):oF i kt gb ρ=kq (k7 fun ρ=>E4 ρ i) kt gb ρ:=by
 unfold oF
 rw [h]
theorem Ba:∀ (fs:List Str) (acc:List (List Str)) (t u:List Str),t∈acc->u.Sublist fs->t++u∈fs.foldl (fun acc f=>acc++acc.map (·++[f])) acc
 | [],acc,t,u,ht,hu=>by
  cases hu
  rw [bZ]
  exact ht
 | f::r,acc,t,u,ht,hu=>by
  rw [cf]
  cases hu with
  | cons _ h=>exact Ba r _ t u (bf _ ht) h
  | cons_cons _ h =>
   rename_i u'
   have:=Ba r (acc++acc.map (·++[f])) (t++[f]) u' (az _ (aT ht)) h
   rwa [eG] at this
theorem Mf {fs xs:List Str} (hf:fs.Pairwise fun a b=>oB a b=true) (h:qD fs xs):xs.Sublist fs:=by
 have e:xs=fs.filter fun x=>decide (x∈xs):=Md h.up (hf.sublist sS) fun x=>by
  rw [yk,decide_eq_true_eq]
  exact ⟨fun z=>⟨h.mem x z,z⟩,fun z=>z.2⟩
 rw [e]
 exact sS
theorem Mg {fs xs:List Str} (hf:fs.Pairwise fun a b=>oB a b=true) (h:qD fs xs):xs∈Ry fs:=Ba fs [[]] [] xs (List.mem_singleton.mpr rfl) (Mf hf h)
def kX:List cy->List Str->Option (List Str)
 | [],st=>some st
 | e::r,st=>if br st e.needs e.bars then kX r (aI e st) else none
theorem si {fs st:List Str}{e:cy} (hf:fs.Pairwise fun a b=>oB a b=true) (g:rf fs e) (h:qD fs st):qD fs (aI e st):=by
 refine ⟨F8 _,fun x hx=>?_⟩
 rcases Fc.mp hx with z | z
 ·exact h.mem x z.1
 ·exact g.makes.mem x z
def bJ (l:List (List Str×D)):List (D×D):=l.map fun p=>(ax p.1,p.2)
abbrev iB (l:List (List Str×D)):List (List Str):=l.map (·.1)
theorem Fe (x:List Str):ax x=tD (x.map lO):=by
 unfold ax tD
 rw [bI]
 rfl
theorem i8 (x:List Str):k9 (ax x)=some (x.map lO):=by rw [Fe,LH]
theorem OJ {a b:List Str} (h:a.map (lO:Str->dv)=b.map lO):a=b:=by
 induction a generalizing b with
 | nil=>cases b with | nil=>rfl | cons _ _=>cases h
 | cons x r ih =>
  cases b with
  | nil=>cases h
  | cons y t =>
   simp only [ap,List.cons.injEq] at h
   rw [ih h.2,Sum.inr.inj h.1]
theorem Bb (x y:List Str):aZ (ax x) (ax y)=decide (x=y):=by
 rw [Fe,Fe,AU]
 by_cases h:x=y
 ·rw [h];simp
 ·rw [decide_eq_false h,decide_eq_false fun z=>h (OJ z)]
theorem D4 (l:List (List Str×D)):GE (bJ l)=bJ l:=by cases l<;>rfl
theorem jn {l:List (List Str×D)} (h:l≠[]):gD (bJ l)=true:=by
 have h2:((bJ l).all fun kv=>(k9 kv.1).isSome)=true:=by
  unfold bJ
  rw [oV,cr]
  intro p _
  show (k9 (ax p.1)).isSome=true
  rw [i8]
  rfl
 unfold gD
 rw [h2]
 cases l with
 | nil=>exact (h rfl).elim
 | cons _ _=>rfl
theorem qG (x:List Str):∀ l:List (List Str×D),ji (bJ l) (ax x)=(l.find? fun p=>decide (p.1=x)).map (·.2)
 | []=>rfl
 | p::r=>by
  have ih:=qG x r
  unfold ji bJ at ih ⊢
  rw [ap,bT,bT,Bb]
  by_cases h:p.1=x
  ·rw [decide_eq_true h];rfl
  ·rw [decide_eq_false h];exact ih
theorem D5 {l:List (List Str×D)} (nd:(iB l).Nodup) {p:List Str×D} (hp:p∈l):(l.find? fun q=>decide (q.1=p.1))=some p:=by
 induction l with
 | nil=>cases hp
 | cons q r ih =>
  obtain ⟨n1,n2⟩:=List.nodup_cons.mp nd
  rw [bT]
  rcases List.mem_cons.mp hp with h | h
  ·subst h;simp
  ·have:q.1≠p.1:=fun z=>n1 (by show q.1∈_;rw [z];exact aT h)
   rw [decide_eq_false this]
   exact ih n2 h
theorem IF {α:Type}{l:List α}{x:α} (h:x∈l):l≠[]:=fun z=>by rw [z] at h;cases h
theorem Mh {l:List (List Str×D)}{ds:List (D×D)} (hu:GE ds=bJ l) (nd:(iB l).Nodup) {p:List Str×D} (hp:p∈l):uM (.dict ds) (ax p.1)=.ok p.2:=by
 unfold uM
 simp only [i8,hu]
 rw [if_pos (jn (IF hp)),qG,D5 nd hp]
 rfl
theorem Bc {l:List (List Str×D)} (nd:(iB l).Nodup) {p:List Str×D} (hp:p∈l):uM (.dict (bJ l)) (ax p.1)=.ok p.2:=Mh (D4 l) nd hp
theorem Ff {l:List (List Str×D)} (nd:(iB l).Nodup) {p:List Str×D} (hp:p∈l):uM (.dict ((.none,.none)::bJ l)) (ax p.1)=.ok p.2:=Mh rfl nd hp
theorem zZ (x:List Str):∀ l:List (List Str×D),((l.find? fun p=>decide (p.1=x)).map (·.2)).isSome=decide (x∈iB l)
 | []=>by simp
 | p::r=>by
  rw [bT]
  by_cases h:p.1=x
  ·rw [decide_eq_true h]
   simp [h]
  ·rw [decide_eq_false h]
   simp only
   rw [zZ x r]
   simp [cW h]
theorem GU {l:List (List Str×D)} (h:l≠[]) (x:List Str):On true (ax x) (.dict (bJ l))=.ok (.bool (!decide (x∈iB l))):=by
 unfold On
 simp only [i8,D4]
 rw [if_pos (jn h),qG,zZ]
 rfl
theorem u6 (l:List (List Str×D)):xy (.dict ((.none,.none)::bJ l))=.ok ((iB l).map ax):=by
 show R.ok ((bJ l).map (·.1))=_
 unfold bJ iB
 rw [bI,bI]
 rfl
theorem GV {l:List (List Str×D)}{x:List Str} (h:x∉iB l) (d:D):m_ (bJ l) (ax x) d=bJ (l++[(x,d)]):=by
 have e:((bJ l).any fun kv=>aZ kv.1 (ax x))=false:=by
  unfold bJ
  rw [oU,Jn]
  intro p hp
  show ¬aZ (ax p.1) (ax x)=true
  rw [Bb,decide_eq_true_eq]
  exact fun z=>h (by rw [<- z];exact aT hp)
 unfold m_
 rw [e,if_neg bq]
 unfold bJ
 rw [aV]
 rfl
theorem Mi {i:Nat}{gk g:aw->R D}{ρ:aw}{l:List (List Str×D)}{x:List Str}{d:D} (hi:ρ[i]?=some (Sl.own (.dict (bJ l)))) (hg:g ρ=.ok d) (hk:gk ρ=.ok (ax x)) (hn:l≠[]) (hl:l.length<1000) (hx:x∉iB l):lB i gk g ρ=.ok (.nx (ρ.set i (.own (.dict (bJ (l++[(x,d)])))))):=by
 have hl':(bJ l).length<1000:=by unfold bJ;rw [ao];exact hl
 have e:lB i gk g ρ=(g ρ).bind fun d=>(gk ρ).bind fun k=>match k9 k with
  | some _=>if (bJ l).length<1000/\gD (bJ l)=true then .ok (.nx (ρ.set i (.own (.dict (m_ (bJ l) k d))))) else .no
  | none=>.no:=by
  unfold lB
  simp only [hi]
  try rfl
 rw [e,hg,rZ,hk,rZ]
 simp only [i8,if_pos (lX hl' (jn hn)),GV hx]
theorem Rz {i:Nat}{g:aw->R Fl}{ρ:aw}{l:List (List Str×D)} (hn:l≠[]) (h:ρ[i]?=some (Sl.own (.dict (bJ l)))):Op i g ρ=g (ρ.set i (.own (.dict ((.none,.none)::bJ l)))):=by
 unfold Op
 congr 1
 unfold ka
 rw [h]
 cases l with
 | nil=>exact (hn rfl).elim
 | cons p r=>rfl
theorem T_ {gk gv:aw->R D}{s:Sl}{ρ:aw}{x:List Str}{d:D} (h1:gk (s::ρ)=.ok (ax x)) (h2:gv (s::ρ)=.ok d):PR gk gv (s::ρ)=.ok (.dict (bJ [(x,d)])):=by
 unfold PR
 rw [h1,bind_ok,h2,bind_ok]
 simp only [i8]
 rfl
theorem U0 {g:aw->R D}{s:Sl}{ρ:aw}{ds:List D} (h:g (s::ρ)=.ok (.list ds)):AW g (s::ρ)=.ok (!ds.isEmpty):=by
 unfold AW
 rw [h,bind_ok]
theorem GW (g:aw->R D) (s:Sl) (ρ:aw):xz g (s::ρ)=(g (s::ρ)).bind xy:=id rfl
theorem D6 {α:Type} [DecidableEq α] : ∀ {l m:List α},l.Nodup->(∀ x∈l,x∈m)->l.length<=m.length
 | [],_,_,_=>cn _
 | x::r,m,nd,h=>by
  obtain ⟨n1,n2⟩:=List.nodup_cons.mp nd
  have hx:=h x am
  have:=D6 (l:=r) (m:=m.erase x) n2 fun y hy=>(FR fun z=>n1 (by rw [<- z];exact hy)).mpr (h y (aj _ hy))
  rw [BK hx] at this
  have:=oW hx
  simp only [bd]
  omega
theorem D7:∀ (fs:List Str) (acc:List (List Str)),(fs.foldl (fun acc f=>acc++acc.map (·++[f])) acc).length=acc.length * 2 ^ fs.length
 | [],acc=>by simp
 | f::r,acc=>by
  rw [cf,D7 r,aN,ao,bd,Ej,<- Nat.two_mul,Ek 2,Nat.mul_assoc,Ek 2]
theorem OK {fs:List Str} (h:fs.length<=6):(Ry fs).length<=64:=by
 unfold Ry
 rw [D7]
 have:2 ^ fs.length<=2 ^ 6:=rH (by decide) h
 simp only [bd,cq]
 omega
theorem D8 {fs:List Str} (hf:LS fs 6) {l:List (List Str×D)} (nd:(iB l).Nodup) (h:∀ x∈iB l,qD fs x):l.length<=64:=by
 have:=D6 nd fun x hx=>Mg hf.up (h x hx)
 rw [ao] at this
 exact bU this (OK hf.len)
def RW (es:List cy) (st x:List Str):Prop:=∃ rs:List cy,(∀ e∈rs,e∈es)/\kX rs st=some x
theorem pP (e:cy):∀ (rs:List cy) (st x:List Str),kX rs st=some x->br x e.needs e.bars=true->kX (rs++[e]) st=some (aI e x)
 | [],st,x,h,g=>by cases h;show (if br st e.needs e.bars then kX [] (aI e st) else none)=_;rw [g];rfl
 | a::r,st,x,h,g=>by
  show (if br st a.needs a.bars then kX (r++[e]) (aI a st) else none)=_
  have h':(if br st a.needs a.bars then kX r (aI a st) else none)=some x:=h
  split at h'
  ·rename_i hg
   rw [if_pos hg]
   exact pP e r _ _ h' g
  ·cases h'
theorem sj {es:List cy}{M:List Str->Prop} (hc:∀ x,M x->∀ e∈es,br x e.needs e.bars=true->M (aI e x)):∀ (rs:List cy) (st x:List Str),M st->(∀ e∈rs,e∈es)->kX rs st=some x->M x
 | [],st,x,hm,_,h=>by cases h;exact hm
 | a::r,st,x,hm,he,h=>by
  have h':(if br st a.needs a.bars then kX r (aI a st) else none)=some x:=h
  split at h'
  ·rename_i hg
   exact sj hc r _ _ (hc st hm a (he a am) hg) (fun e h=>he e (aj _ h)) h'
  ·cases h'
theorem D9 {fs st:List Str}{es:List cy} (g:dO fs es) (hs:qD fs st):gF [cP fs es,ax st]=.ok (.list ((es.filter fun e=>br st e.needs e.bars).map fun e=>cO [dD e,ax (aI e st)])):=by
 have ls:=eD hs g.rise.len
 have lg:=g.len
 unfold gF
 refine cE ?_
 unfold kL bX
 walk_at "zz"
 rw [Rv]
 walk_at "zz"
 rw [if_pos (by omega)]
 rw [eO _ dD (fun e=>cO [dD e,ax (aI e st)]) (fun e=>br st e.needs e.bars) es fun e he=>m6 (by
  walk_at "zz"
  rw [IE (pO g he)]
  walk_at "zz") fun _=>(by
  walk_at "zz"
  rw [ID (pO g he) ls]
  walk_at "zz")]
 walk_at "zz"
abbrev LZ:=List (List Str×List cy)
def eP (l:LZ):List (List Str×D):=l.map fun p=>(p.1,D3 p.2)
structure ku (fs st:List Str) (es:List cy) (l:LZ):Prop where
 nd:(l.map (·.1)).Nodup
 beg:(st,[])∈l
 sub:∀ p∈l,qD fs p.1
 row:∀ p∈l,(∀ e∈p.2,e∈es)/\kX p.2 st=some p.1/\p.2.length<l.length
theorem ir (l:LZ):iB (eP l)=l.map (·.1):=by
 unfold iB eP
 rw [bI]
 rfl
theorem ku.ne {fs st:List Str}{es:List cy}{l:LZ} (h:ku fs st es l):eP l≠[]:=by
 intro z
 have:=List.map_eq_nil_iff.mp z
 have h1:=h.beg
 rw [this] at h1
 cases h1
theorem ku.few {fs st:List Str}{es:List cy}{l:LZ} (g:dO fs es) (h:ku fs st es l):l.length<=64:=by
 have:=D8 g.rise (l:=eP l) (by rw [ir];exact h.nd) fun x hx=>by
  rw [ir] at hx
  obtain ⟨p,hp,rfl⟩:=List.mem_map.mp hx
  exact h.sub p hp
 unfold eP at this
 rw [ao] at this
 exact this
def gX (at0:List Str) (row:List cy) (b:LZ×List (List Str)) (e:cy):LZ×List (List Str) :=
 if aI e at0∈b.1.map (·.1) then b else (b.1++[(aI e at0,row++[e])],b.2++[aI e at0])
theorem RA {fs st at0:List Str}{es:List cy}{row:List cy}{b:LZ×List (List Str)}{e:cy} (g:dO fs es) (h:ku fs st es b.1) (hr:(at0,row)∈b.1) (he:e∈es) (hg:br at0 e.needs e.bars=true):ku fs st es (gX at0 row b e).1:=by
 unfold gX
 split
 ·exact h
 ·rename_i hn
  obtain ⟨r1,r2,r3⟩:=h.row _ hr
  refine ⟨?_,bf _ h.beg,fun p hp=>?_,fun p hp=>?_⟩
  ·rw [aV]
   exact wo h.nd hn
  ·rcases List.mem_append.mp hp with z | z
   ·exact h.sub p z
   ·rw [List.mem_singleton.mp z]
    exact si g.rise.up (g.ok e he) (h.sub _ hr)
  ·rw [aN,cK]
   rcases List.mem_append.mp hp with z | z
   ·obtain ⟨k1,k2,k3⟩:=h.row p z
    exact ⟨k1,k2,by omega⟩
   ·rw [List.mem_singleton.mp z]
    refine ⟨fun x hx=>?_,pP e _ _ _ r2 hg,?_⟩
    ·rcases List.mem_append.mp hx with y | y
     ·exact r1 x y
     ·rw [List.mem_singleton.mp y];exact he
    ·show (row++[e]).length<b.1.length + 1
     rw [aN,cK]
     have:row.length<b.1.length:=r3
     omega
theorem Db (at0:List Str) (row:List cy) (b:LZ×List (List Str)) (e:cy):(∀ p∈b.1,p∈(gX at0 row b e).1)/\aI e at0∈(gX at0 row b e).1.map (·.1)/\(∀ x∈(gX at0 row b e).1.map (·.1),x∈b.1.map (·.1)\/x∈(gX at0 row b e).2)/\(∀ x∈b.2,x∈(gX at0 row b e).2)/\(∀ x∈(gX at0 row b e).2,x∈b.2\/x∈(gX at0 row b e).1.map (·.1))/\b.1.length + (gX at0 row b e).2.length=(gX at0 row b e).1.length + b.2.length:=by
 unfold gX
 split
 ·rename_i h
  exact ⟨fun _ h=>h,h,fun _ h=>.inl h,fun _ h=>h,fun _ h=>.inl h,rfl⟩
 ·refine ⟨fun p hp=>bf _ hp,?_,fun x hx=>?_,fun x hx=>bf _ hx,fun x hx=>?_,?_⟩
  ·rw [aV];exact az _ am
  ·rw [aV] at hx
   rcases List.mem_append.mp hx with z | z
   ·exact .inl z
   ·exact .inr (az _ z)
  ·rcases List.mem_append.mp hx with z | z
   ·exact .inl z
   ·rw [aV];exact .inr (az _ z)
  ·simp only [aN,cK]
   omega
def Uk:aw->R Fl:=(fQ (fL (g2 (rB 7) (rB 2) (On true))) (aS (lB 2 (rS 7) (g2 (g2 (rB 2) (rB 5) uM) (eJ (J.ag (g2 (rB 6) (kI 0) bw) J.aM) .list) dH)) (rW 4 (rS 7))) (fun ρ=>.ok (.nx ρ)))
def IG:aw->R Fl:=kq (k7 (fA 2 gF (J.ag (rS 0) (J.ag (rS 5) J.aM)))) (kH 2 (cx (bC 6) (cx (bC 7) lS))) Uk
def U1:aw->R Fl:=aS (eC 4 (eJ J.aM .list)) (aS (oF 3 (bC 5) IG) (Jj 4 (f_ 3 (rS 4))))
theorem Mj:kM=aS (eC 2 (PR (rS 1) (eJ J.aM .list))) (aS (eC 3 (eJ (J.ag (rS 1) J.aM) .list)) (aS (iD (AW (rB 3)) U1 100000) (Op 2 (dJ (rS 2))))):=rfl
theorem Dc {l:LZ}{p:List Str×List cy} (h:p∈l):(p.1,D3 p.2)∈eP l:=aT (f:=fun p:List Str×List cy=>(p.1,D3 p.2)) h
theorem RC {fs st:List Str}{es:List cy}{l:LZ} (h:ku fs st es l) {at0:List Str}{row:List cy} (hr:(at0,row)∈l):uM (.dict (bJ (eP l))) (ax at0)=.ok (D3 row):=by
 have:=Bc (l:=eP l) (by rw [ir];exact h.nd) (Dc hr)
 exact this
theorem Mk (l:LZ) (x:List Str) (r:List cy):eP (l++[(x,r)])=eP l++[(x,D3 r)]:=by
 unfold eP
 rw [aV]
 rfl
theorem OL {fs st at0:List Str}{es:List cy}{row:List cy} (g:dO fs es) (B S:D) (o3 z6 z7:Sl) {b:LZ×List (List Str)}{e:cy} (h:ku fs st es b.1) (hr:(at0,row)∈b.1) (hl:b.2.length<=b.1.length) :
  Uk [.shr B,.shr S,.own (.dict (bJ (eP b.1))),o3,.own (.list (b.2.map ax)),.shr (ax at0),.shr (dD e),.shr (ax (aI e at0))]=.ok (.nx [.shr B,.shr S,.own (.dict (bJ (eP (gX at0 row b e).1))),o3,.own (.list ((gX at0 row b e).2.map ax)),.shr (ax at0),.shr (dD e),.shr (ax (aI e at0))]):=by
 have few:=h.few g
 have rl:=(h.row _ hr).2.2
 have k64:row.length<b.1.length:=rl
 unfold Uk
 walk_at "zz"
 rw [GU h.ne,ir]
 unfold gX
 by_cases hm:aI e at0∈b.1.map (·.1)
 ·rw [if_pos hm,decide_eq_true hm]
  walk_at "zz"
 ·rw [if_neg hm,decide_eq_false hm]
  walk_at "zz"
  rw [Mi (l:=eP b.1) (x:=aI e at0) (d:=D3 (row++[e])) rfl ?_ rfl h.ne (by unfold eP;rw [ao];omega) (by rw [ir];exact hm)]
  ·walk_at "zz"
   rw [D2 (ds:=b.2.map ax) (d:=ax (aI e at0)) rfl rfl (by rw [ao];omega),Mk,aV]
   rfl
  ·walk_at "zz"
   rw [RC h hr]
   walk_at "zz"
   rw [Vn]
   walk_at "zz"
   rw [if_pos (by omega)]
   simp only [D3,aV]
   rfl
theorem Dd {fs st at0:List Str}{es:List cy}{row:List cy}:∀ (xs:List cy) (b:LZ×List (List Str)),(∀ p∈b.1,p∈(xs.foldl (gX at0 row) b).1)/\(∀ e∈xs,aI e at0∈(xs.foldl (gX at0 row) b).1.map (·.1))/\(∀ x∈(xs.foldl (gX at0 row) b).1.map (·.1),x∈b.1.map (·.1)\/x∈(xs.foldl (gX at0 row) b).2)/\(∀ x∈b.2,x∈(xs.foldl (gX at0 row) b).2)/\(∀ x∈(xs.foldl (gX at0 row) b).2,x∈b.2\/x∈(xs.foldl (gX at0 row) b).1.map (·.1))/\b.1.length + (xs.foldl (gX at0 row) b).2.length=(xs.foldl (gX at0 row) b).1.length + b.2.length
 | [],b=>⟨fun _ h=>h,fun _ h=>(nomatch h),fun _ h=>.inl h,fun _ h=>h,fun _ h=>.inl h,rfl⟩
 | e::r,b=>by
  obtain ⟨a1,a2,a3,a4,a5,a6⟩:=Db at0 row b e
  obtain ⟨b1,b2,b3,b4,b5,b6⟩:=Dd (fs:=fs) (st:=st) (es:=es) r (gX at0 row b e)
  rw [cf]
  have km:∀ x∈(gX at0 row b e).1.map (·.1),x∈(r.foldl (gX at0 row) (gX at0 row b e)).1.map (·.1):=fun x hx=>by
   obtain ⟨p,hp,rfl⟩:=List.mem_map.mp hx
   exact aT (b1 p hp)
  refine ⟨fun p hp=>b1 p (a1 p hp),fun x hx=>?_,fun x hx=>?_,fun x hx=>b4 x (a4 x hx),fun x hx=>?_,by omega⟩
  ·rcases List.mem_cons.mp hx with z | z
   ·rw [z];exact km _ a2
   ·exact b2 x z
  ·rcases b3 x hx with z | z
   ·rcases a3 x z with y | y
    ·exact .inl y
    ·exact .inr (b4 x y)
   ·exact .inr z
  ·rcases b5 x hx with z | z
   ·rcases a5 x z with y | y
    ·exact .inl y
    ·exact .inr (km x y)
   ·exact .inr z
theorem RE {fs st at0:List Str}{es:List cy}{row:List cy} (g:dO fs es) (B S:D) (o3 z6 z7:Sl) {b:LZ×List (List Str)} (h:ku fs st es b.1) (hr:(at0,row)∈b.1) (hl:b.2.length<=b.1.length) (xs:List cy) (hx:∀ e∈xs,e∈es/\br at0 e.needs e.bars=true) :
  ku fs st es (xs.foldl (gX at0 row) b).1/\∃ y6 y7,iT (kH 2 (cx (bC 6) (cx (bC 7) lS))) Uk (xs.map fun e=>cO [dD e,ax (aI e at0)]) [.shr B,.shr S,.own (.dict (bJ (eP b.1))),o3,.own (.list (b.2.map ax)),.shr (ax at0),z6,z7]=.ok (.nx [.shr B,.shr S,.own (.dict (bJ (eP (xs.foldl (gX at0 row) b).1))),o3,.own (.list ((xs.foldl (gX at0 row) b).2.map ax)),.shr (ax at0),y6,y7]):=by
 induction xs generalizing b z6 z7 with
 | nil=>exact ⟨h,z6,z7,rfl⟩
 | cons e r ih =>
  obtain ⟨he,hg⟩:=hx e am
  obtain ⟨a1,a2,a3,a4,a5,a6⟩:=Db at0 row b e
  have h':=RA g h hr he hg
  obtain ⟨q1,y6,y7,q2⟩:=ih (.shr (dD e)) (.shr (ax (aI e at0))) h' (a1 _ hr) (by omega) fun x z=>hx x (aj _ z)
  refine ⟨q1,y6,y7,?_⟩
  rw [ap,kW (ρ1:=[.shr B,.shr S,.own (.dict (bJ (eP b.1))),o3,.own (.list (b.2.map ax)),.shr (ax at0),.shr (dD e),.shr (ax (aI e at0))]) rfl (OL g B S o3 z6 z7 h hr hl)]
  exact q2
def nh (l:LZ) (x:List Str):List cy:=((l.find? fun p=>decide (p.1=x)).map (·.2)).getD []
theorem i9 {l:LZ}{x:List Str} (h:x∈l.map (·.1)):(x,nh l x)∈l:=by
 unfold nh
 induction l with
 | nil=>cases h
 | cons p r ih =>
  rw [bT]
  by_cases hp:p.1=x
  ·rw [decide_eq_true hp]
   subst hp
   exact am
  ·rw [decide_eq_false hp]
   rcases List.mem_cons.mp h with z | z
   ·exact (hp z.symm).elim
   ·exact aj _ (ih z)
def lF (es:List cy) (b:LZ×List (List Str)) (x:List Str):LZ×List (List Str):=(es.filter fun e=>br x e.needs e.bars).foldl (gX x (nh b.1 x)) b
theorem Ml {fs st at0:List Str}{es:List cy} (g:dO fs es) (S:D) (o3 z6 z7:Sl) {b:LZ×List (List Str)} (h:ku fs st es b.1) (hr:at0∈b.1.map (·.1)) (hl:b.2.length<=b.1.length) :
  ku fs st es (lF es b at0).1/\∃ y6 y7,IG [.shr (cP fs es),.shr S,.own (.dict (bJ (eP b.1))),o3,.own (.list (b.2.map ax)),.shr (ax at0),z6,z7]=.ok (.nx [.shr (cP fs es),.shr S,.own (.dict (bJ (eP (lF es b at0).1))),o3,.own (.list ((lF es b at0).2.map ax)),.shr (ax at0),y6,y7]):=by
 have hm:=i9 hr
 obtain ⟨q1,y6,y7,q2⟩:=RE g (cP fs es) S o3 z6 z7 h hm hl (es.filter fun e=>br at0 e.needs e.bars) fun e he=>List.mem_filter.mp he
 refine ⟨q1,y6,y7,?_⟩
 unfold IG
 rw [n6 (ds:=(es.filter fun e=>br at0 e.needs e.bars).map fun e=>cO [dD e,ax (aI e at0)])]
 ·exact q2
 ·walk_at "zz"
  rw [D9 g (h.sub _ hm)]
  walk_at "zz"
theorem GX (es:List cy) (b:LZ×List (List Str)) (x:List Str):(∀ p∈b.1,p∈(lF es b x).1)/\(∀ e∈es,br x e.needs e.bars=true->aI e x∈(lF es b x).1.map (·.1))/\(∀ y∈(lF es b x).1.map (·.1),y∈b.1.map (·.1)\/y∈(lF es b x).2)/\(∀ y∈b.2,y∈(lF es b x).2)/\(∀ y∈(lF es b x).2,y∈b.2\/y∈(lF es b x).1.map (·.1))/\b.1.length + (lF es b x).2.length=(lF es b x).1.length + b.2.length:=by
 obtain ⟨b1,b2,b3,b4,b5,b6⟩:=Dd (fs:=[]) (st:=[]) (es:=es) (at0:=x) (row:=nh b.1 x) (es.filter fun e=>br x e.needs e.bars) b
 exact ⟨b1,fun e he hg=>b2 e (List.mem_filter.mpr ⟨he,hg⟩),b3,b4,b5,b6⟩
theorem uQ (es:List cy):∀ (ring:List (List Str)) (b:LZ×List (List Str)),(∀ p∈b.1,p∈(ring.foldl (lF es) b).1)/\(∀ x∈ring,∀ e∈es,br x e.needs e.bars=true->aI e x∈(ring.foldl (lF es) b).1.map (·.1))/\(∀ y∈(ring.foldl (lF es) b).1.map (·.1),y∈b.1.map (·.1)\/y∈(ring.foldl (lF es) b).2)/\(∀ y∈b.2,y∈(ring.foldl (lF es) b).2)/\(∀ y∈(ring.foldl (lF es) b).2,y∈b.2\/y∈(ring.foldl (lF es) b).1.map (·.1))/\b.1.length + (ring.foldl (lF es) b).2.length=(ring.foldl (lF es) b).1.length + b.2.length
 | [],b=>⟨fun _ h=>h,fun _ h=>(nomatch h),fun _ h=>.inl h,fun _ h=>h,fun _ h=>.inl h,rfl⟩
 | x::r,b=>by
  obtain ⟨a1,a2,a3,a4,a5,a6⟩:=GX es b x
  obtain ⟨b1,b2,b3,b4,b5,b6⟩:=uQ es r (lF es b x)
  rw [cf]
  have km:∀ y∈(lF es b x).1.map (·.1),y∈(r.foldl (lF es) (lF es b x)).1.map (·.1):=fun y hy=>by
   obtain ⟨p,hp,rfl⟩:=List.mem_map.mp hy
   exact aT (b1 p hp)
  refine ⟨fun p hp=>b1 p (a1 p hp),fun y hy e he hg=>?_,fun y hy=>?_,fun y hy=>b4 y (a4 y hy),fun y hy=>?_,by omega⟩
  ·rcases List.mem_cons.mp hy with z | z
   ·subst z;exact km _ (a2 e he hg)
   ·exact b2 y z e he hg
  ·rcases b3 y hy with z | z
   ·rcases a3 y z with w | w
    ·exact .inl w
    ·exact .inr (b4 y w)
   ·exact .inr z
  ·rcases b5 y hy with z | z
   ·rcases a5 y z with w | w
    ·exact .inl w
    ·exact .inr (km y w)
   ·exact .inr z
theorem Mm {fs st:List Str}{es:List cy} (g:dO fs es) (S:D) (o3 z5 z6 z7:Sl) {b:LZ×List (List Str)} (h:ku fs st es b.1) (hl:b.2.length<=b.1.length) (ring:List (List Str)) (hx:∀ x∈ring,x∈b.1.map (·.1)) :
  ku fs st es (ring.foldl (lF es) b).1/\∃ y5 y6 y7,iT (bC 5) IG (ring.map ax) [.shr (cP fs es),.shr S,.own (.dict (bJ (eP b.1))),o3,.own (.list (b.2.map ax)),z5,z6,z7]=.ok (.nx [.shr (cP fs es),.shr S,.own (.dict (bJ (eP (ring.foldl (lF es) b).1))),o3,.own (.list ((ring.foldl (lF es) b).2.map ax)),y5,y6,y7]):=by
 induction ring generalizing b z5 z6 z7 with
 | nil=>exact ⟨h,z5,z6,z7,rfl⟩
 | cons x r ih =>
  obtain ⟨a1,a2,a3,a4,a5,a6⟩:=GX es b x
  obtain ⟨h',y6,y7,q⟩:=Ml g S o3 z6 z7 h (hx x am) hl
  obtain ⟨q1,w5,w6,w7,q2⟩:=ih (.shr (ax x)) y6 y7 h' (by omega) fun y hy=>by
   obtain ⟨p,hp,e⟩:=List.mem_map.mp (hx y (aj _ hy))
   rw [<- e]
   exact aT (a1 p hp)
  refine ⟨q1,w5,w6,w7,?_⟩
  rw [ap,kW (ρ1:=[.shr (cP fs es),.shr S,.own (.dict (bJ (eP b.1))),o3,.own (.list (b.2.map ax)),.shr (ax x),z6,z7]) rfl q]
  exact q2
theorem OM {fs st:List Str}{es:List cy} (g:dO fs es) (S:D) (o3 z4 z5 z6 z7:Sl) {l:LZ} (h:ku fs st es l) (ring:List (List Str)) (hx:∀ x∈ring,x∈l.map (·.1)) (ho:o3=.own (.list (ring.map ax))\/o3=.shr (.list (ring.map ax))) :
  ku fs st es (ring.foldl (lF es) (l,[])).1/\∃ y4 y5 y6 y7,U1 [.shr (cP fs es),.shr S,.own (.dict (bJ (eP l))),o3,z4,z5,z6,z7]=.ok (.nx [.shr (cP fs es),.shr S,.own (.dict (bJ (eP (ring.foldl (lF es) (l,[])).1))),.shr (.list ((ring.foldl (lF es) (l,[])).2.map ax)),y4,y5,y6,y7]):=by
 have L:=fun o=>Mm g S o z5 z6 z7 (b:=(l,[])) h (cn _) ring hx
 unfold U1
 walk_at "zz"
 rcases ho with ho | ho
 ·subst ho
  obtain ⟨q1,y5,y6,y7,q2⟩:=L (.lck (.list (ring.map ax)))
  refine ⟨q1,.shr (.list ((ring.foldl (lF es) (l,[])).2.map ax)),y5,y6,y7,?_⟩
  have e:oF 3 (bC 5) IG [.shr (cP fs es),.shr S,.own (.dict (bJ (eP l))),.own (.list (ring.map ax)),.own (.list []),z5,z6,z7]=.ok (.nx [.shr (cP fs es),.shr S,.own (.dict (bJ (eP (ring.foldl (lF es) (l,[])).1))),.own (.list (ring.map ax)),.own (.list ((ring.foldl (lF es) (l,[])).2.map ax)),y5,y6,y7]):=by
   show Vd 3 _ (iT (bC 5) IG (ring.map ax) [.shr (cP fs es),.shr S,.own (.dict (bJ (eP l))),.lck (.list (ring.map ax)),.own (.list []),z5,z6,z7])=_
   have q2':=q2
   rw [dA] at q2'
   rw [q2']
   rfl
  rw [e]
  walk_at "zz"
  simp only [Jj]
  rw [uL rfl]
  walk_at "zz"
 ·subst ho
  obtain ⟨q1,y5,y6,y7,q2⟩:=L (.shr (.list (ring.map ax)))
  refine ⟨q1,.shr (.list ((ring.foldl (lF es) (l,[])).2.map ax)),y5,y6,y7,?_⟩
  rw [Me (d:=.list (ring.map ax)) rfl,n6 (ds:=ring.map ax)]
  ·have q2':=q2
   rw [dA] at q2'
   rw [q2']
   walk_at "zz"
   simp only [Jj]
   rw [uL rfl]
   walk_at "zz"
  ·walk_at "zz"
structure De (fs st:List Str) (es:List cy) (l:LZ):Prop where
 ok:ku fs st es l
 all:∀ x∈l.map (·.1),∀ e∈es,br x e.needs e.bars=true->aI e x∈l.map (·.1)
theorem Df {fs st:List Str}{es:List cy} (g:dO fs es) (S:D) (P:LZ->List (List Str)->Prop) (hP:∀ l ring,ku fs st es l->(∀ x∈ring,x∈l.map (·.1))->ku fs st es (ring.foldl (lF es) (l,[])).1->P l ring->P (ring.foldl (lF es) (l,[])).1 (ring.foldl (lF es) (l,[])).2):∀ (k fuel:Nat) (o3 z4 z5 z6 z7:Sl) (l:LZ) (ring:List (List Str)),ku fs st es l->(∀ x∈ring,x∈l.map (·.1))->(∀ x∈l.map (·.1),x∉ring->∀ e∈es,br x e.needs e.bars=true->aI e x∈l.map (·.1)) ->
  (o3=.own (.list (ring.map ax))\/o3=.shr (.list (ring.map ax)))->P l ring->65 - l.length + (if ring=[] then 0 else 1)<=k->k<fuel ->
  ∃ l' y3 y4 y5 y6 y7,(De fs st es l'/\P l' [])/\iD (AW (rB 3)) U1 fuel [.shr (cP fs es),.shr S,.own (.dict (bJ (eP l))),o3,z4,z5,z6,z7]=.ok (.nx [.shr (cP fs es),.shr S,.own (.dict (bJ (eP l'))),y3,y4,y5,y6,y7])
 | _,0,_,_,_,_,_,_,_,_,_,_,_,_,_,hf=>absurd hf (lu _)
 | k,fuel + 1,o3,z4,z5,z6,z7,l,ring,h,hx,hc,ho,hp,hk,hf=>by
  have ht:AW (rB 3) [.shr (cP fs es),.shr S,.own (.dict (bJ (eP l))),o3,z4,z5,z6,z7]=.ok (!(ring.map ax).isEmpty):=U0 (by rcases ho with z | z<;>subst z<;>rfl)
  rw [iD,ht]
  cases ring with
  | nil=>exact ⟨l,o3,z4,z5,z6,z7,⟨⟨h,fun x hx=>hc x hx (fun z=>nomatch z)⟩,hp⟩,rfl⟩
  | cons x r =>
   obtain ⟨h',y4,y5,y6,y7,q⟩:=OM g S o3 z4 z5 z6 z7 h (x::r) hx ho
   obtain ⟨a1,a2,a3,a4,a5,a6⟩:=uQ es (x::r) (l,[])
   have few:=h'.few g
   have few0:=h.few g
   simp only [cq,jB] at a6
   rw [if_neg (by simp)] at hk
   have hk':65 - ((x::r).foldl (lF es) (l,[])).1.length + (if ((x::r).foldl (lF es) (l,[])).2=[] then 0 else 1)<=k - 1:=by
    by_cases hz:((x::r).foldl (lF es) (l,[])).2=[]
    ·rw [if_pos hz]
     rw [hz] at a6
     simp only [cq,jB] at a6
     omega
    ·rw [if_neg hz]
     have:=List.length_pos_iff.mpr hz
     omega
   obtain ⟨l',w3,w4,w5,w6,w7,e1,e2⟩:=Df g S P hP (k - 1) fuel (.shr (.list (((x::r).foldl (lF es) (l,[])).2.map ax))) y4 y5 y6 y7 _ _ h' (fun y hy=>by
    rcases a5 y hy with z | z
    ·cases z
    ·exact z) (fun y hy hn e he hg=>by
    rcases a3 y hy with z | z
    ·by_cases hm:y∈x::r
     ·exact a2 y hm e he hg
     ·obtain ⟨p,hp,e'⟩:=List.mem_map.mp (hc y z hm e he hg)
      rw [<- e']
      exact aT (a1 p hp)
    ·exact (hn z).elim) (.inr rfl) (hP l (x::r) h hx h' hp) hk' (by omega)
   refine ⟨l',w3,w4,w5,w6,w7,e1,?_⟩
   simp only [ap,List.isEmpty_cons,jw]
   rw [q]
   exact e2
structure ON (es:List cy) (l:LZ):Prop where
 cls:∀ p∈l,∀ e∈es,br p.1 e.needs e.bars=true->∃ q∈l,q.1=aI e p.1/\q.2.length<=p.2.length + 1
 up:l.Pairwise fun p q=>p.2.length<=q.2.length
structure RF (es:List cy) (l:LZ) (ring:List (List Str)) (d:Nat):Prop where
 top:∀ p∈l,p.2.length<=d
 rin:∀ p∈l,p.1∈ring->p.2.length=d
 cls:∀ p∈l,p.1∉ring->∀ e∈es,br p.1 e.needs e.bars=true->∃ q∈l,q.1=aI e p.1/\q.2.length<=p.2.length + 1
 up:l.Pairwise fun p q=>p.2.length<=q.2.length
theorem xJ (at0:List Str) (row:List cy):∀ (xs:List cy) (b:LZ×List (List Str)),∃ t:LZ,xs.foldl (gX at0 row) b=(b.1++t,b.2++t.map (·.1))/\∀ p∈t,p.2.length=row.length + 1
 | [],b=>⟨[],by simp,fun _ h=>(nomatch h)⟩
 | e::r,b=>by
  rw [cf]
  by_cases hm:aI e at0∈b.1.map (·.1)
  ·have:gX at0 row b e=b:=by unfold gX;rw [if_pos hm]
   rw [this]
   exact xJ at0 row r b
  ·have:gX at0 row b e=(b.1++[(aI e at0,row++[e])],b.2++[aI e at0]):=by unfold gX;rw [if_neg hm]
   rw [this]
   obtain ⟨t,h1,h2⟩:=xJ at0 row r (b.1++[(aI e at0,row++[e])],b.2++[aI e at0])
   refine ⟨(aI e at0,row++[e])::t,by rw [h1];simp,fun p hp=>?_⟩
   rcases List.mem_cons.mp hp with z | z
   ·subst z;simp
   ·exact h2 p z
theorem Mn {l t:LZ}{x:List Str} (h:x∈l.map (·.1)):nh (l++t) x=nh l x:=by
 unfold nh
 rw [List.find?_append]
 cases hf:l.find? fun p=>decide (p.1=x) with
 | some p=>rfl
 | none =>
  obtain ⟨p,hp,e⟩:=List.mem_map.mp h
  have:=List.find?_eq_none.mp hf p hp
  simp [e] at this
theorem Dg (es:List cy) (d:Nat):∀ (ring:List (List Str)) (b:LZ×List (List Str)),(∀ x∈ring,x∈b.1.map (·.1))->(∀ x∈ring,(nh b.1 x).length=d)->∃ t:LZ,ring.foldl (lF es) b=(b.1++t,b.2++t.map (·.1))/\∀ p∈t,p.2.length=d + 1
 | [],b,_,_=>⟨[],by simp,fun _ h=>(nomatch h)⟩
 | x::r,b,hx,hd=>by
  rw [cf]
  obtain ⟨t,h1,h2⟩:=xJ x (nh b.1 x) (es.filter fun e=>br x e.needs e.bars) b
  have e1:lF es b x=(b.1++t,b.2++t.map (·.1)):=h1
  rw [e1]
  obtain ⟨t2,h3,h4⟩:=Dg es d r (b.1++t,b.2++t.map (·.1)) (fun y hy=>by rw [aV];exact bf _ (hx y (aj _ hy))) (fun y hy=>by rw [Mn (hx y (aj _ hy))];exact hd y (aj _ hy))
  refine ⟨t++t2,by rw [h3];simp,fun p hp=>?_⟩
  rcases List.mem_append.mp hp with z | z
  ·rw [h2 p z,hd x am]
  ·exact h4 p z
theorem IH {fs st:List Str}{es:List cy}{l:LZ}{ring:List (List Str)} (hx:∀ x∈ring,x∈l.map (·.1)) (h':ku fs st es (ring.foldl (lF es) (l,[])).1) (hp:∃ d,RF es l ring d):∃ d,RF es (ring.foldl (lF es) (l,[])).1 (ring.foldl (lF es) (l,[])).2 d:=by
 obtain ⟨d,D⟩:=hp
 obtain ⟨a1,a2,a3,a4,a5,a6⟩:=uQ es ring (l,[])
 obtain ⟨t,e,ht⟩:=Dg es d ring (l,[]) hx fun x hr=>D.rin _ (i9 (hx x hr)) hr
 have nd:=h'.nd
 rw [e] at nd a2 ⊢
 rw [aV] at nd
 simp only [pd] at *
 have top:∀ p∈l++t,p.2.length<=d + 1:=fun p hp=>by
  rcases List.mem_append.mp hp with z | z
  ·exact MN (D.top p z)
  ·exact Ec (ht p z)
 refine ⟨d + 1,top,fun p hp hr=>?_,fun p hp hr e he hg=>?_,?_⟩
 ·rcases List.mem_append.mp hp with z | z
  ·exact ((List.nodup_append.mp nd).2.2 p.1 (aT z) p.1 hr rfl).elim
  ·exact ht p z
 ·rcases List.mem_append.mp hp with z | z
  ·by_cases hm:p.1∈ring
   ·obtain ⟨q,hq,eq⟩:=List.mem_map.mp (a2 p.1 hm e he hg)
    exact ⟨q,hq,eq,by rw [D.rin p z hm];exact top q hq⟩
   ·obtain ⟨q,hq,eq,hl⟩:=D.cls p z hm e he hg
    exact ⟨q,bf _ hq,eq,hl⟩
  ·exact (hr (aT z)).elim
 ·refine List.pairwise_append.mpr ⟨D.up,?_,fun p hp q hq=>by rw [ht q hq];exact MN (D.top p hp)⟩
  exact vi fun p hp q hq=>by rw [ht p hp,ht q hq];exact au _
theorem Mo {fs st:List Str}{es:List cy} (g:dO fs es) (hs:qD fs st):∃ l,(De fs st es l/\ON es l)/\kO [cP fs es,ax st]=.ok (.dict ((.none,.none)::bJ (eP l))):=by
 have h0:ku fs st es [(st,[])]:=⟨by simp,List.mem_singleton.mpr rfl,fun p hp=>by rw [List.mem_singleton.mp hp];exact hs,fun p hp=>by rw [List.mem_singleton.mp hp];exact ⟨fun _ h=>(nomatch h),rfl,by simp⟩⟩
 obtain ⟨l,y3,y4,y5,y6,y7,⟨e1,d,n1⟩,e2⟩:=Df g (ax st) (fun l ring=>∃ d,RF es l ring d) (fun l ring _ hx h' hp=>IH hx h' hp) 65 100000 (.own (.list ([st].map ax))) .no .no .no .no [(st,[])] [st] h0 (fun x hx=>hx) (fun x hx hn=>(hn hx).elim) (.inl rfl) ⟨0,fun p hp=>by rw [List.mem_singleton.mp hp];exact au _,fun p hp _=>by rw [List.mem_singleton.mp hp];rfl,fun p hp hn=>by rw [List.mem_singleton.mp hp] at hn;exact (hn am).elim,by simp⟩ (by simp) (by decide)
 refine ⟨l,⟨e1,fun p hp e he hg=>n1.cls p hp (fun z=>nomatch z) e he hg,n1.up⟩,?_⟩
 unfold kO
 refine cE ?_
 rw [Mj]
 unfold bX
 walk_at "zz"
 rw [T_ (x:=st) (d:=.list []) rfl rfl]
 walk_at "zz"
 have e2':iD (AW (rB 3)) U1 100000 [.shr (cP fs es),.shr (ax st),.own (.dict (bJ [(st,.list [])])),.own (.list [ax st]),.no,.no,.no,.no]=_:=e2
 rw [e2']
 walk_at "zz"
 rw [Rz e1.ok.ne rfl]
 walk_at "zz"
def Ul:aw->R Fl:=(aS (f_ 6 (fA 2 iU (J.ag (rS 5) (J.ag (g2 (rB 3) (rB 4) bw) J.aM)))) (fQ (AD (fL (g2 (rB 6) kN (G4 true))) (fL (g2 (rB 6) (rB 2) (On true)))) (aS (lB 2 (rS 6) (g2 (g2 (rB 2) (g2 (rB 3) (rB 4) bw) uM) (kI 1) dH)) (rW 3 (rS 6))) (fun ρ=>.ok (.nx ρ))))
def U2:aw->R Fl:=aS (kq (k7 (g2 (rB 0) (kI 1) bw)) (bC 5) Ul) (f_ 4 (g2 (rB 4) (kI 1) dH))
theorem Mp:kR=aS (eC 2 (PR (rS 1) (kI 0))) (aS (eC 3 (eJ (J.ag (rS 1) J.aM) .list)) (aS (f_ 4 (kI 0)) (aS (iD (fL (g2 (rB 4) (c8 (J.ag (rB 3) J.aM) (hZ iC)) yN)) U2 100000) (Op 2 (dJ (rS 2)))))):=rfl
abbrev NZ:=List (List Str×Int)
def kY (l:NZ):List (List Str×D):=l.map fun p=>(p.1,.int p.2)
theorem jH (l:NZ):iB (kY l)=l.map (·.1):=by
 unfold iB kY
 rw [bI]
 rfl
structure Jm (fs st:List Str) (es:List cy) (l:NZ):Prop where
 nd:(l.map (·.1)).Nodup
 beg:st∈l.map (·.1)
 sub:∀ x∈l.map (·.1),qD fs x
 rch:∀ x∈l.map (·.1),RW es st x
theorem Jm.ne {fs st:List Str}{es:List cy}{l:NZ} (h:Jm fs st es l):kY l≠[]:=by
 intro z
 have:=List.map_eq_nil_iff.mp z
 have h1:=h.beg
 rw [this] at h1
 cases h1
theorem Jm.few {fs st:List Str}{es:List cy}{l:NZ} (g:dO fs es) (h:Jm fs st es l):l.length<=64:=by
 have:=D8 g.rise (l:=kY l) (by rw [jH];exact h.nd) fun x hx=>by
  rw [jH] at hx
  exact h.sub x hx
 unfold kY at this
 rw [ao] at this
 exact this
def lG (x:List Str) (n:Int) (l:NZ) (e:cy):NZ :=
 if br x e.needs e.bars=true/\aI e x∉l.map (·.1) then l++[(aI e x,n + 1)] else l
theorem OO {fs st x:List Str}{es:List cy}{n:Int}{l:NZ}{e:cy} (g:dO fs es) (h:Jm fs st es l) (hx:x∈l.map (·.1)) (he:e∈es):Jm fs st es (lG x n l e)/\(∀ p∈l,p∈lG x n l e)/\(∃ t,lG x n l e=l++t)/\(br x e.needs e.bars=true->aI e x∈(lG x n l e).map (·.1)):=by
 unfold lG
 by_cases hc:br x e.needs e.bars=true/\aI e x∉l.map (·.1)
 ·rw [if_pos hc]
  obtain ⟨rs,r1,r2⟩:=h.rch x hx
  refine ⟨⟨?_,?_,fun y hy=>?_,fun y hy=>?_⟩,fun p hp=>bf _ hp,⟨_,rfl⟩,fun _=>?_⟩
  ·rw [aV];exact wo h.nd hc.2
  ·rw [aV];exact bf _ h.beg
  ·rw [aV] at hy
   rcases List.mem_append.mp hy with z | z
   ·exact h.sub y z
   ·rw [List.mem_singleton.mp z];exact si g.rise.up (g.ok e he) (h.sub x hx)
  ·rw [aV] at hy
   rcases List.mem_append.mp hy with z | z
   ·exact h.rch y z
   ·rw [List.mem_singleton.mp z]
    refine ⟨rs++[e],fun a ha=>?_,pP e _ _ _ r2 hc.1⟩
    rcases List.mem_append.mp ha with w | w
    ·exact r1 a w
    ·rw [List.mem_singleton.mp w];exact he
  ·rw [aV];exact az _ am
 ·rw [if_neg hc]
  exact ⟨h,fun _ h=>h,⟨[],(bZ _).symm⟩,fun hg=>Classical.byContradiction fun z=>hc ⟨hg,z⟩⟩
theorem RG {l:NZ}{j:Nat}{x:List Str} (h:(l.map (·.1))[j]?=some x):bw (.list ((l.map (·.1)).map ax)) (.int (j:Nat))=.ok (ax x):=tw (by rw [aX,h];rfl)
theorem U3 {fs st x:List Str}{es:List cy}{n:Int} (g:dO fs es) (B S:D) (j:Nat) (z6:Sl) {l:NZ}{e:cy} (h:Jm fs st es l) (hj:(l.map (·.1))[j]?=some x) (hn:(x,n)∈l) (he:e∈es) :
  ∃ y6,Ul [.shr B,.shr S,.own (.dict (bJ (kY l))),.own (.list ((l.map (·.1)).map ax)),.shr (.int (j:Nat)),.shr (dD e),z6]=.ok (.nx [.shr B,.shr S,.own (.dict (bJ (kY (lG x n l e)))),.own (.list (((lG x n l e).map (·.1)).map ax)),.shr (.int (j:Nat)),.shr (dD e),y6]):=by
 have few:=h.few g
 have hx:x∈l.map (·.1):=dE hj
 have ls:=eD (h.sub x hx) g.rise.len
 have ixk:=RG hj
 have ixn:uM (.dict (bJ (kY l))) (ax x)=.ok (.int n):=Bc (l:=kY l) (by rw [jH];exact h.nd) (aT (f:=fun p:List Str×Int=>(p.1,bB p.2)) hn)
 refine ⟨.shr (OI (GT e x)),?_⟩
 unfold Ul
 walk_at "zz"
 rw [ixk]
 walk_at "zz"
 rw [B9 (pO g he) (by omega)]
 walk_at "zz"
 rw [uP]
 unfold lG
 by_cases hg:br x e.needs e.bars=true
 ·rw [if_pos hg,zW]
  rw [Q2]
  walk_at "zz"
  rw [GU h.ne,jH]
  by_cases hm:aI e x∈l.map (·.1)
  ·rw [decide_eq_true hm,if_neg (fun z=>z.2 hm)]
   walk_at "zz"
  ·rw [decide_eq_false hm,if_pos ⟨hg,hm⟩]
   walk_at "zz"
   rw [Mi (l:=kY l) (x:=aI e x) (d:=.int (n + 1)) rfl ?_ rfl h.ne (by unfold kY;rw [ao];omega) (by rw [jH];exact hm)]
   ·walk_at "zz"
    rw [D2 (ds:=(l.map (·.1)).map ax) (d:=ax (aI e x)) rfl rfl (by rw [ao,ao];omega)]
    unfold kY
    simp only [aV]
    rfl
   ·walk_at "zz"
    rw [ixk]
    walk_at "zz"
    rw [ixn]
    walk_at "zz"
 ·rw [if_neg hg,zX,if_neg (fun z=>hg z.1)]
  rw [M8]
  walk_at "zz"
theorem RH {fs st x:List Str}{es:List cy}{n:Int} (g:dO fs es) (B S:D) (j:Nat) (z5 z6:Sl) {l:NZ} (h:Jm fs st es l) (hj:(l.map (·.1))[j]?=some x) (hn:(x,n)∈l) (xs:List cy) (hx:∀ e∈xs,e∈es) :
  Jm fs st es (xs.foldl (lG x n) l)/\(∃ t,xs.foldl (lG x n) l=l++t)/\(∀ e∈xs,br x e.needs e.bars=true->aI e x∈(xs.foldl (lG x n) l).map (·.1))/\∃ y5 y6,iT (bC 5) Ul (xs.map dD) [.shr B,.shr S,.own (.dict (bJ (kY l))),.own (.list ((l.map (·.1)).map ax)),.shr (.int (j:Nat)),z5,z6]=.ok (.nx [.shr B,.shr S,.own (.dict (bJ (kY (xs.foldl (lG x n) l)))),.own (.list (((xs.foldl (lG x n) l).map (·.1)).map ax)),.shr (.int (j:Nat)),y5,y6]):=by
 induction xs generalizing l z5 z6 with
 | nil=>exact ⟨h,⟨[],(bZ _).symm⟩,fun _ h=>(nomatch h),z5,z6,rfl⟩
 | cons e r ih =>
  have he:=hx e am
  have hxm:x∈l.map (·.1):=dE hj
  obtain ⟨a1,a2,⟨t,a3⟩,a4⟩:=OO (n:=n) g h hxm he
  obtain ⟨y6,q⟩:=U3 g B S j z6 h hj hn he
  have hj':((lG x n l e).map (·.1))[j]?=some x:=by
   rw [a3,aV,aW (List.getElem?_eq_some_iff.mp hj).1]
   exact hj
  obtain ⟨b1,⟨t2,b2⟩,b3,w5,w6,b4⟩:=ih (.shr (dD e)) y6 a1 hj' (a2 _ hn) fun a ha=>hx a (aj _ ha)
  rw [cf]
  refine ⟨b1,⟨t++t2,by rw [b2,a3,eG]⟩,fun a ha hg=>?_,w5,w6,?_⟩
  ·rcases List.mem_cons.mp ha with z | z
   ·subst z
    have:=a4 hg
    rw [b2,aV]
    exact bf _ this
   ·exact b3 a z hg
  ·rw [ap,kW (ρ1:=[.shr B,.shr S,.own (.dict (bJ (kY l))),.own (.list ((l.map (·.1)).map ax)),.shr (.int (j:Nat)),.shr (dD e),z6]) rfl q]
   exact b4
structure RX (st:List Str) (es:List cy) (l:NZ) (j:Nat):Prop where
 beg:(st,0)∈l
 rch:∀ p∈l,∃ rs:List cy,(∀ e∈rs,e∈es)/\kX rs st=some p.1/\(rs.length:Int)=p.2
 up:l.Pairwise fun p q=>p.2<=q.2
 mx:∀ p,l[j]?=some p->∀ q∈l,q.2<=p.2 + 1
 cls:∀ i p,i<j->l[i]?=some p->∀ e∈es,br p.1 e.needs e.bars=true->∃ q∈l,q.1=aI e p.1/\q.2<=p.2 + 1
theorem uR (x:List Str) (n:Int):∀ (xs:List cy) (l:NZ),∃ t:NZ,xs.foldl (lG x n) l=l++t/\∀ p∈t,p.2=n + 1/\∃ e∈xs,br x e.needs e.bars=true/\p.1=aI e x
 | [],l=>⟨[],by simp,fun _ h=>(nomatch h)⟩
 | e::r,l=>by
  rw [cf]
  by_cases hc:br x e.needs e.bars=true/\aI e x∉l.map (·.1)
  ·have:lG x n l e=l++[(aI e x,n + 1)]:=by unfold lG;rw [if_pos hc]
   rw [this]
   obtain ⟨t,h1,h2⟩:=uR x n r (l++[(aI e x,n + 1)])
   refine ⟨(aI e x,n + 1)::t,by rw [h1];simp,fun p hp=>?_⟩
   rcases List.mem_cons.mp hp with z | z
   ·subst z;exact ⟨rfl,e,am,hc.1,rfl⟩
   ·obtain ⟨k1,a,k2,k3⟩:=h2 p z
    exact ⟨k1,a,aj _ k2,k3⟩
  ·have:lG x n l e=l:=by unfold lG;rw [if_neg hc]
   rw [this]
   obtain ⟨t,h1,h2⟩:=uR x n r l
   refine ⟨t,h1,fun p hp=>?_⟩
   obtain ⟨k1,a,k2,k3⟩:=h2 p hp
   exact ⟨k1,a,aj _ k2,k3⟩
theorem Mq {st x:List Str}{es:List cy}{l:NZ}{j:Nat}{p:List Str×Int} (D:RX st es l j) (hj:l[j]?=some p) (hx:x=p.1) (hb:∀ e∈es,br x e.needs e.bars=true->aI e x∈(es.foldl (lG x p.2) l).map (·.1)):RX st es (es.foldl (lG x p.2) l) (j + 1):=by
 subst hx
 obtain ⟨t,e,ht⟩:=uR p.1 p.2 es l
 rw [e] at hb ⊢
 have hpm:p∈l:=dE hj
 have top:∀ q∈l++t,q.2<=p.2 + 1:=fun q hq=>by
  rcases List.mem_append.mp hq with z | z
  ·exact D.mx p hj q z
  ·exact Int.le_of_eq (ht q z).1
 have up:(l++t).Pairwise fun p q=>p.2<=q.2:=by
  refine List.pairwise_append.mpr ⟨D.up,?_,fun q hq r hr=>by rw [(ht r hr).1];exact D.mx p hj q hq⟩
  exact vi fun q hq r hr=>by rw [(ht q hq).1,(ht r hr).1];exact Int.le_refl _
 have hjl:j<l.length:=(List.getElem?_eq_some_iff.mp hj).1
 have hj':(l++t)[j]?=some p:=by rw [aW hjl];exact hj
 refine ⟨bf _ D.beg,fun q hq=>?_,up,fun q hq r hr=>?_,fun i q hi hq a ha hg=>?_⟩
 ·rcases List.mem_append.mp hq with z | z
  ·exact D.rch q z
  ·obtain ⟨k1,a,k2,k3,k4⟩:=ht q z
   obtain ⟨rs,r1,r2,r3⟩:=D.rch p hpm
   refine ⟨rs++[a],fun b hb=>?_,by rw [k4];exact pP a _ _ _ r2 k3,by rw [k1,aN,cK,<- r3];rfl⟩
   rcases List.mem_append.mp hb with w | w
   ·exact r1 b w
   ·rw [List.mem_singleton.mp w];exact k2
 ·have h1:=top r hr
  obtain ⟨q1,q2⟩:=List.getElem?_eq_some_iff.mp hq
  obtain ⟨p1,p2⟩:=List.getElem?_eq_some_iff.mp hj'
  have:=List.pairwise_iff_getElem.mp up j (j + 1) p1 q1 (da j)
  rw [q2,p2] at this
  omega
 ·by_cases hij:i=j
  ·subst hij
   rw [hj'] at hq
   cases hq
   obtain ⟨q,hq,eq⟩:=List.mem_map.mp (hb a ha hg)
   exact ⟨q,hq,eq,top q hq⟩
  ·have hi':i<j:=by omega
   rw [aW (by omega)] at hq
   obtain ⟨r,r1,r2,r3⟩:=D.cls i q hi' hq a ha hg
   exact ⟨r,bf _ r1,r2,r3⟩
theorem Dh {fs st:List Str}{es:List cy} (g:dO fs es) (S:D):∀ (k fuel j:Nat) (z5 z6:Sl) (l:NZ),Jm fs st es l->RX st es l j->j<=l.length->(∀ i x,i<j->(l.map (·.1))[i]?=some x->∀ e∈es,br x e.needs e.bars=true->aI e x∈l.map (·.1))->65 - j<=k->k<fuel ->
  ∃ (l':NZ) (y3 y4 y5 y6:Sl),(Jm fs st es l'/\RX st es l' l'.length)/\(∀ x∈l'.map (·.1),∀ e∈es,br x e.needs e.bars=true->aI e x∈l'.map (·.1))/\iD (fL (g2 (rB 4) (c8 (J.ag (rB 3) J.aM) (hZ iC)) yN)) U2 fuel [.shr (cP fs es),.shr S,.own (.dict (bJ (kY l))),.own (.list ((l.map (·.1)).map ax)),.shr (.int (j:Nat)),z5,z6]=.ok (.nx [.shr (cP fs es),.shr S,.own (.dict (bJ (kY l'))),y3,y4,y5,y6])
 | _,0,_,_,_,_,_,_,_,_,_,hf=>absurd hf (lu _)
 | k,fuel + 1,j,z5,z6,l,h,hv,hj,hc,hk,hf=>by
  have few:=h.few g
  have ht:fL (g2 (rB 4) (c8 (J.ag (rB 3) J.aM) (hZ iC)) yN) [.shr (cP fs es),.shr S,.own (.dict (bJ (kY l))),.own (.list ((l.map (·.1)).map ax)),.shr (.int (j:Nat)),z5,z6]=.ok (decide (j<l.length)):=by
   walk_at "zz"
   simp only [Int.ofNat_lt]
  rw [iD,ht]
  by_cases hl:j<l.length
  ·rw [decide_eq_true hl]
   simp only
   have hlm:j<(l.map (·.1)).length:=by rw [ao];exact hl
   have hx:(l.map (·.1))[j]?=some (l.map (·.1))[j]:=aY hlm
   have hn:((l.map (·.1))[j],l[j].2)∈l:=by
    have:((l.map (·.1))[j],l[j].2)=l[j]:=by rw [ke]
    rw [this]
    exact iF hl
   obtain ⟨b1,⟨t,b2⟩,b3,y5,y6,b4⟩:=RH g (cP fs es) S j z5 z6 h hx hn es fun _ h=>h
   have hb:U2 [.shr (cP fs es),.shr S,.own (.dict (bJ (kY l))),.own (.list ((l.map (·.1)).map ax)),.shr (.int (j:Nat)),z5,z6]=.ok (.nx [.shr (cP fs es),.shr S,.own (.dict (bJ (kY (es.foldl (lG (l.map (·.1))[j] l[j].2) l)))),.own (.list (((es.foldl (lG (l.map (·.1))[j] l[j].2) l).map (·.1)).map ax)),.shr (.int ((j + 1:Nat):Int)),y5,y6]):=by
    unfold U2
    walk_at "zz"
    rw [n6 (ds:=es.map dD)]
    ·rw [b4]
     walk_at "zz"
     rfl
    ·walk_at "zz"
     rw [Rv]
     walk_at "zz"
   rw [hb]
   obtain ⟨l',w3,w4,w5,w6,e1,e2,e3⟩:=Dh g S (k - 1) fuel (j + 1) y5 y6 _ b1 (Mq hv (aY hl) (ke (f:=fun p:List Str×Int=>p.1) (h:=hlm)) b3) (by rw [b2,aN];omega) (fun i x hi hix e he hg=>by
    rw [b2,aV] at hix
    have hi':i<(l.map (·.1)).length:=by rw [ao];omega
    rw [aW hi'] at hix
    by_cases hij:i=j
    ·subst hij
     rw [hx] at hix
     cases hix
     exact b3 e he hg
    ·have:=hc i x (by omega) hix e he hg
     rw [b2,aV]
     exact bf _ this) (by omega) (by omega)
   exact ⟨l',w3,w4,w5,w6,e1,e2,e3⟩
  ·rw [decide_eq_false hl]
   simp only
   refine ⟨l,_,_,z5,z6,⟨h,(show j=l.length by omega) ▸ hv⟩,fun x hx=>?_,rfl⟩
   obtain ⟨i,hi,e⟩:=iN hx
   rw [ao] at hi
   exact hc i x (by omega) (by rw [aY (by rw [ao];exact hi),e])
theorem II {fs st:List Str}{es:List cy} (g:dO fs es) (hs:qD fs st):∃ l:NZ,(l.map (·.1)).Nodup/\l.length<=64/\(∀ x,x∈l.map (·.1)↔RW es st x)/\RX st es l l.length/\kS [cP fs es,ax st]=.ok (.dict ((.none,.none)::bJ (kY l))):=by
 have h0:Jm fs st es [(st,0)]:=⟨by simp,List.mem_singleton.mpr rfl,fun p hp=>by rw [List.mem_singleton.mp hp];exact hs,fun p hp=>by rw [List.mem_singleton.mp hp];exact ⟨[],fun _ h=>(nomatch h),rfl⟩⟩
 obtain ⟨l,y3,y4,y5,y6,⟨e1,p1⟩,e2,e3⟩:=Dh g (ax st) 65 100000 0 .no .no [(st,0)] h0 ⟨List.mem_singleton.mpr rfl,fun p hp=>by rw [List.mem_singleton.mp hp];exact ⟨[],fun _ h=>(nomatch h),rfl,rfl⟩,by simp,fun p hp q hq=>by cases hp;rw [List.mem_singleton.mp hq];show (0:Int)<=0 + 1;decide,fun i p hi=>absurd hi (lu _)⟩ (cn _) (fun i x hi=>absurd hi (lu _)) (by simp) (by decide)
 refine ⟨l,e1.nd,e1.few g,fun x=>⟨e1.rch x,?_⟩,p1,?_⟩
 ·rintro ⟨rs,r1,r2⟩
  exact sj (M:=fun x=>x∈l.map (·.1)) e2 rs st x e1.beg r1 r2
 ·unfold kS
  refine cE ?_
  rw [Mp]
  unfold bX
  walk_at "zz"
  rw [T_ (x:=st) (d:=.int 0) rfl rfl]
  walk_at "zz"
  have e3':iD (fL (g2 (rB 4) (c8 (J.ag (rB 3) J.aM) (hZ iC)) yN)) U2 100000 [.shr (cP fs es),.shr (ax st),.own (.dict (bJ [(st,.int 0)])),.own (.list [ax st]),.shr (.int 0),.no,.no]=_:=e3
  unfold yN at e3'
  rw [e3']
  walk_at "zz"
  rw [Rz e1.ne rfl]
  walk_at "zz"
def W0 (es:List cy) (st m b:List Str):Prop:=∃ x,RW es st x/\br x m b=true
noncomputable def Bd (es:List cy) (st m b:List Str):Bool:=@decide (W0 es st m b) (mG _)
theorem Di {es:List cy}{st m b:List Str}:Bd es st m b=true↔W0 es st m b:=by
 unfold Bd
 exact @decide_eq_true_iff _ (mG _)
theorem De.keys {fs st:List Str}{es:List cy}{l:LZ} (h:De fs st es l) (x:List Str):x∈l.map (·.1)↔RW es st x:=by
 constructor
 ·intro hx
  obtain ⟨p,hp,rfl⟩:=List.mem_map.mp hx
  obtain ⟨r1,r2,_⟩:=h.ok.row p hp
  exact ⟨p.2,r1,r2⟩
 ·rintro ⟨rs,r1,r2⟩
  exact sj (M:=fun x=>x∈l.map (·.1)) h.all rs st x (aT (f:=(·.1)) h.ok.beg) r1 r2
theorem GY {fs st m b:List Str}{es:List cy}{ks:List (List Str)} (h:∀ x,x∈ks↔RW es st x):(ks.any fun x=>br x m b)=Bd es st m b:=by
 rw [l9,Di,iH]
 constructor
 ·rintro ⟨x,h1,h2⟩;exact ⟨x,(h x).mp h1,h2⟩
 ·rintro ⟨x,h1,h2⟩;exact ⟨x,(h x).mpr h1,h2⟩
def vX (es:List cy) (st m b:List Str) (k:Int):Prop:=(∃ rs x,(∀ e∈rs,e∈es)/\kX rs st=some x/\br x m b=true/\(rs.length:Int)=k)/\∀ rs x,(∀ e∈rs,e∈es)->kX rs st=some x->br x m b=true->k<=(rs.length:Int)
theorem vX.uniq {es:List cy}{st m b:List Str}{k j:Int} (h:vX es st m b k) (h':vX es st m b j):k=j:=by
 obtain ⟨⟨rs,x,r1,r2,r3,r4⟩,h2⟩:=h
 obtain ⟨⟨rs',x',r1',r2',r3',r4'⟩,h2'⟩:=h'
 have:=h2 rs' x' r1' r2' r3'
 have:=h2' rs x r1 r2 r3
 omega
noncomputable def GZ (es:List cy) (st m b:List Str):Option Int:=@dite _ (∃ k,vX es st m b k) (mG _) (fun h=>some (Classical.choose h)) fun _=>none
theorem Dj {es:List cy}{st m b:List Str}{k:Int} (h:vX es st m b k):GZ es st m b=some k:=by
 unfold GZ
 rw [dif_pos ⟨k,h⟩]
 exact congrArg some (vX.uniq (Classical.choose_spec (⟨k,h⟩:∃ k,vX es st m b k)) h)
theorem Dk {es:List cy}{st m b:List Str} (h:Bd es st m b=false):GZ es st m b=none:=by
 unfold GZ
 rw [dif_neg]
 rintro ⟨k,⟨rs,x,r1,r2,r3,_⟩,_⟩
 have:Bd es st m b=true:=Di.mpr ⟨x,⟨rs,r1,r2⟩,r3⟩
 rw [h] at this
 cases this
theorem u7 {β:Type} (len:β->Int) {l:List (List Str×β)}{es:List cy} (hc:∀ p∈l,∀ e∈es,br p.1 e.needs e.bars=true->∃ q∈l,q.1=aI e p.1/\len q.2<=len p.2 + 1):∀ (rs:List cy) (p:List Str×β) (x:List Str),p∈l->(∀ e∈rs,e∈es)->kX rs p.1=some x->∃ q∈l,q.1=x/\len q.2<=len p.2 + rs.length
 | [],p,x,hp,_,h=>by
  cases h
  exact ⟨p,hp,rfl,by simp⟩
 | a::r,p,x,hp,he,h=>by
  have h':(if br p.1 a.needs a.bars then kX r (aI a p.1) else none)=some x:=h
  split at h'
  ·rename_i hg
   obtain ⟨q,q1,q2,q3⟩:=hc p hp a (he a am) hg
   rw [<- q2] at h'
   obtain ⟨s,s1,s2,s3⟩:=u7 len hc r q x q1 (fun e h=>he e (aj _ h)) h'
   refine ⟨s,s1,s2,?_⟩
   rw [bd]
   omega
  ·cases h'
theorem Dl {g:List Str->Bool}{x0:List Str}{r0:List (List Str)}{q:List Str×List cy}:∀ {l:LZ},(l.Pairwise fun p q=>p.2.length<=q.2.length)->(l.map (·.1)).filter g=x0::r0->q∈l->g q.1=true->(nh l x0).length<=q.2.length
 | [],_,_,hq,_=>nomatch hq
 | p::t,up,hF,hq,hg=>by
  obtain ⟨u1,u2⟩:=List.pairwise_cons.mp up
  rw [ap] at hF
  unfold nh
  rw [bT]
  by_cases hp:g p.1=true
  ·rw [BS hp] at hF
   rw [decide_eq_true (List.cons.inj hF).1]
   rcases List.mem_cons.mp hq with z | z
   ·subst z;exact au _
   ·exact u1 q z
  ·rw [BU hp] at hF
   have hx:g x0=true:=by
    have:x0∈(t.map (·.1)).filter g:=by rw [hF];exact am
    exact (List.mem_filter.mp this).2
   rw [decide_eq_false fun z=>hp (by rw [z];exact hx)]
   rcases List.mem_cons.mp hq with z | z
   ·subst z;exact (hp hg).elim
   ·exact Dl u2 hF z hg
theorem OP {fs st m b:List Str}{es:List cy}{l:NZ} (P:RX st es l l.length) (hk:∀ x,x∈l.map (·.1)↔RW es st x):(((l.filter fun p=>br p.1 m b).map (·.2))=[]/\Bd es st m b=false)\/(((l.filter fun p=>br p.1 m b).map (·.2))≠[]/\vX es st m b (F1 ((l.filter fun p=>br p.1 m b).map (·.2)))):=by
 cases hF:(l.filter fun p=>br p.1 m b).map (·.2) with
 | nil =>
  left
  refine ⟨rfl,?_⟩
  rw [<- GY (fs:=fs) hk]
  refine Bool.eq_false_iff.mpr fun hz=>?_
  obtain ⟨x,h1,h2⟩:=List.any_eq_true.mp hz
  obtain ⟨p,hp,rfl⟩:=List.mem_map.mp h1
  have:p∈l.filter fun p=>br p.1 m b:=List.mem_filter.mpr ⟨hp,h2⟩
  rw [List.map_eq_nil_iff.mp hF] at this
  cases this
 | cons n0 r0 =>
  right
  refine ⟨fun z=>(nomatch z),?_⟩
  obtain ⟨f1,f2⟩:=xA r0 n0
  have f1:F1 (n0::r0)∈n0::r0:=f1
  have f2:∀ a∈n0::r0,F1 (n0::r0)<=a:=f2
  rw [<- hF] at f1 f2 ⊢
  generalize F1 ((l.filter fun p=>br p.1 m b).map (·.2))=k at f1 f2
  obtain ⟨p,hp,e⟩:=List.mem_map.mp f1
  obtain ⟨p1,p2⟩:=List.mem_filter.mp hp
  obtain ⟨rs,r1,r2,r3⟩:=P.rch p p1
  refine ⟨⟨rs,p.1,r1,r2,p2,r3.trans e⟩,fun rs x h1 h2 h3=>?_⟩
  obtain ⟨q,q1,q2,q3⟩:=u7 (fun n:Int=>n) (fun p hp e he hg=>by
   obtain ⟨i,hi,hx⟩:=iN hp
   exact P.cls i p hi (by rw [aY hi,hx]) e he hg) rs (st,0) x P.beg h1 h2
  have:=f2 q.2 (aT (f:=(·.2)) (List.mem_filter.mpr ⟨q1,by rw [q2];exact h3⟩))
  omega
def jo (es:List cy) (x:List Str):List (List Str):=(es.filter fun e=>br x e.needs e.bars).map fun e=>aI e x
def eA (es:List cy) (st:List Str):Nat->List (List Str)
 | 0=>[st]
 | n + 1=>(eA es st n).flatMap (jo es)
theorem qH {es:List cy}{x y:List Str}:y∈jo es x↔∃ e∈es,br x e.needs e.bars=true/\y=aI e x:=by
 unfold jo
 simp only [DZ,yk]
 exact ⟨fun ⟨e,⟨h1,h2⟩,h3⟩=>⟨e,h1,h2,h3.symm⟩,fun ⟨e,h1,h2,h3⟩=>⟨e,⟨h1,h2⟩,h3.symm⟩⟩
def G_ (es:List cy) (st:List Str) (n:Nat) (y:List Str):Nat:=(eA es st n).count y
theorem OQ (es:List cy) (st:List Str) (n:Nat) (y:List Str):G_ es st (n + 1) y=((eA es st n).map fun x=>(jo es x).count y).sum:=by
 unfold G_
 show ((eA es st n).flatMap (jo es)).count y=_
 rw [List.count_flatMap]
 rfl
theorem Dm {es:List cy}{st:List Str}:∀ {n:Nat}{x:List Str},x∈eA es st n->∃ rs:List cy,(∀ e∈rs,e∈es)/\kX rs st=some x/\rs.length=n
 | 0,x,h=>by
  rw [List.mem_singleton.mp h]
  exact ⟨[],fun _ z=>(nomatch z),rfl,rfl⟩
 | n + 1,x,h=>by
  obtain ⟨y,hy,hx⟩:=List.mem_flatMap.mp h
  obtain ⟨e,he,hg,rfl⟩:=qH.mp hx
  obtain ⟨rs,r1,r2,r3⟩:=Dm hy
  refine ⟨rs++[e],fun a ha=>?_,pP e rs _ _ r2 hg,by simp [r3]⟩
  rcases List.mem_append.mp ha with z | z
  ·exact r1 a z
  ·rw [List.mem_singleton.mp z];exact he
theorem z_ (e:cy):∀ (rs:List cy) (st x:List Str),kX (rs++[e]) st=some x->∃ y,kX rs st=some y/\br y e.needs e.bars=true/\x=aI e y
 | [],st,x,h=>by
  replace h:(if br st e.needs e.bars then kX [] (aI e st) else none)=some x:=h
  by_cases q:br st e.needs e.bars=true
  ·rw [if_pos q] at h;cases h;exact ⟨st,rfl,q,rfl⟩
  ·rw [if_neg q] at h;cases h
 | a::r,st,x,h=>by
  replace h:(if br st a.needs a.bars then kX (r++[e]) (aI a st) else none)=some x:=h
  show ∃ y,(if br st a.needs a.bars then kX r (aI a st) else none)=some y/\_
  by_cases q:br st a.needs a.bars=true
  ·rw [if_pos q] at h ⊢
   exact z_ e r _ x h
  ·rw [if_neg q] at h;cases h
theorem Dn {es:List cy}{st:List Str}:∀ (n:Nat) (rs:List cy) (x:List Str),rs.length=n->(∀ e∈rs,e∈es)->kX rs st=some x->x∈eA es st n
 | 0,rs,x,hl,_,h=>by
  rw [List.length_eq_zero_iff.mp hl] at h
  cases h
  exact List.mem_singleton.mpr rfl
 | n + 1,rs,x,hl,ha,h=>by
  have hne:rs≠[]:=fun z=>by rw [z] at hl;cases hl
  rw [<- List.dropLast_concat_getLast hne] at h
  obtain ⟨y,h1,h2,h3⟩:=z_ _ _ _ _ h
  refine List.mem_flatMap.mpr ⟨y,Dn n rs.dropLast y (by rw [List.length_dropLast,hl];rfl) (fun e he=>ha e (List.dropLast_subset _ he)) h1,qH.mpr ⟨_,ha _ (List.getLast_mem hne),h2,h3⟩⟩
theorem H9 {α:Type} (f g:α->Nat):∀ l:List α,(l.map fun x=>f x + g x).sum=(l.map f).sum + (l.map g).sum
 | []=>rfl
 | x::r=>by
  have:=H9 f g r
  simp only [ap,g6]
  omega
theorem pQ {α:Type} (f:α->Nat):∀ l:List α,(∀ x∈l,f x=0)->(l.map f).sum=0
 | [],_=>rfl
 | x::r,h=>by
  rw [ap,g6,h x am,pQ f r fun y hy=>h y (aj _ hy)]
theorem Do (h:List Str->Nat) (a:List Str):∀ l:List (List Str),l.Nodup->a∈l->(l.map fun x=>(if a=x then 1 else 0) * h x).sum=h a
 | [],_,m=>nomatch m
 | x::r,nd,m=>by
  obtain ⟨n1,n2⟩:=List.nodup_cons.mp nd
  rw [ap,g6]
  by_cases e:a=x
  ·subst e
   rw [if_pos rfl,pQ _ r fun y hy=>by rw [if_neg fun z=>n1 (by rw [z];exact hy),Nat.zero_mul]]
   omega
  ·rw [if_neg e,Do h a r n2 ((List.mem_cons.mp m).resolve_left e)]
   omega
theorem uS (h:List Str->Nat) {ks:List (List Str)} (nd:ks.Nodup):∀ A:List (List Str),(∀ z∈A,z∈ks)->(A.map h).sum=(ks.map fun x=>A.count x * h x).sum
 | [],_=>by
  rw [pQ _ ks fun y _=>by rw [List.count_nil,Nat.zero_mul]]
  rfl
 | a::A,hA=>by
  have e:(ks.map fun x=>(a::A).count x * h x)=ks.map fun x=>A.count x * h x + (if a=x then 1 else 0) * h x:=dZ fun x _=>by
   rw [No,Hz]
   simp only [beq_iff_eq]
  rw [e,H9,<- uS h nd A fun z hz=>hA z (aj _ hz),Do h a ks nd (hA a am),ap,g6]
  omega
def Be (f:List Str->Nat) (y:List Str) (n:Nat):List Str->Nat:=fun z=>if z=y then n else f z
def Bf (dist:List Str->Nat) (x:List Str) (f:List Str->Nat) (e:cy):List Str->Nat :=
 if dist (aI e x)=dist x + 1 then Be f (aI e x) (f (aI e x) + f x) else f
theorem Hb (dist:List Str->Nat) (x:List Str) (f:List Str->Nat) (e:cy) (y:List Str):Bf dist x f e y=f y + if dist y=dist x + 1 then f x * (if aI e x=y then 1 else 0) else 0:=by
 unfold Bf
 by_cases hy:aI e x=y
 ·subst hy
  by_cases h:dist (aI e x)=dist x + 1
  ·rw [if_pos h,if_pos h,if_pos rfl,Nat.mul_one];unfold Be;rw [if_pos rfl]
  ·rw [if_neg h,if_neg h,jB]
 ·rw [if_neg hy,Nat.mul_zero,ite_self]
  split
  ·unfold Be;rw [if_neg fun z=>hy z.symm,jB]
  ·rfl
theorem Q3 (dist:List Str->Nat) (x:List Str):∀ (xs:List cy) (f:List Str->Nat) (y:List Str),(xs.foldl (Bf dist x) f) y=f y + if dist y=dist x + 1 then f x * (xs.map fun e=>aI e x).count y else 0
 | [],f,y=>by simp
 | e::r,f,y=>by
  have hx:Bf dist x f e x=f x:=by
   rw [Hb,if_neg (by omega),jB]
  rw [cf,Q3 dist x r,hx,Hb,ap,No]
  simp only [beq_iff_eq]
  by_cases h:dist y=dist x + 1
  ·rw [if_pos h,if_pos h,if_pos h,Nat.mul_add]
   omega
  ·rw [if_neg h,if_neg h,if_neg h]
def Q4 (es:List cy) (dist:List Str->Nat) (f:List Str->Nat) (x:List Str):List Str->Nat:=(es.filter fun e=>br x e.needs e.bars).foldl (Bf dist x) f
theorem RI (es:List cy) (dist f:List Str->Nat) (x y:List Str):Q4 es dist f x y=f y + if dist y=dist x + 1 then f x * (jo es x).count y else 0:=Q3 dist x _ f y
def vw (es:List cy) (dist W:List Str->Nat) (y x:List Str):Nat:=if dist y=dist x + 1 then W x * (jo es x).count y else 0
theorem xK {es:List cy}{dist W:List Str->Nat}{st:List Str}{ks:List (List Str)} (hup:ks.Pairwise fun a b=>dist a<=dist b) (hW:∀ y∈ks,W y=(if y=st then 1 else 0) + (ks.map (vw es dist W y)).sum):∀ (bG dn:List (List Str)) (f:List Str->Nat),ks=dn++bG->(∀ y∈ks,f y=(if y=st then 1 else 0) + (dn.map (vw es dist W y)).sum)->∀ y∈ks,bG.foldl (Q4 es dist) f y=W y
 | [],dn,f,e,hf,y,hy=>by
  rw [bZ] at e
  subst e
  rw [List.foldl_nil,hf y hy,<- hW y hy]
 | x::r,dn,f,e,hf,y,hy=>by
  have hx:x∈ks:=by rw [e];exact az _ am
  have hge:∀ z∈x::r,dist x<=dist z:=fun z hz=>by
   rw [e] at hup
   have h2:=(List.pairwise_append.mp hup).2.1
   rcases List.mem_cons.mp hz with w | w
   ·rw [w];exact au _
   ·exact (List.pairwise_cons.mp h2).1 z w
  have fx:f x=W x:=by
   rw [hf x hx,hW x hx,e,aV,Np,pQ _ (x::r) fun z hz=>?_]
   ·rfl
   ·have:=hge z hz
    unfold vw
    rw [if_neg (by omega)]
  rw [cf]
  refine xK hup hW r (dn++[x]) _ (by rw [e];simp) (fun z hz=>?_) y hy
  rw [RI,hf z hz,fx,aV,Np]
  show _=_ + (_ + (vw es dist W z x + 0))
  unfold vw
  omega
structure Um (es:List cy) (st:List Str) (ks:List (List Str)) (dist:List Str->Nat):Prop where
 nd:ks.Nodup
 zero:∀ y∈ks,dist y=0↔y=st
 step:∀ x∈ks,∀ y∈jo es x,dist y<=dist x + 1
 ends:∀ n y,y∈eA es st n->y∈ks/\dist y<=n
theorem Mr {es:List cy}{st:List Str}{ks:List (List Str)}{dist:List Str->Nat} (D:Um es st ks dist) {y:List Str} (hy:y∈ks):G_ es st (dist y) y=(if y=st then 1 else 0) + (ks.map (vw es dist (fun x=>G_ es st (dist x) x) y)).sum:=by
 cases hd:dist y with
 | zero =>
  have e:=(D.zero y hy).mp hd
  rw [pQ _ ks fun x _=>by unfold vw;rw [if_neg (by omega)],if_pos e,e]
  unfold G_
  show [st].count st=1
  simp
 | succ n =>
  have e:y≠st:=fun z=>by
   have:=(D.zero y hy).mpr z
   omega
  rw [if_neg e,lQ,OQ,uS _ D.nd _ fun z hz=>(D.ends n z hz).1]
  refine congrArg List.sum (dZ fun x hx=>?_)
  unfold vw
  by_cases h:dist y=dist x + 1
  ·rw [if_pos h]
   have:dist x=n:=by omega
   show _=G_ es st (dist x) x * _
   rw [this]
   rfl
  ·rw [if_neg h]
   refine Ep fun hp=>h ?_
   have p1:=Nat.pos_of_mul_pos_right hp
   have p2:=Nat.pos_of_mul_pos_left hp
   have q1:=(D.ends n x (List.count_pos_iff.mp (by first | exact p1 | exact p2))).2
   have q2:=D.step x hx y (List.count_pos_iff.mp (by first | exact p2 | exact p1))
   omega
theorem IJ {es:List cy}{st:List Str}{ks:List (List Str)}{dist:List Str->Nat} (D:Um es st ks dist) (hup:ks.Pairwise fun a b=>dist a<=dist b):∀ y∈ks,ks.foldl (Q4 es dist) (fun z=>if z=st then 1 else 0) y=G_ es st (dist y) y :=
 xK hup (fun y hy=>Mr D hy) ks [] _ rfl fun y _=>by simp
theorem Ms {es:List cy}{st:List Str}{ks:List (List Str)}{dist:List Str->Nat} (D:Um es st ks dist) {good:List Str->Bool}{n:Nat} (hm:∀ y∈ks,good y=true->n<=dist y):((eA es st n).filter good).length=(((ks.filter good).filter fun y=>decide (dist y=n)).map fun y=>G_ es st (dist y) y).sum:=by
 have e1:∀ A:List (List Str),(A.filter good).length=(A.map fun z=>if good z=true then 1 else 0).sum:=fun A=>by
  induction A with
  | nil=>rfl
  | cons a r ih =>
   rw [ap,g6,<- ih,wn]
   split
   ·rw [bd];omega
   ·omega
 have e2:∀ (K:List (List Str)) (h:List Str->Nat),(((K.filter good).filter fun y=>decide (dist y=n)).map h).sum=(K.map fun y=>if good y=true/\dist y=n then h y else 0).sum:=fun K h=>by
  induction K with
  | nil=>rfl
  | cons a r ih =>
   rw [ap,g6,<- ih,wn]
   by_cases h1:good a=true
   ·rw [if_pos h1,wn]
    by_cases h2:dist a=n
    ·rw [if_pos (by simpa using h2),if_pos ⟨h1,h2⟩,ap,g6]
    ·rw [if_neg (by simpa using h2),if_neg fun z=>h2 z.2,lQ]
   ·rw [if_neg h1,if_neg fun z=>h1 z.1,lQ]
 rw [e1,e2,uS _ D.nd _ fun z hz=>(D.ends n z hz).1]
 refine congrArg List.sum (dZ fun y hy=>?_)
 by_cases h1:good y=true
 ·rw [if_pos h1,Nat.mul_one]
  by_cases h2:dist y=n
  ·rw [if_pos ⟨h1,h2⟩,h2];rfl
  ·rw [if_neg fun z=>h2 z.2]
   refine Ep fun hp=>h2 ?_
   have q1:=(D.ends n y (List.count_pos_iff.mp hp)).2
   have:=hm y hy h1
   omega
 ·rw [if_neg h1,if_neg fun z=>h1 z.1,Nat.mul_zero]
theorem Dp:∀ (l a:List (List Str×D)),(iB (a++l)).Nodup->(l.map fun p=>cO [ax p.1,p.2]).foldl Rk (bJ a)=bJ (a++l)
 | [],a,_=>by rw [bZ];rfl
 | p::r,a,nd=>by
  rw [ap,cf]
  show List.foldl Rk (m_ (bJ a) (ax p.1) p.2) _=_
  have hn:p.1∉iB a:=fun z=>by
   unfold iB at nd
   rw [aV,ap] at nd
   exact (List.nodup_append.mp nd).2.2 _ z _ am rfl
  rw [GV hn,Dp r (a++[(p.1,p.2)]) (by rw [eG];exact nd),eG]
  rfl
theorem Vv {gk gv:aw->R D}{ρ:aw}{x:List Str}{d:D} (h1:gk ρ=.ok (ax x)) (h2:gv ρ=.ok d):Rj gk gv ρ=.ok (.tuple [ax x,d]):=by
 unfold Rj
 rw [h1,bind_ok,h2,bind_ok]
 simp only [i8]
theorem OR {nt:Nat}{ix:List Nat}{gi:aw->R (List D)}{gt:aw->R Bool}{gk gv:aw->R D}{s:Sl}{ρ:aw}{ds:List D} (xs:List (List Str×D)) (hi:gi (s::ρ)=.ok ds) (hl:ds.length<=1000) (hm:fg (fX nt (ko nt ix (s::ρ)) gt (Rj gk gv)) ds=.ok (xs.map fun p=>cO [ax p.1,p.2])) (nd:(iB xs).Nodup) (hn:xs≠[]):se nt ix gi gt gk gv (s::ρ)=.ok (.dict (bJ xs)):=by
 unfold se
 rw [hi,bind_ok,if_pos hl,hm,bind_ok,if_neg (by simpa using hn)]
 have:=Dp xs [] nd
 unfold RV
 rw [show ([] : List (D×D))=bJ [] from rfl,this]
 rfl
def gf (ks:List (List Str)) (f:List Str->Nat):List (List Str×D):=ks.map fun x=>(x,.int (f x:Nat))
theorem ua (ks:List (List Str)) (f:List Str->Nat):iB (gf ks f)=ks:=by
 unfold iB gf
 rw [bI]
 exact List.map_id _
theorem Hc (ks:List (List Str)) (f:List Str->Nat):(bJ (gf ks f)).length=ks.length:=by
 unfold bJ gf
 rw [ao,ao]
theorem Fg {ks:List (List Str)}{x:List Str} (h:x∈ks) (f:List Str->Nat):gf ks f≠[]:=fun z=>by
 have:=List.map_eq_nil_iff.mp z
 rw [this] at h
 cases h
theorem Hd {ks:List (List Str)}{x:List Str} (h:x∈ks) (f:List Str->Nat) (n:Nat):m_ (bJ (gf ks f)) (ax x) (.int n)=bJ (gf ks (Be f x n)):=by
 have e:((bJ (gf ks f)).any fun kv=>aZ kv.1 (ax x))=true:=by
  unfold bJ gf
  rw [bI,oU,iH]
  exact ⟨x,h,by show aZ (ax x) (ax x)=true;rw [Bb];simp⟩
 unfold m_
 rw [e,if_pos rfl]
 unfold bJ gf
 rw [bI,bI,bI]
 refine dZ fun y _=>?_
 show (if aZ (ax y) (ax x)=true then (ax y,bB n) else (ax y,bB (f y)))=(ax y,bB (Be f x n y))
 rw [Bb]
 unfold Be
 by_cases hy:y=x
 ·rw [decide_eq_true hy,if_pos rfl,if_pos hy]
 ·rw [decide_eq_false hy,if_neg bq,if_neg hy]
theorem Bg {ks:List (List Str)}{x:List Str} (h:x∈ks) (f:List Str->Nat):(x,bB (f x:Nat))∈gf ks f:=aT (f:=fun x=>(x,bB (f x:Nat))) h
theorem RJ {i:Nat}{gk g:aw->R D}{ρ:aw}{ks:List (List Str)}{f:List Str->Nat}{x:List Str}{n:Nat} (hi:ρ[i]?=some (Sl.own (.dict (bJ (gf ks f))))) (hg:g ρ=.ok (.int n)) (hk:gk ρ=.ok (ax x)) (hl:ks.length<1000) (hx:x∈ks):lB i gk g ρ=.ok (.nx (ρ.set i (.own (.dict (bJ (gf ks (Be f x n))))))):=by
 have e:lB i gk g ρ=(g ρ).bind fun d=>(gk ρ).bind fun k=>match k9 k with
  | some _=>if (bJ (gf ks f)).length<1000/\gD (bJ (gf ks f))=true then .ok (.nx (ρ.set i (.own (.dict (m_ (bJ (gf ks f)) k d))))) else .no
  | none=>.no:=by
  unfold lB
  simp only [hi]
  try rfl
 rw [e,hg,rZ,hk,rZ]
 simp only [i8,if_pos (lX (show (bJ (gf ks f)).length<1000 by rw [Hc];exact hl) (jn (Fg hx f))),Hd hx]
theorem RK {i:Nat}{gk g:aw->R D}{ρ:aw}{ks:List (List Str)}{f:List Str->Nat}{x:List Str}{n:Nat} (hi:ρ[i]?=some (Sl.own (.dict (bJ (gf ks f))))) (hg:g ρ=.ok (.int n)) (hk:gk ρ=.ok (ax x)) (hl:ks.length<1000) (nd:ks.Nodup) (hx:x∈ks):vq i gk g ρ=.ok (.nx (ρ.set i (.own (.dict (bJ (gf ks (Be f x (f x + n)))))))):=by
 have hf:ji (bJ (gf ks f)) (ax x)=some (.int (f x)):=by
  rw [qG,D5 (l:=gf ks f) (p:=(x,.int (f x))) (by rw [ua];exact nd) (Bg hx f)]
  rfl
 have e:vq i gk g ρ=(gk ρ).bind fun k=>match k9 k with
  | some _=>if (bJ (gf ks f)).length<1000/\gD (bJ (gf ks f))=true then match ji (bJ (gf ks f)) k with
   | some (.int a)=>(g ρ).bind fun d=>match d with
    | .int b=>.ok (.nx (ρ.set i (.own (.dict (m_ (bJ (gf ks f)) k (.int (a + b)))))))
    | _=>.no
   | _=>.no else .no
  | none=>.no:=by
  unfold vq
  simp only [hi]
  try rfl
 rw [e,hk,rZ]
 simp only [i8,if_pos (lX (show (bJ (gf ks f)).length<1000 by rw [Hc];exact hl) (jn (Fg hx f))),hf,hg,rZ]
 have:=Hd hx f (f x + n)
 rw [Int.natCast_add] at this
 rw [this]
def Uo:aw->R Fl:=fQ (fL (g2 (c8 (J.ag (g2 (rB 2) (rB 6) uM) J.aM) (hZ iC)) (g2 (c8 (J.ag (g2 (rB 2) (rB 4) uM) J.aM) (hZ iC)) (kI 1) dH) (oO false))) (vq 3 (rS 6) (g2 (rB 3) (rB 4) uM)) (fun ρ=>.ok (.nx ρ))
def Vw:aw->R Fl:=kq (k7 (fA 2 gF (J.ag (rS 0) (J.ag (rS 4) J.aM)))) (kH 2 (cx (bC 5) (cx (bC 6) lS))) Uo
theorem Mt:kP=aS (eC 3 (se 1 [] (xz (rB 2)) kT (rS 0) (kI 0))) (aS (lB 3 (rS 1) (kI 1)) (aS (kq (xz (rS 2)) (bC 4) Vw) (Op 3 (dJ (rS 3))))):=rfl
abbrev ia (l:LZ) (x:List Str):Nat:=(nh l x).length
theorem He {fs st:List Str}{es:List cy}{l:LZ} (h:ku fs st es l) {x:List Str} (hx:x∈l.map (·.1)):uM (.dict ((.none,.none)::bJ (eP l))) (ax x)=.ok (D3 (nh l x)):=by
 have:=Ff (l:=eP l) (by rw [ir];exact h.nd) (Dc (i9 hx))
 exact this
theorem U4 {fs st at0:List Str}{es:List cy}{l:LZ} (g:dO fs es) (h:ku fs st es l) (B S:D) {f:List Str->Nat}{e:cy} (ha:at0∈l.map (·.1)) (hb:aI e at0∈l.map (·.1)) :
  Uo [.shr B,.shr S,.shr (.dict ((.none,.none)::bJ (eP l))),.own (.dict (bJ (gf (l.map (·.1)) f))),.shr (ax at0),.shr (dD e),.shr (ax (aI e at0))]=.ok (.nx [.shr B,.shr S,.shr (.dict ((.none,.none)::bJ (eP l))),.own (.dict (bJ (gf (l.map (·.1)) (Bf (ia l) at0 f e)))),.shr (ax at0),.shr (dD e),.shr (ax (aI e at0))]):=by
 have few:=h.few g
 unfold Uo
 walk_at "zz"
 rw [He h hb]
 walk_at "zz"
 rw [He h ha]
 walk_at "zz"
 rw [jm]
 walk_at "zz"
 unfold Bf
 by_cases hd:ia l (aI e at0)=ia l at0 + 1
 ·rw [if_pos hd,decide_eq_true (by unfold ia at hd;omega)]
  walk_at "zz"
  rw [RK (ks:=l.map (·.1)) (f:=f) (x:=aI e at0) (n:=f at0) rfl ?_ rfl (by rw [ao];omega) h.nd hb]
  ·rfl
  ·walk_at "zz"
   exact Bc (l:=gf (l.map (·.1)) f) (p:=(at0,.int (f at0))) (by rw [ua];exact h.nd) (Bg ha f)
 ·rw [if_neg hd,decide_eq_false (by unfold ia at hd;omega)]
  walk_at "zz"
theorem Mu {fs st at0:List Str}{es:List cy}{l:LZ} (g:dO fs es) (h:ku fs st es l) (B S:D) (ha:at0∈l.map (·.1)):∀ (xs:List cy) (f:List Str->Nat) (z5 z6:Sl),(∀ e∈xs,aI e at0∈l.map (·.1)) ->
  ∃ y5 y6,iT (kH 2 (cx (bC 5) (cx (bC 6) lS))) Uo (xs.map fun e=>cO [dD e,ax (aI e at0)]) [.shr B,.shr S,.shr (.dict ((.none,.none)::bJ (eP l))),.own (.dict (bJ (gf (l.map (·.1)) f))),.shr (ax at0),z5,z6]=.ok (.nx [.shr B,.shr S,.shr (.dict ((.none,.none)::bJ (eP l))),.own (.dict (bJ (gf (l.map (·.1)) (xs.foldl (Bf (ia l) at0) f)))),.shr (ax at0),y5,y6])
 | [],f,z5,z6,_=>⟨z5,z6,rfl⟩
 | e::r,f,z5,z6,hx=>by
  obtain ⟨y5,y6,q⟩:=Mu g h B S ha r (Bf (ia l) at0 f e) (.shr (dD e)) (.shr (ax (aI e at0))) fun a ha=>hx a (aj _ ha)
  refine ⟨y5,y6,?_⟩
  rw [ap,kW (ρ1:=[.shr B,.shr S,.shr (.dict ((.none,.none)::bJ (eP l))),.own (.dict (bJ (gf (l.map (·.1)) f))),.shr (ax at0),.shr (dD e),.shr (ax (aI e at0))]) rfl (U4 g h B S ha (hx e am))]
  exact q
theorem Mv {fs st:List Str}{es:List cy}{l:LZ} (g:dO fs es) (h:De fs st es l) (S:D):∀ (xs:List (List Str)) (f:List Str->Nat) (z4 z5 z6:Sl),(∀ x∈xs,x∈l.map (·.1)) ->
  ∃ y4 y5 y6,iT (bC 4) Vw (xs.map ax) [.shr (cP fs es),.shr S,.shr (.dict ((.none,.none)::bJ (eP l))),.own (.dict (bJ (gf (l.map (·.1)) f))),z4,z5,z6]=.ok (.nx [.shr (cP fs es),.shr S,.shr (.dict ((.none,.none)::bJ (eP l))),.own (.dict (bJ (gf (l.map (·.1)) (xs.foldl (Q4 es (ia l)) f)))),y4,y5,y6])
 | [],f,z4,z5,z6,_=>⟨z4,z5,z6,rfl⟩
 | x::r,f,z4,z5,z6,hx=>by
  have hm:=hx x am
  obtain ⟨w5,w6,q1⟩:=Mu g h.ok (cP fs es) S hm (es.filter fun e=>br x e.needs e.bars) f z5 z6 fun e he=>h.all x hm e (List.mem_filter.mp he).1 (List.mem_filter.mp he).2
  obtain ⟨y4,y5,y6,q⟩:=Mv g h S r (Q4 es (ia l) f x) (.shr (ax x)) w5 w6 fun a ha=>hx a (aj _ ha)
  refine ⟨y4,y5,y6,?_⟩
  rw [ap,kW (ρ1:=[.shr (cP fs es),.shr S,.shr (.dict ((.none,.none)::bJ (eP l))),.own (.dict (bJ (gf (l.map (·.1)) f))),.shr (ax x),z5,z6]) (ρ2:=[.shr (cP fs es),.shr S,.shr (.dict ((.none,.none)::bJ (eP l))),.own (.dict (bJ (gf (l.map (·.1)) (Q4 es (ia l) f x)))),.shr (ax x),w5,w6]) rfl]
  ·exact q
  ·unfold Vw
   rw [n6 (ds:=(es.filter fun e=>br x e.needs e.bars).map fun e=>cO [dD e,ax (aI e x)])]
   ·exact q1
   ·walk_at "zz"
    rw [D9 g (h.ok.sub _ (i9 hm))]
    walk_at "zz"
theorem IK {fs st:List Str}{es:List cy}{l:LZ} (g:dO fs es) (h:De fs st es l):kQ [cP fs es,ax st,.dict ((.none,.none)::bJ (eP l))]=.ok (.dict ((.none,.none)::bJ (gf (l.map (·.1)) ((l.map (·.1)).foldl (Q4 es (ia l)) fun z=>if z=st then 1 else 0)))):=by
 have few:=h.ok.few g
 have hst:st∈l.map (·.1):=aT (f:=(·.1)) h.ok.beg
 have hne:∀ f,gf (l.map (·.1)) f≠[]:=fun f=>Fg hst f
 obtain ⟨y4,y5,y6,q⟩:=Mv g h (ax st) (l.map (·.1)) (fun z=>if z=st then 1 else 0) .no .no .no fun _ h=>h
 unfold kQ
 refine cE ?_
 rw [Mt]
 unfold bX
 walk_at "zz"
 rw [OR (ds:=(l.map (·.1)).map ax) (gf (l.map (·.1)) fun _=>0) ?_ (by rw [ao,ao];omega) ?_ (by rw [ua];exact h.ok.nd) (hne _)]
 ·walk_at "zz"
  rw [RJ (ks:=l.map (·.1)) (f:=fun _=>0) (x:=st) (n:=1) rfl rfl rfl (by rw [ao];omega) hst]
  walk_at "zz"
  rw [n6 (ds:=(l.map (·.1)).map ax)]
  ·have e:(Be (fun _=>0) st 1)=fun z=>if z=st then 1 else 0:=rfl
   rw [e,q]
   walk_at "zz"
   rw [Rz (hne _) rfl]
   walk_at "zz"
  ·rw [GW]
   walk_at "zz"
   rw [u6,ir]
 ·rw [GW]
  walk_at "zz"
  rw [u6,ir]
 ·rw [d_ _ ax (fun x=>cO [ax x,.int 0]) (l.map (·.1)) fun x hx=>gd rfl (Vv rfl rfl)]
  unfold gf
  rw [bI,bI,bI]
  rfl
theorem OS (neg:Bool) (ds:List D) (h:cL ds=true):oO neg (.list ds) (.list [])=.ok (.bool (neg != decide (ds=[]))):=by
 unfold oO
 have h1:(gy ds).canLay0=true:=by simp only [ii];exact h
 have h3:min (gy ds).depth (gy []).depth<=60:=bU (oM _ _) (by decide)
 have h4:aZ (.list ds) (.list [])=decide (ds=[]):=by
  cases ds with
  | nil=>rfl
  | cons x r=>simp [aZ,gS]
 rw [h1,show (gy []).canLay0=true from rfl,decide_eq_true h3,h4]
 cases neg<;>cases decide (ds=[])<;>rfl
theorem OT (ds:List D) (h:cL ds=true):oO false (.list ds) (.list [])=.ok (.bool (decide (ds=[]))):=by rw [OS false ds h,Bool.false_bne]
theorem Dq {fs st m b:List Str}{es:List cy} (g:dO fs es) (hs:qD fs st) (hw:vv fs m b):(Bd es st m b=false/\le [cP fs es,ax st,j6 m b]=.ok .none)\/∃ k:Int,vX es st m b k/\le [cP fs es,ax st,j6 m b]=.ok (.int k):=by
 have l1:=eD hw.must g.rise.len
 have l2:=eD hw.bars g.rise.len
 obtain ⟨l,nd,few,hk,P,e⟩:=II g hs
 let ls:=(l.filter fun p=>br p.1 m b).map (·.2)
 have hl:ls.length<=l.length:=by
  show ((l.filter fun p=>br p.1 m b).map (·.2)).length<=_
  rw [ao]
  exact ed _ _
 have hm:fg (fX 1 [.no,.shr (j6 m b),.shr (.dict ((.none,.none)::bJ (kY l)))] (fL (fA 2 gG (J.ag (rS 0) (J.ag (rS 1) J.aM)))) (g2 (rB 2) (rB 0) uM)) ((l.map (·.1)).map ax)=.ok (ls.map .int):=by
  rw [bI]
  have:=eO (fX 1 [.no,.shr (j6 m b),.shr (.dict ((.none,.none)::bJ (kY l)))] (fL (fA 2 gG (J.ag (rS 0) (J.ag (rS 1) J.aM)))) (g2 (rB 2) (rB 0) uM)) (fun p:List Str×Int=>ax p.1) (fun p=>bB p.2) (fun p=>br p.1 m b) l fun p hp=>m6 (by
   walk_at "zz"
   rw [B7 (by omega) (by omega)]
   walk_at "zz") fun _=>(by
   walk_at "zz"
   exact Ff (l:=kY l) (by rw [jH];exact nd) (aT (f:=fun p:List Str×Int=>(p.1,bB p.2)) hp))
  refine Eq.trans this ?_
  show _=R.ok (((l.filter fun p=>br p.1 m b).map (·.2)).map bB)
  rw [bI]
  rfl
 have lay:cL (ls.map .int)=true:=D1 _ ls fun _ _=>rfl
 have key:∀ {d:D},(bif decide (ls=[]) then R.ok (Fl.rt .none) else (F2 (.list (ls.map .int))).bind Vf)=.ok (.rt d)->le [cP fs es,ax st,j6 m b]=.ok d:=fun {d} h=>by
  unfold le
  refine cE ?_
  unfold qB bX
  walk_at "zz"
  rw [e]
  walk_at "zz"
  rw [GW]
  walk_at "zz"
  rw [u6,jH]
  walk_at "zz"
  rw [if_pos (by omega),hm]
  walk_at "zz"
  rw [OT _ lay]
  have e0:decide (ls.map bB=[])=decide (ls=[]):=by
   rw [l9]
   simp
  rw [e0]
  cases hz:decide (ls=[]) with
  | true =>
   rw [hz] at h
   walk_at "zz"
   exact h
  | false =>
   rw [hz] at h
   walk_at "zz"
   exact h
 rcases OP (fs:=fs) (m:=m) (b:=b) P hk with ⟨h1,h2⟩ | ⟨h1,h2⟩
 ·exact .inl ⟨h2,key (by rw [decide_eq_true (show ls=[] from h1)];rfl)⟩
 ·refine .inr ⟨_,h2,key ?_⟩
  have h1:ls≠[]:=h1
  rw [decide_eq_false h1]
  have hp:0<ls.length:=List.length_pos_iff.mpr h1
  have hmin:F2 (.list (ls.map .int))=.ok (.int (F1 ls)):=by
   unfold F2
   simp only [sd,if_pos hp]
  rw [hmin]
  rfl
theorem Dr {fs st m b:List Str}{es:List cy}{l:LZ} (g:dO fs es) (hw:vv fs m b) (hb:De fs st es l) (hn:ON es l) :
  (Bd es st m b=false/\jF [.dict ((.none,.none)::bJ (eP l)),j6 m b]=.ok (.list []))\/∃ x0∈l.map (·.1),br x0 m b=true/\vX es st m b (ia l x0:Nat)/\jF [.dict ((.none,.none)::bJ (eP l)),j6 m b]=.ok (.list ((((l.map (·.1)).filter fun x=>br x m b).filter fun x=>decide (ia l x=ia l x0)).map ax)):=by
 have l1:=eD hw.must g.rise.len
 have l2:=eD hw.bars g.rise.len
 have few:=hb.ok.few g
 have lf:=ed (fun x=>br x m b) (l.map (·.1))
 rw [ao] at lf
 have key:∀ {ds:List D},(∀ z,fg (fX 1 [z,.shr (.dict ((.none,.none)::bJ (eP l))),.shr (.list (((l.map (·.1)).filter fun x=>br x m b).map ax))] (fL (g2 (c8 (J.ag (g2 (rB 1) (rB 0) uM) J.aM) (hZ iC)) (c8 (J.ag (g2 (rB 1) (g2 (rB 2) (kI 0) bw) uM) J.aM) (hZ iC)) (oO false))) (rS 0)) (((l.map (·.1)).filter fun x=>br x m b).map ax)=.ok ds)->jF [.dict ((.none,.none)::bJ (eP l)),j6 m b]=.ok (.list ds):=by
  intro ds hd
  unfold jF
  refine cE ?_
  unfold qA bX
  walk_at "zz"
  rw [GW]
  walk_at "zz"
  rw [u6,ir]
  walk_at "zz"
  rw [if_pos (by omega)]
  rw [eO _ (fun x:List Str=>ax x) (fun x=>ax x) (fun x=>br x m b) (l.map (·.1)) fun x hx=>m6 (by
   walk_at "zz"
   rw [xI (by omega) (by omega)]
   walk_at "zz") fun _=>rfl]
  walk_at "zz"
  rw [if_pos (by omega)]
  rw [show (vh (fun x=>ax x) ((l.map (·.1)).filter fun x=>br x m b))=((l.map (·.1)).filter fun x=>br x m b).map ax from rfl,hd]
  walk_at "zz"
 cases hF:(l.map (·.1)).filter (fun x=>br x m b) with
 | nil =>
  left
  refine ⟨?_,key fun z=>?_⟩
  ·rw [<- GY (fs:=fs) hb.keys]
   refine Bool.eq_false_iff.mpr fun hz=>?_
   obtain ⟨x,h1,h2⟩:=List.any_eq_true.mp hz
   have:x∈(l.map (·.1)).filter (fun x=>br x m b):=List.mem_filter.mpr ⟨h1,h2⟩
   rw [hF] at this
   cases this
  ·rw [hF]
   rfl
 | cons x0 r0 =>
  right
  have hx0:x0∈(l.map (·.1)).filter (fun x=>br x m b):=by rw [hF];exact am
  obtain ⟨k1,k2⟩:=List.mem_filter.mp hx0
  have km:=i9 k1
  obtain ⟨r1,r2,r3⟩:=hb.ok.row _ km
  have ix0:bw (.list ((x0::r0).map ax)) (.int 0)=.ok (ax x0):=tw (j:=0) rfl
  refine ⟨x0,k1,k2,⟨⟨nh l x0,x0,r1,r2,k2,rfl⟩,fun rs x h1 h2 h3=>?_⟩,key fun z=>?_⟩
  ·obtain ⟨q,q1,q2,q3⟩:=u7 (fun r:List cy=>(r.length:Int)) (fun p hp e he hg=>by
    obtain ⟨q,a,b,c⟩:=hn.cls p hp e he hg
    exact ⟨q,a,b,by omega⟩) rs (st,[]) x hb.ok.beg h1 h2
   have:=Dl (q:=q) hn.up hF q1 (by rw [q2];exact h3)
   simp only [cq] at q3
   show ((nh l x0).length:Int)<=_
   omega
  ·rw [hF]
   have hx':∀ x∈x0::r0,x∈l.map (·.1):=fun x hx=>(List.mem_filter.mp (by rw [hF];exact hx)).1
   rw [eO _ (fun x:List Str=>ax x) (fun x=>ax x) (fun x=>decide (ia l x=ia l x0)) (x0::r0) fun x hx=>m6 (by
    walk_at "zz"
    rw [He hb.ok (hx' x hx)]
    walk_at "zz"
    rw [show (ax x0::vh (fun x=>ax x) r0)=(x0::r0).map ax from rfl,ix0]
    walk_at "zz"
    rw [He hb.ok k1]
    walk_at "zz"
    rw [jm]
    walk_at "zz"
    simp only [Int.natCast_inj]) fun _=>rfl]
theorem ub {l:LZ} (nd:(l.map (·.1)).Nodup) {p:List Str×List cy} (hp:p∈l):nh l p.1=p.2:=by
 have h:=i9 (aT (f:=(·.1)) hp)
 induction l with
 | nil=>cases hp
 | cons q r ih =>
  unfold nh
  rw [bT]
  rw [ap] at nd
  obtain ⟨n1,n2⟩:=List.nodup_cons.mp nd
  rcases List.mem_cons.mp hp with z | z
  ·subst z;simp
  ·have:q.1≠p.1:=fun w=>n1 (by rw [w];exact aT (f:=(·.1)) z)
   rw [decide_eq_false this]
   exact ih n2 z (i9 (aT (f:=(·.1)) z))
theorem RL {fs st:List Str}{es:List cy}{l:LZ} (hb:De fs st es l) (hn:ON es l):Um es st (l.map (·.1)) (ia l):=by
 have all:∀ rs x,(∀ e∈rs,e∈es)->kX rs st=some x->x∈l.map (·.1)/\ia l x<=rs.length:=fun rs x h1 h2=>by
  obtain ⟨q,q1,q2,q3⟩:=u7 (fun r:List cy=>(r.length:Int)) (fun p hp e he hg=>by
   obtain ⟨q,a,b,c⟩:=hn.cls p hp e he hg
   exact ⟨q,a,b,by omega⟩) rs (st,[]) x hb.ok.beg h1 h2
  subst q2
  refine ⟨aT (f:=(·.1)) q1,?_⟩
  unfold ia
  rw [ub hb.ok.nd q1]
  simp only [cq] at q3
  omega
 refine ⟨hb.ok.nd,fun y hy=>⟨fun h=>?_,fun h=>?_⟩,fun x hx y hy=>?_,fun n y hy=>?_⟩
 ·obtain ⟨_,r2,_⟩:=hb.ok.row _ (i9 hy)
  have h2:nh l y=[]:=List.length_eq_zero_iff.mp h
  have r2:kX (nh l y) st=some y:=r2
  rw [h2] at r2
  cases r2
  rfl
 ·subst h
  have:=ub hb.ok.nd hb.ok.beg
  unfold ia
  rw [show nh l y=[] from this]
  rfl
 ·obtain ⟨e,he,hg,rfl⟩:=qH.mp hy
  obtain ⟨q,q1,q2,q3⟩:=hn.cls _ (i9 hx) e he hg
  rw [<- q2]
  unfold ia
  rw [ub hb.ok.nd q1]
  exact q3
 ·obtain ⟨rs,r1,r2,r3⟩:=Dm hy
  have:=all rs y r1 r2
  rw [r3] at this
  exact this
theorem RM {es:List cy}{l:LZ} (nd:(l.map (·.1)).Nodup) (hn:ON es l):(l.map (·.1)).Pairwise fun a b=>ia l a<=ia l b:=by
 refine List.pairwise_map.mpr (hn.up.imp_of_mem fun {p q} hp hq h=>?_)
 unfold ia
 rw [ub nd hp,ub nd hq]
 exact h
theorem Ds {α:Type} (f:α->Nat):∀ xs:List α,(xs.map fun x=>(f x:Int)).sum=((xs.map f).sum:Nat)
 | []=>rfl
 | x::r=>by
  rw [ap,g6,ap,g6,Ds f r]
  omega
theorem Fh {fs st m b:List Str}{es:List cy} (g:dO fs es) (hs:qD fs st) (hw:vv fs m b):(Bd es st m b=false/\fB [cP fs es,ax st,j6 m b]=.ok (.int 0))\/∃ k:Nat,vX es st m b (k:Nat)/\0<((eA es st k).filter fun x=>br x m b).length/\fB [cP fs es,ax st,j6 m b]=.ok (.int (((eA es st k).filter fun x=>br x m b).length:Nat)):=by
 obtain ⟨l,⟨hb,hn⟩,e⟩:=Mo g hs
 have few:=hb.ok.few g
 have D:=RL hb hn
 have cw:=IJ D (RM hb.ok.nd hn)
 have ce:=IK g hb
 generalize (l.map (·.1)).foldl (Q4 es (ia l)) (fun z=>if z=st then 1 else 0)=F at ce cw
 have key:∀ xs:List (List Str),(∀ x∈xs,x∈l.map (·.1))->xs.length<=l.length->jF [.dict ((.none,.none)::bJ (eP l)),j6 m b]=.ok (.list (xs.map ax))->fB [cP fs es,ax st,j6 m b]=.ok (.int ((xs.map fun y=>G_ es st (ia l y) y).sum:Nat)):=fun xs hx hl hnr=>by
  unfold fB
  refine cE ?_
  unfold iP bX
  walk_at "zz"
  rw [Rw g hs hw]
  walk_at "zz"
  rw [e]
  walk_at "zz"
  rw [ce]
  walk_at "zz"
  rw [hnr]
  walk_at "zz"
  rw [if_pos (by omega)]
  rw [d_ _ ax (fun x=>bB ((G_ es st (ia l x) x:Nat):Int)) xs fun x hxm=>gd rfl (by
   walk_at "zz"
   rw [<- cw x (hx x hxm)]
   exact Ff (l:=gf (l.map (·.1)) F) (p:=(x,.int (F x))) (by rw [ua];exact hb.ok.nd) (Bg (hx x hxm) F))]
  walk_at "zz"
  have hsum:Iq (.list (xs.map fun x=>bB ((G_ es st (ia l x) x:Nat):Int)))=.ok (.int ((xs.map fun y=>G_ es st (ia l y) y).sum:Nat)):=by
   have e1:xs.map (fun x=>bB ((G_ es st (ia l x) x:Nat):Int))=(xs.map fun x=>((G_ es st (ia l x) x:Nat):Int)).map bB:=by rw [bI];rfl
   unfold Iq
   simp only [e1,sd,Ds]
  rw [hsum]
  walk_at "zz"
 rcases Dr g hw hb hn with ⟨h1,h2⟩ | ⟨x0,hx0,hg0,hN,h2⟩
 ·exact .inl ⟨h1,key [] (fun _ h=>nomatch h) (cn _) h2⟩
 ·right
  have hm:∀ y∈l.map (·.1),br y m b=true->ia l x0<=ia l y:=fun y hy hg=>by
   obtain ⟨r1,r2,_⟩:=hb.ok.row _ (i9 hy)
   have:=hN.2 _ _ r1 r2 hg
   exact Int.ofNat_le.mp this
  have es1:=Ms D (good:=fun x=>br x m b) (n:=ia l x0) hm
  refine ⟨ia l x0,hN,?_,?_⟩
  ·obtain ⟨r1,r2,_⟩:=hb.ok.row _ (i9 hx0)
   exact oW (List.mem_filter.mpr ⟨Dn _ _ _ rfl r1 r2,hg0⟩)
  ·rw [es1]
   refine key _ (fun x hx=>(List.mem_filter.mp (List.mem_filter.mp hx).1).1) ?_ h2
   refine bU (ed _ _) (bU (ed _ _) ?_)
   rw [ao]
   exact au _
def Up:aw->R Fl:=aS (f_ 9 (fA 2 iU (J.ag (rS 8) (J.ag (rS 7) J.aM)))) (fQ (fL (g2 (rB 9) kN (G4 true))) (rW 6 (rS 9)) (fun ρ=>.ok (.nx ρ)))
def U5:aw->R Fl:=kq (k7 (g2 (rB 0) (kI 1) bw)) (bC 8) Up
def RY:aw->R Fl:=aS (eC 6 (eJ J.aM .list)) (aS (oF 4 (bC 7) U5) (Jj 6 (f_ 4 (rS 6))))
theorem Mw:mo=aS (eC 4 (eJ (J.ag (rS 1) J.aM) .list)) (aS (kq (vo (J.ag (rB 3) J.aM)) (bC 5) RY) (dJ (c8 (J.ag (fo 1 [2] (k7 (rB 4)) (fL (fA 2 gG (J.ag (rS 0) (J.ag (rS 1) J.aM)))) (rS 0)) J.aM) (hZ iC)))):=rfl
theorem Mx {fs x:List Str}{es:List cy} (g:dO fs es) (hs:qD fs x) (B S W N s5:Sl) (o4:Sl):∀ (xs:List cy) (acc:List (List Str)) (z8 z9:Sl),(∀ e∈xs,e∈es)->acc.length + xs.length<=1000 ->
  ∃ y8 y9,iT (bC 8) Up (xs.map dD) [B,S,W,N,o4,s5,.own (.list (acc.map ax)),.shr (ax x),z8,z9]=.ok (.nx [B,S,W,N,o4,s5,.own (.list ((acc++(xs.filter fun e=>br x e.needs e.bars).map fun e=>aI e x).map ax)),.shr (ax x),y8,y9])
 | [],acc,z8,z9,_,_=>⟨z8,z9,by simp only [List.filter_nil,dA,bZ];rfl⟩
 | e::r,acc,z8,z9,hx,hl=>by
  have he:=hx e am
  have ls:=eD hs g.rise.len
  rw [bd] at hl
  by_cases hg:br x e.needs e.bars=true
  ·obtain ⟨y8,y9,q⟩:=Mx g hs B S W N s5 o4 r (acc++[aI e x]) (.shr (dD e)) (.shr (ax (aI e x))) (fun a ha=>hx a (aj _ ha)) (by rw [aN,cK];omega)
   refine ⟨y8,y9,?_⟩
   rw [ap,kW (ρ1:=[B,S,W,N,o4,s5,.own (.list (acc.map ax)),.shr (ax x),.shr (dD e),z9]) (ρ2:=[B,S,W,N,o4,s5,.own (.list ((acc++[aI e x]).map ax)),.shr (ax x),.shr (dD e),.shr (ax (aI e x))]) rfl]
   ·rw [q,BS (p:=fun e:cy=>br x e.needs e.bars) hg,ap,eG]
    rfl
   ·unfold Up
    walk_at "zz"
    rw [B9 (pO g he) (by omega),uP,if_pos hg,zW]
    walk_at "zz"
    rw [Q2]
    walk_at "zz"
    rw [D2 (ds:=acc.map ax) (d:=ax (aI e x)) rfl rfl (by rw [ao];omega),aV]
    rfl
  ·obtain ⟨y8,y9,q⟩:=Mx g hs B S W N s5 o4 r acc (.shr (dD e)) (.shr .none) (fun a ha=>hx a (aj _ ha)) (by omega)
   refine ⟨y8,y9,?_⟩
   rw [ap,kW (ρ1:=[B,S,W,N,o4,s5,.own (.list (acc.map ax)),.shr (ax x),.shr (dD e),z9]) (ρ2:=[B,S,W,N,o4,s5,.own (.list (acc.map ax)),.shr (ax x),.shr (dD e),.shr .none]) rfl]
   ·rw [q,BU (p:=fun e:cy=>br x e.needs e.bars) hg]
   ·unfold Up
    walk_at "zz"
    rw [B9 (pO g he) (by omega),uP,if_neg hg,zX]
    walk_at "zz"
    rw [M8]
    walk_at "zz"
theorem A1 (es:List cy) (x:List Str):(jo es x).length<=es.length:=by
 unfold jo
 rw [ao]
 exact ed _ _
theorem Dt (es:List cy):∀ A:List (List Str),(A.flatMap (jo es)).length<=A.length * es.length
 | []=>Ec (by simp)
 | a::r=>by
  have h1:=Dt es r
  have h2:=A1 es a
  rw [JD,aN,bd,Hz]
  omega
theorem My {fs:List Str}{es:List cy} (g:dO fs es) (S W N s5:Sl) (o4:Sl):∀ (A acc:List (List Str)) (z7 z8 z9:Sl),(∀ x∈A,qD fs x)->acc.length + A.length * es.length<=1000 ->
  ∃ y7 y8 y9,iT (bC 7) U5 (A.map ax) [.shr (cP fs es),S,W,N,o4,s5,.own (.list (acc.map ax)),z7,z8,z9]=.ok (.nx [.shr (cP fs es),S,W,N,o4,s5,.own (.list ((acc++A.flatMap (jo es)).map ax)),y7,y8,y9])
 | [],acc,z7,z8,z9,_,_=>⟨z7,z8,z9,by rw [List.flatMap_nil,bZ];rfl⟩
 | x::r,acc,z7,z8,z9,hA,hl=>by
  have hx:=hA x am
  rw [bd,Hz,Nat.one_mul] at hl
  obtain ⟨w8,w9,q1⟩:=Mx g hx (.shr (cP fs es)) S W N s5 o4 es acc z8 z9 (fun _ h=>h) (by omega)
  have sf:=A1 es x
  obtain ⟨y7,y8,y9,q⟩:=My g S W N s5 o4 r (acc++jo es x) (.shr (ax x)) w8 w9 (fun y hy=>hA y (aj _ hy)) (by rw [aN];omega)
  refine ⟨y7,y8,y9,?_⟩
  rw [ap,kW (ρ1:=[.shr (cP fs es),S,W,N,o4,s5,.own (.list (acc.map ax)),.shr (ax x),z8,z9]) (ρ2:=[.shr (cP fs es),S,W,N,o4,s5,.own (.list ((acc++jo es x).map ax)),.shr (ax x),w8,w9]) rfl]
  ·rw [q,JD,eG]
  ·unfold U5
   rw [n6 (ds:=es.map dD)]
   ·exact q1
   ·walk_at "zz"
    rw [Rv]
    walk_at "zz"
theorem xL (es:List cy) (st:List Str) (h:es.length<=5):∀ n,(eA es st n).length<=5 ^ n
 | 0=>au _
 | n + 1=>by
  have h1:=xL es st h n
  have h2:=Dt es (eA es st n)
  have h3:=Nat.mul_le_mul h1 h
  rw [Ej]
  exact bU h2 h3
theorem Du {fs st:List Str}{es:List cy} (g:dO fs es) (hs:qD fs st):∀ n,∀ x∈eA es st n,qD fs x
 | 0,x,h=>by rw [List.mem_singleton.mp h];exact hs
 | n + 1,x,h=>by
  obtain ⟨y,hy,hx⟩:=List.mem_flatMap.mp h
  obtain ⟨e,he,hg,rfl⟩:=qH.mp hx
  exact si g.rise.up (g.ok e he) (Du g hs n y hy)
theorem Dv (lo:Int) (n:Nat):jg lo (n + 1)=.int lo::jg (lo + 1) n:=by
 unfold jg
 rw [List.range_succ_eq_map,ap,bI]
 congr 1
 ·simp
 ·refine dZ fun k _=>?_
  show bB (lo + (k + 1:Nat))=bB (lo + 1 + k)
  congr 1
  omega
theorem Mz {fs st:List Str}{es:List cy} (g:dO fs es) (h5:es.length<=5) (hs:qD fs st) (S W N:Sl):∀ (r n lo:Nat) (o4 s5 z6 z7 z8 z9:Sl),n + r<=4->(o4=.own (.list ((eA es st n).map ax))\/o4=.shr (.list ((eA es st n).map ax))) ->
  ∃ y4 y5 y6 y7 y8 y9,(y4=Sl.own (.list ((eA es st (n + r)).map ax))\/y4=Sl.shr (.list ((eA es st (n + r)).map ax)))/\iT (bC 5) RY (jg lo r) [.shr (cP fs es),S,W,N,o4,s5,z6,z7,z8,z9]=.ok (.nx [.shr (cP fs es),S,W,N,y4,y5,y6,y7,y8,y9])
 | 0,n,lo,o4,s5,z6,z7,z8,z9,_,ho=>⟨o4,s5,z6,z7,z8,z9,ho,rfl⟩
 | r + 1,n,lo,o4,s5,z6,z7,z8,z9,hn,ho=>by
  have k1:=xL es st h5 n
  have k2:5 ^ n<=5 ^ 3:=rH (by decide) (by omega)
  have k3:(eA es st n).length * es.length<=125 * 5:=Nat.mul_le_mul (bU k1 k2) h5
  have L:=fun o=>My g S W N (.shr (.int lo)) o (eA es st n) [] z7 z8 z9 (Du g hs n) (by simpa using bU k3 (by decide))
  have H:∃ y6 y7 y8 y9,RY [.shr (cP fs es),S,W,N,o4,.shr (.int lo),z6,z7,z8,z9]=.ok (.nx [.shr (cP fs es),S,W,N,.shr (.list ((eA es st (n + 1)).map ax)),.shr (.int lo),y6,y7,y8,y9]):=by
   rcases ho with ho | ho
   ·subst ho
    obtain ⟨y7,y8,y9,q⟩:=L (.lck (.list ((eA es st n).map ax)))
    refine ⟨.shr (.list ((eA es st (n + 1)).map ax)),y7,y8,y9,?_⟩
    have e:oF 4 (bC 7) U5 [.shr (cP fs es),S,W,N,.own (.list ((eA es st n).map ax)),.shr (.int lo),.own (.list []),z7,z8,z9]=.ok (.nx [.shr (cP fs es),S,W,N,.own (.list ((eA es st n).map ax)),.shr (.int lo),.own (.list ((eA es st (n + 1)).map ax)),y7,y8,y9]):=by
     show Vd 4 _ (iT (bC 7) U5 ((eA es st n).map ax) [.shr (cP fs es),S,W,N,.lck (.list ((eA es st n).map ax)),.shr (.int lo),.own (.list []),z7,z8,z9])=_
     have q':=q
     rw [dA] at q'
     rw [q']
     rfl
    unfold RY
    walk_at "zz"
    rw [e]
    walk_at "zz"
    simp only [Jj]
    rw [uL rfl]
    walk_at "zz"
   ·subst ho
    obtain ⟨y7,y8,y9,q⟩:=L (.shr (.list ((eA es st n).map ax)))
    refine ⟨.shr (.list ((eA es st (n + 1)).map ax)),y7,y8,y9,?_⟩
    unfold RY
    walk_at "zz"
    rw [Me (d:=.list ((eA es st n).map ax)) rfl,n6 (ds:=(eA es st n).map ax)]
    ·have q':=q
     rw [dA] at q'
     rw [q']
     walk_at "zz"
     simp only [Jj]
     rw [uL rfl]
     walk_at "zz"
     rfl
    ·walk_at "zz"
  obtain ⟨w6,w7,w8,w9,hw⟩:=H
  obtain ⟨y4,y5,y6,y7,y8,y9,f1,f2⟩:=Mz g h5 hs S W N r (n + 1) (lo + 1) (.shr (.list ((eA es st (n + 1)).map ax))) (.shr (.int lo)) w6 w7 w8 w9 (by omega) (.inr rfl)
  refine ⟨y4,y5,y6,y7,y8,y9,by rw [show n + (r + 1)=n + 1 + r by omega];exact f1,?_⟩
  rw [Dv,show ((lo:Int) + 1)=((lo + 1:Nat):Int) from rfl,kW (ρ1:=[.shr (cP fs es),S,W,N,o4,.shr (.int lo),z6,z7,z8,z9]) rfl hw]
  exact f2
theorem MA {fs st m b:List Str}{es:List cy} (g:dO fs es) (h5:es.length<=5) (hs:qD fs st) (hw:vv fs m b) (n:Nat) (hn:n<=4):mq [cP fs es,ax st,j6 m b,.int (n:Nat)]=.ok (.int (((eA es st n).filter fun x=>br x m b).length:Nat)):=by
 have l1:=eD hw.must g.rise.len
 have l2:=eD hw.bars g.rise.len
 have k1:=xL es st h5 n
 have k2:5 ^ n<=5 ^ 4:=rH (by decide) hn
 obtain ⟨y4,y5,y6,y7,y8,y9,f1,f2⟩:=Mz g h5 hs (.shr (ax st)) (.shr (j6 m b)) (.shr (.int (n:Nat))) n 0 0 (.own (.list ([st].map ax))) .no .no .no .no .no (by omega) (.inl rfl)
 rw [lQ] at f1
 unfold mq
 refine cE ?_
 rw [Mw]
 unfold bX
 walk_at "zz"
 rw [n6 (ds:=jg 0 n)]
 ·rw [show ([ax st] : List D)=[st].map ax from rfl]
  have f2':iT (bC 5) RY (jg 0 n) [.shr (cP fs es),.shr (ax st),.shr (j6 m b),.shr (.int (n:Nat)),.own (.list ([st].map ax)),.no,.no,.no,.no,.no]=_:=f2
  rw [f2']
  rcases f1 with f1 | f1<;>subst f1<;>(
   walk_at "zz"
   rw [if_pos (by omega)]
   rw [eO _ (fun x:List Str=>ax x) (fun x=>ax x) (fun x=>br x m b) (eA es st n) fun x hx=>m6 (by
    walk_at "zz"
    rw [B7 (by omega) (by omega)]
    walk_at "zz") fun _=>rfl]
   walk_at "zz")
 ·walk_at "zz"
  rw [Gs (by omega) (by omega)]
  rfl
theorem law_true (ns:List Int):F_law [.list (ns.map .int)]=.ok (.bool true):=by
 obtain ⟨fs,es,ss,wm,wb,hc,gb,gs,gw,fl,el⟩:=OH ns 5 5 (by decide) (by decide) (by decide) (by decide)
 have el:es.length<=5:=el
 unfold F_law
 refine cE ?_
 unfold GI bX
 walk_at "zz"
 rw [hc]
 walk_at "zz"
 rw [Vq]
 walk_at "zz"
 rcases Fh gb gs gw with ⟨a1,a2⟩ | ⟨k,a1,a2,a3⟩
 ·rcases Dq gb gs gw with ⟨b1,b2⟩ | ⟨j,b1,b2⟩
  ·rw [b2]
   walk_at "zz"
   rw [a2]
   walk_at "zz"
   rw [M8]
   walk_at "zz"
   rw [jm]
   walk_at "zz"
  ·exact (nomatch (Dk a1).symm.trans (Dj b1))
 ·rcases Dq gb gs gw with ⟨b1,b2⟩ | ⟨j,b1,b2⟩
  ·exact (nomatch (Dk b1).symm.trans (Dj a1))
  ·have e:=vX.uniq b1 a1
   subst e
   have hce:k<=4->_:=fun hk=>MA gb el gs gw k hk
   generalize ((eA es ss k).filter fun x=>br x wm wb).length=N at a2 a3 hce
   rw [b2]
   walk_at "zz"
   rw [a3]
   walk_at "zz"
   rw [show G4 false (bB (k:Nat)) PyData.none=.ok (.bool false) from rfl]
   walk_at "zz"
   by_cases hk:k<=4
   ·rw [hce hk,decide_eq_true (show (0:Int)<(N:Int) by omega),decide_eq_false (show ¬(4:Int)<(k:Int) by omega)]
    walk_at "zz"
    rw [jm]
    walk_at "zz"
   ·rw [decide_eq_true (show (0:Int)<(N:Int) by omega),decide_eq_true (show (4:Int)<(k:Int) by omega),cond_true,cond_true]
    rfl
end Z
end
namespace Z
open PySem L2 J
section
def top (i:Nat):cA:=PySem.Challenge.pw_errands_k09_whole_how_many.main.body.getD i (.Pass ⟨0,0,0,0⟩)
section
variable {e:En}
abbrev kZ:cA:=top 10
abbrev uc:List Str:=["one","other"]
theorem yT:bN uc ["one","other"] (aA kZ):=dL (by decide +kernel)
abbrev k_ (e:En):=FN e "share_none" 1 2 eu
theorem yU (D:gK e.K e.mg "share_none" kZ) (B:Bi e.mg):k_ e:=oG (k:=0) (g:=jj) D yT b2 fun _ _ _ _ _ _ _ hr=>by unfold jj;exact (aL (bV (Ky (c7 (KG rfl) rfl B.any wF (bz (JE.bor (JN.je (fk (N':=["fact","other"]) (ix:=[1]) 1 (by decide) rfl (ca (so:=aA kZ) (N:=uc) (by decide +kernel)) (fR (ai 0)) (fun cl A0 s0 H0 ex pn=>⟨cG (i:=0) (by show (["fact","other"] : List Str).Nodup;decide +kernel) rfl (.inl rfl),g9,(lz (Cq) (ai 0) (ai 1))⟩)))) c6)))))
abbrev qI:cA:=top 11
abbrev A2:List Str:=["facts","others"]
theorem Fi:bN A2 ["facts","others"] (aA qI):=dL (by decide +kernel)
abbrev A3 (e:En):=FN e "without" 1 2 qq
theorem Fj (D:gK e.K e.mg "without" qI) (B:Bi e.mg):A3 e:=oG (k:=0) (g:=qp) D Fi b2 fun _ _ _ _ _ _ _ hr=>by unfold qp;exact (aL (bV (eW (iL rfl) rfl B.tuple bh (bz (JE.bor (JN.je (fk (N':=["fact","others"]) (ix:=[1]) 1 (by decide) rfl (ca (so:=aA qI) (N:=A2) (by decide +kernel)) (fR (ai 0)) (fun cl A0 s0 H0 ex pn=>⟨cG (i:=0) (by show (["fact","others"] : List Str).Nodup;decide +kernel) rfl (.inl rfl),(jP (dI (w_) (ai 0) (ai 1))),(ak 0)⟩)))) c6))))
abbrev xM:cA:=top 12
abbrev MB:List Str:=["one","other"]
theorem IL:bN MB ["one","other"] (aA xM):=dL (by decide +kernel)
abbrev Dw (e:En):=FN e "joined" 1 2 u0
theorem IM (D:gK e.K e.mg "joined" xM) (B:Bi e.mg):Dw e:=oG (k:=0) (g:=t_) D IL b2 fun _ _ _ _ _ _ _ hr=>by unfold t_;exact (aL (bV (eW (iL rfl) rfl B.tuple bh (bz (JE.bor (rY rfl (R7 (AQ rfl (ai 0) rfl B.set) (AQ rfl (ai 1) rfl B.set)) rfl B.sorted)) c6))))
abbrev qJ:cA:=top 13
abbrev A4:List Str:=["thing"]
theorem Fk:bN A4 ["thing"] (aA qJ):=dL (by decide +kernel)
abbrev uT (e:En):=FN e "is_word" 1 1 nc
theorem Fm (D:gK e.K e.mg "is_word" qJ) (B:Bi e.mg) (lH:Cn e.mg "MOST_LETTERS" 6):uT e:=oG (k:=0) (g:=qr) D Fk b1 fun _ _ _ _ _ _ _ hr=>by unfold qr;exact (aB (fW (JW.t (tT (gT (fv (pG (ai 0) rfl B.isinstance rfl B.str PyProof.Rows.boot_str (by decide)))) (nG (gT (KP (zE) (zE) (JE.bor aD) (JE.bor (c7 gC rfl B.len bP (bz (ai 0) c6))) (JE.bor (tS rfl lH))))))) (aL (bV oC)) cX) (aL (bV (c7 (pH rfl) rfl B.all cY (bz (JE.bor (JN.je (fk (N':=["sign"]) (ix:=[]) 1 (by decide) rfl (ca (so:=aA qJ) (N:=A4) (by decide +kernel)) (fR (ai 0)) (fun cl A0 s0 H0 ex pn=>⟨cG (i:=0) (by show (["sign"] : List Str).Nodup;decide +kernel) rfl (.inl rfl),g9,(CA (zE) (zE) (JE.bor rQ) (ai 0) (JE.bor rQ))⟩)))) c6)))))
abbrev fj:cA:=top 14
abbrev iW:List Str:=["thing"]
theorem qS:bN iW ["thing"] (aA fj):=dL (by decide +kernel)
abbrev iX (e:En):=FN e "are_rising_words" 2 1 fi
theorem qT (D:gK e.K e.mg "are_rising_words" fj) (B:Bi e.mg) (li:uT e):iX e:=oG (k:=1) (g:=gE) D qS b1 fun _ _ _ _ _ _ _ hr=>by unfold gE;exact (aB (fW (JW.t (tT (gT (fv (pG (ai 0) rfl B.isinstance rfl B.tuple bh (by decide)))) (nG (gT (fv (c7 (pH rfl) rfl B.all cY (bz (JE.bor (JN.je (fk (N':=["word"]) (ix:=[]) 1 (by decide) rfl (ca (so:=aA fj) (N:=iW) (by decide +kernel)) (fR (ai 0)) (fun cl A0 s0 H0 ex pn=>⟨cG (i:=0) (by show (["word"] : List Str).Nodup;decide +kernel) rfl (.inl rfl),g9,(jc li hr eE (af (ak 0) aJ))⟩)))) c6))))))) (aL (bV oC)) cX) (aL (bV (c7 (pH rfl) rfl B.all cY (bz (JE.bor (JN.je (fk (N':=["low","high"]) (ix:=[]) 2 (by decide) rfl (ca (so:=aA fj) (N:=iW) (by decide +kernel)) (Ji.i (Ob rfl B.zip (af (ak 0) (af (pE (ai 0) (ql aD) wu) aJ)))) (fun cl A0 s0 H0 ex pn=>⟨Es rfl (ph (cG (i:=0) (by show (["low","high"] : List Str).Nodup;decide +kernel) rfl (.inl rfl)) (ph (cG (i:=1) (by show (["low","high"] : List Str).Nodup;decide +kernel) rfl (.inl rfl)) Ak)),g9,(lz (wZ) (ai 0) (ai 1))⟩)))) c6)))))
abbrev mw:cA:=top 15
abbrev vy:List Str:=["book_facts","thing"]
theorem Bh:bN vy ["book_facts","thing"] (aA mw):=dL (by decide +kernel)
abbrev my (e:En):=FN e "are_facts" 3 2 eS
theorem Bj (D:gK e.K e.mg "are_facts" mw) (B:Bi e.mg) (e8:iX e):my e:=oG (k:=2) (g:=m7) D Bh b2 fun _ _ _ _ _ _ _ hr=>by unfold m7;exact (aL (bV (rT (jc e8 hr px (af (ak 1) aJ)) (rR (c7 (pH rfl) rfl B.all cY (bz (JE.bor (JN.je (fk (N':=["fact","book_facts"]) (ix:=[0]) 1 (by decide) rfl (ca (so:=aA mw) (N:=vy) (by decide +kernel)) (fR (ai 1)) (fun cl A0 s0 H0 ex pn=>⟨cG (i:=0) (by show (["fact","book_facts"] : List Str).Nodup;decide +kernel) rfl (.inl rfl),g9,(lz (Cq) (ai 0) (ai 1))⟩)))) c6))))))
abbrev sk:cA:=top 16
abbrev Fo:List Str:=["thing","least","most"]
theorem Dx:bN Fo ["thing","least","most"] (aA sk):=dL (by decide +kernel)
abbrev xN (e:En):=FN e "is_whole" 1 3 nM
theorem Dy (D:gK e.K e.mg "is_whole" sk) (B:Bi e.mg):xN e:=oG (k:=0) (g:=nL) D Dx b3 fun _ _ _ _ _ _ _ hr=>by unfold nL;exact (aB (fW (JW.t (tT (gT (fv (pG (ai 0) rfl B.isinstance rfl B.int PyProof.Rows.boot_int (by decide)))) (nG (fv (pG (ai 0) rfl B.isinstance rfl B.bool PyProof.Rows.boot_bool (by decide)))))) (aL (bV oC)) cX) (aL (bV (CA (zE) (zE) (ai 1) (ai 0) (ai 2)))))
abbrev mz:cA:=top 17
abbrev vz:List Str:=["book_facts","thing","name","needs","bars","makes","ends","price"]
theorem gI:bN vz ["book_facts","thing"] (aA mz):=dL (by decide +kernel)
abbrev vA (e:En):=FN e "is_errand" 4 2 m9
theorem Bk (D:gK e.K e.mg "is_errand" mz) (B:Bi e.mg) (li:uT e) (sr:xN e) (eT:my e) (ev:k_ e) (nY:Cn e.mg "MOST_PRICE" 9):vA e:=oG (k:=3) (g:=m8) D gI b2 fun _ _ _ _ _ _ _ hr=>by have hu64:=hr.units;unfold m8;exact (aB (fW (JW.t (tT (gT (fv (pG (ai 1) rfl B.isinstance rfl B.tuple bh (by decide)))) (nG (dI (Cj hu64) (JE.bor (c7 gC rfl B.len bP (bz (ai 1) c6))) (JE.bor aD))))) (aL (bV oC)) cX) (aB (xb (ak 1) (nH rfl (cQ (cu 2 gI.nd) (cQ (cu 3 gI.nd) (cQ (cu 4 gI.nd) (cQ (cu 5 gI.nd) (cQ (cu 6 gI.nd) (cQ (cu 7 gI.nd) kG)))))))) (aB (fW (JW.t (tT (gT (fv (jc li hr px (af (ak 2) aJ)))) (nG (gT (fv (jc sr hr px (af (ak 7) (af aD (af (tS rfl nY) aJ))))))))) (aL (bV oC)) cX) (aB (fW (gT (fv (c7 (pH rfl) rfl B.all cY (bz (JE.bor (JN.je (fk (N':=["facts","book_facts"]) (ix:=[0]) 1 (by decide) rfl (ca (so:=aA mz) (N:=vz) (by decide +kernel)) (fR (JE.bor (mJ (af (ak 3) (af (ak 4) (af (ak 5) (af (ak 6) aJ))))))) (fun cl A0 s0 H0 ex pn=>⟨cG (i:=0) (by show (["facts","book_facts"] : List Str).Nodup;decide +kernel) rfl (.inl rfl),g9,(jc eT hr eE (af (ak 1) (af (ak 0) aJ)))⟩)))) c6)))) (aL (bV oC)) cX) (aL (bV (rT (jc ev hr px (af (ak 3) (af (ak 4) aJ))) (rR (jc ev hr px (af (ak 5) (af (ak 6) aJ)))))))))))
abbrev ni:cA:=top 18
abbrev uU:List Str:=["thing","facts","errands"]
theorem su:bN uU ["thing"] (aA ni):=dL (by decide +kernel)
abbrev A5 (e:En):=FN e "is_book" 5 1 qu
theorem Fp (D:gK e.K e.mg "is_book" ni) (B:Bi e.mg) (e8:iX e) (pR:vA e) (nZ:Cn e.mg "MOST_FACTS" 6) (lI:Cn e.mg "MOST_ERRANDS" 6):A5 e:=oG (k:=4) (g:=qt) D su b1 fun _ _ _ _ _ _ _ hr=>by have hu1:=iA hr;have hu64:=hr.units;unfold qt;exact (aB (fW (JW.t (tT (gT (fv (pG (ai 0) rfl B.isinstance rfl B.tuple bh (by decide)))) (nG (dI (Cj hu64) (JE.bor (c7 gC rfl B.len bP (bz (ai 0) c6))) (JE.bor aD))))) (aL (bV oC)) cX) (aB (xb (ak 0) (nH rfl (cQ (cu 1 su.nd) (cQ (cu 2 su.nd) kG)))) (aB (fW (JW.t (tT (gT (fv (jc e8 hr px (af (ak 1) aJ)))) (nG (dI (G3) (JE.bor (c7 gC rfl B.len bP (bz (ai 1) c6))) (JE.bor (tS rfl nZ)))))) (aL (bV oC)) cX) (aB (fW (JW.t (tT (gT (fv (pG (ai 2) rfl B.isinstance rfl B.tuple bh (by decide)))) (nG (dI (G3) (JE.bor (c7 gC rfl B.len bP (bz (ai 2) c6))) (JE.bor (tS rfl lI)))))) (aL (bV oC)) cX) (aB (fW (gT (fv (c7 (pH rfl) rfl B.all cY (bz (JE.bor (JN.je (fk (N':=["errand","facts"]) (ix:=[1]) 1 (by decide) rfl (ca (so:=aA ni) (N:=uU) (by decide +kernel)) (fR (ai 2)) (fun cl A0 s0 H0 ex pn=>⟨cG (i:=0) (by show (["errand","facts"] : List Str).Nodup;decide +kernel) rfl (.inl rfl),g9,(jc pR hr eE (af (ak 1) (af (ak 0) aJ)))⟩)))) c6)))) (aL (bV oC)) cX) (aL (bV (lz (pC hu64) (JE.bor (Ij (KQ (N':=["errand"]) (ix:=[]) 1 (by decide) rfl (ca (so:=aA ni) (N:=uU) (by decide +kernel)) (fR (ai 2)) (fun cl A0 s0 H0 ex pn=>⟨cG (i:=0) (by show (["errand"] : List Str).Nodup;decide +kernel) rfl (.inl rfl),g9,(cz hu1 (ai 0) (JE.bor aD))⟩)) rfl B.len)) (JE.bor (c7 gC rfl B.len bP (bz (ai 2) c6)))))))))))
abbrev uV:cA:=top 19
abbrev IN:List Str:=["book","thing","must","bars"]
theorem sv:bN IN ["book","thing"] (aA uV):=dL (by decide +kernel)
abbrev A6 (e:En):=FN e "is_want" 4 2 qw
theorem Fq (D:gK e.K e.mg "is_want" uV) (B:Bi e.mg) (eT:my e) (ev:k_ e):A6 e:=oG (k:=3) (g:=qv) D sv b2 fun _ _ _ _ _ _ _ hr=>by have hu1:=iA hr;have hu64:=hr.units;unfold qv;exact (aB (fW (JW.t (tT (gT (fv (pG (ai 1) rfl B.isinstance rfl B.tuple bh (by decide)))) (nG (dI (Cj hu64) (JE.bor (c7 gC rfl B.len bP (bz (ai 1) c6))) (JE.bor aD))))) (aL (bV oC)) cX) (aB (xb (ak 1) (nH rfl (cQ (cu 2 sv.nd) (cQ (cu 3 sv.nd) kG)))) (aL (bV (rT (jc eT hr px (af (cz hu1 (ai 0) (JE.bor aD)) (af (ak 2) aJ))) (rT (jc eT hr px (af (cz hu1 (ai 0) (JE.bor aD)) (af (ak 3) aJ))) (rR (jc ev hr px (af (ak 2) (af (ak 3) aJ))))))))))
abbrev mM:cA:=top 20
abbrev yV:List Str:=["book","state"]
theorem xO:bN yV ["book","state"] (aA mM):=dL (by decide +kernel)
abbrev rg (e:En):=FN e "check_state" 4 2 jS
theorem xP (D:gK e.K e.mg "check_state" mM) (eT:my e) (uW:ER e "NoState"):rg e:=oG (k:=3) (g:=jR) D xO b2 fun _ _ _ _ _ _ _ hr=>by have hu1:=iA hr;unfold jR;exact (aL (fW (gT (fv (jc eT hr px (af (cz hu1 (ai 0) (JE.bor aD)) (af (ak 1) aJ))))) (aL (xq uW rfl (af rQ aJ))) cX))
abbrev n_:cA:=top 21
abbrev Bl:List Str:=["book","want"]
theorem yW:bN Bl ["book","want"] (aA n_):=dL (by decide +kernel)
abbrev ud (e:En):=FN e "check_want" 5 2 kK
theorem yX (D:gK e.K e.mg "check_want" n_) (uX:A6 e) (xQ:ER e "NoWant"):ud e:=oG (k:=4) (g:=kJ) D yW b2 fun _ _ _ _ _ _ _ hr=>by unfold kJ;exact (aL (fW (gT (fv (jc uX hr px (af (ak 0) (af (ak 1) aJ))))) (aL (xq xQ rfl (af rQ aJ))) cX))
abbrev qK:cA:=top 22
abbrev A7:List Str:=["state","want","must","bars"]
theorem sw:bN A7 ["state","want"] (aA qK):=dL (by decide +kernel)
abbrev uY (e:En):=FN e "fulfils" 2 2 ng
theorem Fs (D:gK e.K e.mg "fulfils" qK) (B:Bi e.mg) (ev:k_ e):uY e:=oG (k:=1) (g:=qx) D sw b2 fun _ _ _ _ _ _ _ hr=>by unfold qx;exact (aB (xb (ak 1) (nH rfl (cQ (cu 2 sw.nd) (cQ (cu 3 sw.nd) kG)))) (aL (bV (rT (c7 (pH rfl) rfl B.all cY (bz (JE.bor (JN.je (fk (N':=["fact","state"]) (ix:=[0]) 1 (by decide) rfl (ca (so:=aA qK) (N:=A7) (by decide +kernel)) (fR (ai 2)) (fun cl A0 s0 H0 ex pn=>⟨cG (i:=0) (by show (["fact","state"] : List Str).Nodup;decide +kernel) rfl (.inl rfl),g9,(lz (Cq) (ai 0) (ai 1))⟩)))) c6)) (rR (jc ev hr px (af (ak 3) (af (ak 0) aJ))))))))
abbrev pS:cA:=top 23
abbrev Dz:List Str:=["errand","state"]
theorem Bm:bN Dz ["errand","state"] (aA pS):=dL (by decide +kernel)
abbrev vB (e:En):=FN e "is_doable" 3 2 mf
theorem Bo (D:gK e.K e.mg "is_doable" pS) (lj:uY e):vB e:=oG (k:=2) (g:=md) D Bm b2 fun _ _ _ _ _ _ _ hr=>by have hu1:=iA hr;unfold md;exact (aL (bV (jc lj hr px (af (ak 1) (af (mJ (af (cz hu1 (ai 0) (JE.bor aD)) (af (cz hu1 (ai 0) (JE.bor aD)) aJ))) aJ)))))
abbrev lJ:cA:=top 24
abbrev xR:List Str:=["errand","state","makes","ends"]
theorem oH:bN xR ["errand","state"] (aA lJ):=dL (by decide +kernel)
abbrev pT (e:En):=FN e "state_behind" 2 2 jl
theorem vY (D:gK e.K e.mg "state_behind" lJ) (uZ:A3 e) (xS:Dw e):pT e:=oG (k:=1) (g:=jk) D oH b2 fun _ _ _ _ _ _ _ hr=>by have hu1:=iA hr;unfold jk;exact (aB (R8 2 3 rfl oH.nd (af (cz hu1 (ai 0) (JE.bor aD)) (af (cz hu1 (ai 0) (JE.bor aD)) aJ))) (aL (bV (jc xS hr px (af (jc uZ hr px (af (ak 1) (af (ak 3) aJ))) (af (ak 2) aJ))))))
abbrev u_:cA:=top 25
abbrev IP:List Str:=["book"]
theorem Ft:bN IP ["book"] (aA u_):=dL (by decide +kernel)
abbrev A8 (e:En):=FN e "checked" 6 1 qz
theorem Fu (D:gK e.K e.mg "checked" u_) (v3:A5 e) (xT:ER e "NoBook"):A8 e:=oG (k:=5) (g:=qy) D Ft b1 fun _ _ _ _ _ _ _ hr=>by unfold qy;exact (aB (fW (gT (fv (jc v3 hr px (af (ak 0) aJ)))) (aL (xq xT rfl (af rQ aJ))) cX) (aL (bV (ak 0))))
abbrev mO:cA:=top 26
abbrev yY:List Str:=["book","state"]
theorem xU:bN yY ["book","state"] (aA mO):=dL (by decide +kernel)
abbrev rh (e:En):=FN e "check_place" 7 2 jU
theorem xV (D:gK e.K e.mg "check_place" mO) (v4:A8 e) (mP:rg e):rh e:=oG (k:=6) (g:=jT) D xU b2 fun _ _ _ _ _ _ _ hr=>by unfold jT;exact (aB (tU (jc v4 hr px (af (ak 0) aJ))) (aL (tU (jc mP hr px (af (ak 0) (af (ak 1) aJ))))))
abbrev pU:cA:=top 27
abbrev DA:List Str:=["book","state","want"]
theorem Bp:bN DA ["book","state","want"] (aA pU):=dL (by decide +kernel)
abbrev vC (e:En):=FN e "check_aim" 8 3 mi
theorem Br (D:gK e.K e.mg "check_aim" pU) (mQ:rh e) (o0:ud e):vC e:=oG (k:=7) (g:=mh) D Bp b3 fun _ _ _ _ _ _ _ hr=>by unfold mh;exact (aB (tU (jc mQ hr px (af (ak 0) (af (ak 1) aJ)))) (aL (tU (jc o0 hr px (af (ak 0) (af (ak 2) aJ))))))
abbrev l5:cA:=top 29
abbrev ue:List Str:=["book","state"]
theorem yZ:bN ue ["book","state"] (aA l5):=dL (by decide +kernel)
abbrev o6 (e:En):=FN e "steps_from" 4 2 gF
theorem y_ (D:gK e.K e.mg "steps_from" l5) (pV:vB e) (lK:pT e):o6 e:=oG (k:=3) (g:=kL) D yZ b2 fun _ _ _ _ _ _ _ hr=>by have hu1:=iA hr;unfold kL;exact (aL (bV (JN.je (fk (N':=["errand","state"]) (ix:=[1]) 1 (by decide) rfl (ca (so:=aA l5) (N:=ue) (by decide +kernel)) (fR (JE.bor (cz hu1 (ai 0) (JE.bor aD)))) (fun cl A0 s0 H0 ex pn=>⟨cG (i:=0) (by show (["errand","state"] : List Str).Nodup;decide +kernel) rfl (.inl rfl),(jP (fv (jc pV hr eE (af (ak 0) (af (ak 1) aJ))))),(mJ (af (ak 0) (af (jc lK hr eE (af (ak 0) (af (ak 1) aJ))) aJ)))⟩)))))
abbrev o7:cA:=top 30
abbrev Bs:List Str:=["book","state","rows","ring","next_ring","at","errand","behind"]
theorem eU:bN Bs ["book","state"] (aA o7):=dL (by decide +kernel)
abbrev uf (e:En):=FN e "first_rows" 5 2 kO
theorem z0 (D:gK e.K e.mg "first_rows" o7) (iu:o6 e):uf e:=oG (k:=4) (g:=kM) D eU b2 fun _ _ _ _ _ _ _ hr=>by have hu1:=iA hr;unfold kM;exact (aB (iO 2 (CQ hu1 (ak 1) (kn aJ)) eU.nd) (aB (iO 3 (rU (af (ak 1) aJ)) eU.nd) (aB (Cy 100000 (Rc (ai 3)) (aB (iO 4 (rU aJ) eU.nd) (aB (Ge 3 rfl (cu 5 eU.nd) (aL (kr rfl (tV (jc iu hr eE (af (ak 0) (af (ak 5) aJ)))) (nH rfl (cQ (cu 6 eU.nd) (cQ (cu 7 eU.nd) kG))) (aL (fW (dI (zR hu1) (ai 7) (ai 2)) (aB (xx 2 (bW cC (JE.bor (nK hu1 (ai 2) (ai 5))) (JE.bor (kn (af (cz hu1 (ai 6) (JE.bor aD)) aJ)))) (ak 7) hu1) (aL (mZ 4 (ak 7)))) cX))))) (aL (AR 4 (e7 3 (ak 4) eU.nd)))))) (aL (F3 2 (bV (ak 2)))))))
abbrev l7:cA:=top 31
abbrev ug:List Str:=["book","state","rows","counts","at","errand","behind"]
theorem iM:bN ug ["book","state","rows"] (aA l7):=dL (by decide +kernel)
abbrev uh (e:En):=FN e "row_counts" 5 3 kQ
theorem z3 (D:gK e.K e.mg "row_counts" l7) (B:Bi e.mg) (iu:o6 e):uh e:=oG (k:=4) (g:=kP) D iM b3 fun _ _ _ _ _ _ _ hr=>by have hu1:=iA hr;have hu64:=hr.units;unfold kP;exact (aB (CT 3 (N':=["at"]) (ix:=[]) 1 (by decide) hu1 iM.nd rfl (ca (so:=aA l7) (N:=ug) (by decide +kernel)) (AV (ai 2)) (fun cl A0 s0 H0 ex pn=>⟨cG (i:=0) (by show (["at"] : List Str).Nodup;decide +kernel) rfl (.inl rfl),g9,(ak 0),aD⟩)) (aB (xx 3 aD (ak 1) hu1) (aB (kr rfl (LN (ak 2)) (cu 4 iM.nd) (aL (kr rfl (tV (jc iu hr eE (af (ak 0) (af (ak 4) aJ)))) (nH rfl (cQ (cu 5 iM.nd) (cQ (cu 6 iM.nd) kG))) (aL (fW (dI (pC hu64) (JE.bor (c7 gC rfl B.len bP (bz (JE.bor (nK hu1 (ai 2) (ai 6))) c6))) (JE.bor (bW cC (JE.bor (c7 gC rfl B.len bP (bz (JE.bor (nK hu1 (ai 2) (ai 4))) c6))) (JE.bor aD)))) (aL (Os 3 (nK hu1 (ai 3) (ai 4)) (ak 6) hu1)) cX))))) (aL (F3 3 (bV (ak 3)))))))
abbrev nj:cA:=top 32
abbrev v5:List Str:=["rows","want","fitting"]
theorem xW:bN v5 ["rows","want"] (aA nj):=dL (by decide +kernel)
abbrev A9 (e:En):=FN e "nearest" 3 2 jF
theorem Fv (D:gK e.K e.mg "nearest" nj) (B:Bi e.mg) (lj:uY e):A9 e:=oG (k:=2) (g:=qA) D xW b2 fun _ _ _ _ _ _ _ hr=>by have hu1:=iA hr;have hu64:=hr.units;unfold qA;exact (aB (iO 2 (fk (N':=["at","want"]) (ix:=[1]) 1 (by decide) rfl (ca (so:=aA nj) (N:=v5) (by decide +kernel)) (AV (ai 0)) (fun cl A0 s0 H0 ex pn=>⟨cG (i:=0) (by show (["at","want"] : List Str).Nodup;decide +kernel) rfl (.inl rfl),(jP (fv (jc lj hr eE (af (ak 0) (af (ak 1) aJ))))),(ak 0)⟩)) xW.nd) (aL (bV (JN.je (fk (N':=["at","rows","fitting"]) (ix:=[0,2]) 1 (by decide) rfl (ca (so:=aA nj) (N:=v5) (by decide +kernel)) (fR (ai 2)) (fun cl A0 s0 H0 ex pn=>⟨cG (i:=0) (by show (["at","rows","fitting"] : List Str).Nodup;decide +kernel) rfl (.inl rfl),(jP (dI (pC hu64) (JE.bor (c7 gC rfl B.len bP (bz (JE.bor (nK hu1 (ai 1) (ai 0))) c6))) (JE.bor (c7 gC rfl B.len bP (bz (JE.bor (nK hu1 (ai 1) (JE.bor (cz hu1 (ai 2) (JE.bor aD))))) c6))))),(ak 0)⟩))))))
abbrev iQ:cA:=top 33
abbrev oJ:List Str:=["book","state","want","rows","counts"]
theorem jI:bN oJ ["book","state","want"] (aA iQ):=dL (by decide +kernel)
abbrev oK (e:En):=FN e "shortest_rows" 9 3 fB
theorem v6 (D:gK e.K e.mg "shortest_rows" iQ) (B:Bi e.mg) (pW:vC e) (o8:uf e) (oa:uh e) (v7:A9 e):oK e:=oG (k:=8) (g:=iP) D jI b3 fun _ _ _ _ _ _ _ hr=>by have hu1:=iA hr;unfold iP;exact (aB (tU (jc pW hr px (af (ak 0) (af (ak 1) (af (ak 2) aJ))))) (aB (e7 3 (jc o8 hr px (af (ak 0) (af (ak 1) aJ))) jI.nd) (aB (e7 4 (jc oa hr px (af (ak 0) (af (ak 1) (af (ak 3) aJ)))) jI.nd) (aL (bV (c7 (Ri rfl) rfl B.sum PyProof.Rows.boot_sum (bz (JE.bor (JN.je (fk (N':=["at","counts"]) (ix:=[4]) 1 (by decide) rfl (ca (so:=aA iQ) (N:=oJ) (by decide +kernel)) (fR (JE.bor (jc v7 hr px (af (ak 3) (af (ak 2) aJ))))) (fun cl A0 s0 H0 ex pn=>⟨cG (i:=0) (by show (["at","counts"] : List Str).Nodup;decide +kernel) rfl (.inl rfl),g9,(nK hu1 (ai 1) (ai 0))⟩)))) c6)))))))
abbrev mR:cA:=top 35
abbrev zb:List Str:=["_law_script","_law_k"]
theorem xX:bN zb ["_law_script","_law_k"] (aA mR):=dL (by decide +kernel)
abbrev rj (e:En):=FN e "_law_cell_at" 1 2 jW
theorem xY (D:gK e.K e.mg "_law_cell_at" mR) (B:Bi e.mg):rj e:=oG (k:=0) (g:=jV) D xX b2 fun _ _ _ _ _ _ _ hr=>by have hu1:=iA hr;have hu64:=hr.units;unfold jV;exact (aB (fW (dI (wZ) (ai 1) (JE.bor (c7 gC rfl B.len bP (bz (ai 0) c6)))) (aL (bV (cz hu1 (ai 0) (ai 1)))) cX) (aB (fW (dI (pC hu64) (ai 0) (JE.bor (kn aJ))) (aL (bV aD)) cX) (aL (bV (bW cC (JE.bor (bW pB (JE.bor (cz hu1 (ai 0) (JE.bor (bW AF (ai 1) (JE.bor (c7 gC rfl B.len bP (bz (ai 0) c6))))))) (JE.bor aD))) (ai 1))))))
abbrev pX:cA:=top 36
abbrev DB:List Str:=["_law_script","_law_k","_law_many","_law_drawn"]
theorem ui:bN DB ["_law_script","_law_k","_law_many"] (aA pX):=dL (by decide +kernel)
abbrev fJ (e:En):=FN e "_law_mixed" 2 3 bu
theorem Bt (D:gK e.K e.mg "_law_mixed" pX) (mS:rj e):fJ e:=oG (k:=1) (g:=mj) D ui b3 fun _ _ _ _ _ _ _ hr=>by unfold mj;exact (aB (e7 3 (bW AF (JE.bor (bW pB (JE.bor (bW cC (JE.bor (bW cC (JE.bor (jc mS hr px (af (ak 0) (af (ak 1) aJ)))) (JE.bor (bW pB (JE.bor aD) (ai 1))))) (JE.bor aD))) (JE.bor aD))) (JE.bor aD)) ui.nd) (aL (bV (bW AF (JE.bor (bW AF (JE.bor (bW cC (JE.bor (bW cC (JE.bor (bW pB (ai 3) (ai 3))) (JE.bor (bW pB (JE.bor aD) (ai 3))))) (ai 1))) (JE.bor aD))) (ai 2)))))
abbrev sx:cA:=top 37
abbrev Fw:List Str:=["_law_script","_law_at","_law_made","_law_k"]
theorem mB:bN Fw ["_law_script","_law_at"] (aA sx):=dL (by decide +kernel)
abbrev sy (e:En):=FN e "_law_word" 3 2 jG
theorem DC (D:gK e.K e.mg "_law_word" sx) (B:Bi e.mg) (ba:fJ e):sy e:=oG (k:=2) (g:=nN) D mB b2 fun _ _ _ _ _ _ _ hr=>by have hu1:=iA hr;unfold nN;exact (aB (e7 2 rQ mB.nd) (aB (kr rfl (nI rfl B.range (bz (JE.bor (cz hu1 (JE.bor (kn (af aD (af aD (af aD (af aD (af aD (af aD aJ)))))))) (JE.bor (jc ba hr eE (af (ak 0) (af (ak 1) (af aD aJ))))))) c6)) (cu 3 mB.nd) (aL (e7 2 (bW cC (ai 2) (JE.bor (cz hu1 (JE.bor rQ) (JE.bor (jc ba hr eE (af (ak 0) (af (bW cC (JE.bor (bW cC (ai 1) (JE.bor aD))) (ai 3)) (af aD aJ)))))))) mB.nd))) (aL (bV (ak 2)))))
abbrev pY:cA:=top 38
abbrev DD:List Str:=["_law_script","_law_at","_law_most","_law_found","_law_k"]
theorem og:bN DD ["_law_script","_law_at","_law_most"] (aA pY):=dL (by decide +kernel)
abbrev vD (e:En):=FN e "_law_facts" 4 3 mn
theorem Bu (D:gK e.K e.mg "_law_facts" pY) (B:Bi e.mg) (jJ:sy e) (ba:fJ e):vD e:=oG (k:=3) (g:=ml) D og b3 fun _ _ _ _ _ _ _ hr=>by have hu1:=iA hr;unfold ml;exact (aB (iO 3 Gc og.nd) (aB (kr rfl (nI rfl B.range (bz (JE.bor (jc ba hr eE (af (ak 0) (af (ak 1) (af (bW cC (ai 2) (JE.bor aD)) aJ))))) c6)) (cu 4 og.nd) (aL (Gf 3 oC (jc jJ hr eE (af (ak 0) (af (bW cC (JE.bor (bW cC (ai 1) (JE.bor aD))) (JE.bor (bW pB (JE.bor aD) (ai 4)))) aJ))) hu1))) (aL (bV (eW (iL rfl) rfl B.tuple bh (bz (JE.bor (c7 Ih rfl B.sorted vf (bz (JE.bor (eW (xl rfl) rfl B.list l_ (bz (ai 3) c6))) c6))) c6))))))
abbrev oh:cA:=top 39
abbrev xZ:List Str:=["_law_script","_law_at","_law_facts_here","_law_part"]
theorem DE:bN xZ ["_law_script","_law_at","_law_facts_here","_law_part"] (aA oh):=dL (by decide +kernel)
abbrev x_ (e:En):=FN e "_law_some" 3 4 nP
theorem DF (D:gK e.K e.mg "_law_some" oh) (B:Bi e.mg) (ba:fJ e):x_ e:=oG (k:=2) (g:=nO) D DE b4 fun _ _ _ _ _ _ _ hr=>by unfold nO;exact (aL (bV (eW (iL rfl) rfl B.tuple bh (bz (JE.bor (JN.je (fk (N':=["_law_k","_law_fact","_law_script","_law_at","_law_part"]) (ix:=[0,1,3]) 2 (by decide) rfl (ca (so:=aA oh) (N:=xZ) (by decide +kernel)) (Ji.i (xf rfl B.enumerate (af (ak 2) aJ))) (fun cl A0 s0 H0 ex pn=>⟨Es rfl (ph (cG (i:=0) (by show (["_law_k","_law_fact","_law_script","_law_at","_law_part"] : List Str).Nodup;decide +kernel) rfl (.inl rfl)) (ph (cG (i:=1) (by show (["_law_k","_law_fact","_law_script","_law_at","_law_part"] : List Str).Nodup;decide +kernel) rfl (.inl rfl)) Ak)),(jP (dI (wZ) (JE.bor (jc ba hr eE (af (ak 2) (af (bW cC (ai 3) (ai 0)) (af aD aJ))))) (ai 4))),(ak 1)⟩)))) c6))))
abbrev jK:cA:=top 40
abbrev oj:List Str:=["_law_script","_law_at","_law_facts_here","_law_name","_law_one","_law_two","_law_goal","_law_needs","_law_bars","_law_ends","_law_parts"]
theorem gm:bN oj ["_law_script","_law_at","_law_facts_here","_law_name"] (aA jK):=dL (by decide +kernel)
abbrev y0 (e:En):=FN e "_law_thin" 3 4 nR
theorem DG (D:gK e.K e.mg "_law_thin" jK) (B:Bi e.mg) (ba:fJ e):y0 e:=oG (k:=2) (g:=nQ) D gm b4 fun _ _ _ _ _ _ _ hr=>by have hu1:=iA hr;have hu64:=hr.units;unfold nQ;exact (aB (e7 4 (cz hu1 (ai 2) (JE.bor (jc ba hr px (af (ak 0) (af (bW cC (ai 1) (JE.bor aD)) (af (c7 gC rfl B.len bP (bz (ai 2) c6)) aJ)))))) gm.nd) (aB (e7 5 (cz hu1 (ai 2) (JE.bor (jc ba hr px (af (ak 0) (af (bW cC (ai 1) (JE.bor aD)) (af (c7 gC rfl B.len bP (bz (ai 2) c6)) aJ)))))) gm.nd) (aB (e7 6 (cz hu1 (ai 2) (JE.bor (jc ba hr px (af (ak 0) (af (bW cC (ai 1) (JE.bor aD)) (af (c7 gC rfl B.len bP (bz (ai 2) c6)) aJ)))))) gm.nd) (aB (e7 7 (pE (JE.bor (kn (af (ak 4) (af (ak 5) aJ)))) wu (ql (bW cC (JE.bor aD) (JE.bor (bW O4 (JE.bor (jc ba hr px (af (ak 0) (af (bW cC (ai 1) (JE.bor aD)) (af aD aJ))))) (JE.bor aD)))))) gm.nd) (aB (jE 8 (N':=["_law_fact","_law_needs","_law_script","_law_at"]) (ix:=[7,0,1]) 1 (by decide) gm.nd rfl (ca (so:=aA jK) (N:=oj) (by decide +kernel)) (fR (JE.bor (kn (af (ak 6) aJ)))) (fun cl A0 s0 H0 ex pn=>⟨cG (i:=0) (by show (["_law_fact","_law_needs","_law_script","_law_at"] : List Str).Nodup;decide +kernel) rfl (.inl rfl),(jP (JW.t (AE (dI (w_) (ai 0) (ai 1)) (wt (dI (pC hu64) (JE.bor (jc ba hr eE (af (ak 2) (af (bW cC (ai 3) (JE.bor aD)) (af aD aJ))))) (JE.bor aD)))))),(ak 0)⟩)) (aB (jE 9 (N':=["_law_fact","_law_goal","_law_script","_law_at"]) (ix:=[6,0,1]) 1 (by decide) gm.nd rfl (ca (so:=aA jK) (N:=oj) (by decide +kernel)) (fR (JE.bor (kn (af (ak 4) aJ)))) (fun cl A0 s0 H0 ex pn=>⟨cG (i:=0) (by show (["_law_fact","_law_goal","_law_script","_law_at"] : List Str).Nodup;decide +kernel) rfl (.inl rfl),(jP (JW.t (AE (dI (Cj hu64) (ai 0) (ai 1)) (wt (dI (pC hu64) (JE.bor (jc ba hr eE (af (ak 2) (af (bW cC (ai 3) (JE.bor aD)) (af aD aJ))))) (JE.bor aD)))))),(ak 0)⟩)) (aB (AR 8 (AR 9 (jE 10 (N':=["_law_part"]) (ix:=[]) 1 (by decide) gm.nd rfl (ca (so:=aA jK) (N:=oj) (by decide +kernel)) (fR (JE.bor (mJ (af (ak 7) (af (ak 8) (af (kn (af (ak 6) aJ)) (af (ak 9) aJ))))))) (fun cl A0 s0 H0 ex pn=>⟨cG (i:=0) (by show (["_law_part"] : List Str).Nodup;decide +kernel) rfl (.inl rfl),g9,(eW (iL rfl) rfl B.tuple bh (bz (JE.bor (rY rfl (AQ rfl (ai 0) rfl B.set) rfl B.sorted)) c6))⟩)))) (aL (bV (mJ (af (ak 3) (af (cz hu1 (ai 10) (JE.bor aD)) (af (cz hu1 (ai 10) (JE.bor aD)) (af (cz hu1 (ai 10) (JE.bor aD)) (af (cz hu1 (ai 10) (JE.bor aD)) (af (jc ba hr px (af (ak 0) (af (ak 1) (af aD aJ)))) aJ))))))))))))))))
abbrev l8:cA:=top 41
abbrev uj:List Str:=["_law_script","_law_at","_law_facts_here","_law_name","_law_parts","_law_k","_law_fact","_law_way","_law_some_here"]
theorem fU:bN uj ["_law_script","_law_at","_law_facts_here","_law_name"] (aA l8):=dL (by decide +kernel)
abbrev uk (e:En):=FN e "_law_errand" 4 4 iq
theorem zc (D:gK e.K e.mg "_law_errand" l8) (B:Bi e.mg) (ba:fJ e) (sB:y0 e):uk e:=oG (k:=3) (g:=ip) D fU b4 fun _ _ _ _ _ _ _ hr=>by have hu1:=iA hr;have hu64:=hr.units;unfold ip;exact (aB (fW (JW.t (AE (dI (Cj hu64) (ai 2) (JE.bor (mJ aJ))) (wt (dI (pC hu64) (JE.bor (jc ba hr px (af (ak 0) (af aD (af aD aJ))))) (JE.bor aD))))) (aL (bV (jc sB hr px (af (ak 0) (af (ak 1) (af (ak 2) (af (ak 3) aJ))))))) cX) (aB (QX 4 fU.nd) (aB (kr rfl (xf rfl B.enumerate (af (ak 2) aJ)) (nH rfl (cQ (cu 5 fU.nd) (cQ (cu 6 fU.nd) kG))) (aB (e7 7 (jc ba hr eE (af (ak 0) (af (bW cC (JE.bor (bW cC (ai 1) (JE.bor aD))) (ai 5)) (af aD aJ)))) fU.nd) (aB (fW (dI (wZ) (ai 7) (JE.bor aD)) (aL (xp 4 (cz hu1 (JE.bor (kn (af aD (af aD (af aD aJ))))) (ai 7)) (ak 6))) cX) (aB (e7 7 (jc ba hr eE (af (ak 0) (af (bW cC (JE.bor (bW cC (ai 1) (JE.bor aD))) (ai 5)) (af aD aJ)))) fU.nd) (aL (fW (dI (wZ) (ai 7) (JE.bor aD)) (aL (xp 4 (cz hu1 (JE.bor (kn (af aD (af aD (af aD (af aD aJ)))))) (ai 7)) (ak 6))) cX)))))) (aB (KR (jE 8 (N':=["_law_part"]) (ix:=[]) 1 (by decide) fU.nd rfl (ca (so:=aA l8) (N:=uj) (by decide +kernel)) (fR (ai 4)) (fun cl A0 s0 H0 ex pn=>⟨cG (i:=0) (by show (["_law_part"] : List Str).Nodup;decide +kernel) rfl (.inl rfl),g9,(eW (iL rfl) rfl B.tuple bh (bz (ai 0) c6))⟩))) (aL (bV (mJ (af (ak 3) (af (cz hu1 (ai 8) (JE.bor aD)) (af (cz hu1 (ai 8) (JE.bor aD)) (af (cz hu1 (ai 8) (JE.bor aD)) (af (cz hu1 (ai 8) (JE.bor aD)) (af (jc ba hr px (af (ak 0) (af (ak 1) (af aD aJ)))) aJ)))))))))))))
abbrev om:cA:=top 42
abbrev yb:List Str:=["_law_script","_law_at","_law_most","_law_many","_law_facts_here","_law_made","_law_k","_law_name","_law_names","_law_turn"]
theorem ib:bN yb ["_law_script","_law_at","_law_most","_law_many"] (aA om):=dL (by decide +kernel)
abbrev yc (e:En):=FN e "_law_book" 5 4 lD
theorem DH (D:gK e.K e.mg "_law_book" om) (B:Bi e.mg) (pZ:vD e) (jJ:sy e) (oo:uk e) (ba:fJ e):yc e:=oG (k:=4) (g:=lC) D ib b4 fun _ _ _ _ _ _ _ hr=>by have hu1:=iA hr;unfold lC;exact (aB (e7 4 (jc pZ hr px (af (ak 0) (af (ak 1) (af (ak 2) aJ)))) ib.nd) (aB (iO 5 Gc ib.nd) (aB (kr rfl (nI rfl B.range (bz (JE.bor (jc ba hr eE (af (ak 0) (af (bW cC (ai 1) (JE.bor aD)) (af (bW cC (ai 3) (JE.bor aD)) aJ))))) c6)) (cu 6 ib.nd) (aB (e7 7 (jc jJ hr eE (af (ak 0) (af (bW cC (JE.bor (bW cC (ai 1) (JE.bor aD))) (JE.bor (bW pB (JE.bor aD) (ai 6)))) aJ))) ib.nd) (aL (Gf 5 (jc oo hr eE (af (ak 0) (af (bW cC (JE.bor (bW cC (ai 1) (JE.bor aD))) (JE.bor (bW pB (JE.bor aD) (ai 6)))) (af (ak 4) (af (ak 7) aJ))))) (ak 7) hu1)))) (aB (e7 8 (eW (xl rfl) rfl B.list l_ (bz (ai 5) c6)) ib.nd) (aB (e7 9 (jc ba hr px (af (ak 0) (af (bW cC (ai 1) (JE.bor aD)) (af (bW cC (JE.bor (c7 gC rfl B.len bP (bz (ai 8) c6))) (JE.bor aD)) aJ)))) ib.nd) (aL (bV (mJ (af (ak 4) (af (eW (iL rfl) rfl B.tuple bh (bz (JE.bor (JN.je (fk (N':=["_law_name","_law_made"]) (ix:=[5]) 1 (by decide) rfl (ca (so:=aA om) (N:=yb) (by decide +kernel)) (fR (JE.bor (bW cC (JE.bor (pE (ai 8) (ql (ak 9)) wu)) (JE.bor (pE (ai 8) wu (ql (ak 9))))))) (fun cl A0 s0 H0 ex pn=>⟨cG (i:=0) (by show (["_law_name","_law_made"] : List Str).Nodup;decide +kernel) rfl (.inl rfl),g9,(cz hu1 (ai 1) (ai 0))⟩)))) c6)) aJ))))))))))
abbrev sC:cA:=top 43
abbrev Fx:List Str:=["_law_script","_law_at","_law_facts_here","_law_must","_law_bars","_law_k","_law_fact","_law_way"]
theorem i_:bN Fx ["_law_script","_law_at","_law_facts_here"] (aA sC):=dL (by decide +kernel)
abbrev yd (e:En):=FN e "_law_want" 3 3 sg
theorem DI (D:gK e.K e.mg "_law_want" sC) (B:Bi e.mg) (ba:fJ e):yd e:=oG (k:=2) (g:=lE) D i_ b3 fun _ _ _ _ _ _ _ hr=>by have hu64:=hr.units;unfold lE;exact (aB (iO 3 (rU aJ) i_.nd) (aB (iO 4 (rU aJ) i_.nd) (aB (kr rfl (xf rfl B.enumerate (af (ak 2) aJ)) (nH rfl (cQ (cu 5 i_.nd) (cQ (cu 6 i_.nd) kG))) (aB (e7 7 (jc ba hr eE (af (ak 0) (af (bW cC (ai 1) (ai 5)) (af aD aJ)))) i_.nd) (aL (fW (dI (wZ) (ai 7) (JE.bor aD)) (aL (mZ 3 (ak 6))) (aL (fW (dI (pC hu64) (ai 7) (JE.bor aD)) (aL (mZ 4 (ak 6))) cX)))))) (aL (bV (mJ (af (eW (iL rfl) rfl B.tuple bh (bz (ai 3) c6)) (af (eW (iL rfl) rfl B.tuple bh (bz (ai 4) c6)) aJ))))))))
abbrev sD:cA:=top 44
abbrev Fy:List Str:=["_law_script","_law_most","_law_many","_law_book_here","_law_state"]
theorem p_:bN Fy ["_law_script","_law_most","_law_many"] (aA sD):=dL (by decide +kernel)
abbrev ye (e:En):=FN e "_law_case" 6 3 nV
theorem DJ (D:gK e.K e.mg "_law_case" sD) (sF:yc e) (ba:fJ e) (sG:x_ e) (sH:yd e):ye e:=oG (k:=5) (g:=nU) D p_ b3 fun _ _ _ _ _ _ _ hr=>by have hu1:=iA hr;unfold nU;exact (aB (e7 3 (jc sF hr px (af (ak 0) (af aD (af (ak 1) (af (ak 2) aJ))))) p_.nd) (aB (e7 4 (jc sG hr px (af (ak 0) (af aD (af (cz hu1 (ai 3) (JE.bor aD)) (af (cz hu1 (JE.bor (kn (af aD (af aD aJ)))) (JE.bor (jc ba hr px (af (ak 0) (af aD (af aD aJ)))))) aJ))))) p_.nd) (aL (bV (mJ (af (ak 3) (af (ak 4) (af (jc sH hr px (af (ak 0) (af aD (af (cz hu1 (ai 3) (JE.bor aD)) aJ)))) aJ))))))))
abbrev lL:cA:=top 45
abbrev sI:List Str:=["_law_state","_law_want_here"]
theorem DK:bN sI ["_law_state","_law_want_here"] (aA lL):=dL (by decide +kernel)
abbrev oq (e:En):=FN e "_law_good" 1 2 gG
theorem DL (D:gK e.K e.mg "_law_good" lL) (B:Bi e.mg):oq e:=oG (k:=0) (g:=nW) D DK b2 fun _ _ _ _ _ _ _ hr=>by have hu1:=iA hr;unfold nW;exact (aL (bV (rT (c7 (pH rfl) rfl B.all cY (bz (JE.bor (JN.je (fk (N':=["_law_fact","_law_state"]) (ix:=[0]) 1 (by decide) rfl (ca (so:=aA lL) (N:=sI) (by decide +kernel)) (fR (JE.bor (cz hu1 (ai 1) (JE.bor aD)))) (fun cl A0 s0 H0 ex pn=>⟨cG (i:=0) (by show (["_law_fact","_law_state"] : List Str).Nodup;decide +kernel) rfl (.inl rfl),g9,(lz (Cq) (ai 0) (ai 1))⟩)))) c6)) (rR (Ky (c7 (KG rfl) rfl B.any wF (bz (JE.bor (JN.je (fk (N':=["_law_fact","_law_state"]) (ix:=[0]) 1 (by decide) rfl (ca (so:=aA lL) (N:=sI) (by decide +kernel)) (fR (JE.bor (cz hu1 (ai 1) (JE.bor aD)))) (fun cl A0 s0 H0 ex pn=>⟨cG (i:=0) (by show (["_law_fact","_law_state"] : List Str).Nodup;decide +kernel) rfl (.inl rfl),g9,(lz (Cq) (ai 0) (ai 1))⟩)))) c6)))))))
abbrev ou:cA:=top 46
abbrev yf:List Str:=["_law_errand_here","_law_state","_law_left"]
theorem vE:bN yf ["_law_errand_here","_law_state"] (aA ou):=dL (by decide +kernel)
abbrev sJ (e:En):=FN e "_law_step" 2 2 iU
theorem DM (D:gK e.K e.mg "_law_step" ou) (B:Bi e.mg) (gJ:oq e):sJ e:=oG (k:=1) (g:=nX) D vE b2 fun _ _ _ _ _ _ _ hr=>by have hu1:=iA hr;unfold nX;exact (aB (fW (gT (fv (jc gJ hr px (af (ak 1) (af (pE (ai 0) (ql aD) (ql aD)) aJ))))) (aL (bV wY)) cX) (aB (jE 2 (N':=["_law_fact","_law_errand_here"]) (ix:=[0]) 1 (by decide) vE.nd rfl (ca (so:=aA ou) (N:=yf) (by decide +kernel)) (fR (ai 1)) (fun cl A0 s0 H0 ex pn=>⟨cG (i:=0) (by show (["_law_fact","_law_errand_here"] : List Str).Nodup;decide +kernel) rfl (.inl rfl),(jP (dI (w_) (ai 0) (JE.bor (cz hu1 (ai 1) (JE.bor aD))))),(ak 0)⟩)) (aL (bV (eW (iL rfl) rfl B.tuple bh (bz (JE.bor (rY rfl (AQ rfl (JE.bor (bW cC (ai 2) (JE.bor (eW (xl rfl) rfl B.list l_ (bz (JE.bor (cz hu1 (ai 0) (JE.bor aD))) c6))))) rfl B.set) rfl B.sorted)) c6))))))
abbrev oy:cA:=top 47
abbrev Bv:List Str:=["_law_book_here","_law_state","_law_met","_law_row","_law_at","_law_errand_here","_law_other"]
theorem fV:bN Bv ["_law_book_here","_law_state"] (aA oy):=dL (by decide +kernel)
abbrev ul (e:En):=FN e "_law_levels" 3 2 kS
theorem zd (D:gK e.K e.mg "_law_levels" oy) (B:Bi e.mg) (jL:sJ e):ul e:=oG (k:=2) (g:=kR) D fV b2 fun _ _ _ _ _ _ _ hr=>by have hu1:=iA hr;unfold kR;exact (aB (iO 2 (CQ hu1 (ak 1) aD) fV.nd) (aB (iO 3 (rU (af (ak 1) aJ)) fV.nd) (aB (e7 4 aD fV.nd) (aB (Cy 100000 (dI (wZ) (ai 4) (JE.bor (c7 gC rfl B.len bP (bz (ai 3) c6)))) (aB (kr rfl (tV (cz hu1 (ai 0) (JE.bor aD))) (cu 5 fV.nd) (aB (e7 6 (jc jL hr eE (af (ak 5) (af (cz hu1 (ai 3) (ai 4)) aJ))) fV.nd) (aL (fW (JW.t (AE (dI (Ck) (ai 6) (JE.bor wY)) (wt (dI (zR hu1) (ai 6) (ai 2))))) (aB (xx 2 (bW cC (JE.bor (nK hu1 (ai 2) (JE.bor (cz hu1 (ai 3) (ai 4))))) (JE.bor aD)) (ak 6) hu1) (aL (mZ 3 (ak 6)))) cX)))) (aL (e7 4 (bW cC (ai 4) (JE.bor aD)) fV.nd)))) (aL (F3 2 (bV (ak 2))))))))
abbrev qL:cA:=top 48
abbrev Aa:List Str:=["_law_book_here","_law_state","_law_want_here","_law_met","_law_some_here"]
theorem sK:bN Aa ["_law_book_here","_law_state","_law_want_here"] (aA qL):=dL (by decide +kernel)
abbrev Ab (e:En):=FN e "_law_far" 4 3 le
theorem Fz (D:gK e.K e.mg "_law_far" qL) (B:Bi e.mg) (oz:ul e) (gJ:oq e):Ab e:=oG (k:=3) (g:=qB) D sK b3 fun _ _ _ _ _ _ _ hr=>by have hu1:=iA hr;have hu64:=hr.units;unfold qB;exact (aB (e7 3 (jc oz hr px (af (ak 0) (af (ak 1) aJ))) sK.nd) (aB (jE 4 (N':=["_law_one","_law_want_here","_law_met"]) (ix:=[2,3]) 1 (by decide) sK.nd rfl (ca (so:=aA qL) (N:=Aa) (by decide +kernel)) (AV (ai 3)) (fun cl A0 s0 H0 ex pn=>⟨cG (i:=0) (by show (["_law_one","_law_want_here","_law_met"] : List Str).Nodup;decide +kernel) rfl (.inl rfl),(jP (fv (jc gJ hr eE (af (ak 0) (af (ak 1) aJ))))),(nK hu1 (ai 2) (ai 0))⟩)) (aB (fW (dI (pC hu64) (ai 4) (JE.bor (kn aJ))) (aL (bV wY)) cX) (aL (bV (c7 (Rf rfl) rfl B.min PyProof.Rows.boot_min (bz (ai 4) c6)))))))
abbrev mC:cA:=top 49
abbrev vF:List Str:=["_law_book_here","_law_state","_law_want_here","_law_most","_law_rows","_law_turn","_law_grown","_law_one","_law_errand_here","_law_other"]
theorem fK:bN vF ["_law_book_here","_law_state","_law_want_here","_law_most"] (aA mC):=dL (by decide +kernel)
abbrev vG (e:En):=FN e "_law_count" 3 4 mq
theorem Bw (D:gK e.K e.mg "_law_count" mC) (B:Bi e.mg) (jL:sJ e) (gJ:oq e):vG e:=oG (k:=2) (g:=mo) D fK b4 fun _ _ _ _ _ _ _ hr=>by have hu1:=iA hr;unfold mo;exact (aB (iO 4 (rU (af (ak 1) aJ)) fK.nd) (aB (kr rfl (nI rfl B.range (bz (ai 3) c6)) (cu 5 fK.nd) (aB (iO 6 (rU aJ) fK.nd) (aB (Ge 4 rfl (cu 7 fK.nd) (aL (kr rfl (tV (cz hu1 (ai 0) (JE.bor aD))) (cu 8 fK.nd) (aB (e7 9 (jc jL hr eE (af (ak 8) (af (ak 7) aJ))) fK.nd) (aL (fW (dI (Ck) (ai 9) (JE.bor wY)) (aL (mZ 6 (ak 9))) cX)))))) (aL (AR 6 (e7 4 (ak 6) fK.nd)))))) (aL (bV (c7 gC rfl B.len bP (bz (JE.bor (JN.je (fk (N':=["_law_one","_law_want_here"]) (ix:=[2]) 1 (by decide) rfl (ca (so:=aA mC) (N:=vF) (by decide +kernel)) (fR (ai 4)) (fun cl A0 s0 H0 ex pn=>⟨cG (i:=0) (by show (["_law_one","_law_want_here"] : List Str).Nodup;decide +kernel) rfl (.inl rfl),(jP (fv (jc gJ hr eE (af (ak 0) (af (ak 1) aJ))))),(ak 0)⟩)))) c6))))))
abbrev vH:cA:=top 50
abbrev U6:List Str:=["_law_script","_law_book_here","_law_state","_law_want_here","_law_due","_law_many"]
theorem v8:bN U6 ["_law_script"] (aA vH):=dL (by decide +kernel)
theorem RN {f:ah}{fd:eK} (F:HN e.K "law" "law" vH f fd) (B:Bi e.mg) (sL:ye e) (v9:Ab e) (kw:oK e) (q0:vG e):uC e.P e.w e.K e.mg e.base (pw e.P e.w) 10 f fd ["_law_script"] (SY e.K e.cls 1 F_law):=by
 refine Pk (k:=9) (g:=GI) F v8 fun cdv A outer s H E hr=>?_
 have hu64:=hr.units
 unfold GI
 exact (aB (xb (jc sL hr px (af (ak 0) (af aD (af aD aJ)))) (nH rfl (cQ (cu 1 v8.nd) (cQ (cu 2 v8.nd) (cQ (cu 3 v8.nd) kG))))) (aB (e7 4 (jc v9 hr px (af (ak 1) (af (ak 2) (af (ak 3) aJ)))) v8.nd) (aB (e7 5 (jc kw hr px (af (ak 1) (af (ak 2) (af (ak 3) aJ)))) v8.nd) (aB (fW (dI (SQ) (ai 4) (JE.bor wY)) (aL (bV (lz (pC hu64) (ai 5) (JE.bor aD)))) cX) (aL (bV (rT (lz (G3) (ai 5) (JE.bor aD)) (rR (SL (lz (G3) (ai 4) (JE.bor aD)) (rR (lz (pC hu64) (ai 5) (JE.bor (jc q0 hr px (af (ak 1) (af (ak 2) (af (ak 3) (af (ak 4) aJ)))))))))))))))))
end
end
section
theorem all_mk {l:vL}{w:aU}{K:a8}{h:bp}{mg:Str->Option a9}{fa A:ah}{Ac:ah}{DN:ah}{DO:ah}{od an:Option ah}{sl:Array (Option a9)}{oc kV dc pm cv ct:a9} (X:K.In h) (G:h.Ns bK mg) (hfa:mg "law"=some (.ref fa))
  (Zz:Zs K zn)
  (lH:Cn mg "MOST_LETTERS" 6)
  (nY:Cn mg "MOST_PRICE" 9)
  (nZ:Cn mg "MOST_FACTS" 6)
  (lI:Cn mg "MOST_ERRANDS" 6)
  (IQ:TopC K "NoState" Ac)
  (MC:TopC K "NoWant" DN)
  (MD:TopC K "NoBook" DO)
  (Bx:gK K mg "share_none" kZ)
  (IR:gK K mg "without" qI)
  (ME:gK K mg "joined" xM)
  (IS:gK K mg "is_word" qJ)
  (sM:gK K mg "are_rising_words" fj)
  (DP:gK K mg "are_facts" mw)
  (FA:gK K mg "is_whole" sk)
  (DQ:gK K mg "is_errand" mz)
  (IT:gK K mg "is_book" ni)
  (IU:gK K mg "is_want" uV)
  (ze:gK K mg "check_state" mM)
  (By:gK K mg "check_want" n_)
  (IV:gK K mg "fulfils" qK)
  (DR:gK K mg "is_doable" pS)
  (yg:gK K mg "state_behind" lJ)
  (IW:gK K mg "checked" u_)
  (zf:gK K mg "check_place" mO)
  (DS:gK K mg "check_aim" pU)
  (Bz:gK K mg "steps_from" l5)
  (BA:gK K mg "first_rows" o7)
  (BB:gK K mg "row_counts" l7)
  (IX:gK K mg "nearest" nj)
  (vZ:gK K mg "shortest_rows" iQ)
  (zg:gK K mg "_law_cell_at" mR)
  (DT:gK K mg "_law_mixed" pX)
  (FC:gK K mg "_law_word" sx)
  (DU:gK K mg "_law_facts" pY)
  (FD:gK K mg "_law_some" oh)
  (FE:gK K mg "_law_thin" jK)
  (BC:gK K mg "_law_errand" l8)
  (FF:gK K mg "_law_book" om)
  (FG:gK K mg "_law_want" sC)
  (FH:gK K mg "_law_case" sD)
  (FI:gK K mg "_law_good" lL)
  (FJ:gK K mg "_law_step" ou)
  (BD:gK K mg "_law_levels" oy)
  (IY:gK K mg "_law_far" qL)
  (DV:gK K mg "_law_count" mC)
  (l0:fF K bK "law"=some (some (.ref A)))
  (l1:K.lookup A=some ⟨oc,od,.func (fE "law" "law" (jO vH) (g_ vH) (aA vH) .none kV dc pm an cv ct),sl⟩)
  (l2:lm K cv "law"=true)
  (l3:j9 K (.ref A)=true)
  : ∃ fd:eK,(∀ (s:ac) (v:a9),yp s fd ⟨[v],[]⟩ [("_law_script",v)])/\∀ base:bp,K.In base->base.Ns bK mg->uC l.prog w K mg base (pw l.prog w) 10 fa fd ["_law_script"] (T7 K F_law):=by
 have q:=hfa.symm.trans (mE X G l0)
 cases q
 refine ⟨fE "law" "law" (jO vH) (g_ vH) (aA vH) .none kV dc pm an cv ct,fun s v=>.of_eq rfl,fun base X G=>?_⟩
 let e:En:=⟨l.prog,w,K,mg,base,T8 [("NoState",Ac),("NoWant",DN),("NoBook",DO)]⟩
 have B:Bi e.mg:=Tu X G Zz
 have uW:ER e "NoState":=IQ.er X G rfl
 have xQ:ER e "NoWant":=MC.er X G rfl
 have xT:ER e "NoBook":=MD.er X G rfl
 have ev:=yU (e:=e) Bx B
 have uZ:=Fj (e:=e) IR B
 have xS:=IM (e:=e) ME B
 have li:=Fm (e:=e) IS B lH
 have e8:=qT (e:=e) sM B li
 have eT:=Bj (e:=e) DP B e8
 have sr:=Dy (e:=e) FA B
 have pR:=Bk (e:=e) DQ B li sr eT ev nY
 have v3:=Fp (e:=e) IT B e8 pR nZ lI
 have uX:=Fq (e:=e) IU B eT ev
 have mP:=xP (e:=e) ze eT uW
 have o0:=yX (e:=e) By uX xQ
 have lj:=Fs (e:=e) IV B ev
 have pV:=Bo (e:=e) DR lj
 have lK:=vY (e:=e) yg uZ xS
 have v4:=Fu (e:=e) IW v3 xT
 have mQ:=xV (e:=e) zf v4 mP
 have pW:=Br (e:=e) DS mQ o0
 have iu:=y_ (e:=e) Bz pV lK
 have o8:=z0 (e:=e) BA iu
 have oa:=z3 (e:=e) BB B iu
 have v7:=Fv (e:=e) IX B lj
 have kw:=v6 (e:=e) vZ B pW o8 oa v7
 have mS:=xY (e:=e) zg B
 have ba:=Bt (e:=e) DT mS
 have jJ:=DC (e:=e) FC B ba
 have pZ:=Bu (e:=e) DU B jJ ba
 have sG:=DF (e:=e) FD B ba
 have sB:=DG (e:=e) FE B ba
 have oo:=zc (e:=e) BC B ba sB
 have sF:=DH (e:=e) FF B pZ jJ oo ba
 have sH:=DI (e:=e) FG B ba
 have sL:=DJ (e:=e) FH sF ba sG sH
 have gJ:=DL (e:=e) FI B
 have jL:=DM (e:=e) FJ B gJ
 have oz:=zd (e:=e) BD B jL
 have v9:=Fz (e:=e) IY B oz gJ
 have q0:=Bw (e:=e) DV B jL gJ
 exact (RN (e:=e) (K6 l1 l2 l3) B sL v9 kw q0).imp QZ
end
end Z
section
open PySem PySem.W PyProof.Rows
def PySem.W.Fast.tw16734056715364288774:Nat:=0
def PySem.W.Fast.tw17705542524029229624:Nat:=0
def PySem.W.Fast.tw14536419117724650336:Nat:=0
def PySem.W.Fast.tw14693967280213987869:Nat:=0
def PySem.W.Fast.tw6204345025964824734:Nat:=0
def PySem.W.Fast.tw512090495009244260:Nat:=0
def PySem.W.Fast.tw17319582155214757240:Nat:=0
def PySem.W.Fast.tw15184475394397659038:Nat:=0
def PySem.W.Fast.tw12009803023090415324:Nat:=0
def PySem.W.Fast.tw9121031861252509825:Nat:=0
def PySem.W.Fast.tw3359251180604270130:Nat:=0
def PySem.W.Fast.tw4347638838685411874:Nat:=0
def PySem.W.Fast.tw8005057054826823433:Nat:=0
def PySem.W.Fast.tw11306332312566169193:Nat:=0
def PySem.W.Fast.tw17627948302708994515:Nat:=0
def PySem.W.Fast.tw7337708398044477275:Nat:=0
def PySem.W.Fast.tw13494677604784212257:Nat:=0
def PySem.W.Fast.tw13614660365710928429:Nat:=0
def PySem.W.Fast.tw13560205916120989002:Nat:=0
def PySem.W.Fast.tw11950950241860224119:Nat:=0
def PySem.W.Fast.tw7040117559282737274:Nat:=0
def PySem.W.Fast.tw177674211333189248:Nat:=0
def PySem.W.Fast.tw5032697213787821190:Nat:=0
def PySem.W.Fast.tw3841823665458494747:Nat:=0
def PySem.W.Fast.tw11928656908111654781:Nat:=0
def PySem.W.Fast.tw17581280309290638840:Nat:=0
def PySem.W.Fast.tw11028961128795270325:Nat:=0
def PySem.W.Fast.tw8180984193412079737:Nat:=0
def PySem.W.Fast.tw12243344083333064869:Nat:=0
def PySem.W.Fast.tw3028215376240614386:Nat:=0
def PySem.W.Fast.tw15845483725603655360:Nat:=0
def PySem.W.Fast.tw9737067926558455626:Nat:=0
def PySem.W.Fast.tw11969987011963308333:Nat:=0
theorem PySem.Challenge.cw_errands_k09_whole_how_many_holds : PySem.Challenge.rw_errands_k09_whole_how_many.Holds := by
 w_on;o_law;k_head;(case hw=>w_witness2)
 k_fill
 refine J.walkF (l:=PySem.Challenge.rw_errands_k09_whole_how_many) (k:=10) (x:="_law_script") (F0:=Z.F_law) rfl rfl ⟨rfl,by decide,by decide⟩ (fun w h Y=>PySem.W.kIn_of Y) ?F (fun ns _=>Z.law_true ns)
 case F =>
  intro w mg fa h KX G hmg
  refine' Z.all_mk KX G hmg ?_ ?_ ?_ ?_ ?_ ?_ ?_ ?_ ?_ ?_ ?_ ?_ ?_ ?_ ?_ ?_ ?_ ?_ ?_ ?_ ?_ ?_ ?_ ?_ ?_ ?_ ?_ ?_ ?_ ?_ ?_ ?_ ?_ ?_ ?_ ?_ ?_ ?_ ?_ ?_ ?_ ?_ ?_ ?_ ?_ ?_ ?_ ?_ ?_ ?_
  all_goals first
   | (refine' J.d_in KX G ?_ ?_ ?_ ?_<;>try k_is)
   | (refine' J.cn_in KX G ?_<;>try k_is)
   | k_is
   | (refine' J.TopC.mk ?_ ?_ ?_<;>try (first | k_is | k_exc))
   | (refine' J.topN ?_ ?_ ?_ ?_ ?_ ?_ ?_ ?_ ?_ ?_ ?_ ?_ ?_ ?_ ?_ ?_ ?_ ?_ ?_ ?_ ?_ ?_ ?_<;>try (first | k_is | rfl | exact fun _ _=>⟨_,rfl,rfl⟩ | decide +kernel))
   | ((refine' J.Wy.mk ?_ ?_ ?_ ?_ ?_ ?_ ?_ ?_ ?_ ?_)<;>try (first | k_is | decide | ((repeat' (first | exact .nil | refine' .cons ?_ ?_ ?_))<;>try (first | k_is | decide))))
   | ((repeat' (first | exact .nil | refine' .cons ?_ ?_))<;>try (first | (refine' J.cw_in ?_ ?_ ?_<;>try k_is) | k_is))
   | skip
end
