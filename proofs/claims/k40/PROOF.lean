import PyProof.Rows.All
import Wide.All
import OpenK.AllK
import Wide.FinOn
import Lean
import PyProof.EqAt
import PyProof.EqKinds
import PyProof.TupleCall
import KE.KDictOf
import PyProof.AttrMissHeap
import KE.KRevIter
import PyProof.DictWalks
import PyProof.MinMaxWalk
import PyProof.SeqI3
import PyProof.WalkInts
import PyProof.ExcInit
import PyProof.InstStoreFacts
import PyProof.DictCompW
import KE.KItemsList
import KE.KEqDict
import PyProof.Rows.CallKwBuiltin
import PySem.Challenge.RW_errands_k40_whole_never
set_option Elab.async false
set_option linter.all false
set_option maxRecDepth 100000
set_option maxHeartbeats 0
open PySem renaming wpAny_bind->a7,wpAny_pure->a9,Value->ag,Shared->ak,Addr->ap,wpAny->aq,model->ax,starEach->aP,foldedSetIterable->bf,Program->bg,Expr->bj,wpAny_mono->bx,wpAny_newObj_type->bz,compareOp->bG,wpAny_setState_of->bI,World->bL,wpAny_call_entry->bS,Heap->cg,boot_len->cm,mainGlobals->cn,cellsFrom->cu,Around->cy,wpAny_holding->cC,wpAny_rule->cK,rawInt->cL,wpAny_callSpecial?_slot->cS,wpAny_truthy_bool->dA,wpAny_standAt->dY,Stmt->dZ,wpAny_seqItems->eB,mem_of_lookup->eD,eval->eI,codeAny->eJ,Scope->eM,wpAny_field->eW,codeAny_builtin->fg,sysModules->fj,wpAny_of_eq->fw,cLine->fZ,wpAny_askSetting->gf,wpAny_comprehension_free->gm,fits_of_scanBound->gL,swapsWith->hX,wpAny_isInstance->i0,wpAny_pyIter_tuple->i9,binaryOp->ic,FuncData->ig,wpAny_setField->ii,backTo->iz,letOwnedTupleGo->iB,scanBound->iD,sizeLine_eq->iE,behindInMarks->iM,plainId_quiet->iP,setField->j7,strIterType->jm,wpAny_typeNameOfWhole_keyiter->jo,bootBuiltins->jq,assignEach->jr,wpAny_setField_rec->jt,wpAny_passesOwn->jz,wpAny_storeSet_of->jP,Builtin->jQ,pyNext->jY,wpAny_attempt->lB,IsPair->lJ,standAt->mv,assign->mw,wpAny_pyIter_list->mx,NameKind->my,SetTable->mB,firstArgMember->mC,pyIter->nH,sliceBounds->oH,wpAny_letGo->oJ,codeAny_of_tree->pW,wpAny_updateSeq->pX,codeAny_mono->qv,pickOrder->qU,wpAny_Call_Name_kw->qX,tupleKind_room_in1->qZ,wpAny_tryCatch->r6,getItem->sw,comprehension->sH,tupleKind->uJ,DictEntry->uK,raiseNew->uL,seqItems?->uM,wpAny_typeOf->vn,newExc->vo,wpAny_execs_nil->wq,isTrue->xT,IsPart->xU,relayAll->xV,unsupported->xW,isSubtype_stop->xX,IsZip->xY,wpAny_updateSeq_pair->xZ,callerA->yQ,argBest->yV,swapsWithSole->zO,swappedStores->zP,wpAny_onRaise->zU,Result->Ae,wpAny_assign_Name->C4,BindsTo->C5,concat_meets->C6,valueAt->C7,compPost->C8,wpAny_pyIter_slot->Cb,collect->Cd,wpAny_dictEntries->Ci,wpAny_eqBool_str->DZ,noFill_tuple_add->D_,noteFrame->E1,argsOk->E3,PyData->E6,subscripted->FG,Walks->FH,theWindowsPlace->FP,wpAny_dictEpoch->FQ,holding->ID,Keyword->IE,newList->IF,Paired->IV,GenState->IW,atKey->IZ,newFunctionEnv->I_,wpAny_runValue->J5,entryFor->J6,entryFor_alias->J7,isSubtype_type->J8,wpAny_fieldsOf->J9,field->Ja,assignInOrder->MF,seq_tuple_add->MI,attributeBase->MK,call->ML,wpAny_handled->MN,wpAny_newList->MO,wpAny_notedAt->MP,Drawn->OD,lastMarks->OE,bindL->OG,bindC->OH,updateSeq->OL,notedBy->OX,codeAny_compStart_list->OY,sub_set_self->OZ,setNext->O_,newSet->P1,firstIterPos->P2,wpAny_isTrue_Compare1->SW,exec_Assign_Name_used->SY,builtinLookup_eq_fast->SZ,wpAny_isOneOf_keyiter->T1,wpAny_loadName_local->Ta,bindName->Tb,bindArgs->Tc,keywordEach->Td,wpAny_alloc->Tf,codeAny_call_builtin->Ti,newTuple->Tj,wpAny_throw->Tl,ZipApart->Tn,wpAny_pyIter_keyiter->Tx
open PySem.W renaming Frag->a8,kia_one->dC,keepIn->gN,fnOf->h_,nsMap_none_of_in->ij,cellsFrom_some->iO,nsIn->iQ,mroIn->j0,findIn->nI,codeIn->nJ,kitOne->sF,mg_of->v6,isNs_of_in->vt,methodObj->wy,kitx_list->wz,instObj->zm,OpenLaw->zq,lookIn->Ad,clsIn->Ch,kitx_tuple->IX,codeRec_of->IY,specialIn->KY,kitx_dict->KZ,plainGet->MH,takesIn->OF,typeIn->P5,nsOkIn->P6,WalkO->SX,subIn->S_
open PySem.Heap renaming get?_push_of_some->ae,lt_size->aw,get?_push_size->aC,SameBut->bX,get?_update_other->cx,size_push->cY,get?_update_self->eO,size_update->zX,IsTuple->IH,ExtBut->L0,get?_push_ne->P9
open List renaming mem_cons_of_mem->af,mem_cons_self->aj,length_map->am,getElem?_set_ne->ao,map_cons->ar,mem_append_right->aA,length_append->aI,getElem?_set_self->aN,mem_filter->aS,mem_cons->aT,getElem?_append_right->aY,length_cons->aZ,size_toArray->a_,getElem?_map->b9,not_mem_nil->br,getElem?_eq_getElem->bw,mem_append->bD,mem_append_left->bF,find?_cons->bM,mem_singleton->bN,range->bQ,all_eq_true->bY,mem_map_of_mem->bZ,append_nil->b_,map_append->c6,getElem?_append_left->c8,map_map->c9,mem_map->cq,length_filter_le->cD,getElem?_replicate->cF,getElem?_eq_none->df,length_nil->dH,lookup_cons->dO,length_replicate->dS,any_eq_false->dU,map_nil->dW,getD_eq_getElem?_getD->eg,foldl_cons->eh,map_congr_left->eG,length_singleton->eN,any_cons->eT,append_assoc->fz,extract_eq_drop_take'->fB,nodup_nil->g6,length_range->gn,nodup_cons->gx,take_append_drop->hJ,mem_of_getElem?->ip,pairwise_append->iu,any_map->j3,length->jI,any_eq_true->jR,sublist_append_left->kh,forIn_cons->kA,pairwise_cons->kF,getElem?_cons_succ->kG,take_of_length_le->lE,map->lF,mem_iff_getElem?->m6,pairwise_reverse->m7,getElem_mem->mq,mem_reverse->ms,nil_append->ny,filterMap_cons->nG,all_map->oF,filterMap_map->oR,forIn_nil->oS,perm_ext_iff_of_nodup->oW,getElem?_eq_some_iff->qr,pairwise_iff_getElem->qt,reverse_perm->qx,all_cons->qR,length_zip->sJ,replicate->uZ,drop_drop->v8,map_id->vc,getElem_of_mem->wu,reverse_append->wv,filter_sublist->ww,map_eq_nil_iff->wx,getElem?_drop->xP,zip_cons_cons->xQ,set_cons_zero->xR,set_cons_succ->xS,nodup_append->yR,ext_getElem?->yT,length_filterMap_eq_countP->zt,length_take->zQ,length_drop->zR,ext_getElem->zS,zipIdx_cons->zT,getElem_map->zW,lookup->Af,of_mem_zip->BW,length_eraseIdx_of_lt->CV,drop_eq_getElem_cons->E2,length_erase_of_mem->FK,getElem?_cons_zero->FO,pairwise_singleton->FR,filter_cons_of_pos->FS,drop_eq_nil_of_le->IK,reverse_singleton->IL,length_pos_of_mem->IN,mem_erase_of_ne->L6,getElem?_range->MQ,replicate_succ->MV,replicate_zero->MW,length_pos_iff->MX,lookup_append->OI,map_inj_right->ON,getElem_range->OP,getElem?_take->OQ,take_add_one->P7,mapM_toArray->P8,isEmpty_cons->Pc,flatMap_cons->Pd,getElem_inj->SU,countP_cons->T3,map_snd_zip->T4,cons_append->T5,zipIdx_nil->To
open Array renaming length_toList->au,getElem?_toList->aO,getElem?_eq_getElem->bC,toList_append->cJ,getElem?_eq_none->cW,getElem?_eq_some_iff->gX,toList_extract->ik,getElem?_extract->iZ,toList_push->jj,getD_eq_getD_getElem?->jn,size_map->lC,eq_empty_of_size_eq_zero->m5,toList_reverse->uQ,all_toList->zu,toList_inj->zw,replicate->Ag,toList_setIfInBounds->Cg,size_setIfInBounds->E7,toArray_toList->Jb,append_assoc->ME,find?_toList->MG,forIn_toList->MS,size_extract->MT,toList_zip->Pa
open Nat renaming le_refl->av,lt_of_lt_of_le->aK,ne_of_lt->aL,le_trans->ca,le_of_lt->cE,zero_le->cH,lt_irrefl->cO,lt_or_ge->dD,ne_of_gt->fF,lt_succ_of_lt->fG,zero_add->fH,lt_trans->f_,lt_succ_self->gW,eq_zero_or_pos->hG,le_succ->lA,min_eq_left->nK,add_zero->oK,lt_of_le_of_lt->pV,lt_succ_of_le->qS,min_le_right->sr,not_lt_zero->u4,le_of_lt_succ->zr,le_succ_of_le->zx,mod_lt->E4,lt_asymm->J4,mul_comm->Jc,succ_pos->Jd,lt_of_succ_lt_succ->Je,min_self->Jg,add_lt_add_right->MR,lt_of_lt_of_eq->Pb,lt_of_le_of_ne->Pe,le_of_not_lt->Te,le_add_right->Tp,reduceLeDiff->TD,reduceEqDiff->TF
open PySem.PyData renaming str->ay,eqv->aR,canLayAll0->bW,bool->cr,eqvAll->cG,canLay0->dk,int->e8,list->eY,tuple->ft,depthAll->mJ,depth->FL,dict->IJ
open PyProof.Rows renaming wpS_bind->aF,arrOf->aV,wpS_pure->aW,boot_tuple->bp,pendingOf->c7,Keyed->cU,boot_all->dB,wpS_forRange->dI,SortSt->fk,boot_any->fu,wpS_mono->fM,slot_tuple_getitem->g_,callWith_type1->iN,seqObj->jL,SortKind->mD,boot_sorted->nr,wpS_get->oE,boot_list->oX,wpS_modify->q_,AllBare->su,StrsAre->sx,wpS_lift->uP,envOfC->vm,failedOf->y0,assignInOrder_cons->Ac,mem_zip_self->Cj,minRun'->IM,mirror->Jf,subscriptTail->MJ,listUpdate_at->MU,subscriptTail_builtinR->OV,IntsAre->OW,seqEpoch_at->TC
open Bool renaming and_eq_true->aU,false_ne_true->ba,false_eq_true->bn,eq_iff_iff->jf,or_eq_true->jg,not_false->jJ,not_true->kg,and_self->qV,beq_eq_decide_eq->u0,and_false->v5,true_and->wC,not_eq_true'->yU,noConfusion->zV,false_and->CU,or_eq_false_iff->L4
open PySem.Value renaming ref->bq,none->fv,type->jy,str->kE,int->oC,isStrOf->wp,bool->MD
open PySem.Heap.SameBut renaming update->bT
open Option.some renaming inj->cc,injEq->FJ
open PySem.NameKind renaming free->cX,cell->fc,«local»->sB
open PySem.SetTable renaming sizeAbove->cZ,grown->jk,below->jl,fits->oT,bits->oV,turns->sy,layClean->wt,laid->BX,orStandIn->IG,relaid->MM,fill->P3,road->P4
open PySem.Builtin.SmallTypes renaming nextOf->db,ownedTupleIsFree->fQ,ownedTupleHandOut->oU
open Ne renaming symm->dm
open PySem.Around renaming under_plainId->du
open Option renaming map_some->dG,getD_none->iC,getD_some->lT,isSome_map->xO,isSome_some->K_,bind_some->OO
open PySem.SetTable.layClean renaming free->eP
open Or renaming inr->f9,inl->iq
open PySem.Obj renaming mapFields->fA,mapSeq->iA,putSet->sI,data_mapFields->P0
open Int renaming toNat_of_nonneg->fJ,toNat_natCast->lI,emod_lt_of_pos->pZ,emod_nonneg->u5,reduceLT->Jh
open List.Sublist renaming refl->fR
open PySem.F renaming slot_dict_keyiterator_next->gO,plain_max_loop->i_,slot_tuple_iterator_next->jS,args_tuple_add_2->pU,entry_tuple_add->qw,slot_tuple_add->qY,plain_list_iadd->r_,args_dict_keyiterator_next_1->uO,slot_zip_next->u_,entry_dict_keyiterator_next->v7,slot_tuple_lt->v9,slot_list_append->Ce,type_list_append->Cf,entry_max_loop->Ck,plainAttrs_list->CW,args_tuple_iterator_next_1->E5,slot_dict_iter->E8,entry_tuple_iterator_next->FI,entry_proto_collect->OJ,plain_proto_collect->OK,slot_enumerate_next->OM
open ForInStep renaming yield->gZ
open PySem.AutoSeq1 renaming wpAny_loadPart'->hW
open And renaming intro->ir
open PySem.Str renaming ofString->iw
open Sum renaming inr->j5,inl->zk
open PySem.Paired renaming length->j6
open PySem.Builtin.Slice renaming slicePlaces->jb,sliceAdjust->mz,sliceApplied->wA
open PyProof.Rows.F renaming plain_set_update_loop->jd,entry_set_update_loop->qT
open PySem.Builtin.Tuple renaming tupleExact->js,tupleItemsOf->wB
open False renaming elim->jA
open True renaming intro->jH
open PySem.Builtin.Frozenset renaming updateFrom->kC,isAnySet->uN,sizeOf->vp,copyOf->vq,newClass->Tg,oneOther->Tq,addrOf->Tr,slot1->Tt,baseOf->Tu,merge->Tv,unchanged->Tw
open PySem.Builtin.List renaming listExtendWith->lS,listSameRef->yS
open PySem.Builtin.Dict_items renaming ownsTuple->nu
open List.cons renaming inj->oM,injEq->y8
open PySem.Calls renaming call_function_entry->pY,Name_function_global->C3
open List.Perm renaming trans->qW,of_eq->L5
open List.Pairwise renaming nil->sG
open PySem.Builtin.Builtins renaming bindParams->uR
open PySem.PassesOwn renaming never->x_
open PyProof.Rows.IsTup renaming new->zo
open PySem.Heap.FunFrames renaming mem->BY
open Classical renaming propDecidable->BZ
open PySem.Walks renaming list->C9
open PySem.pickOrder renaming go->Ca
open PySem.SetTable.below renaming go->Cc
open PySem.SeqAt.EqAt renaming int_str->FE,str_int->FF
open PySem.Shared renaming heap->II,TypeIs->Th
open PySem.Value.type renaming inj->L3
open Eq renaming refl->Tz
local macro_rules|`(tactic|omega)=>`(tactic|first|lia|omega (config:={}))
section
local macro_rules|`(∅)=>`(by omega)
local macro_rules|`(⋯)=>`(by decide)
local macro_rules|`(∎)=>`(by decide +kernel)
namespace L2
open PySem PySem.Spec PyProof.Rows
abbrev gY:=Sum Int Str
def Ah:gY->ag->Bool
 |.inl k,v=>Value.isInt k v
 |.inr x,v=>wp x v
def q0U(w:bL):gY->Int
 |.inl k=>hashInt k
 |.inr x=>hashStr w x
def gC:∀{k:gY}{v:ag},Ah k v=true->(∃i t,k=zk i/\v=oC i t)\/(∃x t,k=j5 x/\v=kE x t)
 |.inl i,v,h=>by
  obtain⟨t,e⟩:=Value.isInt_shape (k:=i) (v:=v) h;exact .inl ⟨i,t,rfl,e⟩
 |.inr x,v,h=>by
  obtain⟨t,e⟩:=Value.isStrOf_shape (x:=x) (v:=v) h;exact .inr ⟨x,t,rfl,e⟩
def MY(i:Int)(t:Tok):Ah (.inl i) (.int i t)=true:=by simp[Ah,Value.isInt]
def MZ(x:Str)(t:Tok):Ah (.inr x) (.str x t)=true:=by simp[Ah,wp]
def X1(a b:Int):decide ((zk a:gY)=zk b)=(a==b):=by
 by_cases e:a=b
 ·subst e;simp
 ·have h:¬ (zk a:gY)=zk b:=λq=>e (Sum.inl.inj q);rw[decide_eq_false h];exact(beq_eq_false_iff_ne.mpr e).symm
def X2(a b:Str):decide ((j5 a:gY)=j5 b)=decide (a=b):=by
 by_cases e:a=b
 ·subst e;simp
 ·have h:¬ (j5 a:gY)=j5 b:=λq=>e (Sum.inr.inj q);rw[decide_eq_false h,decide_eq_false e]
def X3(a:Int)(b:Str):decide ((zk a:gY)=j5 b)=false:=decide_eq_false (λq=>nomatch q)
def X4(a:Str)(b:Int):decide ((j5 a:gY)=zk b)=false:=decide_eq_false (λq=>nomatch q)
def g9(prog:bg)(w:bL):PySem.KeyKind prog w gY where
 is:=Ah
 hash:=q0U w
 inj:=λv a b ha hb=>by
  rcases gC ha with⟨i,t,rfl,rfl⟩|⟨x,t,rfl,rfl⟩
  ·rcases gC hb with⟨j,u,rfl,e⟩|⟨y,u,rfl,e⟩
   ·injection e with e1 _;rw[e1]
   ·exact nomatch e
  ·rcases gC hb with⟨j,u,rfl,e⟩|⟨y,u,rfl,e⟩
   ·exact nomatch e
   ·injection e with e1 _;rw[e1]
 byValue:=λk v h=>by
  rcases gC h with⟨i,t,rfl,rfl⟩|⟨x,t,rfl,rfl⟩<;>rfl
 pyHash:=λhv h=>by
  rcases gC hv with⟨i,t,rfl,rfl⟩|⟨x,t,rfl,rfl⟩
  ·exact wpAny_pyHash_int h
  ·exact wpAny_pyHash_str h
 eqBool:=λhu hv h=>by
  rcases gC hu with⟨i,t,rfl,rfl⟩|⟨x,t,rfl,rfl⟩
  ·rcases gC hv with⟨j,u,rfl,rfl⟩|⟨y,u,rfl,rfl⟩
   ·rw[X1] at h;exact wpAny_eqBool_int h
   ·rw[X3] at h;exact FE i t y u _ _ _ _ h
  ·rcases gC hv with⟨j,u,rfl,rfl⟩|⟨y,u,rfl,rfl⟩
   ·rw[X4] at h;exact FF x t j u _ _ _ _ h
   ·rw[X2] at h;exact DZ h
 «strs»:=λk x t v h=>by
  rcases gC h with⟨i,u,rfl,e⟩|⟨y,u,rfl,e⟩
  ·exact nomatch e
  ·injection e with e1 _
   subst e1
   cases v<;>rfl
def FT(prog:bg)(w:bL)(i:Int)(t:Tok):(g9 prog w).is (.inl i) (.int i t)=true:=MY i t
def FU(prog:bg)(w:bL)(x:Str)(t:Tok):(g9 prog w).is (.inr x) (.str x t)=true:=MZ x t
end L2
namespace L2
open PySem PySem.Spec PyProof.Rows
inductive V where
 |non|bl (b:Bool)|int (i:Int)|str (x:Str)|byt (b:Array UInt8)|flt (b:UInt64)|ref (a:ap)|ty (n:String)
 deriving DecidableEq
def eu:V->ag->Prop
 |.non,u=>u=fv
 |.bl b,u=>u=MD b
 |.int i,u=>∃t,u=oC i t
 |.str x,u=>∃t,u=kE x t
 |.byt b,u=>∃t,u=Value.bytes b t
 |.flt b,u=>∃t,u=Value.float b t
 |.ref a,u=>u=bq a
 |.ty n,u=>u=jy n
abbrev eE:List V->List ag->Prop:=IV eu
def eE.length(r:eE xs us):xs.length=us.length:=j6 r
def eE.get(h:eE xs us):∀{i:Nat}{x:V},xs[i]?=some x->∃u,us[i]?=some u/\eu x u:=by
 induction h with
 |nil=>intro i x e;cases e
 |cons r t a=>
  intro i x e;cases i with
  |zero=>cases e;exact⟨_,rfl,r⟩
  |succ i=>have q:=a (i:=i) e;exact q
def eE.append(h:eE xs us)(s:eE ys ws):eE (xs++ys) (us++ws):=by
 induction h with
 |nil=>exact s
 |cons r t a=>exact .cons r a
theorem eE.take:∀{xs:List V}{a:List ag} (n:Nat),eE xs a->eE (xs.take n) (a.take n)
 |_,_,0,_=>.nil
 |_,_,_+1,.nil=>.nil
 |_,_,n+1,.cons r t=>.cons r (eE.take n t)
theorem eE.drop:∀{xs:List V}{a:List ag} (n:Nat),eE xs a->eE (xs.drop n) (a.drop n)
 |_,_,0,r=>r
 |_,_,_+1,.nil=>.nil
 |_,_,n+1,.cons _ t=>eE.drop n t
def Ai:Option V->Option ag->Prop
 |some v,some u=>eu v u
 |none,none=>True
 |_,_=>False
def KV{a:Type}:List (a×V)->List (a×ag)->Prop:=IV λ(p:a×V) (q:a×ag)=>p.1=q.1/\eu p.2 q.2
def kV:gY->V
 |.inl i=>.int i
 |.inr x=>.str x
inductive HO where
 |lst (xs:List V)
 |tup (xs:List V)
 |dK (kvs:List (gY×V))|dT (kvs:List (List gY×V))
 |set (S:Int->Bool) (n:Nat)
 |ins (C dx:ap) (fs:List (Str×V))
 |own (x:ap)
 |xd (fs:List (Str×V))
 |met (f x:ap)
 |rng (lo hi:Int)
 |frz (o:Obj) (u:HO)
 |tbl (ps:Array ag)
 |ext (φ:cg->Prop)
abbrev Hp:=ap->Option HO
def upd(H:Hp)(a:ap)(o:HO):Hp:=λb=>if b=a then some o else H b
def bc:upd H a o a=some o:=by unfold upd;rw[if_pos rfl]
def bh(h:b≠a):upd H a o b=H b:=by unfold upd;rw[if_neg h]
def Pf{H:Hp}{a b:ap}{o u:HO}(h:H a=some o)(h':H b=some u)(d:o≠u):a≠b:=by
 intro e;subst e;rw[h] at h';exact d (cc h')
def cj{H:Hp}{a b:ap}{o:HO}(h:H a=some o)(h':H b=none):a≠b:=by
 intro e;subst e;rw[h] at h';cases h'
section
variable(P:bg)(w:bL)
def d_(H:Hp)(h:cg)(a:ap):HO->Prop
 |.lst xs=>xs.length<=sizeLine/\∃(b:List ag) (n:Nat),eE xs b/\h.get? a=some {cls:=.type "list",data:=.seq b.toArray n}
 |.tup xs=>xs.length<=sizeLine/\∃b:List ag,eE xs b/\IsTup h a b.toArray
 |.dK c=>c.length<=sizeLine/\(a==fj)=false/\∃j,KV c j/\h.DictOf (g9 P w) a j
 |.dT c=>c.length<=sizeLine/\(a==fj)=false/\∃xs:List (List gY×ap×ag),
   IV (λ(p:List gY×V) (q:List gY×ap×ag)=>p.1=q.1/\H q.2.1=some (.tup (p.1.map kV))/\eu p.2 q.2.2) c xs /\
   ∃o es l,h.get? a=some o/\o.ExactDict/\o.data=.dict es l/\es.toList=xs.map (entryOfKey (uJ (g9 P w)))/\(xs.map (·.1)).Nodup
 |.set S n=>h.SetOf (intKind P w) a S n
 |.ins C e fs=>H e=some (.own a)/\fs.length<=1000/\e≠a/\h.get? a=some (zm C e) /\
   ∃d,h.Ns1 e d/\(∀f,Ai (fs.lookup f) (d f))/\PySem.Within d (fs.map (·.1))
 |.own _=>∃o,h.get? a=some o
 |.xd fs=>∃d,h.Ns1 a d/\∀f,Ai (fs.lookup f) (d f)
 |.rng lo m=>∃t u v,h.get? a=some {cls:=.type "range",data:=.fields #[.int lo t,.int m u,.int 1 v]}
 |.frz o u=>h.get? a=some o/\d_ H h a u
 |.tbl k=>h.get? a=some {cls:=.none,data:=.fields k}
 |.met f x=>h.get? a=some (wy (.ref f) (.ref x))
 |.ext φ=>φ h/\(∃o,h.get? a=some o)/\∀g i:cg,φ g->(∀o,g.get? a=some o->i.get? a=some o)->φ i
def sC(H:Hp)(h:cg):Prop:=∀a o,H a=some o->d_ P w H h a o
end
def d_.lt(x:d_ P w H h a o):a<h.objs.size:=by
 cases o with
 |lst xs=>obtain⟨_,_,_,_,e⟩:=x;exact aw e
 |tup xs=>obtain⟨_,_,_,p⟩:=x;exact p.lt
 |dK b=>obtain⟨_,_,_,_,o,_,_,e,_⟩:=x;exact aw e
 |dT b=>obtain⟨_,_,_,_,o,_,_,e,_⟩:=x;exact aw e
 |set S n=>obtain⟨o,_,_,_,e,_⟩:=x;exact aw e
 |ins C c fs=>obtain⟨_,_,_,e,_⟩:=x;exact aw e
 |own y=>obtain⟨_,e⟩:=x;exact aw e
 |xd fs=>obtain⟨_,⟨_,_,_,e,_⟩,_⟩:=x;exact aw e
 |rng lo g=>obtain⟨_,_,_,e⟩:=x;exact aw e
 |frz ob u=>obtain⟨e,_⟩:=x;exact aw e
 |tbl d=>exact aw (show h.get? a=some _ from x)
 |met f y=>exact aw (show h.get? a=some _ from x)
 |ext φ=>obtain⟨_,⟨_,e⟩,_⟩:=x;exact aw e
def Paired.mapP{e g:Type}{F G:e->g->Prop}{c:List e}{d:List g}(h:IV F c d)(f:∀a b,F a b->G a b):IV G c d:=by
 induction h with
 |nil=>exact .nil
 |cons r t i=>exact .cons (f _ _ r) i
def d_.stay(x:d_ P w H h a o)(k:∀b u,(b=a\/H b=some (.own a))->h.get? b=some u->h'.get? b=some u)
  (ho:∀b,H b=some (.own a)->H' b=some (.own a)) (B:∀b xs,H b=some (.tup xs)->H' b=some (.tup xs)):d_ P w H' h' a o:=by
 induction o with
 |lst xs=>obtain⟨z,i,n,r,e⟩:=x;exact⟨z,i,n,r,k _ _ (.inl rfl) e⟩
 |tup xs=>obtain⟨z,i,r,ob,e,c⟩:=x;exact⟨z,i,r,ob,k _ _ (.inl rfl) e,c⟩
 |dK l=>obtain⟨z,y,G,r,ob,es,g,e,c⟩:=x;exact⟨z,y,G,r,ob,es,g,k _ _ (.inl rfl) e,c⟩
 |dT l=>
  obtain⟨z,y,xs,r,ob,es,g,e,c⟩:=x;exact⟨z,y,xs,Paired.mapP r λp q z=>⟨z.1,B _ _ z.2.1,z.2.2⟩,ob,es,g,k _ _ (.inl rfl) e,c⟩
 |set S n=>obtain⟨ob,es,g,t,e,c⟩:=x;exact⟨ob,es,g,t,k _ _ (.inl rfl) e,c⟩
 |ins C K fs=>
  obtain⟨d,z,ne,e,j,⟨m,es,g,E,c⟩,r⟩:=x;exact⟨ho _ d,z,ne,k _ _ (.inl rfl) e,j,⟨m,es,g,k _ _ (.inr d) E,c⟩,r⟩
 |own y=>obtain⟨ob,e⟩:=x;exact⟨ob,k _ _ (.inl rfl) e⟩
 |xd fs=>obtain⟨j,⟨m,es,g,e,c⟩,r⟩:=x;exact⟨j,⟨m,es,g,k _ _ (.inl rfl) e,c⟩,r⟩
 |rng lo I=>obtain⟨t,u,v,e⟩:=x;exact⟨t,u,v,k _ _ (.inl rfl) e⟩
 |frz ob u A=>obtain⟨e,q⟩:=x;exact⟨k _ _ (.inl rfl) e,A q⟩
 |tbl s=>
  have e:h.get? a=some {cls:=.none,data:=.fields s}:=x;show h'.get? a=some {cls:=.none,data:=.fields s};exact k a _ (.inl rfl) e
 |met f y=>
  have e:h.get? a=some (wy (.ref f) (.ref y)):=x;show h'.get? a=some (wy (.ref f) (.ref y));exact k a _ (.inl rfl) e
 |ext φ=>obtain⟨p,⟨o,e⟩,st⟩:=x;exact⟨st _ _ p λo q=>k _ _ (.inl rfl) q,⟨o,k _ _ (.inl rfl) e⟩,st⟩
def sC.lt(x:sC P w H h)(e:H a=some o):a<h.objs.size:=(x a o e).lt
def sC.fresh(x:sC P w H h)(e:h.objs.size<=a):H a=none:=by
 cases q:H a with
 |none=>rfl
 |some u=>exact absurd (aK (x.lt q) e) (cO _)
def sC.kept(x:sC P w H h)(k:∀b u,h.get? b=some u->h'.get? b=some u):sC P w H h':=λa o e=>
 (x a o e).stay (λb u _ q=>k b u q) (λ_ q=>q) λ_ _ q=>q
def sC.laid(x:sC P w H h)(k:∀b u,h.get? b=some u->h'.get? b=some u)(g:h.objs.size<=a)(new:d_ P w (upd H a o) h' a o):sC P w (upd H a o) h':=λb u e=>by
 have d:=x.fresh g;by_cases f:b=a
 ·subst f;rw[bc] at e;cases e;exact new
 ·rw[bh f] at e;exact(x b u e).stay (λc v _ q=>k c v q) (λc q=>by rw[bh (cj q d)];exact q) λc xs q=>by rw[bh (cj q d)];exact q
def Rd(H:Hp)(a:ap)(u:HO):Prop:=H a=some u\/∃o,H a=some (.frz o u)
def Rd.of(h:H a=some u):Rd H a u:=.inl h
def Rd.ok(r:Rd H a u)(x:sC P w H h):d_ P w H h a u:=by
 rcases r with r|⟨o,r⟩
 ·exact x a u r
 ·obtain⟨_,q⟩:=x a _ r;exact q
def Z3:Option HO->Prop
 |some (.lst _)=>True
 |some (.dK _)=>True
 |some (.dT _)=>True
 |some (.set _ _)=>True
 |some (.ins _ _ _)=>True
 |some (.ext _)=>True
 |_=>False
def sC.write(ok:sC P w H h)(j:Z3 (H x))(he:e=x\/H e=some (.own x))(k:∀b u,b≠e->h.get? b=some u->h'.get? b=some u)(l:∃u,h'.get? e=some u)
  (new:d_ P w (upd H x o') h' x o'):sC P w (upd H x o') h':=λb u q=>by
 have d:∀c y,H c=some (.own y)->c≠x:=λc y r z=>by subst z;rw[r] at j;exact j
 have f:∀c xs,H c=some (.tup xs)->c≠x:=λc xs r z=>by subst z;rw[r] at j;exact j
 by_cases i:b=x
 ·subst i;rw[bc] at q;cases q;exact new
 ·rw[bh i] at q;by_cases a:b=e
  ·have q':H b=some (.own x):=by
    rcases he with z|z
    ·exact absurd (a.trans z) i
    ·rw[a];exact z
   rw[q] at q';cases q';obtain⟨v,m⟩:=l;exact⟨v,by rw[a];exact m⟩
  ·refine(ok b u q).stay (λc v g r=>k c v ?_ r) (λc r=>by rw[bh (d c b r)];exact r) λc xs r=>by rw[bh (f c xs r)];exact r
   rcases g with rfl|g
   ·exact a
   ·rintro rfl;rcases he with z|z
    ·exact d c b g z
    ·rw[g] at z;cases z;exact i rfl
structure Un (fs ex:List ap) (H H':Hp) (h h':cg):Prop where
 keep:∀b o,h.get? b=some o->H b=none->b∉fs->b∉ex->h'.get? b=some o
 slot:∀b o,h.get? b=some o->H b=none->b∈fs->b∉ex->∃sl,h'.get? b=some {o with slots:=sl}
 free:∀b o,h.get? b=some o->H b=none->b∉ex->H' b=none
 there:∀b o,h.get? b=some o->b∉ex->∃o',h'.get? b=some o'
 tups:∀b xs,H b=some (.tup xs)->H' b=some (.tup xs)
 frzs:∀b o u,H b=some (.frz o u)->H' b=some (.frz o u)
 tbls:∀b ps,H b=some (.tbl ps)->∃more,H' b=some (.tbl (ps++more))
def Un.any(u:Un fs ex H H1 h h1)(q:h.get? b=some ob)(n:H b=none)(a:b∉ex):∃d,h1.get? b=some {ob with slots:=d}:=by
 by_cases c:b∈fs
 ·exact u.slot b ob q n c a
 ·exact⟨ob.slots,u.keep b ob q n c a⟩
def Un.kept(k:∀b u,h.get? b=some u->h'.get? b=some u):Un fs ex H H h h':=
 ⟨λb ob q _ _ _=>k b ob q,λb ob q _ _ _=>⟨ob.slots,k b ob q⟩,λ_ _ _ n _=>n,λb ob q _=>⟨ob,k b ob q⟩,λ_ _ q=>q,λ_ _ _ q=>q,λ_ a q=>⟨#[],by rw[q];simp⟩⟩
def Un.refl:Un fs ex H H h h:=Un.kept λ_ _ q=>q
def Un.laid(k:∀b u,h.get? b=some u->h'.get? b=some u)(d:h.objs.size<=a)(c:H a=none):Un fs ex H (upd H a o) h h' where
 keep:=λb u q _ _ _=>k b u q
 slot:=λb u q _ _ _=>⟨u.slots,k b u q⟩
 free:=λb u q n _=>by rw[bh (aL (aK (aw q) d))];exact n
 there:=λb u q _=>⟨u,k b u q⟩
 tups:=λb xs q=>by rw[bh (cj q c)];exact q
 frzs:=λb u xs q=>by rw[bh (cj q c)];exact q
 tbls:=λb e q=>⟨#[],by rw[bh (cj q c),q];simp⟩
def Un.write(c:Z3 (H x))(he:e=x\/H e=some (.own x))(k:∀b u,b≠e->h.get? b=some u->h'.get? b=some u)(f:∃u,h'.get? e=some u):Un fs ex H (upd H x o) h h':=by
 have g:∀b,H b=none->b≠x:=λb n z=>by subst z;rw[n] at c;exact c
 have i:∀b,H b=none->b≠e:=λb n z=>by
  subst z;rcases he with r|r
  ·exact g b n r
  ·rw[n] at r;cases r
 have d:∀b u,H b=some u->¬ Z3 (some u)->b≠x:=λb u q j z=>by subst z;rw[q] at c;exact j c
 refine⟨λb u q n _ _=>k b u (i b n) q,λb u q n _ _=>⟨u.slots,k b u (i b n) q⟩,λb u q n _=>by rw[bh (g b n)];exact n,λb u q _=>?_,
  λb xs q=>by rw[bh (d b _ q λz=>z)];exact q,λb u xs q=>by rw[bh (d b _ q λz=>z)];exact q,λb l q=>⟨#[],by rw[bh (d b _ q λz=>z),q];simp⟩⟩
 by_cases a:b=e
 ·subst a;exact f
 ·exact⟨u,k b u a q⟩
def trk(h:cg)(H:Hp):List ap:=(bQ h.objs.size).filter λa=>(H a).isSome
def E9(h:cg)(H:Hp):cg:=PySem.W.hideAll h (trk h H)
def M_(h:cg)(H:Hp):(E9 h H).objs.size=h.objs.size:=PySem.W.hideAll_size _ _
def Pg(e:h.get? b=some o)(n:H b=none):(E9 h H).get? b=some o:=
 PySem.W.hideAll_get _ e λa=>by
  have q:(H b).isSome=true:=(List.mem_filter.mp a).2;rw[n] at q;simp at q
def TH(e:(E9 h H).get? b=some o):h.get? b=some o/\H b=none:=by
 have a:h.get? b=some o:=PySem.W.of_hideAll (trk h H) e;refine⟨a,?_⟩;cases q:H b with
 |none=>rfl
 |some x=>
  have c:b∈trk h H:=List.mem_filter.mpr ⟨List.mem_range.mpr (aw a),by simp[q]⟩;have z:(E9 h H).get? b=none:=PySem.W.hideAll_none (trk h H) c;rw[z] at e;cases e
def TJ(g h:cg)(L:ap):List (ap×Obj):=(bQ h.objs.size).filterMap λa=>if a=L\/(g.get? a).isSome=true then none else(h.get? a).map λo=>(a,o)
def bu(g h:cg)(L d:ap):List (ap×Obj):=(TJ g h L).filter λp=>decide (p.1≠d)
end L2
namespace L2
open PySem PySem.Spec PyProof.Rows
structure Mod (K:a8) (mg:Str->Option ag) (base:cg):Prop where
 kin:K.In base
 glob:base.Ns cn mg
 blt:∃mb,base.Ns builtinsNs mb/\∀x:Str,x≠"__name__"->mb x=jq x
 nolimit:base.NoLimit
structure Cx where
 prog:bg
 w:bL
 K:a8
 mg:Str->Option ag
 base:cg
 A:cy
 N:List Str
 s₀:ak
 H₀:Hp
 env:Env
 outer:List Env
 stack:List Env
 ex:List ap
 fn:Str->Bool
 calm:Bool
 pn:List (ap×Obj)
 xe:ag->ak->Prop
def B_(l:List Env):List ap:=l.filterMap (·.frame)
abbrev Cx.fs(X:Cx):List ap:=B_ X.outer
def OR(a:eM)(x:Str):Prop:=a.names.lookup x=some .local\/a.names.lookup x=some .cell\/a.names.lookup x=some .free
def T6(a:eM)(x:Str):Prop:=a.names.lookup x=some .local\/a.names.lookup x=some .cell
def q0V(env:Env)(h:cg)(m:Str->Option ag)(x:Str)(u:ag):Prop:=
 (env.kindOf x=some .local/\m x=some u)\/((env.kindOf x=some .cell\/env.kindOf x=some .free)/\∃c,env.cells.lookup x=some c/\h.IsCell c (some u))
structure Cx.Ok (X:Cx):Prop where
 mod:Mod X.K X.mg X.base
 kind:X.env.scope.kind=.function
 glob:X.env.globals=cn
 blt:X.env.builtins=builtinsNs
 above:X.s₀.heap.objs.size<=X.env.locals
 inj:∀x y c,X.env.cells.lookup x=some c->X.env.cells.lookup y=some c->x=y
 has:∀x,(X.env.kindOf x=some .cell\/X.env.kindOf x=some .free)->∃c,X.env.cells.lookup x=some c
 cab:∀x c,X.fn x=true->X.env.cells.lookup x=some c->X.s₀.heap.objs.size<=c
 hd:X.calm=true->X.A.handled=none
 frames:X.A.frames=some X.stack
 stk:X.stack=X.outer\/(X.stack=X.env::X.outer/\X.env.frame=some X.env.locals)
 exf:∀b∈X.ex,b≠X.env.locals/\∀x c,X.env.cells.lookup x=some c->c≠b
 bs:∀b o,X.base.get? b=some o->X.s₀.heap.get? b=some o/\X.H₀ b=none
 bsz:X.base.objs.size<=X.s₀.heap.objs.size
 noex:∀b o,X.base.get? b=some o->b∉X.ex
 exfs:∀b∈X.ex,b∉X.fs
 funs:X.s₀.heap.FunFrames X.base X.outer
 frf:∀b∈X.fs,X.H₀ b=none
structure cb (X:Cx) (pins:List (ap×Obj)) (σ:List (Option V)) (H:Hp) (s:ak):Prop where
 ok:X.Ok
 os:s.os=X.s₀.os
 bare:su s.gens
 base:Un X.fs X.ex X.H₀ H X.s₀.heap s.heap
 loc:∃m,s.heap.Ns X.env.locals m/\∀(i:Nat) (x:Str) (v:V),X.N[i]?=some x->σ[i]?=some (some v)->OR X.env.scope x->∃u,eu v u/\q0V X.env s.heap m x u
 cell:∀x c,X.env.cells.lookup x=some c->∃v,s.heap.IsCell c v
 free:H X.env.locals=none
 freeC:∀x c,X.env.cells.lookup x=some c->H c=none
 pin:∀p∈X.pn++pins,s.heap.get? p.1=some p.2/\H p.1=none/\p.1≠X.env.locals/\p.1∉X.fs/\∀v,p.2.data≠.cell v
 hok:sC X.prog X.w H s.heap
 len:σ.length=X.N.length
section
variable{X:Cx}{pins:List (ap×Obj)}{σ:List (Option V)}{H H':Hp}{s:ak}{h':cg}
def Cx.Ok.nofr(ok:X.Ok)(e:X.base.get? b=some o):b∉X.fs:=λa=>by
 have:=(ok.funs.mem a).1;rw[e] at this;cases this
def cb.bs(I:cb X pins σ H s):∀b o,X.base.get? b=some o->s.heap.get? b=some o/\H b=none:=λb o e=>
 ⟨I.base.keep b o (I.ok.bs b o e).1 (I.ok.bs b o e).2 (I.ok.nofr e) (I.ok.noex b o e),I.base.free b o (I.ok.bs b o e).1 (I.ok.bs b o e).2 (I.ok.noex b o e)⟩
def cb.bk(I:cb X pins σ H s):∀b o,X.base.get? b=some o->s.heap.get? b=some o:=λb o e=>(I.bs b o e).1
def cb.mod(I:cb X pins σ H s):Mod X.K X.mg X.base:=I.ok.mod
def cb.kIn(I:cb X pins σ H s):X.K.In s.heap:=I.ok.mod.kin.keeps I.bk
def cb.fr(I:cb X pins σ H s):∃m,Fr X.base X.env.locals s.heap m:=
 let ⟨m,hn,_⟩:=I.loc
 ⟨m,hn,I.bk,ca I.ok.bsz I.ok.above⟩
def cb.lt(I:cb X pins σ H s):X.env.locals<s.heap.objs.size:=let ⟨_,hn,_⟩:=I.loc;hn.lt
def cb.sz(I:cb X pins σ H s):X.s₀.heap.objs.size<=s.heap.objs.size:=ca I.ok.above (cE I.lt)
def cb.nofs(I:cb X pins σ H s)(h:s.heap.objs.size<=a):a∉X.fs:=λb=>by
 obtain⟨_,o,ho,_⟩:=I.ok.funs.mem b;exact absurd (aK (aw ho) (ca I.sz h)) (cO _)
def cb.cne(I:cb X pins σ H s):∀x c,X.env.cells.lookup x=some c->c≠X.env.locals:=λx c e z=>by
 obtain⟨v,o,ho,d⟩:=I.cell x c e;obtain⟨m,⟨o',es,f,b,a,_⟩,_⟩:=I.loc;rw[z,b] at ho;cases ho;rw[a] at d;cases d
def cb.funs(I:cb X pins σ H s):s.heap.FunFrames X.base X.outer:=by
 have all:∀(l:List Env),(∀b∈B_ l,b∈X.fs)->X.s₀.heap.FunFrames X.base l->s.heap.FunFrames X.base l:=by
  intro l;induction l with
  |nil=>intro _ _;trivial
  |cons env r f=>
   intro hs g;obtain⟨k,⟨L,o,a,i,ho,j⟩,h⟩:=g;have d:L∈X.fs:=hs L (by unfold B_;rw[nG,a];exact aj);obtain⟨m,e⟩:=I.base.slot L o ho (I.ok.frf L d) d λz=>I.ok.exfs L z d;exact⟨k,⟨L,_,a,i,e,j⟩,f (λb c=>hs b (by unfold B_;rw[nG,a];exact af _ c)) h⟩
 exact all X.outer (λ_ c=>c) I.ok.funs
def cb.stack(I:cb X pins σ H s):s.heap.FunFrames X.base X.stack:=by
 rcases I.ok.stk with e|⟨e,hf⟩
 ·rw[e];exact I.funs
 ·rw[e];obtain⟨m,a,_⟩:=I.loc;refine .cons (by rw[I.ok.kind];decide) hf a ?_ I.funs;exact Heap.get?_none_of_le (ca I.ok.bsz I.ok.above)
def cb.stkSub(I:cb X pins σ H s):∀b∈B_ X.stack,b∈X.env.locals::X.fs:=λb a=>by
 rcases I.ok.stk with e|⟨e,hf⟩
 ·rw[e] at a;exact af _ a
 ·rw[e] at a;unfold B_ at a;rw[nG,hf] at a;exact a
def cb.stkFree(I:cb X pins σ H s):∀b∈B_ X.stack,H b=none:=λb hb=>by
 rcases List.mem_cons.mp (I.stkSub b hb) with e|hb
 ·rw[e];exact I.free
 ·obtain⟨_,o,ho,_⟩:=I.ok.funs.mem hb;exact I.base.free b o ho (I.ok.frf b hb) λz=>I.ok.exfs b z hb
def cb.step{g':Array IW}{t':Nat}{d':OD}{ch:List ap}(I:cb X pins σ H s)
  (f:∀b∈ch,(b∈X.ex\/X.s₀.heap.objs.size<=b)/\b≠X.env.locals/\(∀x c,X.env.cells.lookup x=some c->c≠b)/\∀p∈X.pn++pins,p.1≠b)
  (keep:∀b o,b≠X.env.locals->b∉X.fs->b∉ch->s.heap.get? b=some o->H b=none->h'.get? b=some o)
  (y:∀b o,b≠X.env.locals->b∈X.fs->b∉ch->s.heap.get? b=some o->H b=none->∃S,h'.get? b=some {o with slots:=S}) (free:∀b o,b∉ch->s.heap.get? b=some o->H b=none->H' b=none)
  (there:∀b o,b∉ch->s.heap.get? b=some o->∃o',h'.get? b=some o')
  (E:∀b xs,H b=some (.tup xs)->H' b=some (.tup xs)) (B:∀b o u,H b=some (.frz o u)->H' b=some (.frz o u)) (G:∀b M,H b=some (.tbl M)->∃more,H' b=some (.tbl (M++more)))
  (ns:∀m,s.heap.Ns X.env.locals m->h'.Ns X.env.locals m) (P:sC X.prog X.w H' h') (hg:su g'):
  cb X pins σ H' {s with heap:=h',gens:=g',drawn:=d',toks:=t'}:=by
 have K:∀b o,X.s₀.heap.get? b=some o->b≠X.env.locals:=λb o e=>aL (aK (aw e) I.ok.above);have t:∀b o,X.s₀.heap.get? b=some o->b∉X.ex->b∉ch:=λb o e a A=>by
  rcases (f b A).1 with z|z
  ·exact a z
  ·exact absurd (aK (aw e) z) (cO _)
 have g:∀x c,X.env.cells.lookup x=some c->∀v,s.heap.IsCell c v->h'.IsCell c v:=λx c e v N=>by
  obtain⟨o,ho,Q⟩:=N;have h:c∉ch:=λz=>(f c z).2.2.1 x c e rfl;by_cases T:c∈X.fs
  ·obtain⟨S,q⟩:=y c o (I.cne x c e) T h ho (I.freeC x c e);exact⟨_,q,Q⟩
  ·exact⟨o,keep c o (I.cne x c e) T h ho (I.freeC x c e),Q⟩
 refine⟨I.ok,I.os,hg,⟨λb o e n A a=>?_,λb o e n A a=>?_,λb o e n a=>?_,λb o e a=>?_,λb xs e=>E b xs (I.base.tups b xs e),λb o xs e=>B b o xs (I.base.frzs b o xs e),λb M e=>?_⟩,?_,λx c e=>?_,?_,λx c e=>?_,λp U=>?_,P,I.len⟩
 ·exact keep b o (K b o e) A (t b o e a) (I.base.keep b o e n A a) (I.base.free b o e n a)
 ·obtain⟨S,j⟩:=I.base.slot b o e n A a;obtain⟨O,L⟩:=y b _ (K b o e) A (t b o e a) j (I.base.free b o e n a);exact⟨O,L⟩
 ·obtain⟨o',j⟩:=I.base.there b o e a;exact free b o' (t b o e a) j (I.base.free b o e n a)
 ·obtain⟨o',j⟩:=I.base.there b o e a;exact there b o' (t b o e a) j
 ·obtain⟨m1,j⟩:=I.base.tbls b M e;obtain⟨m2,L⟩:=G b _ j;exact⟨m1++m2,by rw[L,ME]⟩
 ·obtain⟨m,hn,hl⟩:=I.loc;refine⟨m,ns m hn,λi x v j L Y=>?_⟩;obtain⟨u,r,l⟩:=hl i x v j L Y;refine⟨u,r,?_⟩;rcases l with l|⟨k,c,e,z⟩
  ·exact .inl l
  ·exact .inr ⟨k,c,e,g x c e _ z⟩
 ·obtain⟨v,z⟩:=I.cell x c e;exact⟨v,g x c e v z⟩
 ·obtain⟨m,⟨o,_,_,ho,_⟩,_⟩:=I.loc;exact free _ o (λz=>(f _ z).2.1 rfl) ho I.free
 ·obtain⟨v,o,ho,Q⟩:=I.cell x c e;exact free c o (λz=>(f c z).2.2.1 x c e rfl) ho (I.freeC x c e)
 ·obtain⟨e,n,ne,nf,d⟩:=I.pin p U;have h:p.1∉ch:=λz=>(f p.1 z).2.2.2 p U rfl;exact⟨keep p.1 p.2 ne nf h e n,free p.1 p.2 h e n,ne,nf,d⟩
def cb.un{t':Nat}(I:cb X pins σ H s)(u:Un X.fs [] H H' s.heap h')(f:sC X.prog X.w H' h'):cb X pins σ H' {s with heap:=h',toks:=t'}:=by
 obtain⟨m,⟨o,es,j,ho,r⟩,_⟩:=id I.loc;obtain⟨l,i⟩:=u.any ho I.free (by simp);exact I.step (g':=s.gens) (d':=s.drawn) (ch:=[]) (λ_ z=>nomatch z) (λb o _ c _ e n=>u.keep b o e n c (by simp)) (λb o _ c _ e n=>u.slot b o e n c (by simp)) (λb o _ e n=>u.free b o e n (by simp)) (λb o _ e=>u.there b o e (by simp)) u.tups u.frzs u.tbls (λk g=>by
  obtain⟨o',es',d,a,h⟩:=g;rw[ho] at a;cases a;exact⟨_,es',d,i,h⟩) f I.bare
def cb.call{g':Array IW}{t':Nat}{d':OD}{ch:List ap}(I:cb X pins σ H s)(u:Un (B_ X.stack) ch H H' s.heap h')(h:sC X.prog X.w H' h')(q:su g')
  (d:∀b∈ch,(b∈X.ex\/X.s₀.heap.objs.size<=b)/\b≠X.env.locals/\(∀x c,X.env.cells.lookup x=some c->c≠b)/\∀p∈X.pn++pins,p.1≠b):
  cb X pins σ H' {s with heap:=h',gens:=g',drawn:=d',toks:=t'}:=by
 obtain⟨m,⟨o,es,t,ho,r⟩,_⟩:=id I.loc;obtain⟨y,i⟩:=u.any ho I.free λz=>(d _ z).2.1 rfl;exact I.step (ch:=ch) d (λb o i j a e n=>u.keep b o e n (λz=>(List.mem_cons.mp (I.stkSub b z)).elim i j) a) (λb o _ _ a e n=>u.any e n a) (λb o a e n=>u.free b o e n a) (λb o a e=>u.there b o e a) u.tups u.frzs u.tbls (λv k=>by
  obtain⟨o',es',g,f,l⟩:=k;rw[ho] at f;cases f;exact⟨_,es',g,i,l⟩) h q
def cb.turned{t':Nat}{it:ap}(I:cb X pins σ H s)(k:∀b o,b≠it->s.heap.get? b=some o->h'.get? b=some o)(t:H it=none)(f:it≠X.env.locals)
  (g:it∈X.ex\/X.s₀.heap.objs.size<=it) (w:∀x c,X.env.cells.lookup x=some c->c≠it) (h:∀p∈X.pn++pins,p.1≠it):cb X pins σ H {s with heap:=h',toks:=t'}:=by
 have d:∀b u,H b=some u->b≠it:=λb u e z=>by rw[z,t] at e;cases e
 refine I.step (g':=s.gens) (d':=s.drawn) (ch:=[it]) (λb j=>?_) (λb o _ _ a e _=>k b o (λz=>a (by simp[z])) e) (λb o _ _ a e _=>⟨o.slots,k b o (λz=>a (by simp[z])) e⟩) (λ_ _ _ _ n=>n)
  (λb o a e=>⟨o,k b o (λz=>a (by simp[z])) e⟩) (λ_ _ e=>e) (λ_ _ _ e=>e) (λb y e=>⟨#[],by rw[e];simp⟩) (λm l=>?_) (λb u e=>?_) I.bare
 ·have e:b=it:=by simpa using j
  subst e;exact⟨g,f,w,h⟩
 ·obtain⟨o,es,i,ho,r⟩:=l;exact⟨o,es,i,k _ o (dm f) ho,r⟩
 ·refine(I.hok b u e).stay (λc v a q=>k c v ?_ q) (λ_ q=>q) λ_ _ q=>q;rcases a with z|z
  ·rw[z];exact d b u e
  ·exact d c _ z
theorem cb.tok(I:cb X pins σ H s)(t:Nat):cb X pins σ H {s with toks:=t}:=I.un (h':=s.heap) (t':=t) Un.refl I.hok
def cb.kept(I:cb X pins σ H s)(k:∀b u,s.heap.get? b=some u->h'.get? b=some u):cb X pins σ H {s with heap:=h',toks:=t'}:=I.un (Un.kept k) (I.hok.kept k)
def cb.laid(I:cb X pins σ H s)(k:∀b u,s.heap.get? b=some u->h'.get? b=some u)(c:s.heap.objs.size<=a)(new:d_ X.prog X.w (upd H a o) h' a o):
  cb X pins σ (upd H a o) {s with heap:=h',toks:=t'}:=I.un (Un.laid k c (I.hok.fresh c)) (I.hok.laid k c new)
def cb.write(I:cb X pins σ H s)(c:Z3 (H x))(he:e=x\/H e=some (.own x))(k:∀b u,b≠e->s.heap.get? b=some u->h'.get? b=some u)(a:∃u,h'.get? e=some u)
  (new:d_ X.prog X.w (upd H x o) h' x o):cb X pins σ (upd H x o) {s with heap:=h',toks:=t'}:=I.un (Un.write c he k a) (I.hok.write c he k a new)
def cb.weak(I:cb X pins σ H s)(b:σ'.length=σ.length)(w:∀(i:Nat) v,σ'[i]?=some (some v)->σ[i]?=some (some v)):cb X pins σ' H s:=
 ⟨I.ok,I.os,I.bare,I.base,let ⟨m,hn,hl'⟩:=I.loc;⟨m,hn,λi x v a c d=>hl' i x v a (w i v c) d⟩,I.cell,I.free,I.freeC,I.pin,I.hok,b.trans I.len⟩
def cb.pins_of(I:cb X pins σ H s)(h:∀p∈pins',s.heap.get? p.1=some p.2/\H p.1=none/\p.1≠X.env.locals/\p.1∉X.fs/\∀v,p.2.data≠.cell v):cb X pins' σ H s:=
 ⟨I.ok,I.os,I.bare,I.base,I.loc,I.cell,I.free,I.freeC,λp a=>(List.mem_append.mp a).elim (λz=>I.pin p (bF _ z)) (h p),I.hok,I.len⟩
def FV{N:List Str}(c:N.Nodup){i j:Nat}{x:Str}(a:N[i]?=some x)(b:N[j]?=some x):i=j:=by
 obtain⟨f,d⟩:=List.getElem?_eq_some_iff.mp a;obtain⟨g,e⟩:=List.getElem?_eq_some_iff.mp b;exact(SU c).mp (d.trans e.symm)
theorem y9{M:Model}{A:cy}{E:ag->ak->Prop}{i:Nat}{x:Str}{v:V}{u:ag}{Q:Unit->ak->Prop}(I:cb X pins σ H s)(hN:X.N.Nodup)(U:X.N[i]?=some x)(t:T6 X.env.scope x)(r:eu v u)
  (h:∀s',cb X pins (σ.set i (some v)) H s'->(∃a,bX a s.heap s'.heap/\(a=X.env.locals\/X.env.cells.lookup x=some a))->Q () s') (hf:X.fn x=true\/X.env.scope.names.lookup x=some .local:=by first|exact .inl rfl|exact .inr rfl|assumption):aq M A (storeName X.env x u) Q E s:=by
 obtain⟨m,hn,hl⟩:=id I.loc;have S:(X.env.scope.kind == .class||(X.env.scope.kind == .module&&X.env.locals != X.env.globals))=false:=by rw[I.ok.kind];rfl
 have K:i<σ.length:=by rw[I.len];exact(List.getElem?_eq_some_iff.mp U).1
 have cne:=I.cne;have g:∀{a:ap}{h':cg},(∃o,s.heap.get? a=some o/\H a=none)->bX a s.heap h'->sC X.prog X.w H h':=λ{a h'} ha hs b ob e=>by
  obtain⟨_,_,B⟩:=ha;refine(I.hok b ob e).stay (λc w' l q=>(hs.2 c ?_).trans q) (λ_ q=>q) λ_ _ q=>q;rintro rfl;rcases l with rfl|l
  ·rw[B] at e;cases e
  ·rw[B] at l;cases l
 rcases t with hk|hk
 ·refine wpAny_storeName_local hk hn (λh' a3 hs=>?_) S;obtain⟨oL,_,_,a2,_⟩:=id hn;refine h _ ⟨I.ok,I.os,I.bare,⟨λb o e n O t=>?_,λb o e n O t=>?_,I.base.free,λb o e t=>?_,I.base.tups,I.base.frzs,I.base.tbls⟩,⟨_,a3,λj y v' f G e3=>?_⟩,λy c e=>?_,I.free,I.freeC,λp hp=>?_,g ⟨oL,a2,I.free⟩ hs,by simpa using I.len⟩ ⟨_,hs,.inl rfl⟩
  ·exact(hs.2 b (aL (aK (aw e) I.ok.above))).trans (I.base.keep b o e n O t)
  ·obtain⟨sl,f⟩:=I.base.slot b o e n O t;exact⟨sl,(hs.2 b (aL (aK (aw e) I.ok.above))).trans f⟩
  ·obtain⟨o',f⟩:=I.base.there b o e t;exact⟨o',(hs.2 b (aL (aK (aw e) I.ok.above))).trans f⟩
  ·by_cases P:j=i
   ·subst P;rw[U] at f;cases f;rw[aN K] at G;cases G;exact⟨u,r,.inl ⟨hk,by simp⟩⟩
   ·rw[ao (dm P)] at G;obtain⟨u',r',q⟩:=hl j y v' f G e3;refine⟨u',r',?_⟩;rcases q with⟨k,e⟩|⟨k,c,e,z⟩
    ·refine .inl ⟨k,?_⟩;have:y≠x:=λe=>P (FV hN f (e ▸ U))
     simp[this,e]
    ·exact .inr ⟨k,c,e,z.sameBut hs (cne y c e)⟩
  ·obtain⟨w',z⟩:=I.cell y c e;exact⟨w',z.sameBut hs (cne y c e)⟩
  ·obtain⟨e,n,ne,nf,d⟩:=I.pin p hp;exact⟨(hs.2 p.1 ne).trans e,n,ne,nf,d⟩
 ·have L:X.fn x=true:=by
   rcases hf with z|z
   ·exact z
   ·rw[z] at hk;cases hk
  obtain⟨c,l⟩:=I.ok.has x (.inl hk);obtain⟨w',z⟩:=I.cell x c l;refine wpAny_storeName_cell I.ok.kind hk l z (λh' a1 hs=>?_);obtain⟨oc,a0,Y⟩:=id z;refine h {s with heap:=h'} ⟨I.ok,I.os,I.bare,⟨λb o e n O t=>?_,λb o e n O t=>?_,I.base.free,λb o e t=>?_,I.base.tups,I.base.frzs,I.base.tbls⟩,⟨m,hn.sameBut hs (dm (cne x c l)),λj y v' f G e3=>?_⟩,λy c' e=>?_,I.free,I.freeC,λp hp=>?_,g ⟨oc,a0,I.freeC x c l⟩ hs,by simpa using I.len⟩ ⟨c,hs,.inr l⟩
  ·exact(hs.2 b (aL (aK (aw e) (I.ok.cab x c L l)))).trans (I.base.keep b o e n O t)
  ·obtain⟨sl,f⟩:=I.base.slot b o e n O t;exact⟨sl,(hs.2 b (aL (aK (aw e) (I.ok.cab x c L l)))).trans f⟩
  ·obtain⟨o',f⟩:=I.base.there b o e t;exact⟨o',(hs.2 b (aL (aK (aw e) (I.ok.cab x c L l)))).trans f⟩
  ·by_cases P:j=i
   ·subst P;rw[U] at f;cases f;rw[aN K] at G;cases G;exact⟨u,r,.inr ⟨.inl hk,c,l,a1⟩⟩
   ·rw[ao (dm P)] at G;obtain⟨u',r',q⟩:=hl j y v' f G e3;refine⟨u',r',?_⟩;rcases q with q|⟨k,c',e,z'⟩
    ·exact .inl q
    ·refine .inr ⟨k,c',e,z'.sameBut hs ?_⟩;rintro rfl;exact P (FV hN f (I.ok.inj _ _ _ e l ▸ U))
  ·by_cases T:c'=c
   ·subst T;exact⟨_,a1⟩
   ·obtain⟨w2,z2⟩:=I.cell y c' e;exact⟨w2,z2.sameBut hs T⟩
  ·obtain⟨e,n,ne,nf,d⟩:=I.pin p hp;refine⟨(hs.2 p.1 ?_).trans e,n,ne,nf,d⟩;intro q;rw[q,a0] at e;have q':oc=p.2:=cc e;exact d w' (by rw[<- q'];exact Y)
def sK(I:cb X pins σ H s)(a:X.N.Nodup)(d:X.N[i]?=some x)(c:T6 X.env.scope x)(r:eu v u)
  (h:∀s',cb X pins (σ.set i (some v)) H s'->Q () s') (e:X.fn x=true\/X.env.scope.names.lookup x=some .local:=by first|exact .inl rfl|exact .inr rfl|assumption):aq M A (storeName X.env x u) Q E s:=
 y9 I a d c r (λs' b _=>h s' b) e
theorem cb.call'(I:cb X pins σ H s)(ho:s'.os=s.os)(u:Un (B_ X.stack) ch H H' s.heap s'.heap)(d:sC X.prog X.w H' s'.heap)(f:su s'.gens)
  (a:∀b∈ch,(b∈X.ex\/X.s₀.heap.objs.size<=b)/\b≠X.env.locals/\(∀x c,X.env.cells.lookup x=some c->c≠b)/\∀p∈X.pn++pins,p.1≠b):cb X pins σ H' s':=by
 obtain⟨h',g',d',t',o'⟩:=s';have e:o'=s.os:=ho;subst e;exact I.call (g':=g') (t':=t') (d':=d') u d f a
end
abbrev XK:=ag->Option ap->Hp->Prop
abbrev St:=List (Option V)
abbrev VK:=V->Hp->Prop
abbrev TE:=St->Hp->VK->Prop
abbrev TT:=St->Hp->(Bool->Hp->Prop)->Prop
abbrev TA:=St->Hp->(List V->Hp->Prop)->Prop
structure FW where
 nx:St->Hp->Prop
 rt:VK
 bk:St->Hp->Prop:=λ_ _=>False
 ct:St->Hp->Prop:=λ_ _=>False
abbrev TS:=FW->St->Hp->Prop
inductive EP (X:Cx) (pins:List (ap×Obj)) (σ:St) (Q:VK) (u:ag) (s':ak):Prop
 |mk (v H':_) (h0:cb X pins σ H' s') (h1:eu v u) (h2:Q v H'):EP X pins σ Q u s'
inductive TP (X:Cx) (pins:List (ap×Obj)) (σ:St) (Q:Bool->Hp->Prop) (b:Bool) (s':ak):Prop
 |mk (H':_) (h0:cb X pins σ H' s') (h1:Q b H'):TP X pins σ Q b s'
inductive AP (X:Cx) (pins:List (ap×Obj)) (σ:St) (Q:List V->Hp->Prop) (us:List ag) (s':ak):Prop
 |mk (vs H':_) (h0:cb X pins σ H' s') (h1:eE vs us) (h2:Q vs H'):AP X pins σ Q us s'
inductive SN (X:Cx) (pins:List (ap×Obj)) (k:St->Hp->Prop) (s':ak):Prop
 |mk (σ':St) (H':Hp) (I:cb X pins σ' H' s') (q:k σ' H'):SN X pins k s'
inductive SV (X:Cx) (pins:List (ap×Obj)) (k:V->Hp->Prop) (u:ag) (s':ak):Prop
 |mk (v:V) (σ':St) (H':Hp) (I:cb X pins σ' H' s') (r:eu v u) (q:k v H'):SV X pins k u s'
def SP(X:Cx)(a:List (ap×Obj))(D:FW)(f:Flow)(s':ak):Prop:=
 match f with
 |.next=>SN X a D.nx s'
 |.brk=>SN X a D.bk s'
 |.cont=>SN X a D.ct s'
 |.ret u=>SV X a D.rt u s'
def PE(X:Cx)(e:bj)(t:TE):Prop:=
 ∀(a:List (ap×Obj)) (s:ak) (b:St) (H:Hp) (Q:VK),cb X a b H s->t b H Q->aq (ax X.prog X.w) X.A (eI e X.env) (EP X a b Q) X.xe s
def PT(X:Cx)(e:bj)(t:TT):Prop:=
 ∀(a:List (ap×Obj)) (s:ak) (b:St) (H:Hp) (Q:Bool->Hp->Prop),cb X a b H s->t b H Q->aq (ax X.prog X.w) X.A (xT e X.env (eI e X.env)) (TP X a b Q) X.xe s
def PW(X:Cx)(e:bj)(t:TT):Prop:=
 ∀(b:Sem ag) (a:List (ap×Obj)) (s:ak) (c:St) (H:Hp) (Q:Bool->Hp->Prop),cb X a c H s->t c H Q->aq (ax X.prog X.w) X.A (xT e X.env b) (TP X a c Q) X.xe s
def PW.pt(h:PW X e t):PT X e t:=h _
def PA(X:Cx)(es:List bj)(t:TA):Prop:=
 ∀(c:Pos) (a:List (ap×Obj)) (s:ak) (b:St) (H:Hp) (Q:List V->Hp->Prop),cb X a b H s->t b H Q->aq (ax X.prog X.w) X.A (spliced (iz c (aP es X.env))) (AP X a b Q) X.xe s
def PS(X:Cx)(st:dZ)(t:TS):Prop:=
 ∀(a:List (ap×Obj)) (s:ak) (b:St) (H:Hp) (D:FW),cb X a b H s->t D b H->aq (ax X.prog X.w) X.A (exec st X.env) (SP X a D) X.xe s
def L7(X:Cx)(st:List dZ)(t:TS):Prop:=
 ∀(a:List (ap×Obj)) (s:ak) (b:St) (H:Hp) (D:FW),cb X a b H s->t D b H->aq (ax X.prog X.w) X.A (execs st X.env) (SP X a D) X.xe s
def fW{c:Type}{t:Sem c}{Q b:c->ak->Prop}{M:Model}{A:cy}{E:ag->ak->Prop}{s:ak}(h:aq M A t Q E s)(d:∀a s,Q a s->b a s):aq M A t b E s:=bx h d λ_ _ x=>x
end L2
namespace L2
open PySem PySem.Spec PyProof.Rows
section
variable{X:Cx}
inductive VR (i:Nat) (σ:St) (H:Hp) (Q:VK):Prop
 |mk (v:_) (h0:σ[i]?=some (some v)) (h1:Q v H):VR i σ H Q
def X5(i:Nat):TE:=VR i
def tC(v:V):TE:=λ_ H Q=>Q v H
def r9(f:X.N[i]?=some x)(o:OR X.env.scope x)(d:(x==("__debug__" : Str))=false:=by decide)(b:(x==("__classdict__" : Str))=false:=by decide):PE X (.Name x pos) (X5 i):=by
 intro a s j H Q I h;obtain⟨v,e,h⟩:=h;obtain⟨m,n,g⟩:=I.loc;obtain⟨u,r,l⟩:=g i x v f e o;have fin:EP X a j Q u s:=⟨v,H,I,r,h⟩;rcases l with⟨hk,k⟩|⟨hk,c,hc,hcell⟩
 ·exact wpAny_Name (Ta I.ok.kind hk n k fin) d
 ·rcases hk with hk|hk
  ·exact wpAny_Name (wpAny_loadName_cell I.ok.kind hk hc hcell fin) d
  ·exact wpAny_Name (wpAny_loadName_free I.ok.kind hk hc hcell fin b) d
def X6{i j pos}:PE X (.Constant (.int i) j pos) (tC (.int i)):=λ_ _ _ H _ I h=>wpAny_Constant_int ⟨.int i,H,I.tok _,⟨_,rfl⟩,h⟩
def Z4{b j pos}:PE X (.Constant (.bool b) j pos) (tC (.bl b)):=λ_ _ _ H _ I h=>Constant_bool ⟨.bl b,H,I,rfl,h⟩
def X7{j pos}:PE X (.Constant .none j pos) (tC .non):=λ_ _ _ H _ I h=>Constant_none ⟨.non,H,I,rfl,h⟩
def X8{x j pos}:PE X (.Constant (.str x) j pos) (tC (.str x)):=λ_ _ _ H _ I h=>Calls.Constant_str ⟨.str x,H,I.tok _,⟨_,rfl⟩,h⟩
def Gl(X:Cx)(x:Str):Prop:=X.env.kindOf x=some .globalImplicit
def L8(I:cb X pins σ H s)(b:Gl X x)(a:X.mg x=some u)(h:Q u s)
  (c:(x==("__debug__" : Str))=false:=by decide):aq (ax X.prog X.w) X.A (eI (.Name x pos) X.env) Q E s:=
 C3 I.ok.kind b (Calls.loadGlobal_global (by rw[I.ok.glob];exact I.mod.glob.keeps I.bk) a h) c
def vv(I:cb X pins σ H s)(e:Gl X x)(b:X.mg x=none)(d:jq x=some u)(h:Q u s)
  (c:x≠"__name__":=by decide) (f:(x==("__debug__" : Str))=false:=by decide):aq (ax X.prog X.w) X.A (eI (.Name x pos) X.env) Q E s:=by
 obtain⟨i,a,g⟩:=I.mod.blt;exact C3 I.ok.kind e (Calls.loadGlobal_builtin (by rw[I.ok.glob];exact I.mod.glob.keeps I.bk) b (by rw[I.ok.blt];exact a.keeps I.bk) ((g x c).trans d) h) f
def TK(b:Gl X x)(a:X.mg x=some u)(r:eu v u)(c:(x==("__debug__" : Str))=false:=by decide):PE X (.Name x pos) (tC v):=
 λ_ _ _ H _ I h=>L8 I b a ⟨v,H,I,r,h⟩ c
def TL(d:Gl X x)(a:X.mg x=none)(c:jq x=some u)(r:eu v u)(b:x≠"__name__":=by decide)(e:(x==("__debug__" : Str))=false:=by decide):PE X (.Name x pos) (tC v):=
 λ_ _ _ H _ I h=>vv I d a c ⟨v,H,I,r,h⟩ b e
variable{a b:bj}{ta tb:TE}{pos:Pos}
def PC(X:Cx)(op:CmpOp)(a b:bj)(t:TE):Prop:=
 ∀(c:List (ap×Obj)) (s:ak) (f:St) (H:Hp) (Q:VK),cb X c f H s->t f H Q ->
  aq (ax X.prog X.w) X.A (eI a X.env) (λv d=>aq (ax X.prog X.w) X.A (eI b X.env) (λu e=>aq (ax X.prog X.w) X.A (bG op v u) (EP X c f Q) X.xe e) X.xe d) X.xe s
def Ph(b:bj)(h:op≠.In)(c:op≠.NotIn):iM op b=false:=by
 have e:(op==CmpOp.In)=false:=by cases op<;>first|rfl|exact absurd rfl h
 have d:(op==CmpOp.NotIn)=false:=by cases op<;>first|rfl|exact absurd rfl c
 cases b<;>simp[iM,e,d]
def tB(t:TE):TT:=λd H Q=>t d H λx e=>∃c,x=.bl c/\Q c e
def q0W(h:PC X op a b t)(f:iM op b=false:=by first|exact Ph _ ⋯ ⋯|rfl):PT X (.Compare a [op] [b] pos) (tB t):=by
 intro e s i H Q I k;refine SW (fW (h e s i H _ I k) λv s1 f=>fW f λu p m=>fW m λc o ⟨x,g,n,l,j⟩=>?_) f;obtain⟨d,rfl,q⟩:=j;cases l;exact dA ⟨g,n,q⟩
def X9(h:PE X e t)(he:∀c,xT e X.env c=(do let v <- c;mv e.pos;ID [v] (truthy v)):=by intro _;rfl):PT X e (tB t):=by
 intro f s i H Q I k;refine isTrue_plain (fW (h f s i H _ I k) λv s1 ⟨x,g,m,l,j⟩=>?_) (he _);obtain⟨d,rfl,q⟩:=j;cases l;exact dA ⟨g,m,q⟩
variable{tA tB':TT}{bu:List bj}
def q0X(t u:TT):TT:=λd H Q=>t d H λc e=>if c=true then u d e Q else Q false e
def tOr(t u:TT):TT:=λd H Q=>t d H λc e=>if c=true then Q true e else u d e Q
def q0Y(t:TT):TT:=λd H Q=>t d H λc e=>Q (!c) e
def TM(f:PT X a tA):PW X (.BoolOp .And [a] pos) tA:=by
 intro i d s g H Q I h;refine isTrue_and (fW (f d s g H Q I h) λc s1 e=>?_);cases c with
 |true=>exact isTrue_and_nil e
 |false=>exact e
def Xa(f:PT X a tA):PW X (.BoolOp .Or [a] pos) tA:=by
 intro i d s g H Q I h;refine isTrue_or (fW (f d s g H Q I h) λc s1 e=>?_);cases c with
 |false=>exact isTrue_or_nil e
 |true=>exact e
def Xb(j:PT X a tA)(l:PW X (.BoolOp .And (b::bu) pos) tB'):PW X (.BoolOp .And (a::b::bu) pos) (q0X tA tB'):=by
 intro k d s e H Q I h;refine isTrue_and (fW (j d s e H _ I h) λc s1 ⟨f,i,g⟩=>?_);cases c with
 |true=>exact l k d s1 e f Q i g
 |false=>exact⟨f,i,g⟩
def Z5(j:PT X a tA)(l:PW X (.BoolOp .Or (b::bu) pos) tB'):PW X (.BoolOp .Or (a::b::bu) pos) (tOr tA tB'):=by
 intro k d s e H Q I h;refine isTrue_or (fW (j d s e H _ I h) λc s1 ⟨f,i,g⟩=>?_);cases c with
 |true=>exact⟨f,i,g⟩
 |false=>exact l k d s1 e f Q i g
theorem Xc(e:PT X a tA):PT X (.UnaryOp .Not a pos) (q0Y tA):=by
 intro d s f H Q I h;exact isTrue_not (fW (e d s f H (λc g=>Q (!c) g) I h) λ_ _ x=>by obtain⟨a,b,c⟩:=x;exact⟨a,b,c⟩)
def Z6(ta tb:TE):TE:=λd H Q=>ta d H λx e=>∃c,x=.bl c/\if c=true then tb d e Q else Q (.bl false) e
def Z7(ta:TE):TE:=λd H Q=>ta d H λx e=>∃c,x=.bl c/\Q (.bl (!c)) e
def Xd{op}(h:PE X a t):PE X (.BoolOp op [a] pos) t:=λc s d H Q I e=>BoolOp_one (h c s d H Q I e)
def Xe(k:PE X a ta)(l:PE X (.BoolOp .And (b::bu) pos) tb):PE X (.BoolOp .And (a::b::bu) pos) (Z6 ta tb):=by
 intro d s g H Q I h;refine BoolOp_and (fW (k d s g H _ I h) λv s1 ⟨x,f,i,j,e⟩=>?_);obtain⟨c,rfl,e⟩:=e;cases j;refine dA ?_;cases c with
 |true=>exact l d s1 g f Q i e
 |false=>exact⟨.bl false,f,i,rfl,e⟩
def Xf(f:PE X a ta):PE X (.UnaryOp .Not a pos) (Z7 ta):=by
 intro d s g H Q I h;refine UnaryOp_ (fW (f d s g H _ I h) λv s1 ⟨x,i,j,k,e⟩=>?_);obtain⟨c,rfl,e⟩:=e;cases k;exact not_of (dA ⟨.bl (!c),i,j,rfl,e⟩)
def tIf(t:TT)(ta tb:TE):TE:=λd H Q=>t d H λc e=>if c=true then ta d e Q else tb d e Q
def Pi(l:PT X c tA)(k:PE X a ta)(m:PE X b tb):PE X (.IfExp c a b pos) (tIf tA ta tb):=by
 intro e s f H Q I h;refine wpAny_IfExp (fW (l e s f H _ I h) λd s1 ⟨g,j,i⟩=>?_);cases d with
 |true=>exact k e s1 f g Q j i
 |false=>exact m e s1 f g Q j i
end
end L2
namespace L2
open PySem PySem.Spec PyProof.Rows
inductive KqL (K:a8) (a:ap) (xs:List V):Prop
 |mk (o:Obj) (its:Array ag) (n:Nat) (h0:K.lookup a=some o) (h1:o.cls=.type "list") (h2:o.dict=none) (h3:o.data=.seq its n) (h4:its.size<=sizeLine) (h5:eE xs its.toList):KqL K a xs
def qy(K:a8)(H:Hp)(a:ap)(xs:List V):Prop:=
 Rd H a (.lst xs)\/KqL K a xs
inductive KqT (K:a8) (a:ap) (xs:List V):Prop
 |mk (o:Obj) (its:Array ag) (n:Nat) (h0:K.lookup a=some o) (h1:o.cls=.type "tuple") (h3:o.data=.seq its n) (h4:its.size<=sizeLine) (h5:eE xs its.toList):KqT K a xs
def m8(K:a8)(H:Hp)(a:ap)(xs:List V):Prop:=
 Rd H a (.tup xs)\/KqT K a xs
def q0Z:ag->Option V
 |.none=>some .non
 |.bool b=>some (.bl b)
 |.int i _=>some (.int i)
 |.str x _=>some (.str x)
 |.bytes b _=>some (.byt b)
 |.float b _=>some (.flt b)
 |.ref a=>some (.ref a)
 |.type n=>some (.ty n)
 |_=>none
def eu.abs(r:eu x u):q0Z u=some x:=by
 cases x with
 |non=>cases r;rfl
 |bl _=>cases r;rfl
 |int _=>obtain⟨t,rfl⟩:=r;rfl
 |str _=>obtain⟨t,rfl⟩:=r;rfl
 |byt _=>obtain⟨t,rfl⟩:=r;rfl
 |flt _=>obtain⟨t,rfl⟩:=r;rfl
 |ref _=>cases r;rfl
 |ty _=>cases r;rfl
def eu.inj(r:eu x u)(q:eu y u):x=y:=cc (r.abs.symm.trans q.abs)
def eE.inj(h:eE xs us):∀{ys:List V},eE ys us->xs=ys:=by
 induction h with
 |nil=>intro ys k;cases k;rfl
 |cons r t a=>intro ys k;cases k with|cons b t'=>rw[r.inj b,a t']
def qy.of{K:a8}(h:H a=some (.lst xs)):qy K H a xs:=.inl (.inl h)
def m8.of{K:a8}(h:H a=some (.tup xs)):m8 K H a xs:=.inl (.inl h)
inductive InL (h:cg) (a:ap) (xs:List V):Prop
 |mk (its:List ag) (r:eE xs its) (p:PlainL h a its.toArray) (z:xs.length<=sizeLine):InL h a xs
inductive InT (h:cg) (a:ap) (xs:List V):Prop
 |mk (its:List ag) (r:eE xs its) (p:IsTup h a its.toArray) (z:xs.length<=sizeLine):InT h a xs
inductive InM (h:cg) (l:ap) (xs:List V):Prop
 |mk (z:xs.length<=sizeLine) (its:List ag) (n:Nat) (r:eE xs its) (hl:xs.length=its.length) (e:h.get? l=some {cls:=.type "list",data:=.seq its.toArray n}):InM h l xs
def cb.list(I:cb X pins σ H s)(h:qy X.K H a xs):InL s.heap a xs:=by
 rcases h with h|⟨o,b,n,hk,hc,hd,hs,hz,r⟩
 ·obtain⟨z,b,n,r,e⟩:=h.ok I.hok;exact⟨b,r,⟨_,n,e,rfl,rfl,rfl⟩,z⟩
 ·refine⟨b.toList,r,⟨o,n,I.kIn a o hk,hc,hd,by simpa using hs⟩,?_⟩;have e:=r.length;simp only[au] at e;omega
def cb.tuple(I:cb X pins σ H s)(h:m8 X.K H a xs):InT s.heap a xs:=by
 rcases h with h|⟨o,b,n,hk,hc,hs,hz,r⟩
 ·obtain⟨z,b,r,p⟩:=h.ok I.hok;exact⟨b,r,p,z⟩
 ·refine⟨b.toList,r,⟨o,I.kIn a o hk,hc,n,by simpa using hs⟩,?_⟩;have e:=r.length;simp only[au] at e;omega
def cb.list_inj(I:cb X pins σ H s)(h:qy X.K H a xs)(h':qy X.K H a ys):xs=ys:=by
 obtain⟨b,r,⟨o,n,e,_,_,d⟩,_⟩:=I.list h;obtain⟨its',f,⟨o',i,c,_,_,d'⟩,_⟩:=I.list h';rw[e] at c;cases c;rw[d] at d';injection d' with g _;have:b=its':=by simpa using congrArg Array.toList g
 subst this;exact r.inj f
def cb.tuple_inj(I:cb X pins σ H s)(h:m8 X.K H a xs)(h':m8 X.K H a ys):xs=ys:=by
 obtain⟨b,r,⟨o,e,_,n,d⟩,_⟩:=I.tuple h;obtain⟨its',f,⟨o',c,_,i,d'⟩,_⟩:=I.tuple h';rw[e] at c;cases c;rw[d] at d';injection d' with g _;have:b=its':=by simpa using congrArg Array.toList g
 subst this;exact r.inj f
abbrev Cx.wish(X:Cx)(E:ag->ak->Prop):Cx:={X with xe:=E}
abbrev Cx.nox(X:Cx):Cx:=X.wish λ_ _=>False
def Cx.Ok.wish{X:Cx}(ok:X.Ok)(E:ag->ak->Prop):(X.wish E).Ok:=
 ⟨ok.mod,ok.kind,ok.glob,ok.blt,ok.above,ok.inj,ok.has,ok.cab,ok.hd,ok.frames,ok.stk,ok.exf,ok.bs,ok.bsz,ok.noex,ok.exfs,ok.funs,ok.frf⟩
def Cx.Ok.unwish{X:Cx}{E:ag->ak->Prop}(ok:(X.wish E).Ok):X.Ok:=
 ⟨ok.mod,ok.kind,ok.glob,ok.blt,ok.above,ok.inj,ok.has,ok.cab,ok.hd,ok.frames,ok.stk,ok.exf,ok.bs,ok.bsz,ok.noex,ok.exfs,ok.funs,ok.frf⟩
def cb.wish(I:cb X pins σ H s)(E:ag->ak->Prop):cb (X.wish E) pins σ H s:=⟨I.ok.wish E,I.os,I.bare,I.base,I.loc,I.cell,I.free,I.freeC,I.pin,I.hok,I.len⟩
def cb.unwish(I:cb (X.wish E) pins σ H s):cb X pins σ H s:=⟨I.ok.unwish,I.os,I.bare,I.base,I.loc,I.cell,I.free,I.freeC,I.pin,I.hok,I.len⟩
def SP.unwish(h:SP (X.wish E) pins D f s'):SP X pins D f s':=by
 cases f with
 |next=>obtain⟨σ',H',I,q⟩:=h;exact⟨σ',H',I.unwish,q⟩
 |brk=>obtain⟨σ',H',I,q⟩:=h;exact⟨σ',H',I.unwish,q⟩
 |cont=>obtain⟨σ',H',I,q⟩:=h;exact⟨σ',H',I.unwish,q⟩
 |ret u=>obtain⟨v,σ',H',I,r,q⟩:=h;exact⟨v,σ',H',I.unwish,r,q⟩
section
variable{X:Cx}{st:dZ}{bu:List dZ}{t u:TS}{e:bj}{te:TE}{pos:Pos}
def Z8:TS:=λD a H=>D.nx a H
def q10(t u:TS):TS:=λD a H=>t {D with nx:=u D} a H
def TQ:L7 X [] Z8:=λ_ _ a H _ I h=>wq ⟨a,H,I,h⟩
def sL(b:PS X st t)(g:L7 X bu u):L7 X (st::bu) (q10 t u):=by
 intro a s d H D I h;refine wpAny_execs_cons (fW (b a s d H {D with nx:=u D} I h) λf s1 q=>?_);cases f with
 |next=>
  obtain⟨σ',H',c,q⟩:=q;exact g a s1 σ' H' D c q
 |ret v=>exact q
 |brk=>exact q
 |cont=>exact q
def TU(b:PS X st t):L7 X [st] t:=by
 intro a s c H D I h;refine wpAny_execs_cons (fW (b a s c H D I h) λf s1 q=>?_);cases f with
 |next=>exact wq q
 |ret v=>exact q
 |brk=>exact q
 |cont=>exact q
def cb.quiet(I:cb X pins σ H s):interactive X.env=false:=by simp[interactive,I.ok.kind]
def Z9(te:TE):TS:=λD a H=>te a H λ_ b=>D.nx a b
def Ea(he:PE X e te)(hs:hX e none pos.line X.env=pure false:=by rfl):PS X (.Expr e pos) (Z9 te):=by
 intro a s c H D I h;exact wpAny_Expr_any (fW (he a s c H _ I h) λv s1 b=>by obtain⟨x,d,g,i,f⟩:=b;exact⟨c,d,g,f⟩) I.quiet hs
def q11(te:TE):TS:=λD a H=>te a H D.rt
def Xg(he:PE X e te):PS X (.Return (some e) pos) (q11 te):=by
 intro a s c H D I h;exact wpAny_Return_some (fW (he a s c H _ I h) λv s1 b=>by obtain⟨x,d,g,i,f⟩:=b;exact⟨x,c,d,g,i,f⟩)
def q12(c:TT)(t u:TS):TS:=λD a H=>c a H λb d=>if b=true then t D a d else u D a d
def Za(m:PT X c tc)(l:L7 X a t)(n:L7 X b u):PS X (.If c a b pos) (q12 tc t u):=by
 intro f s g H D I h;refine wpAny_If (fW (m f s g H _ I h) λd s1 ⟨i,k,j⟩=>?_);cases d with
 |true=>exact l f s1 g i D k j
 |false=>exact n f s1 g i D k j
def Xh:TS:=λ_ _ _=>False
def u6:L7 X sts Xh:=λ_ _ _ _ _ _ h=>h.elim
end
abbrev TG:=V->St->Hp->(St->Hp->Prop)->Prop
abbrev TV:=List V->St->Hp->(St->Hp->Prop)->Prop
def PG(X:Cx)(a:bj)(t:TG):Prop:=
 ∀(b:List (ap×Obj)) (s:ak) (c:St) (H:Hp) (v:V) (u:ag) (Q:St->Hp->Prop),cb X b c H s->eu v u->t v c H Q ->
  aq (ax X.prog X.w) X.A (mw a X.env u) (λ_ s'=>SN X b Q s') X.xe s
def VS(X:Cx)(e:List bj)(t:TV):Prop:=
 ∀(a:List (ap×Obj)) (s:ak) (c:St) (H:Hp) (d:List V) (b:List ag) (Q:St->Hp->Prop),cb X a c H s->eE d b->t d c H Q ->
  aq (ax X.prog X.w) X.A (MF ((jr e X.env).map (·.2)) b) (λ_ s'=>SN X a Q s') X.xe s
abbrev TIp:=V->V->Hp->VK->Prop
def PIp(X:Cx)(op:Operator)(t:TIp):Prop:=
 ∀(a:List (ap×Obj)) (s:ak) (b:St) (H:Hp) (x y:V) (v u:ag) (Q:VK),cb X a b H s->eu x v->eu y u->t x y H Q ->
  aq (ax X.prog X.w) X.A (inplaceOp op v u) (EP X a b Q) X.xe s
def mK(i:Nat):TG:=λv a H Q=>Q (a.set i (some v)) H
def bU(b:X.N.Nodup)(e:X.N[i]?=some x)(d:T6 X.env.scope x)(f:X.fn x=true\/X.env.scope.names.lookup x=some .local:=by first|exact .inl rfl|exact .inr rfl|assumption):PG X (.Name x pos) (mK i):=by
 intro a s g H v u Q I r h;exact C4 (sK I b e d r (λs' c=>⟨_,H,c,h⟩) f)
def aH:TV:=λb a H Q=>b=[]/\Q a H
inductive Pj (t:TG) (u:TV) (vs:List V) (σ:St) (H:Hp) (Q:St->Hp->Prop):Prop
 |mk (v r:_) (h0:vs=v::r) (h1:t v σ H λσ' H'=>u r σ' H' Q):Pj t u vs σ H Q
def aa(t:TG)(u:TV):TV:=Pj t u
def wD:VS X [] aH:=by
 intro a s b H d c Q I r h;obtain⟨e,h⟩:=h;subst e;cases r;exact assignInOrder_nil ⟨b,H,I,h⟩
def kH(c:PG X e t)(k:VS X es u)
  (hs:(jr (e::es) X.env).map (·.2)=mw e X.env::(jr es X.env).map (·.2):=by rfl):VS X (e::es) (aa t u):=by
 intro a s f H o n Q I r h;obtain⟨v,m,j,h⟩:=h;subst j;cases r with
 |cons r g=>
  rw[hs];refine Ac (fW (c a s f H _ _ _ I r h) λ_ s1 ⟨b,d,l,i⟩=>?_);exact k a s1 b d _ _ Q l g i
inductive VT (K:a8) (n:Nat) (t:TV) (v:V) (σ:St) (H:Hp) (Q:St->Hp->Prop):Prop
 |mk (a xs:_) (h0:v=.ref a) (h1:m8 K H a xs) (h2:xs.length=n) (h3:t xs σ H Q):VT K n t v σ H Q
def Xi(K:a8)(n:Nat)(t:TV):TG:=VT K n t
def Aj(m:X.calm=true)(h:VS X es t)
  (w:(jr es X.env).length=n:=by rfl) (d:(jr es X.env).findIdx? (·.1)=none:=by rfl):PG X (.Tuple es k pos) (Xi X.K n t):=by
 intro c s g H v u Q I r f;obtain⟨a,xs,x,p,l,f⟩:=f;subst x;cases r;obtain⟨q,i,j,A⟩:=I.tuple p;refine assign_Tuple_tuple (I.ok.hd m) j (by simp[w,<- l,i.length]) d λh' y=>?_;have z:cb X c g H {s with heap:=h'}:=I.kept (t':=s.toks) λb o e=>y b o (aL (aw e)) e;exact h c _ g H xs _ Q z (by simpa using i) f
def Zb(b:TE)(g:TG):TS:=λD a H=>b a H λx c=>g x a c D.nx
def Pk(he:PE X e te)(l:PG X tg g)(hs:zO [tg] e pos.line X.env=pure false:=by rfl)(i:zP [tg] e X.env=pure none:=by rfl)
  (c:(jr [tg] X.env).map (·.2)=[mw tg X.env]:=by rfl):PS X (.Assign [tg] e pos) (Zb te g):=by
 intro a s b H D I h;refine wpAny_Assign_stores (fW (he a s b H _ I h) λv s1 ⟨x,d,k,j,f⟩=>?_) hs i;rw[c];exact fW (l a s1 b d x v _ k j f) λ_ m q=>q
def Ji(b:X.N.Nodup)(j:X.N[i]?=some x)(m:T6 X.env.scope x)(he:PE X e te)(hs:hX e (some (.Name x pos')) pos.line X.env=pure false:=by rfl)(g:X.fn x=true\/X.env.scope.names.lookup x=some .local:=by first|exact .inl rfl|exact .inr rfl|assumption):
  PS X (.Assign [.Name x pos'] e pos) (Zb te (mK i)):=by
 intro a s d H D I h;refine wpAny_Assign_Name (fW (he a s d H _ I h) λv s1 ⟨y,c,n,l,f⟩=>?_) hs;exact sK n b j m l (λo k=>⟨_,c,k,f⟩) g
def q13(i j:Nat)(c:TA):TS:=λD a H=>c a H λd b=>∃v w,d=[v,w]/\D.nx ((a.set i (some v)).set j (some w)) b
def Xj{kt k2 pt2}(K:X.calm=true)(n:X.N.Nodup)(M:X.N[i]?=some x)(hj:X.N[j]?=some y)(k:i≠j)
  (E:X.env.scope.names.lookup x=some .local) (t:X.env.scope.names.lookup y=some .local) (L:PA X [a,b] ta)
  (O:zP [.Tuple [.Name x px,.Name y py] kt pt] (.Tuple [a,b] k2 pt2) X.env=pure (some [x,y]))
  (hs:zO [.Tuple [.Name x px,.Name y py] kt pt] (.Tuple [a,b] k2 pt2) pos.line X.env=pure false:=by rfl):
  PS X (.Assign [.Tuple [.Name x px,.Name y py] kt pt] (.Tuple [a,b] k2 pt2) pos) (q13 i j ta):=by
 intro c s z H D I h;rw[exec_Assign_arm];refine a7 (dY ?_);rw[hs];refine a7 (a9 ?_);rw[if_neg ⋯];refine a7 (Tuple_ (fW (L _ c s z H _ I h) λY s1 ⟨vs,u,I1,S,l⟩=>?_));obtain⟨v,w,Q,l⟩:=l;subst Q;obtain⟨f,d,rfl,U,m⟩:∃f d,Y=[f,d]/\eu v f/\eu w d:=by
  cases S with
  |cons p q=>
   cases q with
   |cons T q'=>
    cases q';exact⟨_,_,rfl,p,T⟩
 refine bz ?_ (by show 2<=sizeLine;decide);have P:cb X c z u {s1 with heap:=s1.heap.push {cls:=.type "tuple",data:=.seq [f,d].toArray}}:=I1.kept (t':=s1.toks) λb o e=>ae _ e;rw[O];refine a7 (a9 ?_);show aq (ax X.prog X.w) X.A (do rule "assign.swapped-stores";let items <- unpackItems (.ref s1.heap.objs.size) 2 none;MF [λv=>Tb X.env y v,λv=>Tb X.env x v] items.reverse;pure Flow.next) _ _ _;refine a7 (cK (a7 (unpackItems_tuple (items:=#[f,d]) (I.ok.hd K) (zo s1.heap _) λh' g=>?_)));have G:=P.kept (h':=h') (t':=s1.toks) λb o e=>g b o (aL (aw e)) e;show aq _ _ (MF [λv=>Tb X.env y v,λv=>Tb X.env x v] [d,f]>>=λ_=>pure Flow.next) _ _ _;refine a7 (Ac (wpAny_bindName (sK G n hj (.inl t) m (λs2 I4=>?_) (.inr t))));refine Ac (wpAny_bindName (sK I4 n M (.inl E) U (λs3 B=>assignInOrder_nil (a9 ?_)) (.inr E)));rw[List.set_comm _ _ (dm k)] at B;exact⟨_,u,B,l⟩
def q14(i:Nat)(b:TE)(e:TIp):TS:=λD a H=>∃x,a[i]?=some (some x)/\b a H λy d=>e x y d λz c=>D.nx (a.set i (some z)) c
def Xk(t:X.N.Nodup)(p:X.N[i]?=some x)(n:T6 X.env.scope x)(he:PE X e te)(ho:PIp X op ti)(L:X.fn x=true\/X.env.scope.names.lookup x=some .local:=by first|exact .inl rfl|exact .inr rfl|assumption):
  PS X (.AugAssign (.Name x pos') op e pos) (q14 i te ti):=by
 intro a s o H D I h;obtain⟨v,S,h⟩:=h;obtain⟨m,P,E⟩:=I.loc;have j:OR X.env.scope x:=by rcases n with k|k;exact .inl k;exact .inr (.inl k)
 obtain⟨u,r,l⟩:=E i x v p S j;refine wpAny_AugAssign_Name ?_;have q:aq (ax X.prog X.w) X.A (eI e X.env) (λw b=>aq (ax X.prog X.w) X.A (inplaceOp op u w) (λr f=>aq (ax X.prog X.w) X.A (storeName X.env x r) (λ_=>SP X a D .next) X.xe f) X.xe b) X.xe s:=by
  refine fW (he a s o H _ I h) λw s1 g=>?_;obtain⟨y,B,I1,T,K⟩:=g;refine fW (ho a s1 o B v y u w _ I1 r T K) λz s2 d=>?_;obtain⟨zv,Q,O,Y,U⟩:=d;exact sK O t p n Y (λs3 G=>⟨_,Q,G,U⟩) L
 rcases l with⟨hk,M⟩|⟨hk,c,hc,hcell⟩
 ·exact Ta I.ok.kind hk P M q
 ·rcases hk with hk|hk
  ·exact wpAny_loadName_cell I.ok.kind hk hc hcell q
  ·rcases n with k|k
   ·have:X.env.scope.names.lookup x=some .free:=hk
    rw[k] at this;cases this
   ·have:X.env.scope.names.lookup x=some .free:=hk
    rw[k] at this;cases this
def ipI(f:Int->Int->Int):TIp:=λx y H Q=>∃i j,x=.int i/\y=.int j/\Q (.int (f i j)) H
def Xl:PIp X .Add (ipI λi j=>i+j):=by
 intro a s f H x y v u Q I c d h;obtain⟨i,j,b,e,q⟩:=h;subst b;subst e;obtain⟨t,rfl⟩:=c;obtain⟨t',rfl⟩:=d;exact iadd_int ⟨.int _,H,I.tok _,⟨_,rfl⟩,q⟩
def Xm(c:TT)(tb:TS):TS:=λD a H=>∃W:Nat->St->Hp->Prop,(∃m,W m a H)/\∀m a H,W m a H ->
 c a H λb d=>if b=true then ∃N:St->Hp->Prop,(∀ σ' H',N σ' H'->∃e,e<m/\W e σ' H')/\tb {D with nx:=N,ct:=N,bk:=D.nx} a d else D.nx a d
def Pl(z:PassesOwn (ax X.prog X.w) X.A X.env X.xe)(K:PT X c tc)(M:L7 X body tb):PS X (.While c body [] pos) (Xm tc tb):=by
 intro d s L H D I h;obtain⟨W,⟨G,E⟩,g⟩:=h;refine wpAny_While (codeAny_whileLoop (λn s'=>∃ σ' H',cb X d σ' H' s'/\W n σ' H') ?_ G ⟨L,H,I,E⟩);rintro n s1 ⟨e,u,P,B⟩;refine jz z (fW (K d s1 e u _ P (g n e u B)) λb O ⟨y,x,j⟩=>?_);cases b with
 |true=>
  obtain⟨N,t,j⟩:=j;rw[if_pos rfl];refine jz z (fW (M d O e y _ x j) λf Q k=>?_);cases f with
  |next=>
   obtain⟨a,i,l,p⟩:=k;obtain⟨m,o,q⟩:=t a i p;exact⟨m,o,a,i,l,q⟩
  |cont=>
   obtain⟨a,i,l,p⟩:=k;obtain⟨m,o,q⟩:=t a i p;exact⟨m,o,a,i,l,q⟩
  |brk=>exact k
  |ret v=>exact k
 |false=>
  rw[if_neg ba];exact wq ⟨e,y,x,j⟩
structure It where
 go:Nat->Hp->Prop
 yld:Nat->Hp->V->Hp->Prop
 stop:Nat->Hp->Prop
structure vw (X:Cx) (pins:List (ap×Obj)) (H:Hp) (b:ap):Prop where
 f0:H b=none
 f1:b≠X.env.locals
 f2:b∉X.fs
 f3:b∈X.ex\/X.s₀.heap.objs.size<=b
 f4:∀x c,X.env.cells.lookup x=some c->c≠b
 f5:∀p∈X.pn++pins,p.1≠b
def cb.fpOk(I:cb X pins σ H s)(a:s.heap.objs.size<=b)(f:H' b=none):vw X pins H' b:=by
 refine⟨f,fF (aK I.lt a),I.nofs a,.inr (ca I.sz a),λx c e z=>?_,λp d z=>?_⟩
 ·obtain⟨v,q⟩:=I.cell x c e;exact absurd (aK q.lt (by rw[z];exact a)) (cO _)
 ·exact absurd (aK (aw (I.pin p d).1) (by rw[z];exact a)) (cO _)
structure Cm (P:bg) (w:bL) (K:a8) (tg:bj) (J:It) (fp:List ap) (it:ap) (tn:Nat->cg->Prop):Prop where
 mem:it∈fp
 obj:∀i h,tn i h->∀b∈fp,∃o,h.get? b=some o/\∀v,o.data≠.cell v
 keep:∀i h h',tn i h->(∀b∈fp,∀o,h.get? b=some o->h'.get? b=some o)->tn i h'
 item:∀(X:Cx),X.prog=P->X.w=w->X.K=K->X.calm=true->∀(i:Nat) (pins:List (ap×Obj)) (s:ak) (σ:St) (H:Hp) (E:ag->ak->Prop),cb X pins σ H s->(∀b∈fp,vw X pins H b)->tn i s.heap->J.go i H ->
  aq (ax P w) X.A (jY (.ref it)) (λr s1=>∃u,r=some u /\
   aq (ax P w) X.A (iB tg (.ref it) u) (λ_ s2=>∃x H',cb X pins σ H' s2/\eu x u/\J.yld i H x H'/\tn (i+1) s2.heap/\∀b∈fp,H' b=none) E s1) E s
 done:∀(X:Cx),X.prog=P->X.w=w->X.K=K->X.calm=true->∀(i:Nat) (pins:List (ap×Obj)) (s:ak) (σ:St) (H:Hp) (E:ag->ak->Prop),cb X pins σ H s->(∀b∈fp,vw X pins H b)->tn i s.heap->J.stop i H ->
  aq (ax P w) X.A (jY (.ref it)) (λr s1=>r=none/\cb X pins σ H s1) E s
 self:∀(A:cy) (i:Nat) (s:ak) (Q:ag->ak->Prop) (E:ag->ak->Prop),tn i s.heap->Q (.ref it) s->aq (ax P w) A (nH (.ref it)) Q E s
abbrev TI:=St->Hp->(It->Hp->Prop)->Prop
inductive PIE (X:Cx) (pins:List (ap×Obj)) (σ:St) (tg:bj) (R:It->Hp->Prop) (itv:ag) (s2:ak):Prop
 |mk (it:ap) (fp:List ap) (tn:Nat->cg->Prop) (J:It) (H':Hp) (h0:itv=.ref it) (I:cb X pins σ H' s2) (T:Cm X.prog X.w X.K tg J fp it tn) (t0:tn 0 s2.heap) (f:∀b∈fp,vw X pins H' b) (q:R J H'):PIE X pins σ tg R itv s2
inductive FLI (X:Cx) (pins:List (ap×Obj)) (tn:Nat->cg->Prop) (fp:List ap) (W:Nat->Nat->St->Hp->Prop) (n:Nat) (s':ak):Prop
 |mk (i:Nat) (σ':St) (H':Hp) (I:cb X pins σ' H' s') (t:tn i s'.heap) (f:∀b∈fp,H' b=none) (q:W i n σ' H'):FLI X pins tn fp W n s'
def PI(X:Cx)(tg iter:bj)(c:TI):Prop:=
 ∀(a:List (ap×Obj)) (s:ak) (b:St) (H:Hp) (R:It->Hp->Prop),cb X a b H s->c b H R ->
  aq (ax X.prog X.w) X.A (eI iter X.env) (λv s1=>aq (ax X.prog X.w) X.A (nH v) (PIE X a b tg R) X.xe s1) X.xe s
def L9(ho:s.heap.get? it = some o)(b:o.cls = .type n)(d:o.data = .fields vs)
    (c:["enumerate","zip","dict_itemiterator","dict_reverseitemiterator","odict_iterator","itertools.zip_longest","itertools.pairwise"].contains n = false) (a:Q () s):aq M A (iB tg (.ref it) u) Q E s:= by
  unfold iB;cases tg <;> first
    | exact a9 a
    | (cases u <;> first
        | exact a9 a
        | (refine a7 (wpAny_load ho ?_)
           rw[b,d];show aq M A (if(["enumerate","zip","dict_itemiterator","dict_reverseitemiterator","odict_iterator","itertools.zip_longest","itertools.pairwise"].contains n && vs[0]? == some (cL _)) = true then _ else _) Q E s;rw[if_neg (by intro h; rw[c,CU] at h; cases h)];exact a9 a))
def Itl(K:a8)(a:ap):It:=
 ⟨λi H=>∃xs x,qy K H a xs/\xs[i]?=some x,λi H x H'=>H'=H/\∀xs,qy K H a xs->xs[i]?=some x,λi H=>∃xs,qy K H a xs/\xs.length<=i⟩
def Itt(K:a8)(a:ap):It:=
 ⟨λi H=>∃xs x,m8 K H a xs/\xs[i]?=some x,λi H x H'=>H'=H/\∀xs,m8 K H a xs->xs[i]?=some x,λi H=>∃xs,m8 K H a xs/\xs.length<=i⟩
def Itr(lo:Int)(n:Nat):It:=⟨λi _=>i<n,λi H x H'=>H'=H/\x=.int (lo+i),λi _=>n<=i⟩
def N0{P:bg}{w:bL}{K:a8}{tg:bj}(a it:ap):Cm P w K tg (Itl K a) [it] it (λi h=>h.IsListIter it a i) where
 mem:=by simp
 obj:=λi h st b g=>by
  have e:b=it:=by simpa using g
  subst e;obtain⟨o,e,c,d⟩:=st;exact⟨o,e,λv z=>by rw[d] at z;cases z⟩
 keep:=λi h h' st k=>st.at λo e=>k it (by simp) o e
 item:=by
  intro X B t n S i f s T H E I m st O;subst B t n;obtain⟨xs,x,l,Q⟩:=O;obtain⟨y,M,p,Y⟩:=I.list l;obtain⟨u,hu,ru⟩:=M.get Q;obtain⟨N,L,f2,G,q,A⟩:=m it (by simp);refine wpAny_pyNext_list_item st p.isList (x:=u) (by simpa using hu) λh' j sb=>?_;have I1:cb X f T H {s with heap:=h'}:=I.turned (t':=s.toks) (λb o g e=>(sb.2 b g).trans e) N L G q A;obtain⟨o,e,c,d⟩:=id j;exact⟨u,rfl,L9 (s:={s with heap:=h'}) e c d ⋯ ⟨x,H,I1,ru,⟨rfl,λys U=>by rw[I.list_inj U l];exact Q⟩,j,λb g=>(m b g).1⟩⟩
 done:=by
  intro X B t n S i f s T H E I m st O;subst B t n;obtain⟨xs,l,Q⟩:=O;obtain⟨y,M,p,Y⟩:=I.list l;obtain⟨N,L,f2,G,q,A⟩:=m it (by simp);have hl:=M.length;exact wpAny_pyNext_list_end (I.ok.hd S) st p.isList (by simp;omega) λh' eb=>⟨rfl,I.turned (t':=s.toks) (λb o g e=>eb b o g e) N L G q A⟩
 self:=λ_ _ _ _ _ st h=>wpAny_pyIter_listiter st h
def Jj{P:bg}{w:bL}{K:a8}{tg:bj}(a it:ap):Cm P w K tg (Itt K a) [it] it (λi h=>h.IsTupleIter it a i) where
 mem:=by simp
 obj:=λi h st b j=>by
  have e:b=it:=by simpa using j
  subst e;obtain⟨o,e,c,d⟩:=st;exact⟨o,e,λv z=>by rw[d] at z;cases z⟩
 keep:=λi h h' st k=>st.at λo e=>k it (by simp) o e
 item:=by
  intro X B y q S i f s T H E I n st O;subst B y q;obtain⟨xs,x,m,Q⟩:=O;obtain⟨g,M,p,Y⟩:=I.tuple m;obtain⟨u,hu,ru⟩:=M.get Q;obtain⟨N,L,f2,G,t,A⟩:=n it (by simp);refine wpAny_pyNext_tuple_item st (show s.heap.IsTuple a g.toArray from p) (x:=u) (by simpa using hu) λh' l sb=>?_;have I1:cb X f T H {s with heap:=h'}:=I.turned (t':=s.toks) (λb o j e=>(sb.2 b j).trans e) N L G t A;obtain⟨o,e,c,d⟩:=id l;exact⟨u,rfl,L9 (s:={s with heap:=h'}) e c d ⋯ ⟨x,H,I1,ru,⟨rfl,λys U=>by rw[I.tuple_inj U m];exact Q⟩,l,λb j=>(n b j).1⟩⟩
 done:=by
  intro X B y q S i f s T H E I n st O;subst B y q;obtain⟨xs,m,Q⟩:=O;obtain⟨g,M,p,Y⟩:=I.tuple m;obtain⟨N,L,f2,G,t,A⟩:=n it (by simp);have hl:=M.length;exact wpAny_pyNext_tuple_end (I.ok.hd S) st (show s.heap.IsTuple a g.toArray from p) (by simp;omega) λh' eb=>⟨rfl,I.turned (t':=s.toks) (λb o j e=>eb b o j e) N L G t A⟩
 self:=λ_ _ _ _ _ st h=>wpAny_pyIter_tupleiter st h
def Jk{P:bg}{w:bL}{K:a8}{tg:bj}(it:ap)(lo:Int)(n:Nat):Cm P w K tg (Itr lo n) [it] it (λi h=>IsRangeIter h it (lo+(i:Nat)*1) ((n:Int)-(i:Nat)) 1) where
 mem:=by simp
 obj:=λi h st b c=>by
  have e:b=it:=by simpa using c
  subst e;exact⟨_,st,λv z=>by
   have N:Data.fields _=Data.cell v:=z;cases N⟩
 keep:=λi h h' st k=>k it (by simp) _ st
 item:=by
  intro X q m g l i a s G H E I f st A;subst q m g;obtain⟨y,x,M,u,j,p⟩:=f it (by simp);have W:=Walks.range (prog:=X.prog) (w:=X.w) (I.ok.hd l) it lo 1 n;refine W.item i s _ _ A st λv h' B Q d L=>?_;obtain⟨t,rfl⟩:=Q;have S:cb X a G H {s with heap:=h',toks:=B}:=I.turned (λb o c e=>L b o (by simpa using c) e) y x u j p;refine⟨_,rfl,L9 (s:={s with heap:=h',toks:=B}) (n:="range_iterator") d rfl rfl ⋯ ⟨.int (lo+i),H,S,⟨t,?_⟩,⟨rfl,rfl⟩,d,λb c=>(f b c).1⟩⟩;rw[Int.mul_one]
 done:=by
  intro X q m g l i a s G H E I f st A;subst q m g;obtain⟨y,x,M,u,j,p⟩:=f it (by simp);exact wpAny_pyNext_range_end (I.ok.hd l) st (by have:n<=i:=A;omega) λh' O=>⟨rfl,I.turned (t':=s.toks) (λb o c e=>O b o c e) y x u j p⟩
 self:=λ_ _ _ _ _ st h=>wpAny_pyIter_rangeiter st h
end L2
namespace L2
open PySem PySem.Spec PyProof.Rows
def Zc(K:a8)(tl:TE):TI:=λc H R=>tl c H λx b=>∃a,x=.ref a/\(∃xs,qy K b a xs)/\R (Itl K a) b
def q15(K:a8)(tl:TE):TI:=λc H R=>tl c H λx b=>∃a,x=.ref a/\(∃xs,m8 K b a xs)/\R (Itt K a) b
def wE{l:bj}{tl:TE}(i:PE X l tl):PI X tg l (Zc X.K tl):=by
 intro d s k H R I h;refine fW (i d s k H _ I h) λv s1 c=>?_;obtain⟨x,g,f,u,m⟩:=c;obtain⟨a,e,⟨xs,j⟩,q⟩:=m;subst e;cases u;obtain⟨n,y,p,w⟩:=f.list j;refine mx p.isList ?_;refine⟨s1.heap.objs.size,[s1.heap.objs.size],_,_,g,rfl,f.kept (t':=s1.toks) λb o e=>ae _ e,N0 a _,⟨_,aC _ rfl,rfl,rfl⟩,λb t=>?_,q⟩;have e:b=s1.heap.objs.size:=by simpa using t
 subst e;exact f.fpOk (av _) (f.hok.fresh (av _))
def Pm{l:bj}{tl:TE}(j:PE X l tl):PI X tg l (q15 X.K tl):=by
 intro c s m H R I h;refine fW (j c s m H _ I h) λv s1 d=>?_;obtain⟨x,i,f,u,n⟩:=d;obtain⟨a,e,⟨xs,k⟩,q⟩:=n;subst e;cases u;obtain⟨g,y,p,w⟩:=f.tuple k;refine i9 (show s1.heap.IsTuple a g.toArray from p) ?_;refine⟨s1.heap.objs.size,[s1.heap.objs.size],_,_,i,rfl,f.kept (t':=s1.toks) λb o e=>ae _ e,Jj a _,⟨_,aC _ rfl,rfl,rfl⟩,λb t=>?_,q⟩;have e:b=s1.heap.objs.size:=by simpa using t
 subst e;exact f.fpOk (av _) (f.hok.fresh (av _))
def Pn{c:List (ap×Obj)}{d:St}{H:Hp}{s:ak}{R:It->Hp->Prop}{E:ag->ak->Prop}{lo a:Int}{t u v:Tok}{g:Nat}(I:cb X c d H s)(h:-(2 ^ 62)<=lo)(j:lo<2 ^ 62)(k:-(2 ^ 62)<=a)(l:a<2 ^ 62)
  (q:R (Itr lo (a-lo).toNat) H):aq (ax X.prog X.w) X.A (nH (.ref s.heap.objs.size)) (PIE X c d tg R) E {s with heap:=s.heap.push {cls:=.type "range",data:=.fields #[.int lo t,.int a u,.int 1 v]},toks:=g}:=by
 refine wpAny_pyIter_range (IsRange.new ..) (small_one h j k l) ?_;have f:cb X c d H {s with heap:=s.heap.push {cls:=.type "range",data:=.fields #[.int lo t,.int a u,.int 1 v]},toks:=g}:=I.kept λb o e=>ae _ e;refine⟨(s.heap.push {cls:=.type "range",data:=.fields #[.int lo t,.int a u,.int 1 v]}).objs.size,[(s.heap.push {cls:=.type "range",data:=.fields #[.int lo t,.int a u,.int 1 v]}).objs.size],_,_,H,rfl,
  f.kept (t':=g) λb o e=>ae _ e,Jk _ lo (a-lo).toNat,?_,λb m=>?_,q⟩
 ·have i:lo+((0:Nat):Int)*1=lo:=by simp
  have n:(((a-lo).toNat:Nat):Int)-((0:Nat):Int)=Builtin.Range.rangeSize lo a 1:=by rw[rangeSize_one];split<;>omega
  show IsRangeIter _ _ (lo+((0:Nat):Int)*1) ((((a-lo).toNat:Nat):Int)-((0:Nat):Int)) 1;rw[i,n];exact aC _ rfl
 ·have e:b=(s.heap.push {cls:=.type "range",data:=.fields #[.int lo t,.int a u,.int 1 v]}).objs.size:=by simpa using m
  subst e;exact f.fpOk (av _) (f.hok.fresh (av _))
def Zd(c:TA):TI:=λa H R=>c a H λd b=>∃j:Int,d=[.int j]/\-(2 ^ 62)<=j/\j<2 ^ 62/\R (Itr 0 j.toNat) b
def N1{a:bj}{f:TA}{p c:Pos}(u:Gl X "range")(l:X.mg "range"=none)(g:PA X [a] f)(hs:aP [a] X.env=[(false,eI a X.env)]:=by rfl):PI X tg (.Call (.Name "range" p) [a] [] c) (Zd f):=by
 intro b s i H R I h;refine Call_ (vv I u l boot_range (iN (fW (g c b s i H _ I h) λw s1 ⟨x,v,o,m,d⟩=>?_) hs rfl));obtain⟨j,e,d,n,q⟩:=d;subst e;cases m with
 |cons r k=>
  cases k;obtain⟨t,rfl⟩:=r;exact call_range_1 (Pn o ∅ ∅ d n (by simpa using q))
inductive TFI (g:TG) (tb:TS) (D:FW) (σ:St) (J:It) (H1:Hp):Prop
 |mk (W:Nat->Nat->St->Hp->Prop) (w0:∃m,W 0 m σ H1) (turn:∀i m σ H,W i m σ H ->
 (J.stop i H/\D.nx σ H)\/(J.go i H/\∃N:St->Hp->Prop,(∀ σ' H',N σ' H'->∃m',m'<m/\W (i+1) m' σ' H')/\∀x H',J.yld i H x H'->g x σ H' λσ2 H2=>tb {D with nx:=N,ct:=N,bk:=D.nx} σ2 H2)):TFI g tb D σ J H1
def q16(b:TI)(g:TG)(tb:TS):TS:=λD a H=>b a H (TFI g tb D a)
def sM(a:List ap)(h:cg):List (ap×Obj):=a.filterMap λb=>(h.get? b).map λo=>(b,o)
def ju(a:b∈fp)(e:h.get? b=some o):(b,o)∈sM fp h:=List.mem_filterMap.mpr ⟨b,a,by rw[e];rfl⟩
def yc(c:p∈sM fp h):p.1∈fp/\h.get? p.1=some p.2:=by
 obtain⟨b,d,e⟩:=List.mem_filterMap.mp c;cases q:h.get? b with
 |none=>rw[q] at e;cases e
 |some o=>
  rw[q] at e;have a:(b,o)=p:=cc e;subst a;exact⟨d,q⟩
def cb.pinned(I:cb X pins σ H s)(i:∀b∈fp,vw X pins H b)(ho:∀b∈fp,∃o,s.heap.get? b=some o/\∀v,o.data≠.cell v):cb X (pins++sM fp s.heap) σ H s:=
 I.pins_of λp f=>(List.mem_append.mp f).elim (λz=>I.pin p (aA _ z)) λz=>by
  obtain⟨c,e⟩:=yc z;obtain⟨j,g,h,_⟩:=i p.1 c;obtain⟨o,a,d⟩:=ho p.1 c;rw[e] at a;cases a;exact⟨e,j,g,h,d⟩
def cb.unpinned(I:cb X (pins++pl) σ H s):cb X pins σ H s:=I.pins_of λp a=>I.pin p (aA _ (bF _ a))
def Po(O:PassesOwn (ax X.prog X.w) X.A X.env X.xe)(hc:X.calm=true)(hi:PI X tg iter wi)(hg:PG X tg g)(j:L7 X body tb)
  (hs:∀x,bf iter X.env x=pure x:=by intro _;rfl):PS X (.For tg iter body [] pos) (q16 wi g tb):=by
 intro c s σ H D I h
 refine wpAny_For (fW (hi c s σ H _ I h) λv s1 h1=>fW h1 λa1 s2 h2=>?_) hs
 obtain⟨it,E,tn,J,H2,e,I2,T,Y,B,W,⟨m0,w0⟩,L⟩:=h2
 subst e
 have t:∀{H':Hp},(∀b∈E,H' b=none)->∀b∈E,vw X c H' b:=λhn b j=>⟨hn b j,(B b j).f1,(B b j).f2,(B b j).f3,(B b j).f4,(B b j).f5⟩
 refine codeAny_forLoop_any (FLI X c tn E W) ?_ m0 ⟨0,σ,H2,I2,Y,λb j=>(B b j).1,w0⟩
 rintro n s3 ⟨i,p,Q,I3,P,M,w3⟩
 rcases L i n p Q w3 with⟨K,qn⟩|⟨go,N,hN,step⟩
 ·refine jz O (fW (T.done X rfl rfl rfl hc i c s3 p Q X.xe I3 (t M) P K) λr s4 ⟨hr,I4⟩=>?_)
  subst hr
  exact wq ⟨p,Q,I4,qn⟩
 ·refine jz O (fW (T.item X rfl rfl rfl hc i c s3 p Q X.xe I3 (t M) P go) λr s4 ⟨u,hr,h4⟩=>?_)
  subst hr
  refine jz O (fW h4 λ_ s5 ⟨x,H5,I5,r5,y5,z,a0⟩=>?_)
  have S:=I5.pinned (t a0) (T.obj _ _ z)
  refine jz O (fW (hg _ s5 p H5 x u _ S r5 (step x H5 y5)) λ_ s6 ⟨U,H6,I6,q6⟩=>?_)
  refine jz O (fW (j _ s6 U H6 _ I6 q6) λf s7 y=>?_)
  have l:∀{a:St}{q:Hp},cb X (c++sM E s5.heap) a q s7->N a q->∃m,m<n/\FLI X c tn E W m s7:=λ{a q} k G=>by
   obtain⟨m',hm,w7⟩:=hN a q G
   refine⟨m',hm,i+1,a,q,k.unpinned,T.keep _ _ _ z λb j o e=>(k.pin (b,o) (aA _ (aA _ (ju j e)))).1,λb j=>?_,w7⟩
   obtain⟨o,e,d⟩:=T.obj _ _ z b j
   exact(k.pin (b,o) (aA _ (aA _ (ju j e)))).2.1
  cases f with
  |next=>obtain⟨a,q,k,G⟩:=y;exact l k G
  |cont=>obtain⟨a,q,k,G⟩:=y;exact l k G
  |brk=>obtain⟨a,q,k,y⟩:=y;exact⟨a,q,k.unpinned,y⟩
  |ret v=>obtain⟨x7,a,q,k,r7,y⟩:=y;exact⟨x7,a,q,k.unpinned,r7,y⟩
end L2
namespace L2
open PySem PySem.Spec PyProof.Rows
abbrev R2:=V->V->Hp->VK->Prop
def sD(X:Cx)(f:ag->ag->Sem ag)(r:R2):Prop:=
 ∀(a:List (ap×Obj)) (s:ak) (b:St) (H:Hp) (x y:V) (v u:ag) (Q:VK),cb X a b H s->eu x v->eu y u->r x y H Q ->
  aq (ax X.prog X.w) X.A (f v u) (EP X a b Q) X.xe s
def ki(X:Cx)(f:ag)(r:List V->Hp->VK->Prop):Prop:=
 ∀(a:List (ap×Obj)) (s:ak) (c:St) (H:Hp) (xs:List V) (b:List ag) (Q:VK),cb X a c H s->eE xs b->r xs H Q ->
  aq (ax X.prog X.w) X.A (call f b) (EP X a c Q) X.xe s
def q17(X:Cx)(r:V->Hp->(Bool->Hp->Prop)->Prop):Prop:=
 ∀(a:List (ap×Obj)) (s:ak) (b:St) (H:Hp) (x:V) (v:ag) (Q:Bool->Hp->Prop),cb X a b H s->eu x v->r x H Q ->
  aq (ax X.prog X.w) X.A (truthy v) (TP X a b Q) X.xe s
def Ze(r:R2)(d tb:TE):TE:=λa H Q=>d a H λx c=>tb a c λy b=>r x y b Q
inductive rII (C:Int->Int->Prop) (g:Int->Int->V) (x:V) (y:V) (H:Hp) (Q:VK):Prop
 |mk (i j:_) (h0:x=.int i) (h1:y=.int j) (h2:C i j) (h3:Q (g i j) H):rII C g x y H Q
def rI(C:Int->Int->Prop)(g:Int->Int->V):R2:=rII C g
inductive Zf (g:Int->Int->V) (x:V) (y:V) (H:Hp) (Q:VK):Prop
 |mk (i j:_) (h0:x=.int i) (h1:y=.int j) (h2:Q (g i j) H):Zf g x y H Q
def Xn(g:Int->Int->V):R2:=Zf g
def Xo(n:PE X a ta)(q:PE X b tb){c:List (ap×Obj)}{s:ak}{d:St}{H:Hp}{R:V->V->Hp->Prop}(I:cb X c d H s)
  (h:ta d H λx m=>tb d m λy e=>R x y e) {Q:ag->ak->Prop}{f:ag->ag->Sem ag}
  (p:∀v u l x y e,cb X c d e l->eu x v->eu y u->R x y e->aq (ax X.prog X.w) X.A (f v u) Q X.xe l):
  aq (ax X.prog X.w) X.A (eI a X.env) (λv g=>aq (ax X.prog X.w) X.A (eI b X.env) (λu j=>aq (ax X.prog X.w) X.A (f v u) Q X.xe j) X.xe g) X.xe s:=by
 refine fW (n c s d H _ I h) λv s1 i=>?_;obtain⟨x,m,G,z,o⟩:=i;refine fW (q c s1 d m _ G o) λu l k=>?_;obtain⟨y,e,t,E,B⟩:=k;exact p v u l x y e t z E B
def VU{op:Operator}{r:R2}(ho:sD X (ic op) r)(e:PE X a ta)(g:PE X b tb):PE X (.BinOp a op b pos) (Ze r ta tb):=by
 intro c s f H Q I h;exact wpAny_BinOp (Xo e g I h λv u l x y j i d k q=>ho c l f j x y v u Q i d k q)
def Zg{f:ag->ag->Sem ag}{C:Int->Int->Prop}{g:Int->Int->Int}
  (a:∀(i j:Int) (t u:Tok) (s:ak) (Q:ag->ak->Prop) (E:ag->ak->Prop),C i j->Q (.int (g i j) s.toks) {s with toks:=s.toks+1}->aq (ax X.prog X.w) X.A (f (.int i t) (.int j u)) Q E s):
  sD X f (rI C λi j=>.int (g i j)):=by
 intro b s k H x y v u Q I c e h;obtain⟨i,j,rfl,rfl,d,q⟩:=h;obtain⟨t,rfl⟩:=c;obtain⟨t',rfl⟩:=e;exact a i j t t' s _ _ d ⟨.int (g i j),H,I.tok _,⟨_,rfl⟩,q⟩
def q18{f:ag->ag->Sem ag}{g:Int->Int->Int}
  (a:∀(i j:Int) (t u:Tok) (s:ak) (Q:ag->ak->Prop) (E:ag->ak->Prop),Q (.int (g i j) s.toks) {s with toks:=s.toks+1}->aq (ax X.prog X.w) X.A (f (.int i t) (.int j u)) Q E s):
  sD X f (Xn λi j=>.int (g i j)):=by
 intro b s e H x y v u Q I c d h;obtain⟨i,j,rfl,rfl,q⟩:=h;obtain⟨t,rfl⟩:=c;obtain⟨t',rfl⟩:=d;exact a i j t t' s _ _ ⟨.int (g i j),H,I.tok _,⟨_,rfl⟩,q⟩
def Xp{f:ag->ag->Sem ag}{g:Int->Int->Bool}
  (a:∀(i j:Int) (t u:Tok) (s:ak) (Q:ag->ak->Prop) (E:ag->ak->Prop),Q (.bool (g i j)) s->aq (ax X.prog X.w) X.A (f (.int i t) (.int j u)) Q E s):
  sD X f (Xn λi j=>.bl (g i j)):=by
 intro b s e H x y v u Q I c d h;obtain⟨i,j,rfl,rfl,q⟩:=h;obtain⟨t,rfl⟩:=c;obtain⟨t',rfl⟩:=d;exact a i j t t' s _ _ ⟨.bl (g i j),H,I,rfl,q⟩
def q19(i j:Int):Prop:=0<j/\j<1073741824
def Xq(i j:Int):Prop:=(-(2 ^ 64)<i/\i<2 ^ 64)\/(-(2 ^ 64)<j/\j<2 ^ 64)
def Xq.ok(h:Xq i j):IntMulOk i j:=by
 rcases h with⟨a,b⟩|⟨a,b⟩
 ·exact .of_left (intBits_le_64 a b)
 ·exact .of_right (intBits_le_64 a b)
def Xr:sD X (ic .Add) (Xn λi j=>.int (i+j)):=q18 λ_ _ _ _ _ _ _ q=>add_int q
def Xs:sD X (ic .Mult) (rI Xq λi j=>.int (i*j)):=Zg λ_ _ _ _ _ _ _ a q=>mul_int q a.ok
def TW:sD X (ic .FloorDiv) (rI q19 λi j=>.int (i / j)):=Zg λi j _ _ _ _ _ a q=>by
 have b:(0:Int)<j:=a.1;have c:j<1073741824:=a.2;exact floordiv_int ∅ (by rw[Int.fdiv_eq_ediv_of_nonneg i ∅];exact q) (.inl (PyProof.noPylong_small ∅))
def Xt:sD X (ic .Mod) (rI (λ_ j=>0<j) λi j=>.int (i % j)):=Zg λi j _ _ _ _ _ a q=>by
 have b:(0:Int)<j:=a;exact mod_int' ∅ (by rw[Int.fmod_eq_emod_of_nonneg i ∅];exact q)
def Eb(I:cb X pins σ H s)(q:Q (.bl k) H)(e:k=k'):EP X pins σ Q (.bool k') s:=by
 subst e;exact⟨.bl k,H,I,rfl,q⟩
def Zh:sD X (bG .Lt) (Xn λi j=>.bl (decide (i<j))):=Xp λ_ _ _ _ _ _ _ q=>lt_int q
def Zi:sD X (bG .LtE) (Xn λi j=>.bl (decide (i<=j))):=Xp λ_ _ _ _ _ _ _ q=>le_int q
def Zj:sD X (bG .Gt) (Xn λi j=>.bl (decide (j<i))):=Xp λ_ _ _ _ _ _ _ q=>gt_int q
def N5:sD X (bG .Lt) (λx y H Q=>∃i j,x=.str i/\y=.str j/\Q (.bl (decide (i.cps.toList<j.cps.toList))) H):=by
 intro a s d H x y v u Q I b c h;obtain⟨i,j,rfl,rfl,q⟩:=h;obtain⟨t,rfl⟩:=b;obtain⟨t',rfl⟩:=c;exact lt_str (Eb I q rfl)
def Xu:sD X (bG .Is) (λx y H Q=>y=.non/\Q (.bl (decide (x=.non))) H):=by
 intro b s d H x y v u Q I a c h;obtain⟨rfl,q⟩:=h;cases c;refine is_none_gen (Eb I q ?_);cases x<;>first
  |(cases a;rfl)
  |(obtain⟨t,rfl⟩:=a;rfl)
def TX:sD X (bG .IsNot) (λx y H Q=>y=.non/\Q (.bl (!decide (x=.non))) H):=by
 intro b s d H x y v u Q I a c h;obtain⟨rfl,q⟩:=h;cases c;refine isnot_none_gen (Eb I q ?_);cases x<;>first
  |(cases a;rfl)
  |(obtain⟨t,rfl⟩:=a;rfl)
def Pp(b:bj)(h:op≠.In:=by decide)(a:op≠.NotIn:=by decide):iM op b=false:=by
 have d:(op==CmpOp.In)=false:=by cases op<;>first|rfl|exact absurd rfl h
 have c:(op==CmpOp.NotIn)=false:=by cases op<;>first|rfl|exact absurd rfl a
 cases b<;>simp[iM,d,c]
def TY(ho:sD X (bG op) r)(e:PE X a ta)(g:PE X b tb)(i:iM op b=false):PE X (.Compare a [op] [b] pos) (Ze r ta tb):=by
 intro c s f H Q I h;exact wpAny_Compare1 (Xo e g I h λv u m x y k j d l q=>ho c m f k x y v u Q j d l q) i
def VV(t:TE):TT:=λa H Q=>t a H λx H'=>∃k,x=.bl k/\Q k H'
def TZ(ho:sD X (bG op) r)(j:PE X a ta)(m:PE X b tb)(o:iM op b=false):PT X (.Compare a [op] [b] pos) (VV (Ze r ta tb)):=by
 intro d s f H Q I h;refine SW (fW (j d s f H _ I h) λv s1 ⟨x,g,G,t,l⟩=>fW (m d s1 f g _ G l) λu w ⟨y,q,p,B,A⟩=>
  fW (ho d w f q x y v u _ p t B A) λc L ⟨z,n,i,E,k,e,K⟩=>?_) o
 subst e;cases E;exact dA ⟨n,i,K⟩
def Jl(r g:R2)(e tb tc:TE):TE:=λa H Q=>e a H λx d=>tb a d λy c=>r x y c λz b=>∃k,z=.bl k /\
 (if k=true then tc a b λh f=>g y h f Q else Q (.bl false) b)
def Pq(ho:sD X (bG op) r)(j:sD X (bG op') r')(A:PE X a ta)(G:PE X b tb)(w:PE X c tc)
  (L:OE [op,op'] [b,c]=false:=by with_unfolding_all rfl):PE X (.Compare a [op,op'] [b,c] pos) (Jl r r' ta tb tc):=by
 intro f s i H Q I h;refine Compare_chain (fW (A f s i H _ I h) λv s1 ⟨x,q,I1,P,B⟩=>chain_link (fW (G f s1 i q _ I1 B) λu T ⟨y,N,M,n,U⟩=>
  fW (ho f T i N x y v u _ M P n U) λd S ⟨z,m,l,r3,k,e,o⟩=>?_)) L
 subst e;cases r3;refine dA ?_;cases k with
 |false=>exact ite_ff ⟨.bl false,m,l,rfl,o⟩
 |true=>exact ite_tt (chain_last (fW (w f S i m _ l o) λw' p g=>by obtain⟨O,t,Y,K,E⟩:=g;exact j f p i t y O u w' Q Y n K E))
def Pr(ho:sD X (bG op) r)(i:sD X (bG op') r')(w:PE X a ta)(E:PE X b tb)(t:PE X c tc)
  (L:OE [op,op'] [b,c]=false:=by with_unfolding_all rfl):PT X (.Compare a [op,op'] [b,c] pos) (VV (Jl r r' ta tb tc)):=by
 intro f s g H Q I h;refine isTrue_chain (fW (w f s g H _ I h) λv s1 ⟨x,p,I1,S,A⟩=>test_link (fW (E f s1 g p _ I1 A) λu U ⟨y,N,M,m,Y⟩=>
  fW (ho f U g N x y v u _ M S m Y) λd T ⟨z,l,j,r3,k,e,n⟩=>?_)) L
 subst e;cases r3;refine dA ?_;cases k with
 |false=>
  obtain⟨k',K,q'⟩:=n;cases K;exact ite_ff ⟨l,j,q'⟩
 |true=>
  refine ite_tt (test_last (fW (t f T g l _ j n) λw' o ⟨O,q,I4,G,B⟩=>fW (i f o g q y O u w' _ I4 m G B) λd' s5 ⟨z2,P,I5,r5,k2,e2,q5⟩=>?_));subst e2;cases r5;exact dA ⟨P,I5,q5⟩
def Zk(K:a8)(x:V)(H:Hp)(k:Bool):Prop:=
 match x with
 |.non=>k=false
 |.bl b=>k=b
 |.int i=>k=(i != 0)
 |.str y=>y.length<=sizeLine/\k=((y.length:Int) != 0)
 |.byt y=>y.size<=sizeLine/\k=((y.size:Int) != 0)
 |.ref p=>(∃xs,qy K H p xs/\k=!xs.isEmpty)\/(∃xs,m8 K H p xs/\k=!xs.isEmpty)\/∃a,H p=some (.dK a)/\k=!a.isEmpty
 |_=>False
def Jm{b:Type}{a:List (b×V)}{c:List (b×ag)}(r:KV a c):(!c.isEmpty)=!a.isEmpty:=by
 cases r<;>rfl
def Ak(r:eE xs its):(!its.toArray.isEmpty)=!xs.isEmpty:=by
 cases r<;>simp
def yd:(sizeLine:Nat)<2 ^ 63:=by rw[iE];decide
def Xv:q17 X (λx H Q=>∃k,Zk X.K x H k/\Q k H):=by
 intro o s B H x v Q I f h;obtain⟨k,e,q⟩:=h;have A:=yd;have hs:sizeLine=16777216:=iE;cases x with
 |non=>
  cases f;have a:k=false:=e;subst a;exact truthy_none ⟨H,I,q⟩
 |bl b=>
  cases f;have a:k=b:=e;subst a;exact dA ⟨H,I,q⟩
 |int i=>
  obtain⟨t,rfl⟩:=f;have a:k=(i != 0):=e;subst a;exact PySem.P.truthy_int ⟨H,I,q⟩
 |str y=>
  obtain⟨t,rfl⟩:=f;obtain⟨u,a⟩:y.length<=sizeLine/\k=((y.length:Int) != 0):=e;subst a;exact PySem.P.truthy_str ∅ ⟨H,I.tok _,q⟩
 |byt y=>
  obtain⟨t,rfl⟩:=f;obtain⟨u,a⟩:y.size<=sizeLine/\k=((y.size:Int) != 0):=e;subst a;exact PySem.W.truthy_bytes ∅ ⟨H,I.tok _,q⟩
 |ref p=>
  cases f;have a:(∃xs,qy X.K H p xs/\k=!xs.isEmpty)\/(∃xs,m8 X.K H p xs/\k=!xs.isEmpty)\/∃c,H p=some (.dK c)/\k=!c.isEmpty:=e;rcases a with⟨xs,g,a⟩|⟨xs,g,a⟩|⟨c,g,a⟩
  ·subst a;obtain⟨l,r,pl,n⟩:=I.list g;have d:=r.length;exact wpAny_truthy_list pl.isList (by simp only[a_];omega) ⟨H,I.tok _,by rw[Ak r];exact q⟩
  ·subst a;obtain⟨l,r,pl,n⟩:=I.tuple g;have d:=r.length;exact truthy_tuple pl (by simp only[a_];omega) ⟨H,I.tok _,by rw[Ak r];exact q⟩
  ·subst a;obtain⟨n,z,j,r,m⟩:c.length<=sizeLine/\(p==fj)=false/\∃j,KV c j/\s.heap.DictOf (g9 X.prog X.w) p j:=I.hok p _ g;have d:c.length=j.length:=j6 r;exact wpAny_truthy_dict z m ∅ ⟨H,I.tok _,by rw[Jm r];exact q⟩
 |_=>exact(show False from e).elim
def Ps(g:PE X a ta)(he:∀b,xT a X.env b=(do let v <- b;mv a.pos;ID [v] (truthy v))):
  PT X a (λe H Q=>ta e H λx H'=>∃k,Zk X.K x H' k/\Q k H'):=by
 intro c s e H Q I h;exact isTrue_plain (fW (g c s e H _ I h) λv s1 d=>by obtain⟨x,f,l,j,i⟩:=d;exact Xv c s1 e f x v Q l j i) (he _)
def Jn:sD X (ic .Add) (λx y H Q=>∃i j,x=.str i/\y=.str j/\i.length+j.length<=sizeLine/\Q (.str (i++j)) H):=by
 intro a s f H x y v u Q I b d h;obtain⟨i,j,rfl,rfl,c,q⟩:=h;obtain⟨t,rfl⟩:=b;obtain⟨t',rfl⟩:=d;exact add_str (λt' e=>⟨.str (i++j),H,I.tok _,⟨_,rfl⟩,q⟩) c
def lG(r:eE [x] us):∃u,us=[u]/\eu x u:=by
 cases r with
 |cons b a=>cases a;exact⟨_,rfl,b⟩
def VW(r:eE [x,y] us):∃u a,us=[u,a]/\eu x u/\eu y a:=by
 cases r with
 |cons b c=>
  cases c with
  |cons d e=>cases e;exact⟨_,_,rfl,b,d⟩
end L2
namespace L2
open PySem PySem.Spec PyProof.Rows
structure Xw (h:cg) (x dx C:ap) (mA:Str->Option ag):Prop where
 obj:h.get? x=some (zm C dx)
 ns:h.Ns1 dx mA
 ne:dx≠x
def N6{h:cg}{d:ap}{c:Str->Option ag}(n:h.Ns1 d c):∃f,h.get? d=some f/\∀name,Ad name f=some (c name):=by
 obtain⟨o,es,m,ho,k,l,_,i⟩:=n;refine⟨o,ho,λname=>?_⟩;have e:=i name;unfold nsFind findBy at e;rw[<- MG] at e;unfold Ad;rw[k];dsimp only;split
 ·rename_i y q
  rw[q] at e;exact congrArg some e
 ·rename_i q
  rw[q] at e;have a:es.toList.any (·.refKey)=false:=by
   rw[dU];intro y g;obtain⟨z,t,b⟩:=l y (Array.mem_toList_iff.mp g);simp[DictEntry.refKey,b]
  have j:¬ es.toList.any (·.refKey)=true:=by rw[a];exact ba
  rw[if_neg j];exact congrArg some e
def Xw.look(I:Xw h x dx C mA):∃a,PySem.W.InstAt h x (zm C dx) C (some a)/\∀name,Ad name a=some (mA name):=
 let ⟨a,ho,hl⟩:=N6 I.ns
 ⟨a,⟨I.obj,rfl,rfl,ho⟩,hl⟩
def Ai.some_of(r:Ai (some v) o):∃u,o=some u/\eu v u:=by
 cases o with
 |none=>exact(show False from r).elim
 |some u=>exact⟨u,rfl,r⟩
def T_(c:sC P w H h)(e:H a=some (.ins C dx fs)):∃b,Xw h a dx C b/\(∀f,Ai (fs.lookup f) (b f))/\PySem.Within b (fs.map (·.1))/\fs.length<=1000/\H dx=some (.own a):=by
 obtain⟨d,z,ne,ob,b,n,r,q⟩:=(show d_ P w H h a (.ins C dx fs) from c a _ e);exact⟨b,⟨ob,n,ne⟩,r,q,z,d⟩
structure Cls (K:a8) (C:ap):Prop where
 pg:MH K C Str.empty=true
 hd:PySem.W.hasDictIn K C=true
 po:PySem.W.plainOver K C=true
 sa:nI K (.ref C) "__setattr__"=some (some (.builtin "object.__setattr__"))
def Cls.get{K:a8}{C:ap}(c:Cls K C)(f:Str):MH K C f=true:=c.pg
inductive zy (K:a8) (H:Hp):V->ag->Prop where
 |non:zy K H .non (.type "NoneType")
 |bl (x:Bool):zy K H (.bl x) (.type "bool")
 |int (i:Int):zy K H (.int i) (.type "int")
 |str (x:Str):zy K H (.str x) (.type "str")
 |flt (x:UInt64):zy K H (.flt x) (.type "float")
 |lst {a:ap}{xs:List V} (e:H a=some (.lst xs)):zy K H (.ref a) (.type "list")
 |frz {a:ap}{o:Obj}{xs:List V} (e:H a=some (.frz o (.lst xs))):zy K H (.ref a) (.type "list")
 |tup {a:ap}{xs:List V} (e:H a=some (.tup xs)):zy K H (.ref a) (.type "tuple")
 |dK {a:ap}{kvs:List (gY×V)} (e:H a=some (.dK kvs)):zy K H (.ref a) (.type "dict")
 |dT {a:ap}{kvs:List (List gY×V)} (e:H a=some (.dT kvs)):zy K H (.ref a) (.type "dict")
 |ins {a C dx:ap}{fs:List (Str×V)} (e:H a=some (.ins C dx fs)) (cl:Cls K C) (ha:nI K (.ref C) "__class__"=some (some (.builtin "object.__class__")))
   (hn:KY K (.builtin "object.__class__") "__get__"=some (some (.builtin "getset_descriptor.__get__"))) (htk:OF K (.builtin "object.__class__")=some true)
   (hm:j0 K C (.type "object")=some true):zy K H (.ref a) (.ref C)
def u7(I:cb X pins σ H s)(d:eu x u)(ty:zy X.K H x t)(e:sF X.K t c=some b)(h:∀M,Q (.bool b) {s with toks:=M}):
  aq (ax X.prog X.w) A (call (.builtin "isinstance") [u,c]) Q E s:=by
 cases ty with
 |non=>cases(show u=fv from d);exact dC PySem.W.kitx_none I.kIn jH e (λz=>nomatch z) h
 |bl y=>cases(show u=MD y from d);exact dC PySem.W.kitx_bool I.kIn jH e (λz=>nomatch z) h
 |int i=>obtain⟨t,q⟩:=(show ∃t,u=oC i t from d);cases q;exact dC PySem.W.kitx_int I.kIn jH e (λz=>nomatch z) h
 |str y=>obtain⟨t,q⟩:=(show ∃t,u=kE y t from d);cases q;exact dC PySem.W.kitx_str I.kIn jH e (λz=>nomatch z) h
 |flt y=>obtain⟨t,q⟩:=(show ∃t,u=Value.float y t from d);cases q;exact dC PySem.W.kitx_float I.kIn jH e (λz=>nomatch z) h
 | @lst a xs f=>
  cases(show u=bq a from d);obtain⟨_,_,n,_,g⟩:=(show d_ X.prog X.w H s.heap a (.lst xs) from I.hok a _ f);exact dC wz I.kIn ⟨_,g,rfl⟩ e (λz=>nomatch z) h
 | @frz a ob xs f=>
  cases(show u=bq a from d);obtain⟨_,_,_,n,_,g⟩:=(show d_ X.prog X.w H s.heap a (.frz ob (.lst xs)) from I.hok a _ f);exact dC wz I.kIn ⟨_,g,rfl⟩ e (λz=>nomatch z) h
 | @tup a xs f=>
  cases(show u=bq a from d);obtain⟨_,_,_,p⟩:=(show d_ X.prog X.w H s.heap a (.tup xs) from I.hok a _ f);obtain⟨o,g,k,_⟩:=p;exact dC IX I.kIn ⟨o,g,k⟩ e (λz=>nomatch z) h
 | @dK a j f=>
  cases(show u=bq a from d);obtain⟨_,_,T,_,p⟩:=(show d_ X.prog X.w H s.heap a (.dK j) from I.hok a _ f);obtain⟨o,es,B,g,k,_⟩:=p;exact dC KZ I.kIn ⟨o,g,k.1⟩ e (λz=>nomatch z) h
 | @dT a j f=>
  cases(show u=bq a from d);obtain⟨_,_,xs,_,o,es,B,g,k,_⟩:=(show d_ X.prog X.w H s.heap a (.dT j) from I.hok a _ f);exact dC KZ I.kIn ⟨o,g,k.1⟩ e (λz=>nomatch z) h
 | @ins a C P fs f m v L l G=>
  cases(show u=bq a from d);obtain⟨N,O,_⟩:=T_ I.hok f;obtain⟨S,J,_⟩:=O.look;exact dC (PySem.W.kitx_own (m.get _) m.hd v L l G) I.kIn J e (λz=>nomatch z) h
end L2
namespace L2
open PySem PySem.Spec PyProof.Rows
structure m9 (k:Nat) (A:cy):Prop where
 hd:A.handled=none
 dp:A.depth+3*k+5<recursionLimit
 un:A.units+16*k+200<fZ
def m9.mono(r:m9 k A)(h:j<=k):m9 j A:=⟨r.hd,by have:=r.dp;omega,by have:=r.un;omega⟩
def m9.deeper(r:m9 (k+1) A)(env:Env):m9 k (A.deeper env):=
 ⟨r.hd,by have:=r.dp;show A.depth+1+3*k+5<_;omega,by have:=r.un;show A.units+3+16*k+200<_;omega⟩
def m9.depth(r:m9 k A):A.depth<recursionLimit:=by have:=r.dp;omega
def m9.units(r:m9 k A):A.units+64<fZ:=by have:=r.un;omega
def Xx:TA:=λ_ H Q=>Q [] H
def Pt(d:TE)(e:TA):TA:=λa H Q=>d a H λx c=>e a c λxs b=>Q (x::xs) b
def kJ:PA X [] Xx:=λ_ _ _ _ H Q I h=>Calls.spliced_nil ⟨[],H,I,.nil,h⟩
def iR(g:PE X e te)(j:PA X es t)(hs:aP (e::es) X.env=(false,eI e X.env)::aP es X.env:=by rfl):PA X (e::es) (Pt te t):=by
 intro c a s d H Q I h;rw[hs];show aq _ _ (spliced ((false,eI e X.env)::iz c (aP es X.env))) _ _ s;refine Calls.spliced_cons (fW (g a s d H _ I h) λu s1 ⟨x,f,p,m,i⟩=>?_);exact fW (j c a s1 d f _ p i) λv q b=>by obtain⟨xs,l,k,o,n⟩:=b;exact⟨x::xs,l,k,.cons m o,n⟩
def q1a(t:TA):TE:=λb H Q=>t b H λxs a=>xs.length<=sizeLine/\∀p,a p=none->Q (.ref p) (upd a p (.tup xs))
def q1b(t:TA):TE:=λb H Q=>t b H λxs a=>xs.length<=sizeLine/\∀p,a p=none->Q (.ref p) (upd a p (.lst xs))
def Xy{x1}(h:PA X es t):PE X (.Tuple es x1 pos) (q1a t):=by
 intro a s g H Q I f;refine wpAny_Tuple_spliced (fW (h pos a s g H _ I f) λj s1 ⟨xs,c,d,r,z,q⟩=>⟨by rw[<- r.length];exact z,?_⟩);have i:c s1.heap.objs.size=none:=d.hok.fresh (av _);refine⟨.ref s1.heap.objs.size,upd c s1.heap.objs.size (.tup xs),d.laid (t':=s1.toks) (λb u e=>ae _ e) (av _) ?_,rfl,q _ i⟩;exact⟨z,j,r,⟨_,aC _ rfl,rfl,_,rfl⟩⟩
def vy(h:PA X es t):PE X (.List es pos) (q1b t):=by
 intro a s g H Q I f;refine wpAny_List_spliced (fW (h pos a s g H _ I f) λj s1 ⟨xs,c,d,r,z,q⟩=>⟨by rw[<- r.length];exact z,?_⟩);have i:c s1.heap.objs.size=none:=d.hok.fresh (av _);refine⟨.ref s1.heap.objs.size,upd c s1.heap.objs.size (.lst xs),d.laid (t':=s1.toks) (λb u e=>ae _ e) (av _) ?_,rfl,q _ i⟩;exact⟨z,j,0,r,aC _ rfl⟩
abbrev Sp:=List V->Hp->VK->XK->Prop
abbrev Pu:=List Env->Hp->ak->XK->ag->ak->Prop
structure U0 (P:bg) (w:bL) (K:a8) (mg:Str->Option ag) (base:cg) (A:cy) (outer:List Env) (s:ak) (H:Hp):Prop where
 frames:A.frames=some outer
 mod:Mod K mg base
 bs:∀b o,base.get? b=some o->s.heap.get? b=some o/\H b=none
 bsz:base.objs.size<=s.heap.objs.size
 funs:s.heap.FunFrames base outer
 frf:∀b∈B_ outer,H b=none
 hok:sC P w H s.heap
 bare:su s.gens
inductive CE (outer:List Env) (P:bg) (w:bL) (H:Hp) (s:ak) (Q:VK) (u:ag) (s':ak):Prop
 |mk (v H':_) (h0:s'.os=s.os) (h1:su s'.gens) (h2:Un (B_ outer) [] H H' s.heap s'.heap) (h3:sC P w H' s'.heap) (h4:eu v u) (h5:Q v H'):CE outer P w H s Q u s'
def CR(CX:Pu)(outer:List Env)(P:bg)(w:bL)(H:Hp)(s:ak)(Q:VK)(E:XK)(r:Ae)(s':ak):Prop:=
 match r with
 |.ok (.ret u)=>CE outer P w H s Q u s'
 |.ok _=>False
 |.error e=>CX outer H s E e s'
structure uS (P:bg) (w:bL) (K:a8) (mg:Str->Option ag) (base:cg) (CX:Pu) (k:Nat) (f:ap) (fd:ig) (ps:List Str) (sp:Sp):Prop where
 len:∀vs H Q E,sp vs H Q E->vs.length=ps.length
 run:∀(A:cy) (outer:List Env) (s:ak) (H:Hp) (args:Args) (us:List ag) (vs:List V) (Q:VK) (E:XK),m9 k A->U0 P w K mg base A outer s H->C5 s fd args (ps.zip us)->eE vs us->sp vs H Q E ->
  eJ (ax P w) A (.call (.ref f) args) (CR CX outer P w H s Q E) s
def uS.imp{P:bg}{w:bL}{K:a8}{g:Str->Option ag}{base:cg}{CX:Pu}{k:Nat}{f:ap}{d:ig}{e:List Str}{sp b:Sp}(F:uS P w K g base CX k f d e sp)
  (h:∀a H Q E,b a H Q E->sp a H Q E):uS P w K g base CX k f d e b:=
 ⟨λa H Q E q=>F.len a H Q E (h _ _ _ _ q),λA outer s H c l a Q E i he j m hs=>F.run A outer s H c l a Q E i he j m (h _ _ _ _ hs)⟩
def cb.env0(I:cb X pins σ H s):U0 X.prog X.w X.K X.mg X.base X.A X.stack s H:=
 ⟨I.ok.frames,I.ok.mod,I.bs,ca I.ok.bsz I.sz,I.stack,I.stkFree,I.hok,I.bare⟩
def cb.after(I:cb X pins σ H s)(h:CE X.stack X.prog X.w H s Q u s'):EP X pins σ Q u s':=by
 obtain⟨v,H',i,a,un,e,r,q⟩:=h;obtain⟨f,g,d,t,c⟩:=s';obtain rfl:c=s.os:=i;exact⟨v,H',I.call (h':=f) (g':=g) (d':=d) (t':=t) (ch:=[]) un e a (λb z=>absurd z (by simp)),r,q⟩
def VX(sp:Sp)(a:List V)(E:XK)(t:TA):TE:=λb H Q=>t b H λd c=>sp (d++a) c Q E
def mL(K:a8)(c:ig)(b:List Str)(ds:List ag):Prop:=
 ∀(s:ak) (a:List ag),K.In s.heap->(a++ds).length=b.length->C5 s c ⟨a,[]⟩ (b.zip (a++ds))
def mL.all{K:a8}{c:ig}{b:List Str}(h:∀a:List ag,a.length=b.length->Tc c ⟨a,[]⟩=pure (b.zip a)):mL K c b []:=λs a _ d=>by
 rw[b_] at d ⊢;exact .of_eq (h a d)
def sO(CX:Pu)(X:Cx)(E:XK):Prop:=∀(a:List (ap×Obj)) (b:St) (H:Hp) (s:ak) (e:ag) (s':ak),cb X a b H s->CX X.stack H s E e s'->X.xe e s'
def Xz(F:uS X.prog X.w X.K X.mg X.base CX k f fd ps sp)(d:m9 k X.A)(i:mL X.K fd ps ds)(l:eE dvs ds)(g:sO CX X E)
  (I:cb X pins σ H s) (r:eE vs us) (h:sp (vs++dvs) H Q E):aq (ax X.prog X.w) X.A (call (.ref f) us) (EP X pins σ Q) X.xe s:=by
 have b:eE (vs++dvs) (us++ds):=r.append l;have j:(us++ds).length=ps.length:=by rw[<- b.length];exact F.len _ _ _ _ h
 refine wpAny_call (qv (F.run X.A X.stack s H ⟨us,[]⟩ (us++ds) (vs++dvs) Q E d I.env0 (i s us I.kIn j) b h) λr s' a=>?_);cases r with
 |error e=>exact g pins σ H s e s' I a
 |ok c=>
  cases c with
  |ret u=>exact I.after a
  |next=>exact jA a
  |brk=>exact jA a
  |cont=>exact jA a
def La(F:uS X.prog X.w X.K X.mg X.base CX k f fd ps sp)(j:m9 k X.A)(v:Gl X x)(m:X.mg x=some (.ref f))(o:gN X.K (.ref f)=true)(l:mL X.K fd ps ds)(n:eE dvs ds)(u:sO CX X E)
  (g:PA X (e::es) t) (b:(x==("__debug__" : Str))=false:=by decide) (he:aP (e::es) X.env=(false,eI e X.env)::aP es X.env:=by rfl) (c:(iz pos (aP es X.env)).any (·.1)=false:=by rfl):
  PE X (.Call (.Name x p) (e::es) [] pos) (VX sp dvs E t):=by
 intro a s i H Q I h;refine qX (L8 I v m ?_ b);refine PySem.W.callWith_K (h₀:=X.base) I.ok.mod.kin o (fW (g pos a s i H _ I h) λz s1 ⟨B,y,d,r,q⟩=>⟨d.kIn,?_⟩) he c;exact Xz F j l n u d r q
structure bB (N P:List Str) (sc:eM):Prop where
 kind:sc.kind=.function
 co:sc.isCoroutine=false
 gen:sc.isGenerator=false
 nd:N.Nodup
 pre:N.take P.length=P
 par:∀x∈P,sc.names.lookup x=some .local\/sc.names.lookup x=some .cell
 nofree:∀y∈sc.names,y.2≠.free
theorem CY{a:Str->Option my}{x:Str}:∀{binds:List (Str×ag)}{m:Str->Option ag},(∀v,(x,v)∉binds)->OG a binds m x=m x
 |[],_,_=>rfl
 |(n,v)::r,m,h=>by
  unfold OG;rw[CY λw b=>h w (af _ b)];split
  ·have:x≠n:=by rintro rfl;exact h v aj
   simp[this]
  ·rfl
theorem CZ{a:Str->Option my}{x:Str}:∀{binds:List (Str×ag)}{m:Str->Option ag},(∀v,(x,v)∉binds)->OH a binds m x=m x
 |[],_,_=>rfl
 |(n,v)::r,m,h=>by
  unfold OH;rw[CZ λw b=>h w (af _ b)];split
  ·rfl
  ·have:x≠n:=by rintro rfl;exact h v aj
   simp[this]
theorem C_{a:Str->Option my}{x:Str}{v:ag}:∀{P:List Str}{b:List ag}{i:Nat}{m:Str->Option ag},P.Nodup->P[i]?=some x->b[i]?=some v->a x=some .local ->
  OG a (P.zip b) m x=some v
 |[],_,_,_,_,h,_,_=>by simp at h
 |_::_,[],_,_,_,_,h,_=>by simp at h
 |p::P,w::b,0,m,e,c,d,f=>by
  simp at c d;subst c;subst d;show OG a ((p,w)::P.zip b) m p=_;unfold OG;rw[CY λv g=>(List.nodup_cons.mp e).1 (BW g).1,if_pos f];simp
 |p::P,w::b,i+1,m,e,c,d,f=>by
  show OG a ((p,w)::P.zip b) m x=_;unfold OG;exact C_ (i:=i) (List.nodup_cons.mp e).2 (by simpa using c) (by simpa using d) f
theorem D0{a:Str->Option my}{x:Str}{v:ag}:∀{P:List Str}{b:List ag}{i:Nat}{m:Str->Option ag},P.Nodup->P[i]?=some x->b[i]?=some v->a x≠some .local ->
  OH a (P.zip b) m x=some v
 |[],_,_,_,_,h,_,_=>by simp at h
 |_::_,[],_,_,_,_,h,_=>by simp at h
 |p::P,w::b,0,m,e,c,d,f=>by
  simp at c d;subst c;subst d;show OH a ((p,w)::P.zip b) m p=_;unfold OH;rw[CZ λv g=>(List.nodup_cons.mp e).1 (BW g).1,if_neg f];simp
 |p::P,w::b,i+1,m,e,c,d,f=>by
  show OH a ((p,w)::P.zip b) m x=_;unfold OH;exact D0 (i:=i) (List.nodup_cons.mp e).2 (by simpa using c) (by simpa using d) f
def start(N:List Str)(a:List V):St:=a.map some++uZ (N.length-a.length) none
def Al(CX:Pu)(P:bg)(w:bL)(K:a8)(mg:Str->Option ag)(base:cg)(N:List Str)(qual:Str)(scope:eM)(f:ap)(cd:ag)(A:cy)(outer:List Env)(s:ak)(H:Hp)(E:XK):Cx where
 prog:=P
 w:=w
 K:=K
 mg:=mg
 base:=base
 A:=A.deeper (vm qual scope s.heap.objs.size f cd)
 N:=N
 s₀:=s
 H₀:=H
 env:=vm qual scope s.heap.objs.size f cd
 outer:=outer
 stack:=vm qual scope s.heap.objs.size f cd::outer
 ex:=[]
 calm:=true
 fn:=λ_=>true
 pn:=[]
 xe:=λe s'=>aq (ax P w) (A.deeper (vm qual scope s.heap.objs.size f cd)) (leaving (vm qual scope s.heap.objs.size f cd) e) (λ_ s''=>CX outer H s E e s'') (λe' s''=>CX outer H s E e' s'') s'
def FX{a:eM}{n:Nat}{x:Str}(h:a.names.lookup x=some .cell):∃c,(cu n a.names []).lookup x=some c:=by
 have q:=iO a.names n [] (.inl h);exact Option.isSome_iff_exists.mp q
def N7{CX:Pu}{P:bg}{w:bL}{K:a8}{O:Str->Option ag}{base:cg}{N m:List Str}{d:Str}{scope:eM}{f:ap}{L:ag}{A:cy}{outer:List Env}{s s1:ak}{H:Hp}{E:XK}{Q:List ag}{t:List V}
  (S:bB N m scope) (hd:A.handled=none) (j:U0 P w K O base A outer s H) (hl:t.length=m.length) (r:eE t Q)
  (x:InCallC s s.heap.objs.size (OG (vm d scope s.heap.objs.size f L).kindOf (m.zip Q) λ_=>none) (cu (s.heap.objs.size+1) scope.names []) (OH (vm d scope s.heap.objs.size f L).kindOf (m.zip Q) λ_=>none) s1):
  cb (Al CX P w K O base N d scope f L A outer s H E) [] (start N t) H s1:=by
 have Y:m.length<=N.length:=by have:=congrArg jI S.pre;rw[zQ] at this;omega
 obtain⟨I,tk,rfl,U⟩:=x.done;have o:∀b:ap,b∉(Al CX P w K O base N d scope f L A outer s H E).ex:=λb z=>absurd (show b∈([]:List ap) from z) (by simp);refine⟨⟨j.mod,S.kind,rfl,rfl,av _,λy z c I g=>?_,λy l=>?_,λy c _ h=>?_,λ_=>hd,Around.frames_deeper j.frames,.inr ⟨rfl,rfl⟩,λb z=>absurd z (o b),j.bs,j.bsz,λb _ _=>o b,λb z=>absurd z (o b),j.funs,j.frf⟩,
  rfl,j.bare,Un.kept U,⟨_,x.toInCall.ns,λi y v I g h3=>?_⟩,λy c h=>⟨_,x.cell y c h⟩,j.hok.fresh (av _),λy c h=>?_,λp G=>absurd (show p∈([]:List (ap×Obj)) from G) (by simp),j.hok.kept U,?_⟩
 ·exact name_of_addr x.apart (eD I) (eD g)
 ·have l:scope.names.lookup y=some .cell\/scope.names.lookup y=some .free:=l;rcases l with l|l
  ·exact FX l
  ·exact absurd rfl (S.nofree _ (eD l))
 ·exact cE (x.above y c (eD h))
 ·have M:i<t.length:=by
   unfold start at g;by_cases M:i<t.length
   ·exact M
   ·rw[aY (by simpa using M)] at g;rw[cF] at g;split at g<;>cases g
  have X:t[i]?=some v:=by
   unfold start at g;rw[c8 (by simpa using M),b9] at g;cases e:t[i]? with
   |none=>rw[e] at g;cases g
   |some a=>rw[e] at g;cases g;rfl
  obtain⟨u,T,rv⟩:=r.get X;have G:m[i]?=some y:=by
   rw[<- S.pre,List.getElem?_take_of_lt ∅];exact I
  have B:m.Nodup:=by rw[<- S.pre];exact S.nd.sublist (List.take_sublist _ _)
  refine⟨u,rv,?_⟩;rcases S.par y (ip G) with k|k
  ·exact .inl ⟨k,C_ B G T k⟩
  ·obtain⟨c,e⟩:=FX (n:=s.heap.objs.size+1) k;refine .inr ⟨.inl k,c,e,?_⟩;have q:=x.cell y c e;rw[D0 B G T (by show scope.names.lookup y≠_;rw[k];decide)] at q;exact q
 ·exact j.hok.fresh (cE (x.above y c (eD h)))
 ·unfold start;show _=N.length;rw[aI,am,dS];omega
def Zl{CX:Pu}{P:bg}{w:bL}{K:a8}{B:Str->Option ag}{base:cg}{k:Nat}{f:ap}{name a:Str}{d:Arguments}{g:List dZ}{scope:eM}{U kV l pm c ct oc:ag}{an od:Option ap}
  {M:Array (Option ag)}{N z:List Str}{sp:Sp} (lk:K.lookup f=some ⟨oc,od,.func (h_ name a d g scope U kV l pm an c ct),M⟩) (G:nJ K c a=true) (S:bB N z scope)
  (len:∀h H Q E,sp h H Q E->h.length=z.length)
  (j:∀(A:cy) (outer:List Env) (s:ak) (H:Hp) (h:List V) (Q:VK) (E:XK),m9 k (A.deeper (vm a scope s.heap.objs.size f c))->sp h H Q E ->
   ∃t,L7 (Al CX P w K B base N a scope f c A outer s H E) g t/\t {nx:=λ_ H'=>Q .non H',rt:=Q} (start N h) H):
  uS P w K B base CX (k+1) f (h_ name a d g scope U kV l pm an c ct) z sp:=by
 refine⟨len,λA outer s H Y us h Q E L m hb r p=>?_⟩;have hl:=len _ _ _ _ p;have X:K.In s.heap:=m.mod.kin.keeps λb o e=>(m.bs b o e).1;have O:s.heap.NoLimit:=m.mod.nolimit.keeps λb o e=>(m.bs b o e).1;have i:∀y∈z.zip us,scope.names.lookup y.1=some .local\/(scope.names.lookup y.1=some .cell/\((cu (s.heap.objs.size+1) scope.names []).lookup y.1).isSome=true):=λ⟨n,v⟩ hy=>by
  rcases S.par n (BW hy).1 with q|q
  ·exact .inl q
  ·exact .inr ⟨q,iO _ _ _ (.inl q)⟩
 refine codeAny_call_function L.depth (X _ _ lk) rfl S.co S.gen rfl (IY X G) (hb _ _ _ _ ?_);refine wpAny_newFunctionEnv_cells S.kind i λenv he s1 x=>?_;subst he;refine⟨O.keeps x.toInCall.keep,codeAny_func ?_⟩;obtain⟨t,ht,hq⟩:=j A outer s H h Q E (L.deeper _) p;have I:cb (Al CX P w K B base N a scope f c A outer s H E) [] (start N h) H s1:=N7 S L.hd m hl r x;refine bx (ht [] s1 (start N h) H _ I hq) (λfl s' hs=>?_) λe s' hs=>hs;have fin:∀{σ':St}{H':Hp}{v:V}{u:ag},cb (Al CX P w K B base N a scope f c A outer s H E) [] σ' H' s'->eu v u->Q v H'->CE outer P w H s Q u s':=
  λ{σ' H' v u} J T q=>⟨v,H',J.os,J.bare,J.base,J.hok,T,q⟩
 cases fl with
 |ret u=>
  obtain⟨v,σ',H',J,T,q⟩:=hs;exact fin J T q
 |next=>
  obtain⟨σ',H',J,q⟩:=hs;exact fin (v:=V.non) (u:=fv) J rfl q
 |brk=>
  obtain⟨_,_,_,q⟩:=hs;exact jA q
 |cont=>
  obtain⟨_,_,_,q⟩:=hs;exact jA q
end L2
namespace L2
open PySem PySem.Spec PyProof.Rows
section
variable{X:Cx}{x:Str}{p pos:Pos}{e:bj}{es:List bj}{t:TA}{id T:String}{r:List V->Hp->VK->Prop}
def YW(r:List V->Hp->VK->Prop)(t:TA):TE:=λa H Q=>t a H λc b=>r c b Q
def wF(j:ki X (.builtin id) r)(u:Gl X x)(l:X.mg x=none)(q:jq x=some (.builtin id))(i:PA X (e::es) t)(m:x≠"__name__":=by decide)(c:(x==("__debug__" : Str))=false:=by decide)
  (he:aP (e::es) X.env=(false,eI e X.env)::aP es X.env:=by rfl) (d:(iz pos (aP es X.env)).any (·.1)=false:=by rfl):PE X (.Call (.Name x p) (e::es) [] pos) (YW r t):=by
 intro a s f H Q I h;refine qX (vv I u l q ?_ m c);exact PyProof.Rows.callWith_builtin1 (fW (i pos a s f H _ I h) λo s1 b=>by obtain⟨w,g,v,n,k⟩:=b;exact j a s1 f g w o Q v n k) he d
def D1(j:ki X (.type T) r)(v:Gl X x)(l:X.mg x=none)(q:jq x=some (.type T))(i:PA X (e::es) t)(m:x≠"__name__":=by decide)(c:(x==("__debug__" : Str))=false:=by decide)
  (he:aP (e::es) X.env=(false,eI e X.env)::aP es X.env:=by rfl) (d:(iz pos (aP es X.env)).any (·.1)=false:=by rfl):PE X (.Call (.Name x p) (e::es) [] pos) (YW r t):=by
 intro a s f H Q I h;refine qX (vv I v l q ?_ m c);exact iN (fW (i pos a s f H _ I h) λo s1 b=>by obtain⟨w,g,u,n,k⟩:=b;exact j a s1 f g w o Q u n k) he d
end
end L2
namespace HT
open PySem PyProof.Rows
def U1(v:IsTup s.heap t vs.toArray)(x:IsTup s.heap b ws.toArray)(q:vs≠[])
  (u:ws=[]->Q (.ref t) s) (y:ws≠[]->Q (.ref s.heap.objs.size) {s with heap:=s.heap.push {cls:=.type "tuple",data:=.seq (vs++ws).toArray}})
  (hsz:vs.length+ws.length<=sizeLine):aq (ax prog w) A (ic .Add (.ref t) (.ref b)) Q E s:=by
 obtain⟨⟨cls,m,data,p⟩,ho,j,n,o⟩:=id v;obtain⟨⟨l,c,i,d⟩,a,f,k,g⟩:=id x;simp only at j o f g;subst j o f g;have e:vs.toArray++ws.toArray=(vs++ws).toArray:=by simp
 by_cases h:ws=[]
 ·exact C6 ⟨_,ho,rfl⟩ ⟨_,a,rfl⟩ D_ MI qY qw (pU _ _)
   (tuple_addW1 t b vs.toArray ws.toArray n k m c p d (by simpa using q) (by simp[h])) ⟨ho,a,u h⟩
 ·refine C6 ⟨_,ho,rfl⟩ ⟨_,a,rfl⟩ D_ MI qY qw (pU _ _)
   (tuple_addW2 t b vs.toArray ws.toArray n k m c p d (by simpa using q) (by simpa using h) (by rw[a_,a_];exact hsz)) ⟨ho,a,?_⟩
  rw[e];exact y h
def jK(n d:Nat):Option Int->Nat
 |none=>d
 |some v=>if v<0 then(v+(n:Int)).toNat else min v.toNat n
def FY(n d:Nat):jK n d none=d:=rfl
def Lb(n d k:Nat):jK n d (some (k:Int))=min k n:=by
 show(if(k:Int)<0 then((k:Int)+(n:Int)).toNat else min (k:Int).toNat n)=min k n;rw[if_neg ∅,lI]
def XA(n d:Nat)(b:d<=n)(o:Option Int):jK n d o<=n:=by
 cases o with
 |none=>exact b
 |some v=>
  show(if v<0 then(v+(n:Int)).toNat else min v.toNat n)<=n;by_cases a:v<0
  ·rw[if_pos a];omega
  ·rw[if_neg a];exact sr _ _
def Lc(v:Int)(n d:Nat):(if v<0 then max (v+(n:Int)) 0 else min v (n:Int))=((jK n d (some v):Nat):Int):=by
 show(if v<0 then max (v+(n:Int)) 0 else min v (n:Int))=(((if v<0 then(v+(n:Int)).toNat else min v.toNat n):Nat):Int);by_cases a:v<0
 ·simp only[if_pos a];omega
 ·simp only[if_neg a];omega
def Jo(lo a:Option Int)(n:Nat):mz lo a 1 (n:Int)=(((jK n 0 lo:Nat):Int),((jK n n a:Nat):Int)):=by
 have b:¬ ((1:Int)<0):=by omega
 unfold mz;simp only[b,if_false];refine Prod.ext ?_ ?_
 ·cases lo with
  |none=>rfl
  |some v=>exact Lc v n 0
 ·cases a with
  |none=>rfl
  |some v=>exact Lc v n n
def Jp(i j:Nat):jb (i:Int) (j:Int) 1=j-i:=by
 unfold jb;have a:(1:Int) > 0:=by omega
 simp only[a,if_true,Int.ediv_one];split<;>omega
def Am(p:xU v o)(h:Q o s):aq (ax prog w) A (Builtin.Slice.slicePartIndex v) Q E s:=by
 cases p with
 |none=>exact slicePart_none h
 |int i t=>exact slicePart_int h
def qz{f:ap}{e d:ag}{lo c:Option Int}{n:Nat}{Q:Int×Int×Nat->ak->Prop}(hs:s.heap.IsSliceOf f e d .none)(pl:xU e lo)(g:xU d c)
  (h:Q (((jK n 0 lo:Nat):Int),1,jK n n c-jK n 0 lo) s):aq (ax prog w) A (wA (.ref f) (pure (n:Int))) Q E s:=by
 obtain⟨j,a,i,b⟩:=id hs;unfold wA Builtin.Slice.sliceFields;refine a7 (a7 (eW a b (x:=e) rfl (a7 (eW a b (x:=d) rfl (a7 (eW a b (x:=.none) rfl (a9 ?_)))))));refine a7 (slicePart_none ?_);show aq _ _ (if((1:Int)==0)=true then _ else _) _ _ s;rw[if_neg ⋯];refine a7 (Am pl (a7 (Am g (a7 (a9 ?_)))));show aq _ _ (match mz lo c 1 (n:Int) with|(lo,c)=>pure (lo,(1:Int),jb lo c 1)) _ _ s;rw[Jo lo c n];show aq _ _ (pure (((jK n 0 lo:Nat):Int),(1:Int),jb ((jK n 0 lo:Nat):Int) ((jK n n c:Nat):Int) 1)) _ _ s;rw[Jp];exact a9 h
def Pw(xs:Array ag)(i k:Nat):((bQ k).filterMap λ(m:Nat)=>xs[((i:Int)+(m:Int)*1).toNat]?).toArray=((xs.toList.drop i).take k).toArray:=by
 have e:(λ(m:Nat)=>xs[((i:Int)+(m:Int)*1).toNat]?)=λm=>xs[i+m]?:=by
  funext m;have:((i:Int)+(m:Int)*1).toNat=i+m:=by omega
  rw[this]
 rw[e];have:=pick_run xs i k;rw[oR] at this;have a:((λx=>xs[x]?)∘λx=>i+x)=λm=>xs[i+m]?:=rfl;rw[a] at this;rw[this]
def wG{t g:ap}{items:Array ag}{j k:ag}{lo b:Option Int}{Q:ag->ak->Prop}(c:IsTup s.heap t items)(hs:s.heap.IsSliceOf g j k .none)(pl:xU j lo)(p:xU k b)
  (n:¬ (jK items.size 0 lo=0/\jK items.size items.size b=items.size))
  (h:Q (.ref s.heap.objs.size) {s with heap:=s.heap.push {cls:=.type "tuple",data:=.seq ((items.toList.drop (jK items.size 0 lo)).take (jK items.size items.size b-jK items.size 0 lo)).toArray}})
  (hsz:items.size<=sizeLine):aq (ax prog w) A (sw (.ref t) (.ref g)) Q E s:=by
 have a:sizeOk (.seq ((items.toList.drop (jK items.size 0 lo)).take (jK items.size items.size b-jK items.size 0 lo)).toArray):=by
  show((items.toList.drop (jK items.size 0 lo)).take (jK items.size items.size b-jK items.size 0 lo)).toArray.size<=sizeLine;rw[a_,zQ,zR,au];omega
 have x:jK items.size items.size b<=items.size:=XA _ _ (av _) b;obtain⟨o,f,d,l⟩:=id hs;have e:s.TypeIs (.ref g) "slice":=⟨o,f,d⟩;unfold sw;try with_reducible refine cC ?_
 first|refine a7 (a9 ?_)|skip
 refine a7 (wpAny_sequenceKey c.typeIs ⋯ ?_);refine a7 (cS (name:=iw "__getitem__") c.typeIs g_
  (bS g_ c.typeIs entry_tuple_getitem ?_ (args_tuple_getitem _ _)))
 show aq _ _ (wB (.ref t)>>=_) _ _ s;refine a7 (tupleItemsOf_ c ?_);refine a7 (vn e ?_);rw[if_pos ⋯];refine a7 (qz hs pl p ?_);have i:¬ ((((jK items.size 0 lo:Nat):Int)==0&&(1:Int)==1&&(jK items.size items.size b-jK items.size 0 lo)==items.size)=true):=by
  intro q;rw[aU,aU] at q;have u:((jK items.size 0 lo:Nat):Int)=0:=eq_of_beq q.1.1;have v:jK items.size items.size b-jK items.size 0 lo=items.size:=eq_of_beq q.2;exact n ⟨by omega,by omega⟩
 show aq _ _ (if(((jK items.size 0 lo:Nat):Int)==0&&(1:Int)==1&&(jK items.size items.size b-jK items.size 0 lo)==items.size)=true then _ else _) _ _ s;rw[if_neg i,Pw];first
  |exact a7 (m:=js _) (bz (a9 ⟨_,rfl,a9 h⟩) a)
  |exact a7 (m:=js _) (bz (a7 (a9 (a9 ⟨_,rfl,a9 h⟩))) a)
  |exact a7 (a7 (m:=js _) (bz (a9 (a9 ⟨_,rfl,a9 h⟩)) a))
  |exact a7 (a7 (m:=js _) (bz (a9 ⟨_,rfl,a9 h⟩) a))
end HT
namespace L2
open PySem PySem.Spec PyProof.Rows
abbrev TO:=St->Hp->(Option Int->Hp->Prop)->Prop
def PO(X:Cx)(e:Option bj)(t:TO):Prop:=
 ∀(a:List (ap×Obj)) (s:ak) (b:St) (H:Hp) (Q:Option Int->Hp->Prop),cb X a b H s->t b H Q ->
  aq (ax X.prog X.w) X.A (evalPart e X.env) (λu s'=>∃o H',cb X a b H' s'/\xU u o/\Q o H') X.xe s
def U2:TO:=λ_ H Q=>Q none H
def Zm(t:TE):TO:=λa H Q=>t a H λx b=>∃i,x=.int i/\Q (some i) b
section
variable{X:Cx}{e:bj}{te:TE}{lo hi:Option bj}{tl th:TO}{pos p2:Pos}
def U3:PO X none U2:=by
 intro a s b H Q I h;rw[evalPart_none];exact a9 ⟨none,H,I,.none,h⟩
def U4(h:PE X e te):PO X (some e) (Zm te):=by
 intro b s d H Q I g;rw[evalPart_some];refine fW (h b s d H _ I g) λu s1 a=>?_;obtain⟨x,c,k,j,f⟩:=a;obtain⟨i,rfl,q⟩:=f;obtain⟨t,rfl⟩:=j;exact⟨some i,c,k,.int i t,q⟩
def Zn(X:Cx)(r:V->Option Int->Option Int->Hp->VK->Prop):Prop:=
 ∀(a:List (ap×Obj)) (s:ak) (c:St) (H:Hp) (x:V) (v f d:ag) (lo hi:Option Int) (b:ap) (Q:VK),cb X a c H s->eu x v->s.heap.IsSliceOf b f d .none->xU f lo->xU d hi->r x lo hi H Q ->
  ∃T id,typeLookup (.type T) "__getitem__"=pure (some (.builtin id))/\s.TypeIs v T/\aq (ax X.prog X.w) X.A (sw v (.ref b)) (EP X a c Q) X.xe s
def tSl(r:V->Option Int->Option Int->Hp->VK->Prop)(te:TE)(tl th:TO):TE:=λa H Q=>te a H λx d=>tl a d λl c=>th a c λu b=>r x l u b Q
def Px(t:Zn X r)(he:PE X e te)(m:PO X lo tl)(o:PO X hi th):PE X (.Subscript e (.Slice lo hi none p2) pos) (tSl r te tl th):=by
 intro a s d H Q I h;refine Subscript_ (fW (he a s d H _ I h) λv s1 ⟨x,j,N,B,p⟩=>?_);refine wpAny_Slice (fW (m a s1 d j _ N p) λf E ⟨l,z,y,pl,G⟩=>fW (o a E d z _ y G) λg c ⟨u,i,n,M,P⟩=>?_);rw[evalPart_none];refine a9 ?_;have K:cb X a d i {c with heap:=c.heap.push {cls:=.type "slice",data:=.fields #[f,g,.none]}}:=n.kept (t':=c.toks) λb ob q=>ae _ q;obtain⟨T,id,L,k,O⟩:=t a {c with heap:=c.heap.push {cls:=.type "slice",data:=.fields #[f,g,.none]}} d i x v f g l u c.heap.objs.size Q K B (Heap.IsSliceOf.new ..) pl M P;show aq (ax X.prog X.w) X.A (MJ e (.Slice lo hi none p2) v (.ref c.heap.objs.size)) (EP X a d Q) X.xe {c with heap:=c.heap.push {cls:=.type "slice",data:=.fields #[f,g,.none]}};exact tail_any (ops:=[.ref c.heap.objs.size,v]) k L O (by with_unfolding_all rfl)
def FZ(xs:List V)(lo hi:Option Int):List V:=(xs.drop (HT.jK xs.length 0 lo)).take (HT.jK xs.length xs.length hi-HT.jK xs.length 0 lo)
def yW(xs:List V)(lo hi:Option Int):(FZ xs lo hi).length<=xs.length:=by
 unfold FZ;rw[zQ,zR];omega
def q1c(K:a8):V->Option Int->Option Int->Hp->VK->Prop:=λx lo hi H Q=>∃a xs,x=.ref a/\m8 K H a xs /\
 ¬ (HT.jK xs.length 0 lo=0/\HT.jK xs.length xs.length hi=xs.length)/\∀p,H p=none->Q (.ref p) (upd H p (.tup (FZ xs lo hi)))
theorem XB:Zn X (q1c X.K):=by
 intro i s n H x v p t lo hi u Q I j hs pl l h;obtain⟨a,xs,rfl,m,k,q⟩:=h;cases j;obtain⟨d,r,f,g⟩:=I.tuple m;have c:d.toArray.size=xs.length:=by rw[a_];exact r.length.symm
 refine⟨"tuple",_,PyProof.Rows.slot_tuple_getitem.lookup,f.typeIs,?_⟩;refine HT.wG f hs pl l (by rw[c];exact k) ?_ (by rw[c];exact g);rw[c];refine⟨.ref s.heap.objs.size,_,I.laid (t':=s.toks) (o:=.tup (FZ xs lo hi)) (λb ob q=>ae _ q) (av _) ?_,rfl,q _ (I.hok.fresh (av _))⟩;exact⟨ca (yW xs lo hi) g,_,(r.drop (HT.jK xs.length 0 lo)).take (HT.jK xs.length xs.length hi-HT.jK xs.length 0 lo),zo _ _⟩
inductive Py (K:a8) (x:V) (y:V) (H:Hp) (Q:VK):Prop
 |mk (a b xs ys:_) (h0:x=.ref a) (h1:y=.ref b) (h2:m8 K H a xs) (h3:m8 K H b ys) (h4:xs≠[]) (h5:xs.length+ys.length<=sizeLine) (h6:(ys=[]->Q (.ref a) H)) (h7:(ys≠[]->∀p,H p=none->Q (.ref p) (upd H p (.tup (xs++ys))))):Py K x y H Q
def Zo(K:a8):R2:=Py K
def eE.nil_iff(r:eE xs us):us=[]↔xs=[]:=by
 cases r with
 |nil=>simp
 |cons _ _=>simp
theorem U5:sD X (ic .Add) (Zo X.K):=by
 intro i s E H x y v u Q I j t h;obtain⟨a,b,xs,ys,rfl,rfl,k,n,B,g,l,A⟩:=h;cases j;cases t;obtain⟨m,d,p,_⟩:=I.tuple k;obtain⟨f,c,p2,_⟩:=I.tuple n;refine HT.U1 p p2 (λz=>B (d.nil_iff.mp z)) (λz=>⟨.ref a,H,I,rfl,l (c.nil_iff.mp z)⟩) (λz=>?_) (by rw[<- d.length,<- c.length];exact g);refine⟨.ref s.heap.objs.size,_,I.laid (t':=s.toks) (o:=.tup (xs++ys)) (λb ob q=>ae _ q) (av _) ?_,rfl,A (λw=>z (c.nil_iff.mpr w)) _ (I.hok.fresh (av _))⟩;exact⟨by rw[aI];exact g,_,d.append c,zo _ _⟩
end
end L2
namespace L2
open PySem PySem.Spec PyProof.Rows
def XC(n:Nat)(i:Int):Option Nat:=if 0<=i then(if i<n then some i.toNat else none) else if -(n:Int)<=i then some (i+n).toNat else none
def IP{a:Type}(xs:List a)(i:Int):Option a:=(XC xs.length i).bind λj=>xs[j]?
def U6(h:XC n i=some j):seqIndex? i n=some j/\j<n/\-(n:Int)<=i/\i<n:=by
 unfold XC at h;by_cases b:0<=i
 ·rw[if_pos b] at h;by_cases a:i<n
  ·rw[if_pos a] at h;have e:i.toNat=j:=cc h;exact⟨by rw[seqIndex_of b a,e],by omega,by omega,a⟩
  ·rw[if_neg a] at h;cases h
 ·rw[if_neg b] at h;by_cases a:-(n:Int)<=i
  ·rw[if_pos a] at h;have e:(i+n).toNat=j:=cc h;exact⟨by rw[seqIndex_neg ∅ a,e],by omega,a,by omega⟩
  ·rw[if_neg a] at h;cases h
def Ec{a:Type}{xs:List a}{i:Int}{v:a}(h:IP xs i=some v):∃j,seqIndex? i xs.length=some j/\xs[j]?=some v/\j<xs.length/\-(xs.length:Int)<=i/\i<xs.length:=by
 unfold IP at h;cases e:XC xs.length i with
 |none=>rw[e] at h;cases h
 |some j=>
  rw[e] at h;obtain⟨b,f,c,d⟩:=U6 e;exact⟨j,b,h,f,c,d⟩
def ua{a:Type}{xs:List a}{j:Nat}{v:a}(h:xs[j]?=some v):IP xs (j:Int)=some v:=by
 have b:j<xs.length:=(List.getElem?_eq_some_iff.mp h).1;have e:XC xs.length (j:Int)=some j:=by
  unfold XC;rw[if_pos ∅,if_pos ∅];simp
 unfold IP;rw[e];exact h
def wH(b:bj):Prop:=∀o i,FG b false o i=operate [o,i] (sw o i)
def Zp(X:Cx)(r:R2):Prop:=
 ∀(c a:bj) (b:List (ap×Obj)) (s:ak) (d:St) (H:Hp) (x y:V) (v u:ag) (Q:VK),cb X b d H s->eu x v->eu y u->r x y H Q ->
  FG a false v u=operate [v,u] (sw v u)->aq (ax X.prog X.w) X.A (MJ c a v u) (EP X b d Q) X.xe s
def MtR(X:Cx)(id:String)(r:V->List V->Hp->VK->Prop):Prop:=
 ∀(a:List (ap×Obj)) (s:ak) (c:St) (H:Hp) (x:V) (xs:List V) (v:ag) (b:List ag) (Q:VK),cb X a c H s->eu x v->eE xs b->r x xs H Q ->
  aq (ax X.prog X.w) X.A (call (.builtin id) (v::b)) (EP X a c Q) X.xe s
section
variable{X:Cx}{a b:bj}{ta tb:TE}{pos:Pos}
def VY(g:Zp X r)(e:PE X a ta)(i:PE X b tb)(hs:wH b):PE X (.Subscript a b pos) (Ze r ta tb):=by
 intro c s f H Q I h;exact Subscript_ (Xo e i I h λv u m x y k j d l q=>g a b c m f k x y v u Q j d l q (hs _ _))
inductive VZ (K:a8) (x:V) (y:V) (H:Hp) (Q:VK):Prop
 |mk (p xs i v:_) (h0:x=.ref p) (h1:y=.int i) (h2:qy K H p xs) (h3:IP xs i=some v) (h4:Q v H):VZ K x y H Q
def Zq(K:a8):R2:=VZ K
inductive V_ (K:a8) (x:V) (y:V) (H:Hp) (Q:VK):Prop
 |mk (p xs i v:_) (h0:x=.ref p) (h1:y=.int i) (h2:m8 K H p xs) (h3:IP xs i=some v) (h4:Q v H):V_ K x y H Q
def q1d(K:a8):R2:=V_ K
inductive W0 (x:V) (y:V) (H:Hp) (Q:VK):Prop
 |mk (z i c:_) (h0:x=.str z) (h1:y=.int i) (h2:z.length<=sizeLine) (h3:IP z.cps.toList i=some c) (h4:Q (.str ⟨#[c]⟩) H):W0 x y H Q
def q1e:R2:=W0
def wI:Zp X (Zq X.K):=by
 intro e l c s m H x y v u Q I A L h hs;obtain⟨p,xs,i,z,rfl,rfl,E,he,q⟩:=h;cases A;obtain⟨t,rfl⟩:=L;obtain⟨f,r,pl,O⟩:=I.list E;obtain⟨j,d,N,P,G,M⟩:=Ec he;obtain⟨w,n,g⟩:=r.get N;have B:=r.length;have S:=yd;have fin:EP X c m Q w s:=⟨z,H,I,g,q⟩;by_cases o:0<=i
 ·have k:i.toNat=j:=by
   rw[seqIndex_of o M] at d;exact cc d
  exact item_listR pl.isList o ∅ (by rw[k];simpa using n) fin hs
 ·have k:(i+(f.toArray.size:Int)).toNat=j:=by
   rw[seqIndex_neg ∅ G] at d;rw[a_,<- B];exact cc d
  exact OV (x:=w) pl.isList.typeIs slot_list_getitem.lookup
   (wpAny_getItem_list_neg (Q:=λr s'=>r=w/\EP X c m Q r s') pl.isList ∅ (by rw[a_]<;>omega) ∅ (by rw[k];simpa using n) ⟨rfl,fin⟩) hs
def XD:Zp X (q1d X.K):=by
 intro d f c s g H x y v u Q I l A h hs;obtain⟨p,xs,i,z,rfl,rfl,n,he,q⟩:=h;cases l;obtain⟨t,rfl⟩:=A;obtain⟨o,r,pl,G⟩:=I.tuple n;obtain⟨j,k,B,L,M,O⟩:=Ec he;obtain⟨w,E,e⟩:=r.get B;have m:=r.length;have N:=yd;have fin:EP X c g Q w s:=⟨z,H,I,e,q⟩;exact OV (x:=w) pl.typeIs slot_tuple_getitem.lookup
  (getItem_tuple (j:=j) (Q:=λr s'=>r=w/\EP X c g Q r s') pl ∅ ∅ (by rw[a_,<- m];exact k) (by simpa using E) ⟨rfl,fin⟩) hs
def XE:Zp X q1e:=by
 intro d e g s G H x y v u Q I k o h hs;obtain⟨z,i,c,rfl,rfl,B,he,q⟩:=h;obtain⟨t,rfl⟩:=k;obtain⟨t',rfl⟩:=o;obtain⟨j,f,w,E,m,p⟩:=Ec he;have l:z.cps.toList.length=z.length:=by simp[Str.length]
 rw[l] at f m p;have K:=yd;exact tail_any (typeIs_str s z t) slot_str_getitem.lookup (getItem_str (c:=c) (by
  have n:decide (i < -(2 ^ 63:Int))=false:=decide_eq_false ∅;have A:decide (i ≥ 2 ^ 63)=false:=decide_eq_false ∅;rw[n,A,Bool.or_false]) (by rw[f];simpa using w) ⟨.str ⟨#[c]⟩,H,I.tok _,⟨_,rfl⟩,q⟩) hs
def Ed(lo c:Option Int)(n:Nat):(oH lo c none n).1=((HT.jK n 0 lo:Nat):Int)/\(oH lo c none n).2.1=((HT.jK n n c:Nat):Int)/\(oH lo c none n).2.2=1:=by
 refine⟨?_,?_,rfl⟩
 ·cases lo with
  |none=>simp[oH,HT.jK]
  |some i=>
   simp only[oH,HT.jK,iC,show(1:Int) > 0 by decide,if_true];by_cases h:i<0
   ·simp only[h,if_true]<;>omega
   ·simp only[h,if_false]<;>omega
 ·cases c with
  |none=>simp[oH,HT.jK]
  |some i=>
   simp only[oH,HT.jK,iC,show(1:Int) > 0 by decide,if_true];by_cases h:i<0
   ·simp only[h,if_true]<;>omega
   ·simp only[h,if_false]<;>omega
def Co(c:List ag)(lo d:Option Int):slicePick c.toArray lo d none=((c.drop (HT.jK c.length 0 lo)).take (HT.jK c.length c.length d-HT.jK c.length 0 lo)).toArray:=by
 obtain⟨e,g,f⟩:=Ed lo d c.toArray.size;unfold slicePick;rw[e,g,f];simp only[sliceRange_one,pick_run,a_]<;>rfl
def q1f(K:a8):V->Option Int->Option Int->Hp->VK->Prop:=λx lo c H Q=>∃a xs,x=.ref a/\qy K H a xs/\∀p,H p=none->Q (.ref p) (upd H p (.lst (FZ xs lo c)))
theorem U7:Zn X (q1f X.K):=by
 intro f s m H x v n p lo d t Q I g hs pl k h;obtain⟨a,xs,rfl,l,q⟩:=h;cases g;obtain⟨j,r,e,i⟩:=I.list l;have c:=r.length;refine⟨"list",_,slot_list_getitem.lookup,e.isList.typeIs,?_⟩;refine wpAny_getItem_list_slice e.isList hs pl k .none (by simp) ?_ (by rw[a_]<;>omega);rw[Co,<- c];refine⟨.ref s.heap.objs.size,_,I.laid (t':=s.toks) (o:=.lst (FZ xs lo d)) (λb ob q=>ae _ q) (av _) ?_,rfl,q _ (I.hok.fresh (av _))⟩;exact⟨ca (yW xs lo d) i,_,0,(r.drop (HT.jK xs.length 0 lo)).take (HT.jK xs.length xs.length d-HT.jK xs.length 0 lo),aC _ rfl⟩
def sP:V->Bool
 |.non=>true
 |.bl _=>true
 |.int _=>true
 |.str _=>true
 |_=>false
def U8:V->V->Bool
 |.non,.non=>true
 |.bl a,.bl b=>a==b
 |.bl a,.int b=>(if a then 1 else 0)==b
 |.int a,.bl b=>a==(if b then 1 else 0)
 |.int a,.int b=>a==b
 |.str a,.str b=>a==b
 |_,_=>false
theorem XF(e:eu y u)(c:eu x v)(f:sP y=true)(d:sP x=true):SeqAt.EqAt A s u v (U8 y x):=by
 cases y with
 |non=>
  cases e;cases x with
  |non=>cases c;exact SeqAt.EqAt.same _
  |bl b=>cases c;exact SeqAt.EqAt.none_bool b
  |int b=>obtain⟨t,rfl⟩:=c;exact SeqAt.EqAt.none_int b t
  |str b=>obtain⟨t,rfl⟩:=c;exact SeqAt.EqAt.none_str b t
  |_=>exact absurd (show false=true from d) ba
 |bl a=>
  cases e;cases x with
  |non=>cases c;exact SeqAt.EqAt.bool_none a
  |bl b=>cases c;exact SeqAt.EqAt.bool_bool a b
  |int b=>obtain⟨t,rfl⟩:=c;exact SeqAt.EqAt.bool_int a b t
  |str b=>obtain⟨t,rfl⟩:=c;exact SeqAt.EqAt.bool_str a b t
  |_=>exact absurd (show false=true from d) ba
 |int a=>
  obtain⟨t',rfl⟩:=e;cases x with
  |non=>cases c;exact SeqAt.EqAt.int_none a t'
  |bl b=>cases c;exact SeqAt.EqAt.int_bool a t' b
  |int b=>obtain⟨t,rfl⟩:=c;exact SeqAt.EqAt.int_int a t' b t
  |str b=>obtain⟨t,rfl⟩:=c;exact FE a t' b t
  |_=>exact absurd (show false=true from d) ba
 |str a=>
  obtain⟨t',rfl⟩:=e;cases x with
  |non=>cases c;exact SeqAt.EqAt.str_none a t'
  |bl b=>cases c;exact SeqAt.EqAt.str_bool a t' b
  |int b=>obtain⟨t,rfl⟩:=c;exact FF a t' b t
  |str b=>obtain⟨t,rfl⟩:=c;exact SeqAt.EqAt.str_str a t' b t
  |_=>exact absurd (show false=true from d) ba
 |_=>exact absurd (show false=true from f) ba
def Jq(x:V)(u:ag):Bool:=match u with
 |.none=>U8 .non x
 |.bool b=>U8 (.bl b) x
 |.int i _=>U8 (.int i) x
 |.str z _=>U8 (.str z) x
 |_=>false
theorem Pz(r:eu y u)(f:sP y=true):Jq x u=U8 y x:=by
 cases y with
 |non=>cases r;rfl
 |bl b=>cases r;rfl
 |int i=>obtain⟨t,rfl⟩:=r;rfl
 |str z=>obtain⟨t,rfl⟩:=r;rfl
 |_=>exact absurd (show false=true from f) ba
theorem wJ:∀{xs:List V}{c:List ag},eE xs c->xs.all sP=true->c.any (Jq x)=xs.any λy=>U8 y x
 |_,_,.nil,_=>rfl
 |y::xs,u::c,.cons r t,f=>by
  rw[qR,aU] at f;rw[eT,eT,Pz r f.1,wJ t f.2]
theorem sQ(g:eu x v)(e:sP x=true):∀{xs:List V}{d:List ag},eE xs d->xs.all sP=true->∀u∈d,SeqAt.EqAt A s u v (Jq x u)
 |_,_,.nil,_=>λu c=>by cases c
 |y::xs,u::d,.cons r t,f=>λh c=>by
  rw[qR,aU] at f;rcases List.mem_cons.mp c with rfl|c
  ·rw[Pz r f.1];exact XF r g f.1 e
  ·exact sQ g e t f.2 h c
def inV(x:V)(xs:List V):Bool:=xs.any λy=>U8 y x
inductive Zr (K:a8) (neg:Bool) (x:V) (y:V) (H:Hp) (Q:VK):Prop
 |mk (p xs:_) (h0:y=.ref p) (h1:(qy K H p xs\/m8 K H p xs)) (h2:sP x=true) (h3:xs.all sP=true) (h4:Q (.bl (if neg then !inV x xs else inV x xs)) H):Zr K neg x y H Q
def rIn(K:a8)(c:Bool):R2:=Zr K c
def N8:sD X (bG .In) (rIn X.K false):=by
 intro g s l H x y v u Q I f k h;obtain⟨p,xs,rfl,d,i,fs,q⟩:=h;cases k;rcases d with d|d
 ·obtain⟨c,r,pl,j⟩:=I.list d;refine SeqAt.in_listAt (Jq x) pl.isList (λw e=>sQ f i r fs w (by simpa using e)) ⟨.bl _,H,I,rfl,?_⟩;rw[show c.toArray.any (Jq x)=c.any (Jq x) by simp,wJ r fs];exact q
 ·obtain⟨c,r,pl,j⟩:=I.tuple d;refine SeqAt.in_tupleAt (Jq x) pl (λw e=>sQ f i r fs w (by simpa using e)) ⟨.bl _,H,I,rfl,?_⟩;rw[show c.toArray.any (Jq x)=c.any (Jq x) by simp,wJ r fs];exact q
def Ee:sD X (bG .NotIn) (rIn X.K true):=by
 intro g s l H x y v u Q I f k h;obtain⟨p,xs,rfl,d,i,fs,q⟩:=h;cases k;rcases d with d|d
 ·obtain⟨c,r,pl,j⟩:=I.list d;refine SeqAt.notIn_listAt (Jq x) pl.isList (λw e=>sQ f i r fs w (by simpa using e)) ⟨.bl _,H,I,rfl,?_⟩;rw[show c.toArray.any (Jq x)=c.any (Jq x) by simp,wJ r fs];exact q
 ·obtain⟨c,r,pl,j⟩:=I.tuple d;refine SeqAt.notIn_tupleAt (Jq x) pl (λw e=>sQ f i r fs w (by simpa using e)) ⟨.bl _,H,I,rfl,?_⟩;rw[show c.toArray.any (Jq x)=c.any (Jq x) by simp,wJ r fs];exact q
def wK:ki X (.builtin "len") (λxs H Q=>∃p ys,xs=[.ref p]/\(qy X.K H p ys\/m8 X.K H p ys)/\Q (.int ys.length) H):=by
 intro g s k H xs m Q I r h;obtain⟨p,ys,rfl,d,q⟩:=h;obtain⟨u,rfl,i⟩:=lG r;cases i;have l:=yd;rcases d with d|d
 ·obtain⟨e,f,pl,j⟩:=I.list d;have c:=f.length;exact Calls.call_len_list pl.isList (by simp only[a_]<;>omega) ⟨.int ys.length,H,I.tok _,⟨s.toks+1,by rw[a_,c]⟩,q⟩
 ·obtain⟨e,f,pl,j⟩:=I.tuple d;have c:=f.length;exact len_tuple pl (by simp only[a_]<;>omega) ⟨.int ys.length,H,I.tok _,⟨s.toks+1,by rw[a_,c]⟩,q⟩
def Ef:ki X (.builtin "len") (λxs H Q=>∃z,xs=[.str z]/\z.length<=sizeLine/\Q (.int z.length) H):=by
 intro c s e H xs d Q I r h;obtain⟨z,rfl,g,q⟩:=h;obtain⟨u,rfl,t,rfl⟩:=lG r;have f:=yd;exact len_str ∅ ⟨.int z.length,H,I.tok _,⟨_,rfl⟩,q⟩
theorem wL:ki X (.type "list") (λxs H Q=>∃p ys,xs=[.ref p]/\(qy X.K H p ys\/m8 X.K H p ys)/\∀l,H l=none->Q (.ref l) (upd H l (.lst ys))):=by
 intro j s x H xs y Q I r h;obtain⟨p,ys,rfl,i,q⟩:=h;obtain⟨u,rfl,v⟩:=lG r;cases v;have fin:∀(c:List ag),eE ys c->ys.length<=sizeLine->∀(h':cg) (d:Nat),(∀b o',s.heap.get? b=some o'->h'.get? b=some o') ->
   h'.get? s.heap.objs.size=some {cls:=.type "list",dict:=none,data:=.seq c.toArray d,slots:=#[]}->EP X j x Q (.ref s.heap.objs.size) {s with heap:=h'}:=λc f g h' d kp e=>
  ⟨.ref s.heap.objs.size,_,I.laid (t':=s.toks) kp (av _) (show d_ X.prog X.w _ h' _ (.lst ys) from⟨g,c,d,f,e⟩),rfl,q _ (I.hok.fresh (av _))⟩
 rcases i with i|i
 ·obtain⟨c,f,pl,g⟩:=I.list i;have k:=f.length;obtain⟨o,ho,m,n,t⟩:=pl.isList;exact call_list_seq p (.inl rfl) ho m t (λh' d kp e=>fin c f g h' d kp e) (by simp only[a_]<;>omega)
 ·obtain⟨c,f,pl,g⟩:=I.tuple i;have k:=f.length;obtain⟨o,ho,m,n,t⟩:=pl;exact call_list_seq p (.inr rfl) ho m t (λh' d kp e=>fin c f g h' d kp e) (by simp only[a_]<;>omega)
theorem vd:ki X (.type "tuple") (λxs H Q=>∃p ys,xs=[.ref p]/\((qy X.K H p ys/\∀l,H l=none->Q (.ref l) (upd H l (.tup ys)))\/(m8 X.K H p ys/\Q (.ref p) H))):=by
 intro c s j H xs v Q I r h;obtain⟨p,ys,rfl,h⟩:=h;obtain⟨u,rfl,n⟩:=lG r;cases n;rcases h with⟨f,q⟩|⟨f,q⟩
 ·obtain⟨d,g,pl,i⟩:=I.list f;have k:=g.length;refine call_tuple_list pl.isList (λh' kp=>?_) (by simp only[a_]<;>omega);have m:cb X c j H {s with heap:=h'}:=I.kept (t':=s.toks) kp;have t:cb X c j (upd H h'.objs.size (.tup ys)) {s with heap:=h'.push {cls:=.type "tuple",data:=.seq d.toArray}}:=
   m.laid (t':=s.toks) (λb o e=>ae _ e) (av _) (show d_ X.prog X.w _ _ _ (.tup ys) from⟨i,d,g,zo _ _⟩)
  exact⟨.ref h'.objs.size,_,t,rfl,q _ (m.hok.fresh (av _))⟩
 ·obtain⟨d,g,pl,i⟩:=I.tuple f;exact call_tuple_same pl ⟨.ref p,H,I,rfl,q⟩
def tyV(K:a8)(T:String)(x:V)(H:Hp):Prop:=match x with
 |.str _=>T="str"
 |.int _=>T="int"
 |.ref p=>(T="list"/\∃xs,qy K H p xs)\/(T="tuple"/\∃o,K.lookup p=some o/\o.cls=.type "tuple"/\o.dict=none) \/
   (T="dict"/\((∃c,H p=some (.dK c))\/∃c,H p=some (.dT c)))\/(T="set"/\∃S n,H p=some (.set S n))
 |_=>False
def XG(I:cb X pins σ H s)(r:eu x v)(ty:tyV X.K T x H):
  s.TypeIs v T/\∀a,v=.ref a->∃ob,s.heap.get? a=some ob/\ob.dict=none:=by
 cases x with
 |str z=>
  obtain⟨t,rfl⟩:=r;cases(show T="str" from ty);exact⟨typeIs_str s z t,λ_ e=>nomatch e⟩
 |int i=>
  obtain⟨t,rfl⟩:=r;cases(show T="int" from ty);exact⟨typeIs_int s i t,λ_ e=>nomatch e⟩
 |ref p=>
  cases r;rcases ty with⟨rfl,xs,k⟩|⟨rfl,o,d,hc,g⟩|⟨rfl,d⟩|⟨rfl,S,n,d⟩
  ·obtain⟨l,_,pl,_⟩:=I.list k;refine⟨pl.isList.typeIs,λa e=>?_⟩;cases e;obtain⟨o,n,e,c,g,_⟩:=pl;exact⟨o,e,g⟩
  ·refine⟨⟨o,I.kIn p o d,hc⟩,λa e=>?_⟩;cases e;exact⟨o,I.kIn _ o d,g⟩
  ·have z:∃o,s.heap.get? p=some o/\o.ExactDict:=by
    rcases d with⟨h,d⟩|⟨h,d⟩
    ·obtain⟨_,_,_,_,o,_,_,e,f,_⟩:=I.hok p _ d;exact⟨o,e,f⟩
    ·obtain⟨_,_,_,_,o,_,_,e,f,_⟩:=I.hok p _ d;exact⟨o,e,f⟩
   obtain⟨o,e,f⟩:=z;refine⟨⟨o,e,f.1⟩,λa j=>?_⟩;cases j;exact⟨o,e,f.2.1⟩
  ·obtain⟨o,_,_,_,e,f,_⟩:=I.hok p _ d;refine⟨⟨o,e,f.1⟩,λa j=>?_⟩;cases j;exact⟨o,e,f.2.1⟩
 |_=>exact jA ty
def tBM(K:a8)(T:String)(r:V->List V->Hp->VK->Prop)(e:TE)(t:TA):TE:=λc H Q=>e c H λx d=>tyV K T x d/\t c d λxs f=>r x xs f Q
variable{o e:bj}{es:List bj}{to:TE}{t:TA}{name:Str}{apos cpos:Pos}{T id:String}{r:V->List V->Hp->VK->Prop}
def W3(M:PlainAttrs T)(k:Slot T name id)(m:typeOf (.builtin id)=pure (.type "method_descriptor"))(A:MtR X id r)(ho:PE X o to)(y:PA X (e::es) t)
  (g:MK o name X.env (eI o X.env)=eI o X.env:=by rfl)
  (j:((iz cpos (aP (e::es) X.env)).all (λx=>!x.1)&&(backToKw cpos (Td [] X.env)).all (λx=>x.1.isSome)
   && decide ((e::es).length+([]:List IE).length+(if([]:List IE).isEmpty then 0 else 1)<30))=true:=by rfl)
  (f:(apos.endLine==cpos.line)=true:=by rfl) (hs:aP (e::es) X.env=(false,eI e X.env)::aP es X.env:=by rfl) (d:(iz cpos (aP es X.env)).any (·.1)=false:=by rfl):
  PE X (.Call (.Attribute o name apos) (e::es) [] cpos) (tBM X.K T r to t):=by
 intro c s l H Q I h;refine wpAny_Call_method_late g j f rfl (fW (ho c s l H _ I h) λv s1 ⟨x,w,q,p,ty,z⟩=>?_);obtain⟨u,N⟩:=XG q p ty;refine⟨T,id,M,k,m,u,N,?_⟩;have n:=y cpos c s1 l w _ q z;rw[hs] at n ⊢;refine Calls.callWith_builtin (by show(false||(iz cpos (aP es X.env)).any (·.1))=false;rw[d]<;>rfl) (Calls.evalArgs_plain ?_);exact fW n λO G i=>by obtain⟨S,E,B,P,L⟩:=i;exact A c G l E x S v O Q B p P L
end
end L2
namespace L2
open PySem PySem.Spec PyProof.Rows
def MtM(X:Cx)(id:String)(r:V->List V->Hp->VK->Prop):Prop:=
 ∀(a:List (ap×Obj)) (s:ak) (c:St) (H:Hp) (x:V) (xs:List V) (v:ag) (b:List ag) (Q:VK),cb X a c H s->eu x v->eE xs b->r x xs H Q ->
  aq (ax X.prog X.w) X.A (call (.builtin id) (v::b)) (EP X a c Q) X.xe s
def eE.one(h:eE [x] us):∃u,us=[u]/\eu x u:=by
 cases h with|cons r t=>cases t;exact⟨_,rfl,r⟩
def cb.lset{a its':List ag}{n:Nat}{f:Array ag->Array ag}{t':Nat}(I:cb X pins σ H s)(h:H l=some (.lst xs))
  (e:s.heap.get? l=some {cls:=.type "list",data:=.seq a.toArray n}) (d:f a.toArray=its'.toArray) (c:eE ys its') (i:ys.length<=sizeLine):
  cb X pins σ (upd H l (.lst ys)) {s with heap:=s.heap.update l (iA f),toks:=t'}:=by
 have q:=PySem.IsL.update e f;rw[d] at q;refine I.write (x:=l) (e:=l) (by rw[h];exact trivial) (.inl rfl) (λj u g b=>(cx s.heap (iA f) (dm g)).trans b) ⟨_,q⟩ ?_;exact⟨i,its',_,c,q⟩
def cb.lnew(I:cb X pins σ H s)(a:eE ys its)(b:ys.length<=sizeLine):
  cb X pins σ (upd H s.heap.objs.size (.lst ys)) {s with heap:=s.heap.push {cls:=.type "list",data:=.seq its.toArray},toks:=t'}:=
 I.laid (λ_ _ q=>ae _ q) (av _) ⟨b,its,0,a,aC _ rfl⟩
def cb.fresh(I:cb X pins σ H s):H s.heap.objs.size=none:=I.hok.fresh (av _)
def cb.lstM(I:cb X pins σ H s)(b:H l=some (.lst xs)):InM s.heap l xs:=by
 obtain⟨z,a,n,r,e⟩:=I.hok l _ b;exact⟨z,a,n,r,r.length,e⟩
inductive F_ (x:V) (vs:List V) (H:Hp) (Q:VK):Prop
 |mk (l xs y:_) (h0:x=.ref l) (h1:vs=[y]) (h2:H l=some (.lst xs)) (h3:xs.length<sizeLine) (h4:Q .non (upd H l (.lst (xs++[y])))):F_ x vs H Q
def U9:V->List V->Hp->VK->Prop:=F_
def D2:MtM X "list.append" U9:=by
 intro b s k H x o v m Q I d f h;obtain⟨l,xs,y,rfl,rfl,c,j,q⟩:=h;cases d;obtain⟨u,rfl,g⟩:=f.one;obtain⟨z,a,n,r,i,e⟩:=I.lstM c;refine call_meets F.slot_list_append ⟨_,e,rfl⟩ F.entry_list_append (F.args_list_append_2 _ _) (PySem.list_append l a.toArray n u (by rw[a_];omega)) ⟨e,?_⟩;refine⟨.non,_,I.lset (its':=a++[u]) c e (by simp) (r.append (.cons g .nil)) ?_,rfl,q⟩;rw[aI,eN];omega
end L2
namespace Att
open PySem PySem.W PySem.Calls PyProof.Rows
def zz:∀(c:List Int) (d:List ag),WellAll P h d (c.map WData.int)->OW d c:=by
 intro c;induction c with
 |nil=>
  intro d w;rw[dW] at w;cases w;exact .nil
 |cons n c e=>
  intro d w;rw[ar] at w;cases w with
  |cons a b=>
   cases a;exact .cons _ _ (e _ b)
def N9{l:OpenLaw}{n:Nat}(w:l.most=some n){P:Params}{h:cg}{args:List WData}{c:List ag}
  (e:l.row.toRowW.claim.pre args=true) (k:WellAll P h c args):
  ∃a p b,c=[bq a]/\args=[WData.list (b.map WData.int)]/\h.get? a=some {cls:=.type "list",data:=.seq p.toArray}/\OW p b/\b.length<=n:=by
 have m:WShape.hasAll [] args [.list .int]=true:=(pre_splitW e).1;have o:l.pre.holds [] {args:=args}=true:=(pre_splitW e).2;obtain⟨d,r,rfl,t,x⟩:=hasAllW_cons m;obtain rfl:=hasAllW_nil x;obtain⟨xs,rfl,v⟩:=hasW_list t;obtain⟨b,rfl⟩:=items_int v;have g:b.length<=n:=by
  unfold OpenLaw.pre at o;have i:(WTm.not (.lt (.lit (.int (n:Int))) (.len (.arg 0)))).holds [] {args:=[.list (b.map .int)]}=true:=by
   have i:=(holds_andW o).1;rw[w] at i;exact i
  have j:=condW_of i (w_not (w_lt w_lit (w_len_list (w_arg rfl))));rw[am] at j;refine Te λq=>?_;have q':(n:Int)<((b.length:Nat):Int):=by omega
  first
   |(rw[decide_eq_true q'] at j;exact absurd j ⋯)
   |(simp at j;omega)
 cases k with
 |cons s u=>
  cases u;cases s with
  |list ho f=>exact⟨_,_,b,rfl,rfl,ho,zz b _ f,g⟩
def Na(l:OpenLaw)(args:List WData):l.row.toRowW.claim.post args (.bool true) args=true:=
 postW_of (r:=l.row.toRowW) (X:=(true==true))
  (show WShape.has [] (.bool true) .bool=true by first|rfl|decide|simp[WShape.has,WShape.arms,WShape.armsAll])
  (show(WTm.eq .res (.lit (.bool true))).value [] {args:=args,res:=some (.bool true),after:=args}=some (.bool (true==true)) from w_eq_bool (w_res rfl) w_lit) rfl
def attach_call{l:OpenLaw}{n:Nat}{q:bg}{c:List Str}{M:(Str->Option ag)->cg->Prop}{E:bL->cg->Prop}{d:DefRec}
  (U:l.most=some n) (A:d.params.defaults=[])
  (call:∀(w:bL) (e b:ak) (u x:Str->Option ag) (j:ap) (o:Obj) (B s g:ag) (a:ap) (i:List ag) (t:List Int),
   Ground q c [] M w e u x b.heap->E w b.heap ->
   b.heap.get? j=some o->o.data=.func (docDef d.name d.params d.body d.scope B s g)->b.heap.CodeRec s d.name->u d.name=some (.ref j) ->
   b.heap.get? a=some {cls:=.type "list",data:=.seq i.toArray}->OW i t->t.length<=n->b.gens=#[] ->
   eJ (ax l.prog w) yQ (.call (.ref j) ⟨[.ref a],[]⟩) (λr s'=>r=.ok (.ret (.bool true))/\OldK b.heap s'.heap/\s'.os=b.os/\su s'.gens) b):
  WalkO q c M E l.row.toRowW d [] (λf i=>ML f i):=by
 intro w e b u x G Y j o B s g N kV ho hd v L z hg K I as k H X y S;obtain rfl:N=.none:=Dflts.none L A;obtain rfl:kV=.none:=Dflts.noKw L;obtain⟨a,i,t,rfl,rfl,m,h,p⟩:=N9 U k y;refine enter_call (qv (call w e b u x j o B s g a i t G Y ho (fd_plain hd) v z m h p hg) λr s' P=>?_);obtain⟨rfl,h2,O,Q⟩:=P;exact⟨.inl ⟨.bool true,.bool true,[],rfl,λ_=>rfl,.bool true,Na l _,λ_=>⟨sG,λ_ T=>(nomatch T)⟩⟩,h2,O,Q⟩
section
variable{prog:bg}{w:bL}{A:cy}{E:ag->ak->Prop}{s:ak}{K:Frag}
def q1g(h:cg)(L d:ap):List (ap×Obj):=(bQ h.objs.size).filterMap λa=>if a=L\/a=d then none else(h.get? a).map λo=>(a,o)
end
end Att
namespace L2
open PySem PySem.Spec PyProof.Rows
def Nb(h:OW vs ns):eE (ns.map V.int) vs:=by
 induction h with
 |nil=>exact .nil
 |cons n t h a=>exact .cons ⟨t,rfl⟩ a
def XH(H:Hp):Prop:=∀b,H b=none\/∃o xs,H b=some (.frz o (.lst xs))
def PB{P:bg}{w:bL}{K:a8}{E S:Str->Option ag}{CX:Pu}{k:Nat}{T a:ap}{fd:ig}{x:Str}{sp:Sp}{c:ak}{p:List ag}{y:List Int}
  (KX:K.In c.heap) (I:c.heap.Ns cn E) (g:c.heap.Ns builtinsNs S) (a0:∀x:Str,x≠"__name__"->S x=jq x) (O:c.heap.NoLimit) (hg:c.gens=#[])
  (Q:c.heap.get? a=some {cls:=.type "list",data:=.seq p.toArray}) (hi:OW p y) (hl:y.length<=sizeLine) (hr:m9 k yQ)
  (F:∀base:cg,K.In base->base.Ns cn E->uS P w K E base CX k T fd [x] sp) (l:∀(s:ak) (u:ag),C5 s fd ⟨[u],[]⟩ [(x,u)])
  (X:∀H:Hp,XH H->qy K H a (y.map V.int)->sp [.ref a] H (λv _=>v=.bl true) λ_ _ _=>False)
  (Y:∀H e s',CX [] H c (λ_ _ _=>False) e s'->False):
  eJ (ax P w) yQ (.call (.ref T) ⟨[.ref a],[]⟩) (λr s'=>r=.ok (.ret (.bool true))/\OldK c.heap s'.heap/\s'.os=c.os/\su s'.gens) c:=by
 have rv:=Nb hi
 have L:=hi.length
 have j:∀H:Hp,XH H->qy K H a (y.map V.int)->sC P w H c.heap->(∀b,H b≠none->b=a)->(H a≠none->K.lookup a=none) ->
   eJ (ax P w) yQ (.call (.ref T) ⟨[.ref a],[]⟩) (λr s'=>r=.ok (.ret (.bool true))/\OldK c.heap s'.heap/\s'.os=c.os/\su s'.gens) c:=by
  intro H hO hS M hA hK
  have f:∀{b:ap}{o:Obj},c.heap.get? b=some o->H b=none->(E9 c.heap H).get? b=some o:=λe n=>Pg e n
  have a1:∀{b:ap}{o:Obj}{es:Array uK}{t:Nat},c.heap.get? b=some o->o.data=.dict es t->H b=none:=λ{b o es t} e d=>by
   cases q:H b with
   |none=>rfl
   |some u=>
    have U:b=a:=hA b (by rw[q];simp)
    subst U
    rw[Q] at e;cases e
    have d':Data.seq p.toArray _=Data.dict es t:=d
    cases d'
  have i:∀{b:ap}{m:Str->Option ag},c.heap.Ns b m->(E9 c.heap H).Ns b m:=λ{b m} ⟨o,es,t,e,d,r⟩=>⟨o,es,t,f e (a1 e d),d,r⟩
  have A:K.In (E9 c.heap H):=λb o e=>f (KX b o e) (by
   cases q:H b with
   |none=>rfl
   |some u=>
    have U:b=a:=hA b (by rw[q];simp)
    subst U
    rw[hK (by rw[q];simp)] at e;cases e)
  have hM:Mod K E (E9 c.heap H):=⟨A,i I,⟨S,i g,a0⟩,let ⟨mc,h1,h2⟩:=O;⟨mc,i h1,h2⟩⟩
  have e0:U0 P w K E (E9 c.heap H) yQ [] c H:=⟨rfl,hM,λb o e=>TH e,Nat.le_of_eq (M_ _ _),trivial,λb g=>absurd (show b∈([]:List ap) from g) (by simp),M,.of_eq hg⟩
  refine qv ((F _ A (i I)).run yQ [] c H ⟨[.ref a],[]⟩ [.ref a] [.ref a] _ _ hr e0 (l c (.ref a)) (.cons rfl .nil) (X H hO hS)) λr s' h=>?_
  cases r with
  |error e=>exact(Y H e s' h).elim
  |ok fl=>
   cases fl with
   |next=>exact jA h
   |brk=>exact jA h
   |cont=>exact jA h
   |ret u=>
    obtain⟨v,H',os,N,un,G,r',q⟩:=h
    have q':v=.bl true:=q
    subst q'
    obtain rfl:u=MD true:=r'
    refine⟨rfl,OldK.of_keep λb o e=>?_,os,N⟩
    cases q:H b with
    |none=>exact un.keep b o e q (by intro z;exact absurd (show b∈([]:List ap) from z) (by simp)) (by simp)
    |some u=>
     rcases hO b with z|⟨ob,xs,z⟩
     ·rw[q] at z;cases z
     ·have z2:=un.frzs b ob _ z
      obtain⟨e1,_⟩:=M b _ z
      obtain⟨e2,_⟩:=G b _ z2
      rw[e] at e1;cases e1
      exact e2
 cases hk:K.lookup a with
 |some o=>
  have e:=KX a o hk
  rw[Q] at e
  cases e
  refine j (λ_=>none) (λ_=>.inl rfl) (.inr ⟨_,p.toArray,_,hk,rfl,rfl,rfl,by rw[a_,L];exact hl,by simpa using rv⟩) (λb u z=>by have B:(none:Option HO)=some u:=z;cases B) (λb z=>absurd rfl z) λz=>absurd rfl z
 |none=>
  refine j (λb=>if b=a then some (.frz {cls:=.type "list",data:=.seq p.toArray} (.lst (y.map V.int))) else none) (λb=>?_) (.inl (.inr ⟨{cls:=.type "list",data:=.seq p.toArray},if_pos rfl⟩)) (λb u z=>?_) (λb z=>?_) λ_=>hk
  ·by_cases g:b=a
   ·exact .inr ⟨_,_,if_pos g⟩
   ·exact .inl (if_neg g)
  ·by_cases g:b=a
   ·have B:=(if_pos g).symm.trans z
    cases B
    subst g
    exact⟨Q,by rw[am];exact hl,p,_,rv,Q⟩
   ·have B:=(if_neg g).symm.trans z
    cases B
  ·by_cases g:b=a
   ·exact g
   ·exact absurd (if_neg g) z
end L2
namespace L2
open PySem PySem.Spec PyProof.Rows
abbrev KOf{K:a8}{h:cg}(_:K.In h):a8:=K
def Ua{l:zq}{n k:Nat}{q:bg}{i:List Str}{XP:(Str->Option ag)->cg->Prop}{N:bL->cg->Prop}{d:DefRec}{K:Params->a8}{CX:bL->Pu}{sp:bL->Sp}{x:Str}
  (hn:l.most=some n) (I:n<=sizeLine) (E:d.params.defaults=[]) (hr:m9 k yQ)
  (S:∀(w:bL) (h:cg),N w h->(K w.params).In h)
  (F:∀(w:bL) (m:Str->Option ag) (y:ap) (h:cg),(K w.params).In h->h.Ns cn m->m d.name=some (.ref y) ->
   ∃A:ig,(∀(s:ak) (u:ag),C5 s A ⟨[u],[]⟩ [(x,u)]) /\
    ∀base:cg,(K w.params).In base->base.Ns cn m->uS l.prog w (K w.params) m base (CX w) k y A [x] (sp w))
  (L:∀(w:bL) (H:Hp) (a:ap) (z:List Int),z.length<=n->XH H->qy (K w.params) H a (z.map V.int)->sp w [.ref a] H (λv _=>v=.bl true) λ_ _ _=>False)
  (M:∀(w:bL) (H:Hp) (s:ak) (e:ag) (s':ak),CX w [] H s (λ_ _ _=>False) e s'->False):
  SX q i XP N l.row.toRowW d [] (λf Q=>ML f Q):=by
 refine Att.attach_call hn E λw P p m mb y o pm cd a0 a Q z G Y ho hd X B t j c hg=>?_;have O:=S w _ Y;obtain⟨A,hb,U⟩:=F w m y _ O G.T.g B;exact PB O G.T.g G.T.b G.T.builtins G.T.nolimit hg t j (ca c I) hr U hb (λH hO hS=>L w H a z c hO hS) λH e s'=>M w H p e s'
end L2
namespace L2
open PySem PySem.Spec PyProof.Rows
def lU(s:dZ):Arguments:=match s with
 |.FunctionDef _ a _ _ _ _ _ _ _ _=>a
 |_=>{posonlyargs:=[],args:=[],vararg:=none,kwonlyargs:=[],kw_defaults:=[],kwarg:=none,defaults:=[]}
def jh(s:dZ):List dZ:=match s with
 |.FunctionDef _ _ b _ _ _ _ _ _ _=>b
 |_=>[]
def az(s:dZ):eM:=match s with
 |.FunctionDef _ _ _ _ _ _ a _ _ _=>a
 |_=>{kind:=.function,names:=[],isGenerator:=false,isCoroutine:=false}
abbrev E0:XK:=λ_ _ _=>False
structure Nc (K:a8) (x qual:Str) (st:dZ) (f:ap) (fd:ig):Prop where
 ex:∃(oc:ag) (od:Option ap) (kV doc pm:ag) (an:Option ap) (cdv ct:ag) (osl:Array (Option ag)),
  fd=h_ x qual (lU st) (jh st) (az st) .none kV doc pm an cdv ct/\K.lookup f=some ⟨oc,od,.func fd,osl⟩/\nJ K cdv qual=true
 kp:gN K (.ref f)=true
section
variable{P:bg}{w:bL}{K:a8}{mg:Str->Option ag}{base:cg}
def Nc.binds{x a:Str}{st:dZ}{f:ap}{k:ig}{d:List Str}(F:Nc K x a st f k)
  (h:∀(kV b e:ag) (i:Option ap) (c j:ag) (g:List ag),g.length=d.length->Tc (h_ x a (lU st) (jh st) (az st) .none kV b e i c j) ⟨g,[]⟩=pure (d.zip g)):mL K k d []:=by
 obtain⟨n,p,kV,b,e,i,c,j,m,rfl,o,l⟩:=F.ex;exact .all (h kV b e i c j)
def PD{x a:Str}{st:dZ}{f:ap}{j:ag}{m h:Option ap}{e:Array (Option ag)}{kV d i b g:ag}(l:K.lookup f=some ⟨j,m,.func (h_ x a (lU st) (jh st) (az st) .none kV d i h b g),e⟩)
  (c:nJ K b a=true) (k:gN K (.ref f)=true):Nc K x a st f (h_ x a (lU st) (jh st) (az st) .none kV d i h b g):=⟨⟨j,m,kV,d,i,h,b,g,e,rfl,l,c⟩,k⟩
end
def iF(a:m9 k A):A.units+1<fZ:=pV (Nat.add_le_add_left (by decide:1<=64) _) a.units
def eX(h:n<=1000):n<sizeLine:=pV h ⋯
def pv(i:Nat)(b:X.N[i]?=some x:=by rfl)(c:OR X.env.scope x:=by first|exact iq rfl|exact f9 (iq rfl)|exact f9 (f9 rfl))(d:(x==("__debug__" : Str))=false:=by decide)
  (a:(x==("__classdict__" : Str))=false:=by decide):PE X (.Name x pos) (X5 i):=r9 b c d a
def wM{A B:Prop}(h:B):if false=true then A else B:=by
 rw[if_neg ba];exact h
def wN{A B:Prop}(h:A):if true=true then A else B:=by
 rw[if_pos rfl];exact h
def dQ(H H':Hp):Prop:=∀b o,H b=some o->H' b=some o
def dQ.refl(H:Hp):dQ H H:=λ_ _ h=>h
def dQ.trans(a:dQ H H1)(b:dQ H1 H2):dQ H H2:=λc o h=>b c o (a c o h)
def dQ.free(e:dQ H H')(h:H' l=Option.none):H l=Option.none:=by
 cases q:H l with
 |none=>rfl
 |some o=>
  rw[e l o q] at h;cases h
def dQ.seq{K:a8}{H H':Hp}{a:ap}{xs:List V}(e:dQ H H')(h:qy K H a xs):qy K H' a xs:=by
 rcases h with (h|⟨o,h⟩)|h
 ·exact .inl (.inl (e _ _ h))
 ·exact .inl (.inr ⟨o,e _ _ h⟩)
 ·exact .inr h
end L2
namespace L2
open PySem PySem.Spec PyProof.Rows
section
variable{κ:Type}[DecidableEq κ]
def qA(a:List (κ×V))(k:κ):Option V:=(a.find? λb=>decide (b.1=k)).map (·.2)
def mR(a:List (κ×V))(k:κ)(v:V):List (κ×V):=
 if(a.any λb=>decide (b.1=k))=true then a.map (λb=>if b.1=k then(b.1,v) else b) else a++[(k,v)]
def PF(a:List (κ×V))(k:κ):List (κ×V):=a.filter λb=>decide (b.1≠k)
def An{p:κ×V}{r:List (κ×V)}{k:κ}(e:p.1=k):qA (p::r) k=some p.2:=by simp[qA,bM,e]
def Ao{p:κ×V}{r:List (κ×V)}{k:κ}(e:¬ p.1=k):qA (p::r) k=qA r k:=by simp[qA,bM,e]
theorem G0(k:κ):∀a:List (κ×V),(a.any λb=>decide (b.1=k))=(qA a k).isSome
 |[]=>rfl
 |p::r=>by
  rw[eT];by_cases e:p.1=k
  ·simp only[An e,decide_eq_true e,Bool.true_or,K_]
  ·rw[Ao e,decide_eq_false e,Bool.false_or];exact G0 k r
def md(a:List (κ×V))(k:κ)(v:V):(mR a k v).length<=a.length+1:=by
 unfold mR;split
 ·rw[am];omega
 ·rw[aI,aZ,dH];omega
def Ai.isSome_eq(r:Ai o u):o.isSome=u.isSome:=by
 cases o with
 |none=>cases u with
  |none=>rfl
  |some _=>exact(show False from r).elim
 |some _=>cases u with
  |none=>exact(show False from r).elim
  |some _=>rfl
def KV.val{a:List (κ×V)}{g:List (κ×ag)}(r:KV a g)(k:κ):Ai (qA a k) (C7 g k):=by
 unfold KV at r;induction r with
 |nil=>exact jH
 | @cons p q l d h t i=>
  obtain⟨f,j⟩:=h;by_cases e:p.1=k
  ·have c:q.1=k:=f.symm.trans e;have b:C7 (q::d) k=some q.2:=by simp[C7,bM,c]
   rw[An e,b];exact j
  ·have c:¬ q.1=k:=λz=>e (f.trans z);have b:C7 (q::d) k=C7 d k:=by simp[C7,bM,c]
   rw[Ao e,b];exact i
def KV.any(r:KV kvs vs)(k:κ):(kvs.any λa=>decide (a.1=k))=vs.any λa=>decide (a.1=k):=by
 unfold KV at r;induction r with
 |nil=>rfl
 |cons h t b=>rw[eT,eT,b,h.1]
def KV.repl(r:KV kvs vs)(k:κ)(d:eu y u):
  KV (kvs.map λa=>if a.1=k then(a.1,y) else a) (vs.map λa=>if a.1=k then(a.1,u) else a):=by
 unfold KV at r ⊢;induction r with
 |nil=>exact .nil
 | @cons p q i g h t c=>
  rw[ar,ar];refine .cons ?_ c;obtain⟨b,f⟩:=h;by_cases e:p.1=k
  ·rw[if_pos e,if_pos (b.symm.trans e)];exact⟨b,d⟩
  ·rw[if_neg e,if_neg (λz=>e (b.trans z))];exact⟨b,f⟩
def KV.put(r:KV kvs vs)(k:κ)(a:eu y u):KV (mR kvs k y) (stored vs k u):=by
 unfold mR stored;rw[r.any k];by_cases e:(vs.any λb=>decide (b.1=k))=true
 ·rw[if_pos e,if_pos e];exact r.repl k a
 ·rw[if_neg e,if_neg e];exact Paired.snoc r ⟨rfl,a⟩
def KV.length(r:KV kvs vs):kvs.length=vs.length:=j6 r
end
def D3(r:eu (kV k) u):(g9 P w).is k u=true:=by
 cases k with
 |inl i=>obtain⟨t,e⟩:=(show ∃t,u=oC i t from r);subst e;exact FT P w i t
 |inr x=>obtain⟨t,e⟩:=(show ∃t,u=kE x t from r);subst e;exact FU P w x t
theorem D4:∀{ks:List gY}{a:List ag},eE (ks.map kV) a->ItemsAre (g9 P w) ks a
 |[],_,r=>by rw[dW] at r;cases r;exact .nil
 |k::ks,_,r=>by
  rw[ar] at r;cases r with
  |cons h t=>exact .cons (D3 h) (D4 t)
abbrev KT(H:Hp):List (List gY×V)->List (List gY×ap×ag)->Prop:=IV λp q=>p.1=q.1/\H q.2.1=some (.tup (p.1.map kV))/\eu p.2 q.2.2
def KT.val{H:Hp}{a:List (List gY×V)}{xs:List (List gY×ap×ag)}(r:KT H a xs)(k:List gY):Ai (qA a k) ((IZ xs k).map (·.2)):=by
 induction r with
 |nil=>exact jH
 | @cons p q j d h t g=>
  obtain⟨f,_,i⟩:=h;by_cases e:p.1=k
  ·have c:q.1=k:=f.symm.trans e;have b:IZ (q::d) k=some q.2:=by simp[IZ,bM,c]
   rw[An e,b];exact i
  ·have c:¬ q.1=k:=λz=>e (f.trans z);have b:IZ (q::d) k=IZ d k:=by simp[IZ,bM,c]
   rw[Ao e,b];exact g
def KT.repl(r:KT H kvs xs)(k:List gY)(g:eu y u):
  KT H (kvs.map λb=>if b.1=k then(b.1,y) else b) (xs.map (putAt k u)):=by
 induction r with
 |nil=>exact .nil
 | @cons p q j i h t d=>
  rw[ar,ar];refine .cons ?_ d;obtain⟨a,c,f⟩:=h;unfold putAt;by_cases e:p.1=k
  ·rw[if_pos e,if_pos (a.symm.trans e)];exact⟨a,c,g⟩
  ·rw[if_neg e,if_neg (λz=>e (a.trans z))];exact⟨a,c,f⟩
def KT.put(r:KT H kvs xs)(k:List gY)(d:H b=some (.tup (k.map kV)))(a:eu y u):
  KT H (mR kvs k y) (storedH xs k b u):=by
 have e:(kvs.any λc=>decide (c.1=k))=(IZ xs k).isSome:=by
  rw[G0,(r.val k).isSome_eq,xO]
 unfold mR storedH;rw[e];by_cases q:(IZ xs k).isSome=true
 ·rw[if_pos q,if_pos q];exact r.repl k a
 ·rw[if_neg q,if_neg q];exact Paired.snoc r ⟨rfl,d,a⟩
def KT.keeps(r:KT H kvs xs)(a:∀b ys,H b=some (.tup ys)->H' b=some (.tup ys)):KT H' kvs xs:=
 Paired.mapP r λ_ _ z=>⟨z.1,a _ _ z.2.1,z.2.2⟩
def W4(ok:sC P w H h)(e:Rd H a u):d_ P w H h a u:=e.ok ok
def G1(ok:sC P w H h)(e:Rd H a (.dK kvs)):kvs.length<=sizeLine/\(a==fj)=false/\∃b,KV kvs b/\h.DictOf (g9 P w) a b:=
 show d_ P w H h a (.dK kvs) from W4 ok e
def Zt(ok:sC P w H h)(e:H a=some (.dK kvs)):kvs.length<=sizeLine/\(a==fj)=false/\∃b,KV kvs b/\h.DictOf (g9 P w) a b:=G1 ok (.inl e)
def ye(ok:sC P w H h)(e:H a=some (.tup (ks.map kV))):(uJ (g9 P w)).is h ks a:=by
 obtain⟨_,b,r,o,c,f,n,d⟩:=(show d_ P w H h a (.tup (ks.map kV)) from ok a _ e);exact⟨o,b.toArray,n,c,f,d,by simpa using D4 r⟩
def G3(ok:sC P w H h)(e:Rd H a (.dT kvs)):kvs.length<=sizeLine/\(a==fj)=false /\
  ∃xs,KT H kvs xs/\h.DictOfH (uJ (g9 P w)) a xs:=by
 obtain⟨z,y,xs,r,o,es,k,d,i,j,n,g⟩:=(show d_ P w H h a (.dT kvs) from W4 ok e);refine⟨z,y,xs,r,o,es,k,d,i,j,n,λx b=>?_,g⟩;have all:∀{l:List (List gY×V)}{m:List (List gY×ap×ag)},KT H l m->∀x∈m,(uJ (g9 P w)).is h x.1 x.2.1:=by
  intro l m q;induction q with
  |nil=>intro x b;exact nomatch b
  | @cons p q u s c t f=>
   intro x b;rcases List.mem_cons.mp b with e|b
   ·subst e;exact ye ok (by rw[<- c.1];exact c.2.1)
   ·exact f x b
 exact all r x b
def W5(ok:sC P w H h)(e:H a=some (.dT kvs)):kvs.length<=sizeLine/\(a==fj)=false /\
  ∃xs,KT H kvs xs/\h.DictOfH (uJ (g9 P w)) a xs:=G3 ok (.inl e)
def wO(H:Hp)(a:ap)(y:V)(r:Option V):Prop:=
 (∃c k,Rd H a (.dK c)/\y=kV k/\r=qA c k)\/∃c k b,Rd H a (.dT c)/\y=.ref b/\H b=some (.tup (k.map kV))/\r=qA c k
def G4(H:Hp)(a:ap)(y v:V)(H':Hp):Prop:=
 (∃c k,H a=some (.dK c)/\y=kV k/\c.length<sizeLine/\H'=upd H a (.dK (mR c k v))) \/
 ∃c k b,H a=some (.dT c)/\y=.ref b/\H b=some (.tup (k.map kV))/\c.length<sizeLine/\H'=upd H a (.dT (mR c k v))
def wO.k{H:Hp}{a:ap}{b:List (gY×V)}{k:gY}(e:H a=some (.dK b)):wO H a (kV k) (qA b k):=.inl ⟨b,k,.inl e,rfl,rfl⟩
def wO.t{H:Hp}{a b:ap}{c:List (List gY×V)}{k:List gY}(e:H a=some (.dT c))(d:H b=some (.tup (k.map kV))):wO H a (.ref b) (qA c k):=.inr ⟨c,k,b,.inl e,rfl,d,rfl⟩
def G4.k{H:Hp}{a:ap}{b:List (gY×V)}{k:gY}{v:V}(e:H a=some (.dK b))(c:b.length<sizeLine):G4 H a (kV k) v (upd H a (.dK (mR b k v))):=.inl ⟨b,k,e,rfl,c,rfl⟩
def G4.t{H:Hp}{a b:ap}{c:List (List gY×V)}{k:List gY}{v:V}(e:H a=some (.dT c))(d:H b=some (.tup (k.map kV)))(f:c.length<sizeLine):
  G4 H a (.ref b) v (upd H a (.dT (mR c k v))):=.inr ⟨c,k,b,e,rfl,d,f,rfl⟩
def cb.big(I:cb X pins σ H s):fj<s.heap.objs.size:=by
 have h:cn<s.heap.objs.size:=(I.mod.glob.keeps I.bk).lt;exact f_ ⋯ h
def Nd(x:A.units+1<fZ)(I:cb X pins σ H s)(g:wO H a y (some v))(t:eu y u)(h:∀f s',cb X pins σ H s'->eu v f->Q f s'):
  aq (ax X.prog X.w) A (sw (.ref a) u) Q E s:=by
 rcases g with⟨q,k,e,m,l⟩|⟨q,k,b,e,m,eb,l⟩
 ·subst m;obtain⟨z,B,K,d,j⟩:=G1 I.hok e;obtain⟨f,i,c⟩:=Ai.some_of (v:=v) (o:=C7 K k) (by rw[l];exact d.val k);exact wpAny_getItem_of (D3 t) j.mapOf i (h f _ (I.tok _) c)
 ·subst m;cases(show u=bq b from t);obtain⟨z,B,xs,d,j⟩:=G3 I.hok e;obtain⟨f,i,c⟩:=Ai.some_of (v:=v) (o:=(IZ xs k).map (·.2)) (by rw[l];exact d.val k);obtain⟨p,G,n⟩:=Option.map_eq_some_iff.mp i;refine wpAny_getItem_heap (qZ x) (ye I.hok eb) j G ?_;rw[n];exact h f _ (I.tok _) c
def d_in(n:A.units+1<fZ)(I:cb X pins σ H s)(g:wO H a y o)(m:eu y u)(h:∀s',cb X pins σ H s'->Q (.bool o.isSome) s'):
  aq (ax X.prog X.w) A (bG .In u (.ref a)) Q E s:=by
 rcases g with⟨f,k,e,d,l⟩|⟨f,k,b,e,d,eb,l⟩
 ·subst d;obtain⟨z,j,p,c,i⟩:=G1 I.hok e;refine wpAny_in_of (D3 m) j i.mapOf ?_;rw[<- (c.val k).isSome_eq,<- l];exact h _ (I.tok _)
 ·subst d;cases(show u=bq b from m);obtain⟨z,j,xs,c,i⟩:=G3 I.hok e;refine wpAny_in_heap (qZ n) (ye I.hok eb) j i ?_;have q:=(c.val k).isSome_eq;rw[xO] at q;rw[<- q,<- l];exact h _ (I.tok _)
def Ld(n:A.units+1<fZ)(I:cb X pins σ H s)(g:wO H a y o)(m:eu y u)(h:∀s',cb X pins σ H s'->Q (.bool (!o.isSome)) s'):
  aq (ax X.prog X.w) A (bG .NotIn u (.ref a)) Q E s:=by
 rcases g with⟨f,k,e,d,l⟩|⟨f,k,b,e,d,eb,l⟩
 ·subst d;obtain⟨z,j,p,c,i⟩:=G1 I.hok e;refine wpAny_notIn_of (D3 m) j i.mapOf ?_;rw[<- (c.val k).isSome_eq,<- l];exact h _ (I.tok _)
 ·subst d;cases(show u=bq b from m);obtain⟨z,j,xs,c,i⟩:=G3 I.hok e;refine wpAny_notIn_heap (qZ n) (ye I.hok eb) j i ?_;have q:=(c.val k).isSome_eq;rw[xO] at q;rw[<- q,<- l];exact h _ (I.tok _)
def Eg(I:cb X pins σ H s)(c:Z3 (H a))(hs:bX a s.heap h')(he:∃q,h'.get? a=some q)(new:d_ X.prog X.w (upd H a ob) h' a ob):
  cb X pins σ (upd H a ob) {s with heap:=h',toks:=t'}:=
 I.write (x:=a) (e:=a) c (.inl rfl) (λb q d z=>(hs.2 b d).trans z) he new
def XI(z:kvs.length<=sizeLine)(d:(a==fj)=false)(b:KV kvs vs)(c:h'.DictOf (g9 P w) a vs):
  d_ P w H' h' a (.dK kvs):=⟨z,d,vs,b,c⟩
def Nf(L:A.units+1<fZ)(I:cb X pins σ H s)(g:G4 H a y v H')(B:eu y u)(G:eu v r)(h:∀s',cb X pins σ H' s'->Q () s'):
  aq (ax X.prog X.w) A (setItem (.ref a) u r) Q E s:=by
 rcases g with⟨d,k,e,x,l,n⟩|⟨d,k,b,e,x,eb,l,n⟩
 ·subst x n;obtain⟨z,t,T,f,p⟩:=Zt I.hok e;have o:T.length<=sizeLine:=by rw[<- f.length];exact z
  have m:(mR d k v).length<=sizeLine:=by have:=md d k v;omega
  refine wpAny_setItem_pairs (hsz:=o) (D3 B) p λh' i hs=>h _ ?_;have he:∃q,h'.get? a=some q:=let ⟨q,_,_,j,_⟩:=i;⟨q,j⟩
  exact Eg I (by rw[e];exact jH) hs he (XI m t (f.put k G) i)
 ·subst x n;cases(show u=bq b from B);obtain⟨z,t,xs,f,p⟩:=W5 I.hok e;have o:xs.length<=sizeLine:=by rw[<- j6 f];exact z
  have m:(mR d k v).length<=sizeLine:=by have:=md d k v;omega
  refine wpAny_setItem_heap (hsz:=o) (qZ L) (ye I.hok eb) p λh' i hs=>h _ ?_;obtain⟨q,es,N,j,S,M,O,_,P⟩:=i;refine Eg I (by rw[e];exact jH) hs ⟨q,j⟩ ⟨m,t,_,(f.put k eb G).keeps λc ys K=>?_,q,es,N,j,S,M,O,P⟩;rw[bh (Pf K e (λz=>nomatch z))];exact K
def Zu(i:bj):Prop:=∀b a,FG i false b a=operate [b,a] (sw b a)
def Ub{prog:bg}{w:bL}{A:cy}{E:ag->ak->Prop}{s:ak}{env:Env}{b a:bj}{k:Pos}{T id:String}{Q:ag->ak->Prop}
  (m:typeLookup (.type T) "__getitem__"=pure (some (.builtin id))) (hs:Zu a)
  (h:aq (ax prog w) A (eI b env) (λo e=>aq (ax prog w) A (eI a env) (λi c=>c.TypeIs o T/\aq (ax prog w) A (sw o i) Q E c) E e) E s):
  aq (ax prog w) A (eI (.Subscript b a k) env) Q E s:=by
 refine Subscript_ (bx h (λo e g=>bx g (λi c d=>?_) λ_ _ x=>x) λ_ _ x=>x);obtain⟨l,d⟩:=d;unfold MJ;refine a7 ?_;rw[getitemInPython_of_ne l.not_modules];refine a7 (wpAny_specialOf l m ?_);have fin:aq (ax prog w) A (FG a false o i) (λr f=>aq (ax prog w) A (letTemporaryGo b o r>>=λ_=>pure r) Q E f) E c:=by
  rw[hs o i];exact wpAny_operating (bx d (λr f j=>a7 (wpAny_letTemporaryGo (a9 j))) λ_ _ x=>x)
 first
  |exact a9 (a7 fin)
  |exact a7 (a9 (a7 fin))
  |exact a7 fin
def G5(I:cb X pins σ H s)(g:wO H a y o):s.TypeIs (.ref a) "dict":=by
 rcases g with⟨c,k,e,_,_⟩|⟨c,k,b,e,_,_,_⟩
 ·obtain⟨_,_,f,_,d⟩:=G1 I.hok e;exact d.typeIs
 ·obtain⟨_,_,xs,_,d⟩:=G3 I.hok e;exact d.typeIs
def Zv(d ty:TE):TE:=λb H Q=>d b H λx e=>ty b e λy c=>∃a v,x=.ref a/\wO c a y (some v)/\Q v c
def W6(e ty h:TE):TS:=λD b H=>h b H λv g=>e b g λx f=>ty b f λy d=>∃a c,x=.ref a/\G4 d a y v c/\D.nx b c
def Le(l:X.A.units+1<fZ)(ho:PE X o td)(n:PE X i ty)(hs:Zu i):PE X (.Subscript o i pos) (Zv td ty):=by
 intro b s d H Q I h;refine Ub PySem.F.slot_dict_getitem.lookup hs (fW (ho b s d H _ I h) λu s1 ⟨x,j,w,f,m⟩=>fW (n b s1 d j _ w m) λB G ⟨y,p,e,q,a,v,z,g,t⟩=>?_);subst z;obtain rfl:u=bq a:=f;exact⟨G5 e g,Nd l e g q λK E k c=>⟨v,p,k,c,t⟩⟩
def Lf(j:X.A.units+1<fZ)(ho:PE X o td)(m:PE X i ty)(E:PE X value tv)(hs:hX value (some (.Subscript o i pos')) pos.line X.env=pure false):
  PS X (.Assign [.Subscript o i pos'] value pos) (W6 td ty tv):=by
 intro b s c H D I h;refine wpAny_Assign_Subscript (fW (E b s c H _ I h) λr s1 ⟨v,e,G,z,l⟩=>fW (ho b s1 c e _ G l) λu t ⟨x,p,n,d,w⟩=>fW (m b t c p _ n w) λN P ⟨y,O,f,q,a,k,K,g,L⟩=>?_) hs;subst K;obtain rfl:u=bq a:=d;exact Nf j f g q z λM B=>⟨c,k,B,L⟩
def PH(h:cg)(a:fj<h.objs.size):d_ P w H (h.push {cls:=.type "dict",data:=.dict #[]}) h.objs.size (.dK []):=
 ⟨cH _,beq_eq_false_iff_ne.mpr (dm (aL a)),[],.nil,Heap.DictOf.new h⟩
def PJ(h:cg)(a:fj<h.objs.size):d_ P w H (h.push {cls:=.type "dict",data:=.dict #[]}) h.objs.size (.dT []):=
 ⟨cH _,beq_eq_false_iff_ne.mpr (dm (aL a)),[],.nil,_,#[],0,aC _ rfl,⟨rfl,rfl,rfl⟩,rfl,rfl,g6⟩
def XJ:TE:=λ_ H Q=>∀p,H p=none->Q (.ref p) (upd H p (.dK []))
def PK:PE X (.Dict [] [] pos) XJ:=λb s c H Q I h=>
 wpAny_Dict_empty ⟨.ref s.heap.objs.size,_,I.laid (a:=s.heap.objs.size) (o:=.dK []) (t':=s.toks) (λ_ _ q=>ae _ q) (av _) (PH s.heap I.big),rfl,h _ (I.hok.fresh (av _))⟩
end L2
namespace L2
open PySem PySem.Spec PyProof.Rows
section
variable{κ:Type}[DecidableEq κ]
theorem Eh:∀{l:List κ}{k:κ},l.Nodup->¬ k∈l->(l++[k]).Nodup
 |[],k,_,_=>by simp
 |a::r,k,h,b=>by
  obtain⟨c,d⟩:=List.nodup_cons.mp h;show(a::(r++[k])).Nodup;refine List.nodup_cons.mpr ⟨λm=>?_,Eh d λm=>b (List.mem_cons.mpr (f9 m))⟩;rcases List.mem_append.mp m with q|q
  ·exact c q
  ·exact b (List.mem_cons.mpr (iq (List.mem_singleton.mp q).symm))
end
end L2
namespace L2
open PySem PySem.Spec PyProof.Rows
def Jr(b:List (Str × my)):∀(d:List (Str × ap)),(∀y ∈ b,y.2 = .free -> ∃c,env.cells.lookup y.1 = some c) ->
    (∀x c,d.lookup x = some c -> env.cells.lookup x = some c) ->
    ∃g,(forIn b d λ(x:Str × my) (d:List (Str × ap))=>match x with
        | (name,i)=>if(i == cX) = true then do let a <- cellOf env name; pure (gZ ((name,a) :: d)) else pure (gZ d):Sem (List (Str × ap))) = pure g /\
      (∀x c,g.lookup x = some c -> env.cells.lookup x = some c) /\ (∀y ∈ b,y.2 = .free -> ∃c,g.lookup y.1 = some c) /\ (∀x c,d.lookup x = some c -> ∃B,g.lookup x = some B):= by
  induction b with
  | nil=>intro d _ m; exact⟨d,rfl,m,λ_ h=>absurd h (by simp),λx c h=>⟨c,h⟩⟩
  | cons E r w=>
    obtain⟨n,k⟩:= E;intro d o m;by_cases t:k = .free
    · subst t;obtain⟨a,z⟩:= o (n,.free) aj rfl;have p:∀x c,((n,a) :: d).lookup x = some c -> env.cells.lookup x = some c:= λx c h=>by
        rw[dO] at h;cases e:x == n with
        | true => rw [e] at h; have : x = n := by simpa using e
                  subst this; cases h; exact z
        | false=>rw[e] at h; exact m x c h
      obtain⟨g,q,u,v,j⟩:= w ((n,a) :: d) (λy f=>o y (af _ f)) p;refine⟨g,?_,u,λy f l=>?_,λx c h=>?_⟩
      · rw[kA];have A:cellOf env n = pure a:= by unfold cellOf; rw[z]
        simp only[beq_self_eq_true,if_true,A];exact q
      · rcases List.mem_cons.mp f with rfl | f
        · exact j n a (by simp)
        · exact v y f l
      · cases e:x == n with
        | true=>exact j x a (by rw[dO,e])
        | false=>exact j x c (by rw[dO,e]; exact h)
    · obtain⟨g,q,u,v,j⟩:= w d (λy f=>o y (af _ f)) m;refine⟨g,?_,u,λy f l=>?_,j⟩
      · rw[kA];have s:(k == cX) = false:= by simpa using t
        simp only[s,bn,if_false];exact q
      · rcases List.mem_cons.mp f with rfl | f
        · exact absurd l t
        · exact v y f l
def lK(h:∀y∈scope.names,y.2=.free->∃c,env.cells.lookup y.1=some c):∃a,closureFor scope env=pure a /\
  (∀x c,a.lookup x=some c->env.cells.lookup x=some c)/\(∀y∈scope.names,y.2=.free->∃c,a.lookup y.1=some c):=by
 obtain⟨a,b,d,e,_⟩:=Jr (env:=env) scope.names [] h (λx c h=>by simp at h);refine⟨a,?_,d,e⟩;simp only[closureFor];rw[show(forIn scope.names ([]:List (Str×ap)) λx r=>_)=(pure a:Sem (List (Str×ap))) from b];rfl
def bi(X:Cx)(N':List Str)(scope:eM)(a:List (Str×ap))(C:ap)(s₀:ak)(H₀:Hp)(ex:List ap)(pn:List (ap×Obj)):Cx:=
 {X with N:=N',s₀:=s₀,H₀:=H₀,env:=compEnvC scope a C X.env,outer:=X.stack,stack:=X.stack,ex:=ex,fn:=λy=>scope.names.lookup y==some .cell,pn:=pn,xe:=λ_ _=>False}
def Ei(X:Cx)(d:List bj)(t:TT):Prop:=
 ∀(a:List (ap×Obj)) (s:ak) (b:St) (H:Hp) (Q:Bool->Hp->Prop),cb X a b H s->t b H Q ->
  aq (ax X.prog X.w) X.A (forIn d true λc r=>if r=true then do let ok <- xT c X.env (eI c X.env);pure (gZ ok) else pure (gZ r)) (TP X a b Q) X.xe s
def q1h:TT:=λ_ H Q=>Q true H
def Uc:Ei X [] q1h:=λa s b H Q I h=>wpAny_tests_nil ⟨H,I,h⟩
def Ud(h:PT X c t):Ei X [c] t:=λa s b H Q I d=>wpAny_tests_one (h a s b H Q I d)
structure jZ (X:Cx) (scope:eM) (N':List Str) (nt:Nat) (ix:List Nat):Prop where
 kind:scope.kind=.function
 cel:∀y∈scope.names,y.2=.cell->scope.names.lookup y.1=some .cell
 loc:∀y∈scope.names,y.2=.local->scope.names.lookup y.1=some .local
 free:∀y∈scope.names,y.2=.free->X.env.scope.names.lookup y.1=some .cell\/X.env.scope.names.lookup y.1=some .free
 cap:∀k i,ix[k]?=some i->∃x,X.N[i]?=some x/\N'[nt+k]?=some x/\scope.names.lookup x=some .free
 len:N'.length=nt+ix.length
def lL(nt:Nat)(ix:List Nat)(a:St):St:=uZ nt none++ix.map λi=>(a[i]?).join
def uT{env:Env}{x:Str}{a:List (Str×my)}:a.lookup x=some .free ->
  (a.map λ(n,k)=>if(k==cX&&env.scope.kind == .function&&env.kindOf n==some .cell) then(n,fc) else(n,k)).lookup x=some .free \/
  (a.map λ(n,k)=>if(k==cX&&env.scope.kind == .function&&env.kindOf n==some .cell) then(n,fc) else(n,k)).lookup x=some .cell:=by
 induction a with
 |nil=>intro h;simp at h
 |cons e r d=>
  obtain⟨n,k⟩:=e;intro h;show Af x ((if(k==cX&&env.scope.kind == .function&&env.kindOf n==some .cell)=true then(n,fc) else(n,k))::_)=_ \/
   Af x ((if(k==cX&&env.scope.kind == .function&&env.kindOf n==some .cell)=true then(n,fc) else(n,k))::_)=_
  cases b:x==n with
  |true=>
   simp only[dO,b] at h;cases h;by_cases c:(cX==cX&&env.scope.kind == .function&&env.kindOf n==some .cell)=true
   ·rw[if_pos c];right;simp[dO,b]
   ·rw[if_neg c];left;simp[dO,b]
  |false=>
   simp only[dO,b] at h;by_cases c:(k==cX&&env.scope.kind == .function&&env.kindOf n==some .cell)=true
   ·rw[if_pos c];simp only[dO,b];exact d h
   ·rw[if_neg c];simp only[dO,b];exact d h
def wP{env:Env}{x:Str}{a:List (Str×my)}:
  ((a.map λ(n,k)=>if(k==cX&&env.scope.kind == .function&&env.kindOf n==some .cell) then(n,fc) else(n,k)).lookup x=some .free \/
  (a.map λ(n,k)=>if(k==cX&&env.scope.kind == .function&&env.kindOf n==some .cell) then(n,fc) else(n,k)).lookup x=some .cell) ->
  (x,cX)∈a\/(x,fc)∈a:=by
 induction a with
 |nil=>intro h;simp at h
 |cons f r d=>
  obtain⟨n,k⟩:=f;intro h;have h:Af x ((if(k==cX&&env.scope.kind == .function&&env.kindOf n==some .cell)=true then(n,fc) else(n,k))::_)=_ \/
   Af x ((if(k==cX&&env.scope.kind == .function&&env.kindOf n==some .cell)=true then(n,fc) else(n,k))::_)=_:=h
  cases c:x==n with
  |true=>
   have e:x=n:=by simpa using c
   subst e;by_cases b:(k==cX&&env.scope.kind == .function&&env.kindOf x==some .cell)=true
   ·have:k=.free:=by simp at b;exact b.1.1
    subst this;left;exact aj
   ·rw[if_neg b] at h;simp only[dO,c] at h;rcases h with h|h
    ·cases h;left;exact aj
    ·cases h;right;exact aj
  |false=>
   have h':=d (by
    by_cases b:(k==cX&&env.scope.kind == .function&&env.kindOf n==some .cell)=true
    ·rw[if_pos b] at h;simp only[dO,c] at h;exact h
    ·rw[if_neg b] at h;simp only[dO,c] at h;exact h)
   rcases h' with h' | h'
   ·left;exact af _ h'
   ·right;exact af _ h'
inductive W7 (nt:Nat) (ix:List Nat) (g:TG) (tt:TT) (te:TE) (σ:St) (Q:VK) (J:It) (H1:Hp):Prop
 |mk (W:Nat->Nat->List V->Hp->Prop) (w0:∃m,W 0 m [] H1) (turn:∀i m acc H,W i m acc H ->
 (J.stop i H/\∀p,H p=none->Q (.ref p) (upd H p (.lst acc))) \/
 (J.go i H/\acc.length<sizeLine/\∀x H',J.yld i H x H'->g x (lL nt ix σ) H' λσ2 H2=>tt σ2 H2 λb H3=>
  if b=true then te σ2 H3 λy H4=>∃m',m'<m/\W (i+1) m' (acc++[y]) H4 else ∃m',m'<m/\W (i+1) m' acc H3)):W7 nt ix g tt te σ Q J H1
def PL(nt:Nat)(ix:List Nat)(d:TI)(g:TG)(c:TT)(b:TE):TE:=λa H Q=>d a H (W7 nt ix g c b a Q)
theorem jT:∀(b:List (Str×my)) (n:Nat) (a:List (Str×ap)),cu n b a=cu n b []++a
 |[],_,_=>rfl
 |(y,k)::r,n,a=>by
  unfold cu;split
  ·rw[jT r (n+1) ((y,n)::a),jT r (n+1) [(y,n)],fz];rfl
  ·exact jT r n a
theorem p_:∀(a:List (Str×my)) (n:Nat) (b:List (Str×ap)),(x,c)∈cu n a b->(x,fc)∈a\/(x,c)∈b
 |[],_,_,h=>.inr h
 |(y,k)::r,n,b,h=>by
  unfold cu at h;split at h
  ·rename_i d
   have d:k=.cell:=by simpa using d
   rcases p_ r _ _ h with z|z
   ·exact .inl (af _ z)
   ·rcases List.mem_cons.mp z with z|z
    ·cases z;subst d;exact .inl aj
    ·exact .inr z
  ·exact(p_ r _ _ h).imp (af _) id
def nL(h:(cu n names cl).lookup x=some c):
  (x,c)∈cu n names []\/((cu n names []).lookup x=none/\cl.lookup x=some c):=by
 rw[jT,OI] at h;cases e:(cu n names []).lookup x with
 |some d=>rw[e] at h;cases h;exact .inl (eD e)
 |none=>rw[e] at h;exact .inr ⟨rfl,h⟩
def Ue{M:Model}{A:cy}{E:ag->ak->Prop}{s:ak}{scope:eM}{b:ap}{j:List (Str×ap)}{e:Str}{f:Option ap}{c:ag}{outer:Env}{a:ap}{Q:Env->ak->Prop}
  (k:∀d,d=pushCells (s.heap.push {cls:=.type "dict",data:=.dict #[]}) scope.names->Q (newEnv scope s.heap.objs.size b (cu (s.heap.objs.size+1) scope.names j) e f c (some outer) a) {s with heap:=d}):
  aq M A (I_ scope b j [] e f c (some outer) a) Q E s:=by
 simp only[I_,K_,if_true];refine a7 (Tf ?_);refine a7 (wpAny_layCells _ (λname g i=>by cases h:g==fc<;>simp[h]) _ _ _ _ ?_);rw[show({s with heap:=s.heap.push {cls:=.type "dict",data:=.dict #[]}}:ak).heap.objs.size=s.heap.objs.size+1 from cY ..];refine a7 ?_;rw[oS];exact a9 (a9 (k _ rfl))
def Ng(h:cg)(a:List (Str×my)):CellsOk (pushCells (h.push {cls:=.type "dict",data:=.dict #[]}) a) (h.objs.size+1) (cu (h.objs.size+1) a []):=by
 have ok:=cellsFrom_ok a (h.push {cls:=.type "dict",data:=.dict #[]}) (h.objs.size+1) [] ⟨λ_ _ b=>(nomatch b),sG⟩ (by rw[cY];exact av _);rw[cY] at ok;exact ok
def PM{scope:eM}{N':List Str}{nt:Nat}{ix:List Nat}{G:List (Str×ap)}{C:ap}{fp:List ap}{t:cg}{t':Nat}{m:Str->Option ag}
  (S:jZ X scope N' nt ix) (I:cb X pins σ H s) (E:∀x c,G.lookup x=some c->X.env.cells.lookup x=some c) (c2:∀y∈scope.names,y.2=.free->∃c,G.lookup y.1=some c)
  (T:∀b∈fp,vw X pins H b) (ff:∀b∈fp,b<s.heap.objs.size) (O:s.heap.objs.size<=C) (a0:t.Ns C m) (A:∀b o,s.heap.get? b=some o->t.get? b=some o) (ok:CellsOk t (C+1) (cu (C+1) scope.names [])):
  cb (bi X N' scope (cu (C+1) scope.names G) C s H fp (X.pn++pins)) [] (lL nt ix σ) H {s with heap:=t,toks:=t'}:=by
 have g:∀{c v},s.heap.IsCell c v->t.IsCell c v:=λ{c v} ⟨o,ho,hd⟩=>⟨o,A _ _ ho,hd⟩;have L:∀{x c},(x,c)∈cu (C+1) scope.names []->s.heap.objs.size<c:=λ{x c} h=>aK (qS O) (ok.empty x c h).2;have N:∀{x c},G.lookup x=some c->c<s.heap.objs.size:=λ{x c} h=>by
  obtain⟨v,q⟩:=I.cell x c (E x c h);exact q.lt
 refine⟨⟨I.ok.mod,S.kind,I.ok.glob,I.ok.blt,O,λx y c U K=>?_,λx hx=>?_,λx c h K=>?_,I.ok.hd,I.ok.frames,.inl rfl,λb B=>⟨?_,λx c h=>?_⟩,I.bs,ca I.ok.bsz I.sz,λb o h B=>?_,λb B z=>?_,I.stack,I.stkFree⟩,
  rfl,I.bare,Un.kept A,⟨m,a0,λi x v U K h3=>?_⟩,λx c h=>?_,I.hok.fresh O,λx c h=>?_,λp hp=>?_,I.hok.kept A,?_⟩
 ·rcases nL U with a|⟨_,a⟩<;>rcases nL K with b|⟨_,b⟩
  ·exact name_of_addr ok.apart a b
  ·exact absurd (L a) (J4 (N b))
  ·exact absurd (L b) (J4 (N a))
  ·exact I.ok.inj x y c (E x c a) (E y c b)
 ·have Y:(x,cX)∈scope.names\/(x,fc)∈scope.names:=wP (env:=X.env) (hx.elim .inr .inl);have hs:((cu (C+1) scope.names G).lookup x).isSome=true:=by
   rcases Y with z|z
   ·obtain⟨c,e⟩:=c2 _ z rfl;exact iO _ _ _ (.inr (by rw[e];rfl))
   ·exact iO _ _ _ (.inl (S.cel _ z rfl))
  exact Option.isSome_iff_exists.mp hs
 ·rcases nL K with a|⟨a,_⟩
  ·exact cE (L a)
  ·have:=iO (x:=x) scope.names (C+1) [] (.inl (by simpa[bi] using h));rw[a] at this;cases this
 ·exact aL (aK (ff b B) O)
 ·rcases nL h with a|⟨_,a⟩
  ·exact fF (f_ (ff b B) (L a))
  ·exact(T b B).f4 x c (E x c a)
 ·rcases (T b B).f3 with z|z
  ·exact I.ok.noex b o h z
  ·exact absurd (aK (aw h) (ca I.ok.bsz z)) (cO _)
 ·rcases List.mem_cons.mp (I.stkSub b z) with e|e
  ·exact(T b B).f1 e
  ·exact(T b B).f2 e
 ·have M:nt<=i:=by
   refine Te λQ=>?_;have f:(lL nt ix σ)[i]?=some (some v):=K;unfold lL at f;rw[c8 (by simpa using Q),cF,if_pos Q] at f;cases f
  have f:(lL nt ix σ)[i]?=some (some v):=K;unfold lL at f;rw[aY (by simpa using M),dS,b9] at f;cases e:ix[i-nt]? with
  |none=>rw[e] at f;cases f
  |some j=>
   rw[e] at f;have hj:σ[j]?=some (some v):=by
    have q:(σ[j]?).join=some v:=cc f;cases e3:σ[j]? with
    |none=>rw[e3] at q;cases q
    |some o=>rw[e3] at q;cases o with
     |none=>cases q
     |some v'=>cases q;rfl
   obtain⟨x',n1,n2,fr⟩:=S.cap _ _ e;rw[Nat.add_sub_cancel' M] at n2;have a1:N'[i]?=some x:=U;rw[a1] at n2;cases n2;obtain⟨mm,hn,hl⟩:=I.loc;have w:=S.free (x,.free) (eD fr) rfl;obtain⟨u,r,l⟩:=hl j x v n1 hj (w.elim (λz=>.inr (.inl z)) λz=>.inr (.inr z));refine⟨u,r,?_⟩;rcases l with⟨k,_⟩|⟨k,c,hc,hcell⟩
   ·have k:X.env.scope.names.lookup x=some .local:=k;rcases w with z|z<;>(rw[z] at k;cases k)
   ·obtain⟨c',P⟩:=c2 _ (eD fr) rfl;have:=E x c' P;rw[hc] at this;cases this;have a2:(cu (C+1) scope.names []).lookup x=none:=by
     cases e:(cu (C+1) scope.names []).lookup x with
     |none=>rfl
     |some d=>
      rcases p_ _ _ _ (eD e) with z|z
      ·have q:=S.cel _ z rfl;rw[fr] at q;cases q
      ·cases z
    refine .inr ⟨?_,c,by show(cu (C+1) scope.names G).lookup x=some c;rw[jT,OI,a2];exact P,g hcell⟩;rcases uT (env:=X.env) fr with z|z
    ·exact .inr z
    ·exact .inl z
 ·rcases nL h with a|⟨_,a⟩
  ·exact⟨none,(ok.empty x c a).1⟩
  ·obtain⟨v,q⟩:=I.cell x c (E x c a);exact⟨v,g q⟩
 ·rcases nL h with a|⟨_,a⟩
  ·exact I.hok.fresh (cE (L a))
  ·exact I.freeC x c (E x c a)
 ·have hp:p∈X.pn++pins:=(List.mem_append.mp hp).elim id λz=>absurd z (by simp);obtain⟨e,n,ne,nf,d⟩:=I.pin p hp;refine⟨A _ _ e,n,aL (aK (aw e) O),λz=>?_,d⟩;rcases List.mem_cons.mp (I.stkSub p.1 z) with e|e
  ·exact ne e
  ·exact nf e
 ·show(lL nt ix σ).length=N'.length;rw[S.len];simp[lL]
def Un.grow(u:Un fs ex H H1 h h1)(f:bX C h1 h2)(d:h.objs.size<=C)(j:h.objs.size<=D)(c:H1 D=none):Un fs ex H (upd H1 D o) h h2 where
 keep:=λb ob q n g a=>(f.2 b (aL (aK (aw q) d))).trans (u.keep b ob q n g a)
 slot:=λb ob q n g a=>by
  obtain⟨k,e⟩:=u.slot b ob q n g a;exact⟨k,(f.2 b (aL (aK (aw q) d))).trans e⟩
 free:=λb ob q n a=>by rw[bh (aL (aK (aw q) j))];exact u.free b ob q n a
 there:=λb ob q a=>by
  obtain⟨o',e⟩:=u.there b ob q a;exact⟨o',(f.2 b (aL (aK (aw q) d))).trans e⟩
 tups:=λb xs q=>by have z:=u.tups b xs q;rw[bh (cj z c)];exact z
 frzs:=λb ob xs q=>by have z:=u.frzs b ob xs q;rw[bh (cj z c)];exact z
 tbls:=λb i q=>by
  obtain⟨m,z⟩:=u.tbls b i q;exact⟨m,by rw[bh (cj z c)];exact z⟩
def PN(k:sC P w H h)(d:H C=none)(f:bX C h h'):sC P w H h':=λb ob e=>by
 refine(k b ob e).stay (λc g a q=>(f.2 c ?_).trans q) (λ_ q=>q) λ_ _ q=>q;rintro rfl;rcases a with rfl|a
 ·rw[d] at e;cases e
 ·rw[d] at a;cases a
def D5(k:sC P w H h)(d:H D=none)(new:d_ P w (upd H D o) h D o):sC P w (upd H D o) h:=λb ob e=>by
 by_cases a:b=D
 ·subst a;rw[bc] at e;cases e;exact new
 ·rw[bh a] at e;exact(k b ob e).stay (λc g f q=>q) (λc q=>by rw[bh (cj q d)];exact q) λc x q=>by rw[bh (cj q d)];exact q
def nf{M:Model}{A:cy}{a:Type}{t:Sem a}{Q:a->ak->Prop}{b:ag->ak->Prop}{s:ak}(h:aq M A t Q (λ_ _=>False) s):aq M A t Q b s:=
 bx h (λ_ _ q=>q) λ_ _ f=>f.elim
def cb.pin1(I:cb X [] σ H s)(e:s.heap.get? D=some o)(n:H D=none)(ne:D≠X.env.locals)(nf:D∉X.fs)(d:∀v,o.data≠.cell v):cb X [(D,o)] σ H s:=
 I.pins_of λp a=>by
  have:p=(D,o):=by simpa using a
  subst this;exact⟨e,n,ne,nf,d⟩
def T7(nt:Nat)(g:TG):Prop:=∀x a H (Q:St->Hp->Prop),g x a H Q->g x a H (λb c=>Q b c/\b.length=a.length/\∀j,nt<=j->b[j]?=a[j]?)
def PP(h:i<nt):T7 nt (mK i):=λx a H Q q=>⟨q,by simp,λj b=>ao ∅⟩
def Uf{nt i k n:Nat}{K:a8}(h:i<nt)(h':k<nt):T7 nt (Xi K n (aa (mK i) (aa (mK k) aH))):=by
 rintro x d H Q ⟨a,xs,rfl,e,c,v,r,rfl,b,g,rfl,rfl,q⟩;exact⟨a,_,rfl,e,c,v,_,rfl,b,_,rfl,rfl,q,by simp,λj f=>by rw[ao ∅,ao ∅]⟩
def cb.swap{X:Cx}{pl:List (ap×Obj)}{d:St}{H:Hp}{s:ak}{D:ap}{o o':Obj}{h':cg}(I:cb X ((D,o)::pl) d H s)(u:bX D s.heap h')(n:h'.get? D=some o')(l:∀v,o'.data≠.cell v)(i:D∈X.ex\/X.s₀.heap.objs.size<=D)(q:∀x c,X.env.cells.lookup x=some c->c≠D)(k:∀p∈X.pn++pl,p.1≠D):cb X ((D,o')::pl) d H {s with heap:=h'}:=by
 obtain⟨w,h,f,j,_⟩:=I.pin (D,o) (aA _ aj)
 have t:cb X pl d H s:=I.pins_of λp a=>I.pin p (aA _ (af _ a))
 have g:cb X pl d H {s with heap:=h',toks:=s.toks}:=t.turned (it:=D) (λb o m e=>u.extBut b o m e) h f i q k
 refine g.pins_of λp a=>?_
 rcases aT.1 a with z|a
 ·rw[z];exact⟨n,h,f,j,l⟩
 ·exact g.pin p (aA _ a)
abbrev XM(a:List ag)(b:Nat):Obj:={cls:=.type "list",data:=.seq a.toArray b}
inductive GLI (X:Cx) {α:Type} (P:ap->Obj->α->Prop) (pins:List (ap×Obj)) (N':List Str) (scope:eM) (cl:List (Str×ap)) (C:ap) (s2:ak) (H2:Hp) (fp:List ap) (nt:Nat) (ix:List Nat) (σ:St) (tn:Nat->cg->Prop) (W:Nat->Nat->α->Hp->Prop) (n:Nat) (s':ak):Prop
 |mk (i:Nat) (acc:α) (oD:Obj) (H':Hp) (I:cb (bi X N' scope cl C s2 H2 fp (X.pn++pins)) [(s2.heap.objs.size,oD)] (lL nt ix σ) H' s') (S:P s2.heap.objs.size oD acc) (t:tn i s'.heap) (f:∀b∈fp,H' b=none) (w:W i n acc H'):GLI X P pins N' scope cl C s2 H2 fp nt ix σ tn W n s'
def G6(X:Cx)(i tg:bj)(h:List bj)(it:ap)(d:Nat)(Bd:Env->ap->(ak->Prop)->ak->Prop):Prop:=
 ∀(env:Env) (D:ap) (R:Ae->ak->Prop) (I:Nat->ak->Prop),(∀n s,I n s->aq (ax X.prog X.w) X.A (jY (.ref it)) (λr a=>match r with
   |none=>R (.ok .next) a
   |some v=>aq (ax X.prog X.w) X.A (iB tg (.ref it) v) (λ_ e=>aq (ax X.prog X.w) X.A (mw tg env v) (λ_ f=>
     aq (ax X.prog X.w) X.A (forIn h true λc r=>if r=true then do let ok <- xT c env (eI c env);pure (gZ ok) else pure (gZ r)) (λok b=>
      if ok=true then Bd env D (λg=>∃m,m<n/\I m g) b else ∃m,m<n/\I m b) (λ_ _=>False) f) (λ_ _=>False) e) (λ_ _=>False) a) (λ_ _=>False) s) ->
  ∀n s,I n s->eJ (ax X.prog X.w) X.A (.compLoop i d (.ref it) (.ref D) env) R s
def D6{X:Cx}{e0 tg iter:bj}{ifs:List bj}{d:Nat}{Bd:Env->ap->(ak->Prop)->ak->Prop}{it:ap}{Kt:Env->ap->Bool->Sem Fin}
  (hT:∀env D,compTurn e0 d (.ref it) (.ref D) env=(do
   mv iter.pos
   match <- jY (.ref it) with
   |none=>pure (.done .next)
   |some v=>
    iB tg (.ref it) v
    mw tg env v
    let mut ok:=true
    for c in ifs do
     if ok then ok <- xT c env (eI c env)
    Kt env D ok))
  (ht:∀env D K s,Bd env D K s->aq (ax X.prog X.w) X.A (Kt env D true) (λf s5=>f=.again (.compLoop e0 d (.ref it) (.ref D) env)/\K s5) (λ_ _=>False) s)
  (hf:∀env D,Kt env D false=pure (.again (.compLoop e0 d (.ref it) (.ref D) env)):=by intros;rfl) (hA:∀env D,X.A.under (.compLoop e0 d (.ref it) (.ref D) env)=X.A:=by intros;rfl)
  (hD:∀env D,(ax X.prog X.w).den (.compLoop e0 d (.ref it) (.ref D) env)=(compTurn e0 d (.ref it) (.ref D) env).onRaise (λx=>do E1 x env;theTreesLotGoes x):=by intros;rfl):G6 X e0 tg ifs it d Bd:=by
 intro env D R I turn n s h
 refine codeAny_loop rfl I (λn s hI=>?_) n h
 rw[hA,hD]
 refine wpAny_noted ?_
 rw[hT]
 refine a7 (dY (a7 (nf (bx (turn n s hI) (λr s₁ h₁=>?_) λ_ _ h'=>h'))))
 cases r with
 |none=>exact a9 h₁
 |some v=>
  refine a7 (nf (bx h₁ (λ_ s₁' h₁'=>?_) λ_ _ h'=>h'))
  refine a7 (nf (bx h₁' (λ_ s₂ h₂=>a7 (nf (bx h₂ (λok s₃ h₃=>?_) λ_ _ h'=>h'))) λ_ _ h'=>h'))
  cases ok with
  |false=>rw[hf];exact a9 ⟨rfl,h₃⟩
  |true=>
   refine nf (bx (ht _ _ _ _ h₃) (λf s₅ h₅=>?_) λ_ _ h'=>h')
   obtain⟨e,h₅⟩:=h₅
   subst e
   exact⟨rfl,h₅⟩
def G7(X:Cx){f:Type}(N':List Str)(scope:eM)(M:St->Prop)(P:ap->Obj->f->Prop)(L:f->Prop)(U:St->Hp->f->Nat->(Nat->f->Hp->Prop)->Prop)(Bd:Env->ap->(ak->Prop)->ak->Prop):Prop:=
 ∀g C a b j h (D:ap) (pl:List (ap×Obj)) (o:Obj) (e:f) (i:St) (H:Hp) (s:ak) (K:ak->Prop) (m:Nat) (V:Nat->f->Hp->Prop),(D∈j\/a.heap.objs.size<=D)->(∀x c,g.lookup x=some c->c≠D)->(∀p∈h++pl,p.1≠D)->M i->L e->P D o e ->
  cb (bi X N' scope g C a b j h) ((D,o)::pl) i H s->U i H e m V->(∀d o' n k l,cb (bi X N' scope g C a b j h) ((D,o')::pl) i n k->P D o' d->l<m->V l d n->K k)->Bd (bi X N' scope g C a b j h).env D K s
inductive G8 (X:Cx) (N':List Str) (scope:eM) (nt nc:Nat) (ix:List Nat) (e0 tg:bj) (ifs:List bj) (newA:Sem ag) {α:Type} (O:ap->α->HO) (a0:α) (L:α->Prop) (U:St->Hp->α->Nat->(Nat->α->Hp->Prop)->Prop):Prop
 |mk (P:ap->Obj->α->Prop) (o0:Obj) (Bd:ap->Env->ap->(ak->Prop)->ak->Prop) (M:St->Prop) (nd:∀{D o acc},P D o acc->∀v,o.data≠.cell v) (of:o0.isFreed=false) (p0:∀D,P D o0 a0)
  (tr:∀{H h D o acc},fj<D->P D o acc->h.get? D=some o->d_ X.prog X.w H h D (O D acc))
  (hnew:∀{E s2}{Q:ag->ak->Prop},Q (.ref s2.heap.objs.size) {s2 with heap:=s2.heap.push o0}->aq (ax X.prog X.w) X.A newA Q E s2) (loopX:∀it,G6 X e0 tg ifs it 0 (Bd it))
  (hst:∀{it acc env R s},eJ (ax X.prog X.w) X.A (.compLoop e0 0 (.ref it) acc env) R s->aq (ax X.prog X.w) X.A (nH (.ref it)) (λit' s'=>eJ (ax X.prog X.w) X.A (.compLoop e0 0 it' acc env) R s') (OX (ax X.prog X.w) X.A env λx s'=>R (.error x) s') s->eJ (ax X.prog X.w) X.A (.compStart e0 0 (.ref it) acc env) R s)
  (hM:nt<=nc/\∀ σ σ6:St,(∀j,nt<=j->σ6[j]?=(lL nc ix σ)[j]?)->M σ6) (hstep:∀it,G7 X N' scope M P L U (Bd it)):G8 X N' scope nt nc ix e0 tg ifs newA O a0 L U
def yf{X:Cx}{α:Type}{O:ap->α->HO}{a0:α}{b0:Sem ag}{L:α->Prop}{U:St->Hp->α->Nat->(Nat->α->Hp->Prop)->Prop}{e0 tg:bj}{e9:List bj}{scope:eM}{g:TG}{tt:TT}{N':List Str}{nt nc:Nat}{ix:List Nat}
  (h2:G8 X N' scope nt nc ix e0 tg e9 b0 O a0 L U) (hc:X.calm=true) (S:jZ X scope N' nc ix) (lo:T7 nt g)
  (l:∀G C a5 b6 ex pn,PG (bi X N' scope G C a5 b6 ex pn) tg g/\Ei (bi X N' scope G C a5 b6 ex pn) e9 tt)
  {G:List (Str×ap)} (c1:∀x c,G.lookup x=some c->X.env.cells.lookup x=some c) (c2:∀y∈scope.names,y.2=.free->∃c,G.lookup y.1=some c)
  {h:List (ap×Obj)}{σ:St}{I:Hp}{k:ak}{it:ap}{B:List ap}{tn:Nat->cg->Prop}{J:It}{Q:VK}{E:ag->ak->Prop}
  (I2:cb X h σ I k) (T:Cm X.prog X.w X.K tg J B it tn) (e2:tn 0 k.heap) (f2:∀b∈B,vw X h I b)
  {W:Nat->Nat->α->Hp->Prop} (w0:∃m,W 0 m a0 I)
  (d6:∀i m f H,W i m f H->(J.stop i H/\∀p,H p=none->Q (.ref p) (upd H p (O p f))) \/
   (J.go i H/\L f/\∀x H',J.yld i H x H'->g x (lL nc ix σ) H' λe5 I=>tt e5 I λb H3=>
    if b=true then U e5 H3 f m (W (i+1)) else ∃m',m'<m/\W (i+1) m' f H3))
  {RR:ag->ap->Ae->ak->Prop}
  (g3:∀D C m s' (f:α) H',H' D=none->vw X h (upd H' D (O D f)) C->Q (.ref D) (upd H' D (O D f))->s'.heap.Ns C m->(∀h',bX C s'.heap h'->cb X h σ (upd H' D (O D f)) {s' with heap:=h'})->RR (.ref D) C (.ok .next) s'):
  aq (ax X.prog X.w) X.A b0 (λf g0=>aq (ax X.prog X.w) X.A (I_ scope X.env.globals G [] X.env.qual none .none (some X.env)) (λa6 d4=>
   eJ (ax X.prog X.w) X.A (.compStart e0 0 (.ref it) f {a6 with scope:=relabel scope X.env}) (RR f a6.locals) d4) E g0) E k:=by
 obtain⟨P,o0,Bd,M,nd,of,p0,tr,e1,b7,h0,⟨h8,hM⟩,c4⟩:=h2
 refine e1 (Ue λs t=>?_);dsimp only at t ⊢;generalize c5:k.heap.push o0=G2 at t ⊢;have hC:G2.objs.size=k.heap.objs.size+1:=by rw[<- c5,cY]
 have d0:k.heap.objs.size≠G2.objs.size:=by rw[hC];exact aL (gW _)
 have N:k.heap.objs.size<=G2.objs.size:=by rw[hC];exact lA _
 have below:∀b,b<k.heap.objs.size->b≠G2.objs.size:=λb l=>by rw[hC];exact aL (fG l)
 have kp:∀b o,G2.get? b=some o->s.get? b=some o:=λb o e=>by rw[t];exact pushCells_keeps _ _ b o (ae _ e)
 have a3:s.Ns G2.objs.size (λ_=>none):=by rw[t];exact(Heap.Ns.new G2 (.type "dict")).keeps (pushCells_keeps _ _)
 have a1:CellsOk s (G2.objs.size+1) (cu (G2.objs.size+1) scope.names []):=by rw[t];exact Ng G2 scope.names
 have cne:∀x c,(cu (G2.objs.size+1) scope.names G).lookup x=some c->X.env.cells.lookup x=some c\/k.heap.objs.size<c:=λx c e=>by
  rcases nL e with a|⟨_,a⟩
  ·exact .inr (aK (qS N) (a1.empty x c a).2)
  ·exact .inl (c1 x c a)
 have e3:∀b o,k.heap.get? b=some o->s.get? b=some o:=λb o e=>kp b o (c5 ▸ ae _ e);have d2:s.get? k.heap.objs.size=some o0:=kp _ _ (c5 ▸ aC _ of);have ff:∀b∈B,b<k.heap.objs.size:=λb l=>by
  obtain⟨o,e,_⟩:=T.obj _ _ e2 b l;exact aw e
 have I3:cb (bi X N' scope (cu (G2.objs.size+1) scope.names G) G2.objs.size k I B (X.pn++h)) [] (lL nc ix σ) I {k with heap:=s,toks:=k.toks}:=PM S I2 c1 c2 f2 ff N a3 e3 a1;obtain⟨pg,pt⟩:=l (cu (G2.objs.size+1) scope.names G) G2.objs.size k I B (X.pn++h);have d7:k.heap.objs.size∉B_ X.stack:=λz=>by
  rcases List.mem_cons.mp (I2.stkSub _ z) with e|e
  ·exact absurd I2.lt (by rw[<- e];exact cO _)
  ·exact I2.nofs (av _) e
 have d5:tn 0 s:=T.keep _ _ _ e2 λb _ o e=>e3 b o e;have d1:k.heap.objs.size∉B:=λz=>absurd (ff _ z) (cO _);have a2:∀{H':Hp}{pl:List (ap×Obj)},(∀p∈pl,p.1∉B)->(∀b∈B,H' b=none)->∀b∈B,vw (bi X N' scope (cu (G2.objs.size+1) scope.names G) G2.objs.size k I B (X.pn++h)) pl H' b:=λh3 hn b l=>by
  obtain⟨f0,f1,g4,f3,f4,f5⟩:=f2 b l;refine⟨hn b l,below b (ff b l),λz=>?_,.inl l,λx c e=>(cne x c e).elim (f4 x c) λq z=>J4 q (by rw[z];exact ff b l),λp hp z=>?_⟩
  ·rcases List.mem_cons.mp (I2.stkSub _ z) with e|e
   ·exact f1 e
   ·exact g4 e
  ·rcases List.mem_append.mp hp with q|q
   ·exact f5 p q z
   ·exact h3 p q (z ▸ l)
 obtain⟨m0,w0⟩:=w0;have a4:eJ (ax X.prog X.w) X.A (.compLoop e0 0 (.ref it) (.ref k.heap.objs.size) (compEnvC scope (cu (G2.objs.size+1) scope.names G) G2.objs.size X.env))
    (RR (.ref k.heap.objs.size) G2.objs.size) {k with heap:=s,toks:=k.toks}:=by
  refine b7 it _ _ _ (GLI X P h N' scope (cu (G2.objs.size+1) scope.names G) G2.objs.size k I B nc ix σ tn W) ?_ m0 _
   ⟨0,a0,_,I,I3.pin1 d2 (I2.hok.fresh (av _)) d0 d7 (nd (p0 k.heap.objs.size)),p0 _,d5,λb l=>(f2 b l).1,w0⟩
  rintro n s3 ⟨i,f,oD,H3,J3,c3,e6,d9,w3⟩;have c0:∀p∈[(k.heap.objs.size,oD)],p.1∉B:=λp hp=>by
   have:p=(k.heap.objs.size,oD):=by simpa using hp
   rw[this];exact d1
  rcases d6 i n f H3 w3 with⟨d3,qn⟩|⟨go,hlt,step⟩
  ·refine fW (T.done (bi X N' scope (cu (G2.objs.size+1) scope.names G) G2.objs.size k I B (X.pn++h)) rfl rfl rfl hc i _ s3 _ H3 _ J3 (a2 c0 d9) e6 d3) λr s4 g5=>?_;obtain⟨hr,I4⟩:=g5;subst hr;obtain⟨pD,pN,_⟩:=I4.pin (k.heap.objs.size,_) (aA _ (List.mem_singleton.mpr rfl));obtain⟨mm,hn,_⟩:=I4.loc;have f6:H3 G2.objs.size=none:=I4.free;refine g3 _ _ mm s4 f H3 pN (I2.fpOk N (by rw[bh (dm d0)];exact f6)) (qn _ pN) hn λh' sb=>?_;have hu:Un (B_ X.stack) B I (upd H3 k.heap.objs.size (O k.heap.objs.size f)) k.heap h':=Un.grow I4.base sb N (av _) pN;refine I2.call' (s':={s4 with heap:=h'}) (ch:=B) I4.os hu ?_ I4.bare λb l=>?_
   ·exact D5 (PN I4.hok f6 sb) pN (tr I2.big c3 ((sb.2 _ d0).trans pD))
   ·obtain⟨_,f1,_,f3,f4,f5⟩:=f2 b l;exact⟨f3,f1,f4,f5⟩
  ·refine fW (T.item (bi X N' scope (cu (G2.objs.size+1) scope.names G) G2.objs.size k I B (X.pn++h)) rfl rfl rfl hc i _ s3 _ H3 _ J3 (a2 c0 d9) e6 go) λr s4 h6=>?_;obtain⟨u,hr,h4⟩:=h6;subst hr;refine fW h4 λ_ s5 g7=>?_;obtain⟨x,H5,I5,r5,y5,Y,h5⟩:=g7;have g1:=I5.pinned (a2 c0 h5) (T.obj _ _ Y);refine fW (pg _ s5 _ H5 x u _ g1 r5 (lo _ _ _ _ (step x H5 y5))) λ_ s6 g8=>?_;obtain⟨b8,H6,I6,q6,l6,k6⟩:=g8;have hw:∀(j:Nat) v,(lL nc ix σ)[j]?=some (some v)->b8[j]?=some (some v):=λj v e=>by
    by_cases hj:nt<=j
    ·rw[k6 j hj];exact e
    ·unfold lL at e;rw[c8 (by simp;omega),cF,if_pos ∅] at e;cases e
   refine fW (pt _ s6 b8 H6 _ I6 q6) λb s7 h1=>?_;obtain⟨H7,I7,q7⟩:=h1;have h7:∀{s8:ak}{e4:St}{H8:Hp},cb (bi X N' scope (cu (G2.objs.size+1) scope.names G) G2.objs.size k I B (X.pn++h)) ([(k.heap.objs.size,oD)]++sM B s5.heap) e4 H8 s8 ->
     tn (i+1) s8.heap/\∀b∈B,H8 b=none:=λ{s8 e4 H8} I8=>by
    refine⟨T.keep _ _ _ Y λb l o e=>(I8.pin (b,o) (aA _ (aA _ (ju l e)))).1,λb l=>?_⟩;obtain⟨o,e,d⟩:=T.obj _ _ Y b l;exact(I8.pin (b,o) (aA _ (aA _ (ju l e)))).2.1
   cases b with
   |false=>
    simp only[bn,if_false] at q7 ⊢;obtain⟨m',hm,w7⟩:=q7;obtain⟨t7,f7⟩:=h7 I7;exact⟨m',hm,i+1,f,oD,H7,(I7.weak l6.symm hw).unpinned,c3,t7,f7,w7⟩
   |true=>
    simp only[if_true] at q7 ⊢
    refine c4 it _ _ _ _ _ _ _ _ _ _ _ _ _ _ _ _ (.inr (av _)) (λx c e z=>?_) (λp hp z=>?_) (hM σ b8 k6) hlt c3 I7 q7 λd8 o' H8 s8 m' I8 p8 hm w8=>?_
    ·rcases cne x c e with e|e
     ·obtain⟨v,q⟩:=I2.cell x c e;exact absurd q.lt (by rw[z];exact cO _)
     ·exact absurd e (by rw[z];exact cO _)
    ·rcases bD.1 hp with hp|hp
     ·exact absurd (aw (I2.pin p hp).1) (by rw[z];exact cO _)
     ·exact d1 (z ▸ (yc hp).1)
    ·obtain⟨t8,f8⟩:tn (i+1) s8.heap/\∀b∈B,H8 b=none:=by
      refine⟨T.keep _ _ _ Y λb l o e=>(I8.pin (b,o) (aA _ (af _ (ju l e)))).1,λb l=>?_⟩;obtain⟨o,e,d⟩:=T.obj _ _ Y b l;exact(I8.pin (b,o) (aA _ (af _ (ju l e)))).2.1
     exact⟨m',hm,i+1,d8,o',H8,(I8.weak (σ':=lL nc ix σ) l6.symm hw).pins_of λp hp=>I8.pin p (aA _ (by rw[bN.1 hp];exact aj)),p8,t8,f8,w8⟩
 exact h0 a4 (T.self _ 0 _ _ _ d5 a4)
def XN(_:ap)(o:Obj)(b:List V):Prop:=∃a c,o=XM a c/\eE b a/\b.length<=sizeLine
def Ug(X:Cx)(c:bj)(env:Env)(D:ap)(K:ak->Prop)(s:ak):Prop:=aq (ax X.prog X.w) X.A (eI c env) (λx a=>aq (ax X.prog X.w) X.A (call (.builtin "list.append") [.ref D,x]) (λ_ b=>K b) (λ_ _=>False) a) (λ_ _=>False) s
def G9{X:Cx}{d:bj}{s:TE}{N':List Str}{scope:eM}{M:St->Prop}(A:∀f C c b p h,PE (bi X N' scope f C c b p h) d s):
  G7 X N' scope M XN (λa=>a.length<sizeLine) (λI H a m V=>s I H λy B=>∃e,e<m/\V e (a++[y]) B) (Ug X d):=by
 intro f C c b p h D pl o a n G x K m V v h2 E _ hl P N L fin
 obtain⟨k,nn,rfl,t,hz⟩:=P
 refine fW (A f C c b p h _ x n G _ N L) λw s8 g=>?_
 obtain⟨y,T,u,U,e,S,Q⟩:=g
 obtain⟨Y,pN,_⟩:=u.pin (D,_) (aA _ aj)
 have hv:=t.length
 refine wpAny_list_append_plain ⟨nn,Y⟩ (hsz:=by rw[a_];omega) ?_
 intro O i l
 obtain⟨q,e9⟩:=i
 have j:O.get? D=some (XM (k++[w]) q):=by rw[e9];simp
 exact fin (a++[y]) _ T _ e (u.swap l j (λ_ z=>nomatch z) v h2 E) ⟨_,q,rfl,t.append (.cons U .nil),by rw[aI,eN];omega⟩ S Q
def Ga{X:Cx}{b:bj}{f:Sem Fin}{a:Code}(d:f=pure (.again a))(env:Env)(D:ap)(K:ak->Prop)(s:ak)(h:Ug X b env D K s):aq (ax X.prog X.w) X.A ((do let _ <- call (.builtin "list.append") [.ref D,<- eI b env])>>=λ_=>f) (λf c=>f=.again a/\K c) (λ_ _=>False) s:=by
 subst d;exact a7 (a7 (fW h λx g e=>a7 (fW e λ_ _ q=>a9 (a9 ⟨rfl,q⟩))))
def Lg{X:Cx}{g tg iter:bj}{j:List bj}{scope:eM}{n:Pos}{p:TE}{N':List Str}{nt:Nat}{ix:List Nat}(t:∀q C k i B s,PE (bi X N' scope q C k i B s) g p):
  G8 X N' scope nt nt ix (.ListComp g [⟨tg,iter,j,0⟩] scope n) tg j (IF []) (λ_=>HO.lst) [] (λf=>f.length<sizeLine) (λw H f m V=>p w H λy v=>∃o,o<m/\V o (f++[y]) v):=
 ⟨XN,_,λ_=>Ug X g,λ_=>True,λ⟨_,_,h,_⟩ _ z=>(by rw[h] at z;cases z),rfl,λ_=>⟨[],0,rfl,.nil,cH _⟩,λ_ ⟨l,A,h,x,u⟩ e=>⟨u,l,A,x,by rw[e,h]⟩,bz,λ_=>D6 (iter:=iter) (λ_ _=>rfl) λa b c d h=>Ga rfl a b c d h,OY,⟨av _,λ_ _ _=>trivial⟩,λ_=>G9 t⟩
def Gb
  (P:X.calm=true) (S:jZ X scope N' nt ix) (lo:T7 nt g) (U:PI X tg iter wi)
  (t:∀o C j i z p,PG (bi X N' scope o C j i z p) tg g/\Ei (bi X N' scope o C j i z p) ifs tt/\PE (bi X N' scope o C j i z p) elt te)
  (hs:∀x,bf iter X.env x=pure x:=by intro _;rfl):PE X (.ListComp elt [⟨tg,iter,ifs,0⟩] scope pos) (PL nt ix wi g tt te):=by
 intro k s E H Q I h;obtain⟨o,B,c1,M⟩:=lK (scope:=scope) (env:=X.env) λy K Y=>I.ok.has y.1 (S.free y K Y);rw[eval_ListComp];refine gm (use:=none) rfl hs B S.kind S.loc (fW (U k s E H _ I h) λv s1 G=>fW G λN s2 h2=>?_);obtain⟨it,fp,tn,J,H2,e,I2,T,u,f2,W,L,n⟩:=h2;subst e;refine yf (RR:=λl C=>C8 (ax X.prog X.w) X.A X.xe none (EP X k E Q) l C) (Lg λa b c d e f=>(t a b c d e f).2.2) P S lo (λa b c d e f=>⟨(t a b c d e f).1,(t a b c d e f).2.1⟩) c1 M I2 T u f2 L n ?_;intro D C m s' l H' hD _ q hn O;exact⟨m,hn,λh' sb=>⟨.ref D,_,O h' sb,rfl,q⟩⟩
def W8(i:Nat)(b:TE):TS:=λD a H=>b a H λx c=>D.nx (a.set i (some x)) c
def Js
  (hN:X.N.Nodup) (G:X.N[i]?=some y) (u:X.env.scope.names.lookup y=some .local)
  (hc:X.calm=true) (S:jZ X scope N' nt ix) (lo:T7 nt g) (hi:PI X tg iter wi)
  (t:∀B C k l M O,PG (bi X N' scope B C k l M O) tg g/\Ei (bi X N' scope B C k l M O) ifs tt/\PE (bi X N' scope B C k l M O) elt te)
  (K:hX (.ListComp elt [⟨tg,iter,ifs,0⟩] scope pos) (some (.Name y py)) spos.line X.env=pure true:=by rfl)
  (hs:∀x,bf iter X.env x=pure x:=by intro _;rfl):PS X (.Assign [.Name y py] (.ListComp elt [⟨tg,iter,ifs,0⟩] scope pos) spos) (W8 i (PL nt ix wi g tt te)):=by
 intro j s U H D I h;obtain⟨B,a0,c1,c2⟩:=lK (scope:=scope) (env:=X.env) λy u hf=>I.ok.has y.1 (S.free y u hf);rw[SY _ _ _ _ K];refine a7 (dY (a7 ?_));show aq _ X.A (do let _ <- sH (.ListComp elt [⟨tg,iter,ifs,0⟩] scope pos) scope X.env _ (IF []) false (eI iter X.env) (some (mw (.Name y py) X.env))) _ _ s;refine a7 (bx (gm (use:=some (mw (.Name y py) X.env)) (Q:=λ_ s'=>SP X j D .next s') rfl hs a0 S.kind S.loc
  (fW (hi j s U H _ I h) λv s1 h1=>fW h1 λa1 s2 h2=>?_)) (λ_ s' hq=>a9 (a9 hq)) λ_ _ e=>e)
 obtain⟨it,fp,tn,J,H2,e,I2,T,Y,f2,W,w0,p⟩:=h2;subst e;refine yf (Q:=λx H1=>D.nx (U.set i (some x)) H1) (RR:=λn C=>C8 (ax X.prog X.w) X.A X.xe (some (mw (.Name y py) X.env)) (λ_ s'=>SP X j D .next s') n C) (Lg λa b c d e f=>(t a b c d e f).2.2) hc S lo (λa b c d e f=>⟨(t a b c d e f).1,(t a b c d e f).2.1⟩) c1 c2 I2 T Y f2 w0 p ?_;intro L C m s' n H' hD fC q hn hI;show aq _ X.A (mw (.Name y py) X.env (.ref L)) _ _ _;have I3:cb X j U (upd H' L (.lst n)) s':=hI s'.heap (.refl ..);refine C4 (y9 I3 hN G (.inl u) (v:=.ref L) rfl (λs4 I4 ⟨a,sb,ha⟩=>?_) (.inr u));obtain⟨g0,g1,g2,g3,g4,g5⟩:=fC;have E:C≠a:=by
  rcases ha with z|z
  ·rw[z];exact g1
  ·exact λe=>g4 y a z e.symm
 refine⟨m,hn.sameBut sb E,λh5 P=>?_⟩;exact⟨_,_,I4.turned (t':=s4.toks) (λb o t e=>(P.2 b t).trans e) g0 g1 g3 g4 g5,q⟩
def lD(e:Int×ag):Str:=match e.2 with
 |.str x _=>x
 |_=>⟨#[]⟩
def vz(w:bL)(e:Int×ag):Prop:=∃x a,e=(hashStr w x,kE x a)
structure dR (w:bL) (h:cg) (a:ap) (es:Array (Int×ag)) (ep:Nat) (t:mB):Prop where
 at_:h.get? a=some {cls:=.type "set",dict:=none,data:=.set es ep t}
 txt:∀e∈es.toList,vz w e
 nd:(es.toList.map lD).Nodup
 few:es.size<iD
 fits:t.fits es.size=true
 led:t.led=!w.params.followText "set-order"
 pl:es.size=0\/t.plain=false
inductive mS (w:bL) (h:cg) (a:ap) (ss:List Str):Prop
 |mk (es ep t:_) (h0:dR w h a es ep t) (h1:(es.toList.map lD).Perm ss):mS w h a ss
def Jt(t:mB)(es:Array (Int×ag))(h:Int)(x:ag):(layNew t es h x).2.1.led=t.led:=by
 unfold layNew;cases t.freeSlot h with
 |none=>rfl
 |some p=>
  obtain⟨a,d⟩:=p;show((t.put a).1.orStandIn _).led=_;unfold IG;split<;>rfl
def Ej(t:mB)(es:Array (Int×ag))(h:Int)(x:ag):t.plain=false->(layNew t es h x).2.1.plain=false:=by
 intro b;unfold layNew;cases t.freeSlot h with
 |none=>rfl
 |some p=>
  obtain⟨a,d⟩:=p;show((t.put a).1.orStandIn _).plain=_;unfold IG;split
  ·exact b
  ·rfl
def Gc{t t':mB}{hs:Array Int}{n:Nat}{o:Array Nat}(h:t.relaid hs n=some (t',o)):t'.led=t.led/\t'.plain=t.plain:=by
 unfold MM BX at h;cases e:wt (cZ n-1) hs with
 |none=>rw[e] at h;cases h
 |some b=>
  rw[e] at h;have h:=cc h;have a:=congrArg Prod.fst h;subst a;exact⟨rfl,rfl⟩
def Nh(t:mB)(es:Array (Int×ag))(n:Nat):(xV t es n).2.1.led=t.led/\(t.plain=false->(xV t es n).2.1.plain=false):=by
 unfold xV;cases e:t.relaid (es.map (·.1)) n with
 |none=>exact⟨rfl,λ_=>rfl⟩
 |some p=>
  obtain⟨t',o⟩:=p;obtain⟨a,b⟩:=Gc e;dsimp only;split
  ·exact⟨a,λh=>b.trans h⟩
  ·exact⟨rfl,λ_=>rfl⟩
def PQ(h:∀e∈l,vz w e):ElemsOf (strKind P w) l:=λe he=>by
 obtain⟨x,a,rfl⟩:=h e he;exact⟨⟨x,by simp[PySem.strKind,wp],rfl⟩,rfl⟩
def isS(P:bg)(w:bL)(x:Str)(a:Tok):(strKind P w).is x (.str x a)=true:=by simp[PySem.strKind,wp]
def Lh(h:vz w e)(x:Str):(strKind P w).is x e.2=true↔lD e=x:=by
 obtain⟨y,a,rfl⟩:=h;constructor
 ·intro q;have:=(strKind P w).inj _ _ _ q (isS P w y a);rw[this];rfl
 ·rintro rfl;exact isS P w _ a
def ub(I:dR w h a es ep t):(h.update a (sI es' t')).get? a=some {cls:=.type "set",dict:=none,data:=.set es' (ep+1) t'}:=by
 have q:=eO (sI es' t') I.at_ rfl;exact q
def D7(hS:mS w s.heap a ss)(hr:ss.length+1<iD)
  (h:∀h' n,bX a s.heap h'->mS w h' a (if x∈ss then ss else ss++[x])->Q (!decide (x∈ss)) {s with heap:=h',toks:=n}):
  aq (ax P w) A (setAddHashed a (.str x tk) ((strKind P w).hash x)) Q E s:=by
 obtain⟨es,O,t,I,B⟩:=hS
 have a0:es.size=ss.length:=by rw[<- B.length_eq,am,au]
 have N:ElemsOf (strKind P w) es.toList:=PQ I.txt
 unfold setAddHashed setAddHashedIn
 refine cC (a7 (bI (s:=s) I.at_ rfl I.fits ?_))
 dsimp only
 rw[byScan_of rfl I.few N]
 rw[if_pos rfl]
 unfold setAddByScan
 refine a7 (a7 (cK (a7 (wpAny_setScan_of (s:=s) (isS P w x tk) I.at_ rfl I.fits N ?_))))
 have f:x∈ss↔∃e∈es.toList,(strKind P w).is x e.2=true:=by
  rw[<- B.mem_iff,cq]
  constructor
  ·rintro⟨e,he,q⟩;exact⟨e,he,(Lh (I.txt e he) x).mpr q⟩
  ·rintro⟨e,he,q⟩;exact⟨e,he,(Lh (I.txt e he) x).mp q⟩
 cases hf:List.findIdx? (λe=>(strKind P w).is x e.2) es.toList with
 |some j=>
  obtain⟨hj,hp,_⟩:=List.findIdx?_eq_some_iff_getElem.mp hf
  have M:x∈ss:=f.mpr ⟨_,mq hj,hp⟩
  have q:=h s.heap s.toks (.refl ..) (by rw[if_pos M];exact⟨es,O,t,I,B⟩)
  rw[decide_eq_true M] at q
  exact a9 (a9 q)
 |none=>
  have i:x∉ss:=λz=>by
   obtain⟨e,he,q⟩:=f.mp z
   rw[List.findIdx?_eq_none_iff.mp hf e he] at q
   cases q
  have h:=λh' n sb=>h h' n sb
  rw[decide_eq_false i,if_neg i] at h
  have o:=layNew_perm t es ((strKind P w).hash x) (.str x tk)
  have T:=layNew_fits t es ((strKind P w).hash x) (.str x tk)
  have X:=Jt t es ((strKind P w).hash x) (.str x tk)
  have q1:=Ej t es ((strKind P w).hash x) (.str x tk)
  generalize layNew t es ((strKind P w).hash x) (.str x tk)=L at o T X q1 ⊢
  obtain⟨c,U,wd,gv⟩:=L
  dsimp only at o T X q1 ⊢
  rw[jj] at o
  have G:∀e∈c.toList,vz w e:=λe he=>by
   rcases List.mem_append.mp (o.mem_iff.mp he) with z|z
   ·exact I.txt e z
   ·rw[bN] at z;exact⟨x,tk,z⟩
  have km:(c.toList.map lD).Perm (ss++[x]):=(o.map lD).trans (by rw[c6];exact B.append_right _)
  have H:(ss++[x]).Nodup:=by
   rw[yR]
   exact⟨B.nodup_iff.mp I.nd,by simp,λy hy z hz e=>i (by rw[bN] at hz;rw[<- hz,<- e];exact hy)⟩
  have a1:c.size=es.size+1:=by rw[<- au,o.length_eq,aI,au];rfl
  have g:c.size<iD:=by omega
  have gw:∀(b:Bool) {k:ak}{Q':Unit->ak->Prop},Q' () k->aq (ax P w) A (match b with|true=>rule "set.scan.the-table-gave-way" | false=>pure ()) Q' E k:=
   λb _ _ z=>by cases b<;>first|exact a9 z|exact cK z
  have l:∀d:mB,d.fits c.size=true->d.led=t.led->d.plain=false->aq (ax P w) A (do
    storeSet a c d
    if(!wd&&d.tooFull)=true then do
      (match (xV d c (jk c.size)).2.2 with|true=>rule "set.scan.the-table-gave-way" | false=>pure ())
      storeSet a (xV d c (jk c.size)).1 (xV d c (jk c.size)).2.1
      pure (some true)
     else pure (some true)) (λr s'=>r=some true/\Q true s') E s:=λd f2 l2 n2=>by
   refine a7 (jP (s:=s) I.at_ rfl ?_ (gL g))
   have Y:=ub (es':=c) (t':=d) I
   have v:=bT s.heap a (sI c d)
   have I1:dR w (s.heap.update a (sI c d)) a c (O+1) d:=⟨Y,G,km.nodup_iff.mpr H,g,f2,l2.trans I.led,.inr n2⟩
   split
   ·have p:=relayAll_perm d c (jk c.size)
    have f3:=relayAll_fits d c (jk c.size)
    have S:=Nh d c (jk c.size)
    generalize xV d c (jk c.size)=R3 at p f3 S ⊢
    obtain⟨K,t3,a2⟩:=R3
    dsimp only at p f3 S ⊢
    have m:K.size<iD:=by rw[<- au,p.length_eq,au];exact g
    have u:=(p.map lD).trans km
    refine a7 (gw _ (a7 (jP (s:={s with heap:=s.heap.update a (sI c d)}) I1.at_ rfl ?_ (gL m))))
    refine a9 ⟨rfl,h _ _ (v.trans (bT _ a _)) ⟨K,O+1+1,t3,⟨ub I1,λe he=>G e (p.mem_iff.mp he),u.nodup_iff.mpr H,m,f3,S.1.trans (l2.trans I.led),.inr (S.2 n2)⟩,u⟩⟩
   ·exact a9 ⟨rfl,h _ _ v ⟨c,O+1,d,I1,km⟩⟩
  refine a7 (gw gv ?_)
  cases hp:U.plain with
  |true=>
   simp only[if_true]
   rw[hashByValue_scannable 8 (x:=.str x tk) rfl]
   refine a7 (a9 ?_)
   refine bx (l {U with plain:=false} (by cases U;exact T) X rfl) (λr s' z=>?_) λ_ _ z=>z
   obtain⟨rfl,z⟩:=z
   exact a9 z
  |false=>
   simp only[bn,if_false]
   refine a7 (a9 ?_)
   refine bx (l U T X hp) (λr s' z=>?_) λ_ _ z=>z
   obtain⟨rfl,z⟩:=z
   exact a9 z
def Gd(d:mS w s.heap a ss)(c:ss.length+1<iD)
  (h:∀h' b,bX a s.heap h'->mS w h' a (if x∈ss then ss else ss++[x])->Q (!decide (x∈ss)) {s with heap:=h',toks:=b}):
  aq (ax P w) A (setAdd a (.str x tk)) Q E s:=by
 unfold setAdd;refine cC (a7 ((strKind P w).pyHash (k:=x) (isS P w x tk) ?_));exact D7 (s:={s with toks:=s.toks+1}) d c h
abbrev gV(w:bL):Obj:={cls:=.type "set",dict:=none,data:=.set #[] 0 (.fresh 0 0 (!w.params.followText "set-order"))}
def yg(w:bL)(e:h.get? a=some (gV w)):mS w h a []:=
 ⟨#[],0,_,⟨e,λe he=>by simp at he,by simp,by decide,rfl,rfl,.inl rfl⟩,by simp⟩
def dn:List Str->List Str->List Str
 |acc,[]=>acc
 |acc,x::r=>dn (if x∈acc then acc else acc++[x]) r
theorem jB:∀(l a:List Str) (x:Str),x∈dn a l↔x∈a\/x∈l
 |[],a,x=>by simp[dn]
 |y::r,a,x=>by
  rw[dn,jB r];by_cases h:y∈a
  ·rw[if_pos h];simp only[aT];constructor
   ·exact λz=>z.elim .inl λz=>.inr (.inr z)
   ·rintro (z|z|z)
    ·exact .inl z
    ·exact .inl (z ▸ h)
    ·exact .inr z
  ·rw[if_neg h];simp[bD,or_assoc]
theorem jv:∀(l c:List Str),c.Nodup->(dn c l).Nodup
 |[],c,h=>h
 |y::r,c,h=>by
  rw[dn];refine jv r _ ?_;by_cases d:y∈c
  ·rw[if_pos d];exact h
  ·rw[if_neg d,yR];exact⟨h,by simp,λa g b f e=>d (by rw[bN] at f;rw[<- f,<- e];exact g)⟩
theorem gy:∀(l a:List Str),(dn a l).length<=a.length+l.length
 |[],a=>by simp[dn]
 |y::r,a=>by
  rw[dn];have:=gy r (if y∈a then a else a++[y]);by_cases b:y∈a
  ·rw[if_pos b] at this ⊢;simp only[aZ];omega
  ·rw[if_neg b] at this ⊢;simp only[aZ,aI,eN,dH] at this ⊢;omega
def mS.keep(x:mS w h a ss)(k:∀o,h.get? a=some o->h'.get? a=some o):mS w h' a ss:=
 let ⟨es,ep,t,I,p⟩:=x;⟨es,ep,t,⟨k _ I.at_,I.txt,I.nd,I.few,I.fits,I.led,I.pl⟩,p⟩
def Cq{I:ap}{G l:List ap}{n:Nat}{E:Nat->ag->Prop}{St:Nat->cg->Prop}(W:FH prog w A.in1 I G l n E St)(D:ap)(H:D∉G)(xs:List Str)(hx:xs.length=n)
  (hv:∀i v,E i v->∃x t,xs[i]?=some x/\v=.str x t) (c:n+1<iD):
  ∀(k i:Nat) (s:ak) (a:List Str),n-i=k->i<=n->a.length<=i->St i s.heap->mS w s.heap D a ->
   (∀h' g,(∀b o,b∉D::l->s.heap.get? b=some o->h'.get? b=some o)->mS w h' D (dn a (xs.drop i))->R (.ok (.ret .none)) {s with heap:=h',toks:=g}) ->
   eJ (ax prog w) A (.builtin "set.update.loop" ⟨[.ref D,.ref I],[]⟩) R s:=by
 have d:D∉l:=λz=>H (W.sub _ z);intro k;induction k with
 |zero=>
  intro i s a X Q O st u B;obtain rfl:i=n:=by omega
  refine fg qT ?_;rw[du jd _];show aq _ A.in1 (jY (.ref I)>>=_) _ _ s;refine a7 (W.done s _ _ st λh' g kp=>?_);refine a9 (B h' g (λb o c e=>kp b o (λz=>c (af _ z)) e) ?_);rw[List.drop_of_length_le ∅];exact u.keep λo e=>kp D o d e
 |succ k M=>
  intro i s a X Q O st u B;have f:i<n:=by omega
  refine fg qT ?_;rw[du jd _];show aq _ A.in1 (jY (.ref I)>>=_) _ _ s;refine a7 (W.item i s _ _ f st λv h' g S q kp=>?_);obtain⟨x,t,m,rfl⟩:=hv i v S;have h:mS w h' D a:=u.keep λo e=>kp D o d e;refine a7 (cC (Gd (s:={s with heap:=h',toks:=g}) h ∅ λK T L y=>?_));refine a9 ⟨iP jd _,M (i+1) _ (if x∈a then a else a++[x]) ∅ f ?_ (W.frame _ _ _ q λb c o e=>?_) y λP p Y j=>?_⟩
  ·by_cases z:x∈a
   ·rw[if_pos z];omega
   ·rw[if_neg z,aI,eN];omega
  ·rw[L.2 b λz=>H (z ▸ c)];exact e
  ·refine B P p (λb o c e=>Y b o c ?_) ?_
   ·rw[L.2 b λz=>c (by rw[z];exact aj)];exact kp b o (λz=>c (af _ z)) e
   ·have U:xs.drop i=x::xs.drop (i+1):=by
     obtain⟨N,K⟩:=List.getElem?_eq_some_iff.mp m;rw[E2 N,K]
    rw[U,dn];exact j
def PR(a:ag)(h:Q₁ (.ref s.heap.objs.size) {s with heap:=s.heap.push (gV w)}):
  eJ (ax prog w) A (.call (.builtin "set.__new__") ⟨[.type "set",a],[]⟩) (wants Q₁ E) s:=by
 refine pW ?_;show aq _ A.in1 (do checkBuiltinCall "set.__new__" ⟨[.type "set",a],[]⟩;again (.builtin "set.__new__" ⟨[.type "set",a],[]⟩)) _ _ s;refine a7 (fw (F.newCall_set_1 a) (a9 ⟨iP F.plain_set_new _,fg F.entry_set_new ?_⟩));rw[du F.plain_set_new _];unfold jQ.«set.__new__» Tg;have b:=OZ;obtain⟨c,g,d,f,e⟩:=s;dsimp only;wp_walk;refine gf (a9 ?_);dsimp only;simp only[newObj];refine a7 (Tf (a9 ?_));exact a9 h
structure XO (prog:bg) (w:bL) (A:cy) (T:String) (l:ap) (o:Obj) (items:Array ag):Prop where
 ty:o.cls=.type T
 s1:isSubtype (.type T) (.type "set")=pure false
 s2:isSubtype (.type T) (.type "frozenset")=pure false
 nd:(jy T==jy "dict")=false
 iter:∀(s:ak) (Q:ag->ak->Prop) (E:ag->ak->Prop),s.heap.get? l=some o ->
  (∀ob St,FH prog w A.in1 s.heap.objs.size [s.heap.objs.size,l] [s.heap.objs.size] items.size (λi v=>items[i]?=some v) St->St 0 (s.heap.push ob)->Q (.ref s.heap.objs.size) {s with heap:=s.heap.push ob})->aq (ax prog w) A (nH (.ref l)) Q E s
def wQ{T:String}{l:ap}{H:Obj}{items:Array ag}{xs:List Str}{Q:ag->ak->Prop}
  (B:XO prog w A.in1.in1 T l H items) (y:s.heap.get? l=some H) (X:∀(i:Nat) (v:ag),items[i]?=some v->∃x t,xs[i]?=some x/\v=kE x t) (hx:xs.length=items.size) (Y:items.size+1<iD)
  (h:∀(h':cg) (k:Nat),mS w h' s.heap.objs.size (dn [] xs)->(∀b o,s.heap.get? b=some o->h'.get? b=some o)->Q (.ref s.heap.objs.size) {s with heap:=h',toks:=k}):
  aq (ax prog w) A (call (.type "set") [.ref l]) Q E s:=by
 obtain⟨c,tl,P⟩:=F.called_set.mro;have G:=F.called_set.made;have O:=F.called_set.sub;refine wpAny_call (pW ?_);show aq _ _ (callAny (.type "set") _) _ _ _;refine a9 ⟨Code.quiet_builtin _ ∎,fg F.entry_type_call ?_⟩;rw[Around.under_plain (weight_type_call_type "set" [.ref l] []) rfl];have h1:=F.called_set.notType;have h2:=F.called_set.canCreate;have a0:=F.typeCall_set_1 (.ref l);repeat (any_goals (first|assumption|wp_step))
 refine qv (PR (.ref l) (E:=E) (Q₁:=λm d=>m=.ref s.heap.objs.size/\d={s with heap:=s.heap.push (gV w)}) ⟨rfl,rfl⟩) λr d q=>?_;cases r with
 |error e=>exact q
 |ok U=>
  cases U with
  |ret m=>
   obtain⟨rfl,rfl⟩:=q;have N:(s.heap.push (gV w)).get? s.heap.objs.size=some (gV w):=aC _ rfl;have hT:Th {s with heap:=s.heap.push (gV w)} (.ref s.heap.objs.size) "set":=⟨_,N,rfl⟩;have S:=F.called_set.init.lookup;have a1:=F.called_set.init.bind (.ref s.heap.objs.size);repeat (any_goals (first|assumption|wp_step))
   refine qv (Ti (R:=wants (λr f=>r=.none/\∃h' k,f={s with heap:=h',toks:=k}/\mS w h' s.heap.objs.size (dn [] xs) /\
     (∀b o,s.heap.get? b=some o->h'.get? b=some o)) E) F.called_set.init.plain F.entry_set_init (check_set_init_1 hT ?_)) λp f a=>?_
   ·obtain⟨oc,od,I,L⟩:=H;obtain⟨ty,s1,s2,nd,iter⟩:=B;have ty:oc=.type T:=ty;subst ty;have u:(s.heap.push (gV w)).get? l=some {cls:=.type T,dict:=od,data:=I,slots:=L}:=ae _ y;unfold jQ.«set.__init__» noKeywords kC;generalize K:nH=PI;wp_walk;subst K;refine iter {s with heap:=s.heap.push (gV w)} _ _ u λob St W st=>?_;have z:l<s.heap.objs.size:=aw y;refine a7 (J5 ?_);have n:(s.heap.push (gV w)).objs.size=s.heap.objs.size+1:=cY ..;refine Cq (A:=A.in1.in1) W s.heap.objs.size (by rw[n];simp only[aT,br,or_false,not_or];exact⟨aL (gW _),fF z⟩) xs hx X Y items.size 0 _ [] ∅ (cH _) (av _) st (yg w (ae _ N)) λh' k kp j=>?_;show aq _ _ _ _ _ _;refine a9 ?_;show aq _ _ (ret fv) _ _ _;refine a9 ⟨rfl,h',k,rfl,j,λb o e=>kp b o ?_ (ae _ (ae _ e))⟩;have:=aw e;rw[n];simp only[aT,br,or_false,not_or];exact⟨aL this,aL (fG this)⟩
   ·cases p with
    |error e=>exact a
    |ok g=>
     cases g with
     |ret r=>
      obtain⟨rfl,h',k,rfl,j,M⟩:=a;repeat (any_goals (first|assumption|wp_step))
      exact h _ _ j M
     |next=>exact a.elim
     |brk=>exact a.elim
     |cont=>exact a.elim
  |next=>exact q.elim
  |brk=>exact q.elim
  |cont=>exact q.elim
def PU{l:ap}{o:Obj}{a:List ag}(d:A.handled=none)(b:o.cls=.type "list")(c:∃n,o.data=.seq a.toArray n):XO prog w A "list" l o a.toArray:=
 ⟨b,F.sub_list_set,F.sub_list_frozenset,by decide,λs Q E e h=>mx ⟨_,e,b,c⟩
  (h _ _ (C9 (by simpa using d) _ l (aL (aw e)) a.toArray) ⟨⟨_,aC _ rfl,rfl,rfl⟩,⟨_,ae _ e,b,c⟩⟩)⟩
def Uh{l:ap}{o:Obj}{a:List ag}(d:A.handled=none)(b:o.cls=.type "tuple")(c:∃n,o.data=.seq a.toArray n):XO prog w A "tuple" l o a.toArray:=
 ⟨b,F.sub_tuple_set,F.sub_tuple_frozenset,by decide,λs Q E e h=>i9 ⟨_,e,b,c⟩
  (h _ _ (Walks.tuple (by simpa using d) _ l (aL (aw e)) a.toArray) ⟨⟨_,aC _ rfl,rfl,rfl⟩,⟨_,ae _ e,b,c⟩⟩)⟩
end L2
namespace L2
open PySem PySem.Spec PyProof.Rows
namespace SI
def entry_iter:J6 table "set.__iter__"=some jQ.«frozenset.__iter__»:=
 J7 (id':="frozenset.__iter__") (by kernel_rfl) rfl ∎ (by kernel_rfl)
def slot_next:Slot "set_iterator" "__next__" "set_iterator.__next__":=by
 refine .of (owner:="set_iterator") (n:="__next__") ?_ ?_ ?_ ?_ ?_ ?_
 ·rw[typeLookup_type,SZ];kernel_rfl
 ·decide +kernel
 ·decide +kernel
 ·decide +kernel
 ·first
   |exact .inl ∎
   |exact .inr ∎
 ·rw[J8];kernel_rfl
def entry_next:J6 table "set_iterator.__next__"=some jQ.«set_iterator.__next__»:=
 entryFor_of_tree (by kernel_rfl)
def Ge:Manifest.owners.lookup (String.ofList ['r','o','t','a','r','e','t','i','_','t','e','s'].reverse)=some Manifest.sig_set_iterator:=by kernel_rfl
def args_next(a:ag):E3 "set_iterator.__next__" ⟨[a],[]⟩:=by
 unfold E3;rw[signature?_of (id:="set_iterator.__next__") (n:=['_','_','t','x','e','n','_','_']) (o:=['r','o','t','a','r','e','t','i','_','t','e','s']) (by kernel_rfl) Ge]
 kernel_rfl
def args_iter(a:ag):E3 "set_iterator.__iter__" ⟨[a],[]⟩:=by
 unfold E3;rw[signature?_of (id:="set_iterator.__iter__") (n:=['_','_','r','e','t','i','_','_']) (o:=['r','o','t','a','r','e','t','i','_','t','e','s']) (by kernel_rfl) Ge]
 kernel_rfl
def entry_self:J6 table "set_iterator.__iter__"=some jQ.«dict_keyiterator.__iter__»:=
 J7 (id':="dict_keyiterator.__iter__") (by kernel_rfl) rfl ∎ (by kernel_rfl)
def slot_iter:Slot "set_iterator" "__iter__" "set_iterator.__iter__":=by
 refine .of (owner:="set_iterator") (n:="__iter__") ?_ ?_ ?_ ?_ ?_ ?_
 ·rw[typeLookup_type,SZ];kernel_rfl
 ·decide +kernel
 ·decide +kernel
 ·decide +kernel
 ·first
   |exact .inl ∎
   |exact .inr ∎
 ·rw[J8];kernel_rfl
end SI
end L2
namespace L2
open PySem PySem.Spec PyProof.Rows
theorem vA{a:Type}:∀{l:List a}{i:Nat} (h:i<l.length),(l[i]::l.eraseIdx i).Perm l
 |x::r,0,_=>.refl _
 |x::r,i+1,h=>by
  have q:=vA (l:=r) (i:=i) (by simpa using h);rw[List.getElem_cons_succ,List.eraseIdx_cons_succ];exact(List.Perm.swap _ _ _).trans (q.cons x)
def Ni(a:n≠0)(h:∀i d,i<n->Q i {s with drawn:=d}):aq M A (choose src n) Q E s:=
 λ_ _ _=>⟨a,h _ _ (E4 _ (Nat.pos_of_ne_zero a))⟩
theorem wR{c:Type}:∀(n:Nat) (xs:List c) (s:ak) (Q:List c->ak->Prop),n=xs.length->(∀ys d,ys.Perm xs->Q ys {s with drawn:=d})->aq M A (drawOrder n xs) Q E s
 | 0,xs,s,Q,a,h=>by
  obtain rfl:xs=[]:=List.length_eq_zero_iff.mp a.symm;exact a9 (h [] s.drawn .nil)
 |n+1,[],s,Q,a,h=>by cases a
 |n+1,x::r,s,Q,a,h=>by
  show aq M A (choose .order (x::r).length>>=_) Q E s;refine a7 (Ni (by simp) λi d b=>?_);rw[bw b];refine a7 (wR n _ _ _ (by rw[CV b];omega) λys d' p=>a9 ?_);exact h _ _ ((p.cons _).trans (vA b))
def Ek{b:Type}(next:Nat->Nat):∀(n k:Nat) (left:List b) (out:Array b),n=left.length->(Ca next n k left out).toList.Perm (out.toList++left)
 | 0,k,left,out,hn=>by
  obtain rfl:left=[]:=List.length_eq_zero_iff.mp hn.symm;rw[Ca,b_]
 |n+1,k,left,out,hn=>by
  have a:next k % left.length<left.length:=E4 _ ∅
  rw[Ca,bw a];refine(Ek next n (k+1) _ _ (by rw[CV a];omega)).trans ?_;rw[jj,fz];exact(vA a).append_left _
def yh{a:Type}(next:Nat->Nat)(xs:Array a):(qU next xs).toList.Perm xs.toList:=by
 have:=Ek next xs.size 0 xs.toList #[] (by simp)
 simpa[qU] using this
def El(h:cg)(I S:ap)(first:ag)(i n a:Nat):Prop:=h.get? I=some {cls:=.type "set_iterator",data:=.fields #[first,.int i 0,.ref S,.int n 0,.int a 0]}
def El.put{f c:ag}{j b:Nat}{k:Nat}{x:ag}{h:cg}(a:El h I S f j n ep)(e:(#[f,.int j 0,.ref S,.int n 0,.int ep 0]:Array ag).setIfInBounds k x=#[c,.int b 0,.ref S,.int n 0,.int ep 0]):
  El (h.update I (fA (·.setIfInBounds k x))) I S c b n ep:=by
 have q:=eO (fA (·.setIfInBounds k x)) a rfl;unfold El;rw[q];show some ({cls:=.type "set_iterator",data:=.fields ((#[f,.int j 0,.ref S,.int n 0,.int ep 0]:Array ag).setIfInBounds k x)}:Obj)=_;rw[e]
def uc(c:El s.heap I S first i n ep)(f:dR w s.heap S es ep t)(g:n=es.size)
  (h:aq (ax prog w) A.in1 (do
   if let .int slot _:=first then
    match <- O_ S slot.toNat i ep with
    |some (x,next)=>
     j7 (.ref I) 0 (cL next)
     j7 (.ref I) 1 (cL (i+1))
     ret x
    |none=>j7 (.ref I) 2 .none;uL (<- vo (.type "StopIteration") [])
   else
    let some places <- uM first|xW "internal:set_iterator"
    match places[i]? with
    |some (.int a _)=>
     let x <- setNextDrawn S a.toNat ep
     j7 (.ref I) 1 (cL (i+1))
     ret x
    |some _=>xW "internal:set_iterator"
    |none=>j7 (.ref I) 0 (cL 0);j7 (.ref I) 2 .none;uL (<- vo (.type "StopIteration") []))
   (λfin s'=>∃v,fin=.done (.ret v)/\Q (some v) s') (λe s'=>aq (ax prog w) A (isInstance e (.type "StopIteration")) (λb d=>b=true/\Q none d) E s') s):
  aq (ax prog w) A (jY (.ref I)) Q E s:=by
 unfold jY;refine a7 (lB ?_);refine cS (name:=iw "__next__") ⟨_,c,rfl⟩ SI.slot_next ?_;refine bS SI.slot_next ⟨_,c,rfl⟩ SI.entry_next ?_ (SI.args_next _);show aq _ _ (fieldsOf (.ref I)>>=_) _ _ s;refine a7 (J9 c rfl ?_);show aq _ _ (setEntries S>>=_) _ _ s;refine a7 (wpAny_setEntries_of f.at_ rfl f.fits ?_);rw[if_neg (by rw[g];simp)];refine bx h (λfin s' z=>?_) λe s' z=>?_
 ·obtain⟨v,rfl,q⟩:=z;exact⟨v,rfl,a9 q⟩
 ·refine a7 (bx z (λb d ⟨j,q⟩=>?_) λ_ _ z=>z);subst j;exact a9 q
def Em{B:cy}{Q:Option ag->ak->Prop}{f:Fin->ak->Prop}{o:Obj}{d:Array ag}(g:B.handled=none)(ho:s.heap.get? I=some o)(j:o.data=.fields d)(i:2<d.size)
  (h:∀h',L0 I s.heap h'->Q none {s with heap:=h'}):
  aq (ax prog w) B (do j7 (.ref I) 2 .none;uL (<- vo (.type "StopIteration") []))
   f (λe s'=>aq (ax prog w) A (isInstance e (.type "StopIteration")) (λb c=>b=true/\Q none c) E s') s:=by
 refine a7 (ii ho j i ?_);show aq _ _ (vo (.type "StopIteration") []>>=_) _ _ _;refine a7 ?_;simp only[vo,Tj];refine a7 (bz ?_ (by size_fits));refine a7 (m:=mC _ _) (fw (a:=fv) ?_ ?_)
 ·first
   |rfl
   |(simp only[mC];rfl)
 refine bz ?_ (by size_fits);simp only[uL];refine a7 (MN ?_);rw[g];refine a7 (a9 (Tl ?_));refine i0 (T:="StopIteration") (b:=true) ⟨_,aC _ rfl,rfl⟩ xX ⟨rfl,?_⟩;exact h _ (((bT ..).extBut.push _).push _)
section
variable{prog:bg}{w:bL}{A:cy}{E:ag->ak->Prop}{s:ak}{I S:ap}{es:Array (Int×ag)}{ep:Nat}{t:mB}{i n:Nat}{first:ag}
def dR.keep(x:dR w h S es ep t)(k:∀o,h.get? S=some o->h'.get? S=some o):dR w h' S es ep t:=⟨k _ x.at_,x.txt,x.nd,x.few,x.fits,x.led,x.pl⟩
def Eo{Q:ag->ak->Prop}(a:El s.heap I S first i n ep)(h:Q (.ref I) s):aq (ax prog w) A (nH (.ref I)) Q E s:=by
 refine Cb ⟨_,a,rfl⟩ SI.slot_iter (bS SI.slot_iter ⟨_,a,rfl⟩ SI.entry_self ?_ (SI.args_iter _));show aq _ _ (ret (.ref I)) _ _ s;exact a9 ⟨_,rfl,"set_iterator",_,⟨_,a,rfl⟩,SI.slot_next.lookup,h⟩
def gD{Q:Bool->ak->Prop}{B:cy}(h:Q (w.params.followText "set-order") s):aq (ax prog w) B setsByText Q E s:=by
 unfold setsByText;exact a7 (gf (a9 h))
def PV{B:cy}{c:Fin->ak->Prop}{x:ag}{nx:Nat}{d:ag->ak->Prop}(a:El s.heap I S first i n ep)
  (h:∀h',El h' I S (.int nx 0) (i+1) n ep->bX I s.heap h'->c (.done (.ret x)) {s with heap:=h'}):
  aq (ax prog w) B (do j7 (.ref I) 0 (cL nx);j7 (.ref I) 1 (cL (i+1));ret x) c d s:=by
 refine a7 (ii a rfl (by simp) ?_);have b:El (s.heap.update I (fA (·.setIfInBounds 0 (cL nx)))) I S (.int nx 0) i n ep:=a.put (by simp[cL]);refine a7 (ii b rfl (by simp) ?_);have e:El ((s.heap.update I (fA (·.setIfInBounds 0 (cL nx)))).update I (fA (·.setIfInBounds 1 (cL (i+1))))) I S (.int nx 0) (i+1) n ep:=b.put (by simp[cL]);exact a9 (h _ e ((bT ..).trans (bT ..)))
def yi(f:Nat->Nat)(es:Array (Int×ag)):(qU f es).size=es.size:=by
 rw[<- au,(yh f es).length_eq,au]
theorem Ju(u:A.handled=none)(g:w.params.followText "set-order"=true)(j:S≠I):
  FH prog w A I [I,S] [I] es.size (λi v=>((qU (w.params.setOrder S ep) es).toList.map (·.2))[i]?=some v) (λi h=>El h I S (.int 0 0) i es.size ep/\dR w h S es ep t) where
 sub:=λb d=>by simp at d;simp[d]
 frame:=λi h h' st k=>⟨k I (by simp) _ st.1,st.2.keep λo e=>k S (by simp) o e⟩
 item:=λi s Q E q st l=>by
  obtain⟨c,a⟩:=st;refine uc c a rfl ?_;dsimp only;unfold O_ setWalk;refine a7 (a7 (bI a.at_ rfl a.fits (a7 (gD ?_))));rw[g];simp only[if_true,bne_self_eq_false,bn,if_false];refine a7 (a7 (bI a.at_ rfl a.fits (a7 (gD ?_))));rw[g];simp only[if_true];refine a7 (gf (a9 (a9 ?_)));have f:i<(qU (w.params.setOrder S ep) es).size:=by rw[yi];exact q
  show aq _ _ (match ((qU (w.params.setOrder S ep) es)[i]?).map λe=>(e.2,(0:Int).toNat) with
   |some (x,next)=>do j7 (.ref I) 0 (cL next);j7 (.ref I) 1 (cL (i+1));ret x
   |none=>do j7 (.ref I) 2 .none;uL (<- vo (.type "StopIteration") [])) _ _ s
  rw[getElem?_pos _ i f];refine PV (nx:=0) c λh' p m=>⟨_,rfl,l _ h' s.toks ?_ ⟨p,a.keep λo e=>(m.2 S j).trans e⟩ λb o d e=>(m.2 b λz=>d (by simp[z])).trans e⟩;simp[f]
 done:=λs Q E st l=>by
  obtain⟨c,a⟩:=st;refine uc c a rfl ?_;dsimp only;unfold O_ setWalk;refine a7 (a7 (bI a.at_ rfl a.fits (a7 (gD ?_))));rw[g];simp only[if_true,bne_self_eq_false,bn,if_false];refine a7 (a7 (bI a.at_ rfl a.fits (a7 (gD ?_))));rw[g];simp only[if_true];refine a7 (gf (a9 (a9 ?_)));show aq _ _ (match ((qU (w.params.setOrder S ep) es)[es.size]?).map λe=>(e.2,(0:Int).toNat) with
   |some (x,next)=>do j7 (.ref I) 0 (cL next);j7 (.ref I) 1 (cL (es.size+1));ret x
   |none=>do j7 (.ref I) 2 .none;uL (<- vo (.type "StopIteration") [])) _ _ s
  rw[getElem?_neg _ es.size (by rw[yi];exact cO _)];exact Em (by simpa using u) c rfl (by simp) λh' y=>l h' s.toks λb o d e=>y b o (λz=>d (by simp[z])) e
 self:=λi s Q E st h=>Eo st.1 h
inductive SPl (h:cg) (T:ap) (ps:List Nat):Prop
 |mk (o k:_) (h0:h.get? T=some o) (h1:o.data=.seq (ps.map λ(p:Nat)=>oC (p:Int) 0).toArray k):SPl h T ps
theorem Gf(B:A.handled=none)(u:S≠I)(K:T≠I)(G:∀p∈ps,p<es.size)(y:ps.length=es.size):
  FH prog w A I [I,S,T] [I] es.size (λi v=>(ps.map λp=>(es.getD p (0,.none)).2)[i]?=some v) (λi h=>El h I S (.ref T) i es.size ep/\dR w h S es ep t/\SPl h T ps) where
 sub:=λb f=>by simp at f;simp[f]
 frame:=λi h h' st k=>⟨k I (by simp) _ st.1,st.2.1.keep λo e=>k S (by simp) o e,let ⟨o,q,e,d⟩:=st.2.2;⟨o,q,k T (by simp) o e,d⟩⟩
 item:=λi s Q E L st x=>by
  obtain⟨a,g,o,q,e,d⟩:=st;refine uc a g rfl ?_;dsimp only;refine a7 (eB e d ?_);have c:i<ps.length:=by omega
  dsimp only;rw[show((ps.map λ(p:Nat)=>oC (p:Int) 0).toArray)[i]?=some (.int (ps[i]:Nat) 0) by simp[c]];dsimp only;unfold setNextDrawn;refine a7 (a7 (bI g.at_ rfl g.fits ?_));have l:=G ps[i] (mq c);simp only[bne_self_eq_false,bn,if_false,lI];rw[getElem?_pos es ps[i] l];refine a9 ?_;refine a7 (ii a rfl (by simp) ?_);have m:El (s.heap.update I (fA (·.setIfInBounds 1 (cL (i+1))))) I S (.ref T) (i+1) es.size ep:=a.put (by simp[cL]);have j:bX I s.heap (s.heap.update I (fA (·.setIfInBounds 1 (cL (i+1))))):=bT ..;refine a9 ⟨_,rfl,x _ _ s.toks ?_ ⟨m,g.keep λo e=>(j.2 S u).trans e,o,q,(j.2 T K).trans e,d⟩ λb o f e=>(j.2 b λz=>f (by simp[z])).trans e⟩;simp[c,l]
 done:=λs Q E st x=>by
  obtain⟨a,g,o,q,e,d⟩:=st;refine uc a g rfl ?_;dsimp only;refine a7 (eB e d ?_);dsimp only;rw[show((ps.map λ(p:Nat)=>oC (p:Int) 0).toArray)[es.size]?=none by simp[<- y]];dsimp only;refine a7 (ii a rfl (by simp) ?_);have m:El (s.heap.update I (fA (·.setIfInBounds 0 (cL 0)))) I S (.int 0 0) es.size es.size ep:=a.put (by simp[cL]);have j:bX I s.heap (s.heap.update I (fA (·.setIfInBounds 0 (cL 0)))):=bT ..;exact Em (s:={s with heap:=s.heap.update I (fA (·.setIfInBounds 0 (cL 0)))}) (by simpa using B) m rfl (by simp) λh' H=>x h' s.toks λb o f e=>H b o (λz=>f (by simp[z])) ((j.2 b λz=>f (by simp[z])).trans e)
 self:=λi s Q E st h=>Eo st.1 h
def PX(h:p=#[j]):jl p 0=0:=by subst h;simp[jl,Cc]
def PY{p:Array Nat}{j:Nat}(h:p=#[j]):jl p (j+1)=1:=by subst h;simp[jl,Cc]
theorem Nj(h:t.fits 1 = true):∃j,t.place = #[j]:= by
  have a:t.place.size = 1:= by
    simp only[oT,aU,beq_iff_eq] at h; exact h.1
  exact ⟨t.place[0], by apply Array.ext; · simp [a]
                        · intro i c b; have:i = 0:= by omega
                          subst this; simp⟩
def XQ(a:t.led=true)(h:aq (ax prog w) B (k ()) Q E s):
  aq (ax prog w) B ((if(!t.led && !es.isEmpty)=true then xW "set:maker-not-led" else pure ())>>=k) Q E s:=by
 rw[if_neg (by rw[a];simp)];exact a7 (a9 h)
def wS{B:cy}{a g:Nat}{Q:Option (ag×Nat)->ak->Prop}(c:w.params.followText "set-order"=false)(b:dR w s.heap S es ep t)(e:es.size<=1)
  (h:Q (match es[jl t.place a]?,t.place[jl t.place a]? with|some (_,x),some j=>some (x,j+1)|_,_=>none) s):aq (ax prog w) B (O_ S a g ep) Q E s:=by
 unfold O_;refine a7 (bI b.at_ rfl b.fits (a7 (gD ?_)));rw[c];simp only[bn,if_false];split
 ·rename_i z
  exact absurd (show(!t.plain&&decide (es.size > 1))=true from z) (by simp;omega)
 ·have d:t.led=true:=by rw[b.led,c];rfl
  exact XQ d (a9 h)
theorem Nk(L:A.handled=none)(x:w.params.followText "set-order"=false)(q:S≠I)(m:es.size<=1):
  FH prog w A I [I,S] [I] es.size (λi v=>(es.toList.map (·.2))[i]?=some v)
   (λi h=>∃k,El h I S (.int (k:Nat) 0) i es.size ep/\dR w h S es ep t/\(i=0->k=0)/\(i=1->es.size=1->∃j,t.place=#[j]/\k=j+1)) where
 sub:=λb f=>by simp at f;simp[f]
 frame:=λi h h' st k=>let ⟨c,a1,a2,a3⟩:=st;⟨c,k I (by simp) _ a1,a2.keep λo e=>k S (by simp) o e,a3⟩
 item:=λi s Q E N st u=>by
  obtain⟨c,a,d,y,B⟩:=st;have p:i=0:=by omega
  subst p;obtain rfl:c=0:=y rfl;have g:es.size=1:=by omega
  obtain⟨j,l⟩:=Nj (t:=t) (by rw[<- g];exact d.fits);refine uc a d rfl ?_;dsimp only;refine a7 (wS x d m ?_);rw[show(((0:Nat):Int).toNat)=0 from rfl,PX l,getElem?_pos es 0 ∅,l];refine PV (nx:=j+1) a λh' m G=>⟨_,rfl,u _ h' s.toks ?_ ⟨j+1,m,d.keep λo e=>(G.2 S q).trans e,by simp,λ_ _=>⟨j,l,rfl⟩⟩ λb o f e=>(G.2 b λz=>f (by simp[z])).trans e⟩;simp[g]
 done:=λs Q E st u=>by
  obtain⟨c,a,d,y,B⟩:=st;refine uc a d rfl ?_;dsimp only;refine a7 (wS x d m ?_);have H:es[jl t.place ((c:Nat):Int).toNat]?=none:=by
   rcases hG es.size with z|z
   ·rw[getElem?_neg];omega
   ·have g:es.size=1:=by omega
    obtain⟨j,l,K⟩:=B g g;rw[K,show(((j+1:Nat):Int).toNat)=j+1 from rfl,PY l,getElem?_neg];omega
  rw[H];exact Em (by simpa using L) a rfl (by simp) λh' M=>u h' s.toks λb o f e=>M b o (λz=>f (by simp[z])) e
 self:=λi s Q E st h=>let ⟨_,a1,_⟩:=st;Eo a1 h
theorem Jv{Q:ag->ak->Prop}(hh:A.handled=none)(g:dR w s.heap S es ep t)
  (h:∀(I:ap) (l:List ap) (a:List ag) (St:Nat->cg->Prop) (h':cg) (d:OD),s.heap.objs.size<=I->(∀b∈l,b=S\/s.heap.objs.size<=b)->(∀b∈l,b<h'.objs.size)->a.Perm (es.toList.map (·.2))->(∀B:cy,B.handled=none->FH prog w B I l [I] a.length (λi v=>a[i]?=some v) St)->St 0 h' ->
   (∀b o,s.heap.get? b=some o->h'.get? b=some o)->Th {s with heap:=h',drawn:=d} (.ref I) "set_iterator"->Q (.ref I) {s with heap:=h',drawn:=d}):aq (ax prog w) A (nH (.ref S)) Q E s:=by
 have U:s.TypeIs (.ref S) "set":=⟨_,g.at_,rfl⟩;have m:=aw g.at_;refine Cb U F.slot_set_iter (bS F.slot_set_iter U SI.entry_iter ?_ (F.args_set_iter_1 _));show aq _ _ (vp S>>=_) _ _ s;unfold vp;refine a7 (a7 (wpAny_setEntries_of g.at_ rfl g.fits (a9 ?_)));show aq _ _ (setDrawn S>>=_) _ _ s;unfold setDrawn;refine a7 (a7 (bI g.at_ rfl g.fits (a7 (gD (a9 ?_)))));have fin:∀(first:ag) (l:List ap) (a:List ag) (St:Nat->cg->Prop) (h':cg) (d:OD),(∀b o,s.heap.get? b=some o->h'.get? b=some o)->s.heap.objs.size<=h'.objs.size ->
   (∀b∈l,b=S\/b=h'.objs.size\/(s.heap.objs.size<=b/\b<h'.objs.size))->a.Perm (es.toList.map (·.2))->(∀B:cy,B.handled=none->FH prog w B h'.objs.size l [h'.objs.size] a.length (λi v=>a[i]?=some v) St) ->
   (∀c:cg,(∀b o,h'.get? b=some o->c.get? b=some o)->El c h'.objs.size S first 0 es.size ep->St 0 c) ->
   aq (ax prog w) A.in1 (setEpoch S>>=λe=>newFields "set_iterator" [first,cL 0,.ref S,cL es.size,cL e]>>=λx=>ret x) (λfin s'=>∃v,fin=.done (.ret v)/\∃T r,s'.TypeIs v T/\typeLookup (.type T) "__next__"=pure (some r)/\Q v s') E {s with heap:=h',drawn:=d}:=by
  intro first l a St h' d kp hsz u K W st
  have G:dR w h' S es ep t:=g.keep λo e=>kp S o e;refine a7 (wpAny_setEpoch_of (s:={s with heap:=h',drawn:=d}) G.at_ rfl G.fits ?_);refine a7 (bz ?_ (by size_fits));have P:∀b o,h'.get? b=some o->(h'.push {cls:=.type "set_iterator",dict:=none,data:=.fields #[first,cL 0,.ref S,cL es.size,cL ep]}).get? b=some o:=λb o e=>ae _ e;have it:(h'.push {cls:=.type "set_iterator",dict:=none,data:=.fields #[first,cL 0,.ref S,cL es.size,cL ep]}).get? h'.objs.size=some {cls:=.type "set_iterator",dict:=none,data:=.fields #[first,cL 0,.ref S,cL es.size,cL ep]}:=aC _ rfl;refine a9 ⟨_,rfl,"set_iterator",_,⟨_,it,rfl⟩,SI.slot_next.lookup,h h'.objs.size l a St _ d hsz (λb f=>?_) (λb f=>?_) K W (st _ P it) (λb o e=>P b o (kp b o e)) ⟨_,it,rfl⟩⟩
  ·rcases u b f with z|z|z
   ·exact .inl z
   ·exact .inr (by rw[z];exact hsz)
   ·exact .inr z.1
  ·rw[cY];rcases u b f with z|z|z
   ·rw[z];exact fG (aK m hsz)
   ·rw[z];exact gW _
   ·exact fG z.2
 dsimp only;split
 ·rename_i z
  have z:(!w.params.followText "set-order" && (!t.plain&&decide (es.size > 1)))=true:=z;refine a7 (wR _ _ _ _ (by simp) λys d K=>?_);simp only[Tj];have L:ys.length=es.size:=by have:=K.length_eq;rwa[gn] at this
  have Y:=gL g.few;refine a7 (bz ?_ (by show(ys.map λ(i:Nat)=>cL i).toArray.size<=sizeLine;simp;omega));have q:∀ob:Obj,(s.heap.push ob).objs.size=s.heap.objs.size+1:=λob=>cY ..;refine fin (.ref s.heap.objs.size) [s.heap.objs.size+1,S,s.heap.objs.size] (ys.map λp=>(es.getD p (0,.none)).2)
   (λi h=>El h (s.heap.objs.size+1) S (.ref s.heap.objs.size) i es.size ep/\dR w h S es ep t/\SPl h s.heap.objs.size ys) (s.heap.push _) d
   (λb o e=>ae _ e) (by rw[q];exact lA _) (λb f=>?_) ?_ (λB M=>?_) (λc k it=>⟨by rw[q] at it;exact it,g.keep λo e=>k S o (ae _ e),_,_,k _ _ (aC _ rfl),rfl⟩)
  ·simp only[aT,br,or_false] at f;rcases f with y|y|y
   ·exact .inr (.inl (by rw[q];exact y))
   ·exact .inl y
   ·exact .inr (.inr ⟨by rw[y];exact av _,by rw[q,y];exact gW _⟩)
  ·refine(K.map _).trans (.of_eq ?_);apply zS
   ·simp
   ·intro k N h2;have:k<es.size:=by simpa using N
    simp[this]
  ·rw[am,L,q];exact Gf M (aL (fG m)) (aL (gW _)) (λp X=>List.mem_range.mp (K.mem_iff.mp X)) L
 ·rename_i z
  have z:¬ (!w.params.followText "set-order" && (!t.plain&&decide (es.size > 1)))=true:=z;refine a7 (a9 ?_);have H:S≠s.heap.objs.size:=aL m;cases O:w.params.followText "set-order" with
  |true=>
   refine fin (cL 0) [s.heap.objs.size,S] ((qU (w.params.setOrder S ep) es).toList.map (·.2)) (λi h=>El h s.heap.objs.size S (.int 0 0) i es.size ep/\dR w h S es ep t) s.heap s.drawn (λ_ _ e=>e) (av _) (λb f=>?_) ((yh _ es).map _) (λB M=>?_) (λc k it=>⟨it,g.keep λo e=>k S o e⟩)
   ·simp only[aT,br,or_false] at f;exact f.elim (λz=>.inr (.inl z)) .inl
   ·rw[am,au,yi];exact Ju M O H
  |false=>
   have N:es.size<=1:=by
    rw[O] at z;rcases g.pl with y|y
    ·omega
    ·rw[y] at z;simpa using z
   refine fin (cL 0) [s.heap.objs.size,S] (es.toList.map (·.2)) (λi h=>∃k,El h s.heap.objs.size S (.int (k:Nat) 0) i es.size ep/\dR w h S es ep t/\(i=0->k=0)/\(i=1->es.size=1->∃j,t.place=#[j]/\k=j+1)) s.heap s.drawn (λ_ _ e=>e) (av _) (λb f=>?_) (.refl _) (λB M=>?_) (λc k it=>⟨0,it,g.keep λo e=>k S o e,λ_=>rfl,λy=>by cases y⟩)
   ·simp only[aT,br,or_false] at f;exact f.elim (λz=>.inr (.inl z)) .inl
   ·rw[am,au];exact Nk M O H N
end
def Gg(X:A.handled=none)(N:dR w s.heap S es ep t)
  (h:∀(a:List ag) (h':cg) (d:OD) (tk:Nat),a.Perm (es.toList.map (·.2))->(∀b o,s.heap.get? b=some o->h'.get? b=some o)->s.heap.objs.size<=h'.objs.size->Q a {s with heap:=h',drawn:=d,toks:=tk}):
  aq (ax prog w) A (Cd (.ref S)) Q E s:=by
 have B:=aw N.at_;unfold Cd;refine a7 (J5 (fg OJ ?_));rw[du OK _];show aq _ A.in1 (IF []>>=λl=>again (.builtin "list.__iadd__" ⟨[l,.ref S],[]⟩)) _ _ s;refine a7 (bz ?_);refine a9 ⟨iP r_ _,fg F.entry_list_iadd ?_⟩;rw[du r_ _];let s1:ak:={s with heap:=s.heap.push {cls:=.type "list",data:=.seq ([]:List ag).toArray}}
 have p:s1.heap.objs.size=s.heap.objs.size+1:=cY ..;have H:s1.heap.get? s.heap.objs.size=some {cls:=.type "list",data:=.seq ([]:List ag).toArray}:=aC _ rfl;have k:dR w s1.heap S es ep t:=N.keep λo e=>ae _ e;show aq _ A.in1 (lS (.ref s.heap.objs.size) (.ref S) (.ref s.heap.objs.size)) _ _ s1;have K:s1.TypeIs (.ref S) "set":=⟨_,k.at_,rfl⟩;unfold lS;refine a7 (vn K ?_);have e1:yS (.ref s.heap.objs.size) (.ref S)=false:=by simp[yS,fF B]
 have e2:(jy "set" == jy "list")=false:=by decide
 have e3:(jy "set" == jy "tuple")=false:=by decide
 simp only[e1,e2,e3,Bool.or_false,bn,if_false];refine a7 (Jv (A:=A.in1) (by simpa using X) k λI fp a St h' d hI L a0 Y W st kp tI=>?_);let f:ak:={s1 with heap:=h',drawn:=d}
 have O:dR w f.heap S es ep t:=k.keep λo e=>kp S o e;have n:f.TypeIs (.ref S) "set":=⟨_,O.at_,rfl⟩;refine a7 (cC ?_);unfold Builtin.List.listLengthHint;refine a7 (wpAny_specialOf (s:=f) n F.slot_set_len.lookup ?_);dsimp only;rw[show splitId "set.__len__"=some ("set","__len__") from by decide +kernel];dsimp only;refine a7 (i0 (b:=true) (s:=f) n (by rw[J8];kernel_rfl) ?_);rw[if_neg ⋯,if_pos ⋯];refine a7 (vn (s:=f) n (a9 ?_));rw[if_pos ⋯];refine a7 (cK ?_);have nS:s.heap.objs.size∉fp:=λz=>by
  rcases L _ z with q|q
  ·exact absurd B (by rw[<- q];exact cO _)
  ·rw[p] at q;exact absurd q (Nat.not_succ_le_self _)
 have y:f.heap.get? s.heap.objs.size=some {cls:=.type "list",data:=.seq ([]:List ag).toArray}:=kp _ _ H;refine a7 ?_;show aq _ A.in1 (OL s.heap.objs.size (·.push .none)>>=λ_=>OL s.heap.objs.size (·.pop)) _ _ f;refine a7 (pX y rfl ?_);have u:=eO (iA (·.push fv)) y rfl;refine pX u rfl ?_;have P:=eO (iA (·.pop)) u rfl;have x:∀b o,b≠s.heap.objs.size->f.heap.get? b=some o->((f.heap.update s.heap.objs.size (iA (·.push fv))).update s.heap.objs.size (iA (·.pop))).get? b=some o:=
  λb o g e=>(cx _ _ (dm g)).trans ((cx _ _ (dm g)).trans e)
 have zl:a.length<=sizeLine:=by rw[Y.length_eq,am,au];exact gL N.few
 have W1:=W A.in1 (by simpa using X);refine a9 ⟨iP F.plain_extend_loop _,codeAny_extend_loopS (A:=A) W1.toS zl _ nS _ a.length 0 {f with heap:=(f.heap.update s.heap.objs.size (iA (·.push fv))).update s.heap.objs.size (iA (·.pop))} _ _ rfl (cH _) (W1.frame 0 _ _ st λb g o e=>x b o (λz=>nS (z ▸ g)) e) P (ItemsOf.nil _) λs' c c' G v i=>?_⟩;show aq _ A (load s.heap.objs.size>>=_) _ _ s';refine a7 (wpAny_load v (a9 ?_));have m:c.toList=a:=by
  apply yT;intro j;rw[aO];by_cases T:j<c.size
  ·have:=i.2 j c[j] (by simp[T]);rw[this];simp[T]
  ·rw[getElem?_neg c j T,df (by rw[<- i.1];omega)]
 rw[m];obtain⟨M,g3,d3,t3,o3⟩:=s';obtain rfl:g3=s.gens:=G.gens;obtain rfl:d3=d:=G.drawn;obtain rfl:o3=s.os:=G.os;have U:∀b o,s.heap.get? b=some o->M.get? b=some o:=λb o e=>by
  have g:=aw e;refine G.heap b o ?_ (x b o (aL g) (kp b o (ae _ e)));simp only[aT,br,or_false,not_or];exact⟨aL g,aL (aK g (by have q:=hI;rw[p] at q;exact Nat.le_of_succ_le q))⟩
 refine h a M _ t3 Y U ?_;have:=aw (show M.get? s.heap.objs.size=some _ from v);exact cE this
def Gh(v:aq (ax prog w) A.in1 (Cd x) (λf s1=>∃ss,sx f ss/\f.length<64 /\
   ∀(h':cg) (g:List ag) (a:List Str) (e:Nat),(∀b o,s1.heap.get? b=some o->h'.get? b=some o)->h'.get? s1.heap.objs.size=some (jL "list" g.toArray e)->sx g a->a.Perm ss->sortedS a=true ->
    Q (.ref s1.heap.objs.size) {s1 with heap:=h'}) E s):aq (ax prog w) A (call (.builtin "sorted") [x]) Q E s:=by
 refine pY kind_sorted plain_sorted entry_sorted (args_sorted1 _) ?_;unfold jQ.«sorted»;refine a7 (m:=checkCount "sorted" 1 1 _) (a9 ?_);refine a7 (bx v (λf s1 z=>?_) λ_ _ z=>z);obtain⟨ss,d,h,y⟩:=z;refine a7 (MO ?_);have c:(s1.heap.push (jL "list" f.toArray 0)).get? s1.heap.objs.size=some (jL "list" f.toArray 0):=aC _ rfl;show aq _ _ _ _ _ {s1 with heap:=s1.heap.push (jL "list" f.toArray 0)};refine a7 (cC (bS slot_list_sort ⟨_,c,rfl⟩ entry_list_sort (list_sort_treeK strKind_oneLt c d.keysOf (λk n bu e=>keyKind_strs (by rw[<- e];exact d)) h λi p G=>⟨_,rfl,?_⟩) (args_list_sort _)));obtain⟨a,B,t,u⟩:=sorted_out_str d p G;obtain⟨e,j⟩:=sortedHeap_at (out:=(aV i).map (·.2)) c;refine a9 ⟨_,rfl,y _ _ a e (λb o q=>?_) j B t u⟩;have l:=aw q;rw[sortedHeap_old (aL l) (by rw[cY];exact fG l)];exact ae _ q
def sd(x y:Str):Bool:=decide (x.cps.toList<y.cps.toList)
def Jw(x:Str):List Str->List Str
 |[]=>[x]
 |y::r=>if sd y x then y::Jw x r else x::y::r
def jU:List Str->List Str
 |[]=>[]
 |x::r=>Jw x (jU r)
theorem yj(x:Str):∀l,(Jw x l).Perm (x::l)
 |[]=>.refl _
 |y::r=>by
  rw[Jw];split
  ·exact((yj x r).cons y).trans (.swap ..)
  ·exact .refl _
theorem iS:∀l,(jU l).Perm l
 |[]=>.refl _
 |x::r=>(yj x _).trans ((iS r).cons x)
def vB(x:Str):sd x x=false:=decide_eq_false (List.lt_irrefl _)
def ud(a:sd x y=true)(b:sd y z=true):sd x z=true:=
 decide_eq_true (List.lt_trans (of_decide_eq_true a) (of_decide_eq_true b))
def zY(a:sd x y=false)(b:sd y x=false):x=y:=by
 have a:¬ x.cps.toList<y.cps.toList:=of_decide_eq_false a;have b:¬ y.cps.toList<x.cps.toList:=of_decide_eq_false b;have:x.cps.toList=y.cps.toList:=List.le_antisymm (List.not_lt.mp b) (List.not_lt.mp a)
 cases x;cases y;exact congrArg Str.mk (Array.toList_inj.mp this)
abbrev T8(l:List Str):Prop:=l.Pairwise λa b=>sd b a=false
theorem P_(x:Str):∀l,T8 l->T8 (Jw x l)
 |[],_=>by simp[Jw,T8]
 |y::r,h=>by
  obtain⟨d,g⟩:=List.pairwise_cons.mp h;rw[Jw];split
  ·rename_i b
   refine List.pairwise_cons.mpr ⟨λz c=>?_,P_ x r g⟩;rcases List.mem_cons.mp ((yj x r).mem_iff.mp c) with e|e
   ·subst e;cases q:sd z y with
    |false=>rfl
    |true=>exact absurd (ud q b) (by rw[vB];decide)
   ·exact d z e
  ·rename_i b
   have b:sd y x=false:=by simpa using b
   refine List.pairwise_cons.mpr ⟨λz c=>?_,h⟩;rcases List.mem_cons.mp c with e|e
   ·subst e;exact b
   ·cases q:sd z x with
    |false=>rfl
    |true=>
     have a:=d z e;cases f:sd x y with
     |true=>rw[ud q f] at a;cases a
     |false=>rw[<- zY b f,a] at q;cases q
theorem sR:∀l,T8 (jU l)
 |[]=>.nil
 |x::r=>P_ x _ (sR r)
theorem wT:∀(p:Str) (l:List Str),risingS p l=true->T8 (p::l)
 |p,[],_=>by simp[T8]
 |p,x::r,h=>by
  rw[risingS,aU] at h;obtain⟨b,f⟩:=h;have b:sd x p=false:=by
   rw[ltCps_eq] at b;simpa[sd] using b
  have c:=wT x r f;refine List.pairwise_cons.mpr ⟨λz g=>?_,c⟩;rcases List.mem_cons.mp g with e|e
  ·rw[e];exact b
  ·have a:=(List.pairwise_cons.mp c).1 z e;cases q:sd z p with
   |false=>rfl
   |true=>
    cases d:sd p x with
    |true=>rw[ud q d] at a;cases a
    |false=>rw[zY d b,a] at q;cases q
def Ep:∀(l:List Str),sortedS l=true->T8 l
 |[],_=>.nil
 |x::r,h=>wT x r h
theorem D8:∀{l a:List Str},l.Perm a->T8 l->T8 a->l=a
 |[],a,p,_,_=>by rw[List.nil_perm.mp p]
 |x::r,[],p,_,_=>by have:=p.length_eq;simp at this
 |x::r,y::f,p,h,h'=>by
  obtain⟨d,i⟩:=List.pairwise_cons.mp h;obtain⟨b1,b2⟩:=List.pairwise_cons.mp h';have e:x=y:=by
   have g:x∈y::f:=p.mem_iff.mp aj;have c:y∈x::r:=p.mem_iff.mpr aj;rcases List.mem_cons.mp g with e|e
   ·exact e
   ·rcases List.mem_cons.mp c with b | b
    ·exact b.symm
    ·exact zY (b1 x e) (d y b)
  subst e;rw[D8 (List.Perm.cons_inv p) i b2]
def Gi(p:l'.Perm l)(h:sortedS l'=true):l'=jU l:=D8 (p.trans (iS l).symm) (Ep _ h) (sR l)
def yk(h:T8 l)(g:l.Nodup):l.Pairwise λa b=>sd a b=true:=by
 induction l with
 |nil=>exact .nil
 |cons x r d=>
  obtain⟨e,f⟩:=List.pairwise_cons.mp h;obtain⟨i,j⟩:=List.nodup_cons.mp g;refine List.pairwise_cons.mpr ⟨λy c=>?_,d f j⟩;cases q:sd x y with
  |true=>rfl
  |false=>exact absurd (zY q (e y c) ▸ c) i
theorem kK:∀{ss:List Str}{a:List ag},eE (ss.map V.str) a->sx a ss
 |[],_,.nil=>.nil
 |x::r,_,.cons h t=>by obtain⟨b,rfl⟩:=h;exact .cons x b (kK t)
theorem rc:∀{ss:List Str}{a:List ag},sx a ss->eE (ss.map V.str) a
 |_,_,.nil=>.nil
 |_,_,.cons x t h=>.cons ⟨t,rfl⟩ (rc h)
theorem gP:∀{ss:List Str}{a:List ag},sx a ss->a.length=ss.length
 |_,_,.nil=>rfl
 |_,_,.cons x t h=>by simp[gP h]
def Ap(h:sx us ss)(i:Nat)(v:ag)(e:us[i]?=some v):∃x t,ss[i]?=some x/\v=kE x t:=by
 induction h generalizing i with
 |nil=>simp at e
 |cons y t _ a=>
  cases i with
  |zero=>simp at e;exact⟨y,t,by simp,e.symm⟩
  |succ i=>simp at e;simpa using a i e
theorem wU:∀{l:List (Int×ag)},(∀e∈l,vz w e)->sx (l.map (·.2)) (l.map lD)
 |[],_=>.nil
 |e::r,h=>by
  obtain⟨x,a,rfl⟩:=h e aj;exact .cons x a (wU λe he=>h e (af _ he))
def Er(h:sx us ss)(p:us'.Perm us):∃a,sx us' a/\a.Perm ss:=by
 refine⟨us'.map strOf,strsAre_map _ λv b=>h.all v (p.mem_iff.mp b),?_⟩;rw[<- h.strs];exact p.map _
def oN(w:bL)(a:ap)(ss:List Str):HO:=.ext λh=>mS w h a ss
def zZ(x:mS w h a ss):d_ P w H h a (oN w a ss):=
 ⟨x,let ⟨_,_,_,I,_⟩:=x;⟨_,I.at_⟩,λ_ _ y k=>y.keep k⟩
def Gj(y:X.calm=true):ki X (.type "set") (λxs H Q=>∃p ss,xs=[.ref p]/\(qy X.K H p (ss.map V.str)\/m8 X.K H p (ss.map V.str))/\ss.length+1<iD/\∀a,H a=none->Q (.ref a) (upd H a (oN X.w a (dn [] ss)))):=by
 intro d s z H xs E Q I r h;obtain⟨p,ss,rfl,c,m,q⟩:=h;obtain⟨u,rfl,x⟩:=lG r;cases x;have t:=I.ok.hd y;have fin:∀(h':cg) (g:Nat),mS X.w h' s.heap.objs.size (dn [] ss)->(∀b o,s.heap.get? b=some o->h'.get? b=some o)->EP X d z Q (.ref s.heap.objs.size) {s with heap:=h',toks:=g}:=λh' g A kp=>
  ⟨.ref s.heap.objs.size,_,I.laid (t':=g) kp (av _) (zZ A),rfl,q _ (I.hok.fresh (av _))⟩
 rcases c with c|c
 ·obtain⟨k,l,⟨o,n,ho,f,B,j⟩,_⟩:=I.list c;have sa:=kK l;exact wQ (PU (by simpa using t) f ⟨n,j⟩) ho (λi v e=>Ap sa i v (by simpa using e)) (by simp[gP sa]) (by simp[gP sa];exact m) fin
 ·obtain⟨k,l,⟨o,ho,f,n,j⟩,_⟩:=I.tuple c;have sa:=kK l;exact wQ (Uh (by simpa using t) f ⟨n,j⟩) ho (λi v e=>Ap sa i v (by simpa using e)) (by simp[gP sa]) (by simp[gP sa];exact m) fin
def ym:ki X (.builtin "sorted") (λxs H Q=>∃p ss,xs=[.ref p]/\qy X.K H p (ss.map V.str)/\ss.length<64/\∀l,H l=none->Q (.ref l) (upd H l (.lst ((jU ss).map V.str)))):=by
 intro c s v H xs x Q I r h;obtain⟨p,ss,rfl,k,j,q⟩:=h;obtain⟨u,rfl,g⟩:=lG r;cases g;obtain⟨a,n,pl,i⟩:=I.list k;have sa:=kK n;refine sorted_strs pl.isList sa (by rw[gP sa];exact j) λout t f m d=>?_;obtain⟨e,he⟩:=sortedAll_at s.heap a out;have kp:∀b o,s.heap.get? b=some o->(sortedAll s.heap a out).get? b=some o:=λb o=>sortedAll_old;obtain rfl:=Gi m d;refine⟨.ref (s.heap.objs.size+1),upd H (s.heap.objs.size+1) (.lst ((jU ss).map V.str)),I.laid (t':=s.toks) kp (lA _) (show d_ X.prog X.w _ _ _ (.lst _) from⟨?_,out.toList,e,rc f,by simpa[jL] using he⟩),rfl,q _ (I.hok.fresh (lA _))⟩;rw[am,(iS ss).length_eq];have:=i;rw[am] at this;exact this
def zA(L:X.calm=true):ki X (.builtin "sorted") (λxs H Q=>∃p ss,xs=[.ref p]/\H p=some (oN X.w p ss)/\ss.length<64/\∀l,H l=none->Q (.ref l) (upd H l (.lst ((jU ss).map V.str)))):=by
 intro x s U H xs us Q I r h;obtain⟨p,ss,rfl,M,n,q⟩:=h;obtain⟨u,rfl,E⟩:=lG r;cases E;have N:=I.ok.hd L;obtain⟨⟨es,Y,t,S,A⟩,_⟩:=(show d_ X.prog X.w H s.heap p (oN X.w p ss) from I.hok p _ M);refine Gh (Gg (by simpa using N) S λK h' d B P kp sz=>?_);obtain⟨a,sa,y⟩:=Er (wU S.txt) P;have T:a.length=ss.length:=(y.trans A).length_eq;refine⟨a,sa,by rw[gP sa,T];exact n,λi c j e f g k G O=>?_⟩;have v:∀b o,s.heap.get? b=some o->i.get? b=some o:=λb o e=>f b o (kp b o e);have es':j=jU ss:=Gi (G.trans (y.trans A)) O;subst es';have fr:=I.hok.fresh sz;have m:d_ X.prog X.w (upd H h'.objs.size (.lst ((jU ss).map V.str))) i h'.objs.size (.lst ((jU ss).map V.str)):=
  ⟨by rw[am,(iS ss).length_eq];exact ca (cE n) (by rw[iE];decide),c,e,rc k,g⟩
 exact⟨.ref h'.objs.size,_,I.call' (s':={s with heap:=i,drawn:=d,toks:=B}) (ch:=[]) rfl (Un.laid v sz fr) (I.hok.laid v sz m) I.bare (λb z=>absurd z (by simp)),rfl,q _ fr⟩
def yX{prog:bg}{w:bL}{B:cy}{bs:List Bool}{a:List ag}(r:eE (bs.map V.bl) a):TruthOf prog w B (λi v=>a.toArray[i]?=some v) (λi=>bs.getD i false):=by
 intro i v s Q E c b;have c:a[i]?=some v:=by simpa using c
 have f:=r.length;rw[am] at f;obtain⟨h,_⟩:=List.getElem?_eq_some_iff.mp c;have e:bs[i]?=some bs[i]:=bw ∅;obtain⟨u,d,g⟩:=r.get (i:=i) (x:=.bl bs[i]) (by rw[b9,e];rfl);rw[c] at d;cases d;cases g;have b:Q (bs.getD i false) s:=b;rw[eg,e] at b;exact dA b
def Q0(bs:List Bool):(bQ bs.length).all (λi=>bs.getD i false)=bs.all id:=by
 rw[jf,bY,bY];constructor
 ·intro h b c;obtain⟨i,a,rfl⟩:=wu c;have:=h i (List.mem_range.mpr a);simpa[eg,a] using this
 ·intro h i a;have a:=List.mem_range.mp a;have:=h bs[i] (mq a);simpa[eg,a] using this
def Q1(bs:List Bool):(bQ bs.length).any (λi=>bs.getD i false)=bs.any id:=by
 rw[jf,jR,jR];constructor
 ·rintro⟨i,a,h⟩;have a:=List.mem_range.mp a;exact⟨bs[i],mq a,by simpa[eg,a] using h⟩
 ·rintro⟨b,c,h⟩;obtain⟨i,a,rfl⟩:=wu c;exact⟨i,List.mem_range.mpr a,by simpa[eg,a] using h⟩
def Aq(i:X.calm=true):ki X (.builtin "all") (λxs H Q=>∃p,∃bs:List Bool,xs=[.ref p]/\qy X.K H p (bs.map V.bl)/\Q (.bl (bs.all id)) H):=by
 intro c s m H xs n Q I r h;obtain⟨p,bs,rfl,j,q⟩:=h;obtain⟨u,rfl,g⟩:=lG r;cases g;obtain⟨a,d,pl,l⟩:=I.list j;have k:a.toArray.size=bs.length:=by have:=d.length;simp at this ⊢;omega
 obtain⟨o,ho,t⟩:=pl.isList;refine call_all_walk (mx pl.isList ⟨_,_,_,_,_,_,_,rfl,C9 (by simpa using I.ok.hd i) _ p (aL (aw ho)) a.toArray,⟨⟨_,aC _ rfl,rfl,rfl⟩,pl.isList.push _⟩,yX d,λh' f kp=>?_⟩);rw[k,Q0];refine⟨.bl _,H,I.kept (t':=f) λb o e=>kp b o ?_ (ae _ e),rfl,q⟩;simp only[bN];exact aL (aw e)
def Ar(i:X.calm=true):ki X (.builtin "any") (λxs H Q=>∃p,∃bs:List Bool,xs=[.ref p]/\qy X.K H p (bs.map V.bl)/\Q (.bl (bs.any id)) H):=by
 intro c s m H xs n Q I r h;obtain⟨p,bs,rfl,j,q⟩:=h;obtain⟨u,rfl,g⟩:=lG r;cases g;obtain⟨a,d,pl,l⟩:=I.list j;have k:a.toArray.size=bs.length:=by have:=d.length;simp at this ⊢;omega
 obtain⟨o,ho,t⟩:=pl.isList;refine call_any_walk (mx pl.isList ⟨_,_,_,_,_,_,_,rfl,C9 (by simpa using I.ok.hd i) _ p (aL (aw ho)) a.toArray,⟨⟨_,aC _ rfl,rfl,rfl⟩,pl.isList.push _⟩,yX d,λh' f kp=>?_⟩);rw[k,Q1];refine⟨.bl _,H,I.kept (t':=f) λb o e=>kp b o ?_ (ae _ e),rfl,q⟩;simp only[bN];exact aL (aw e)
def Nl:sD X (bG .LtE) (λx y H Q=>∃i j,x=.str i/\y=.str j/\Q (.bl (!decide (j.cps.toList<i.cps.toList))) H):=by
 intro a s d H x y v u Q I b c h;obtain⟨i,j,rfl,rfl,q⟩:=h;obtain⟨t,rfl⟩:=b;obtain⟨t',rfl⟩:=c;exact PySem.P.le_str (Eb I q rfl)
def Zw(x:Str):It:=⟨λi _=>i<x.cps.size,λi H v H'=>H'=H/\∃c,x.cps[i]?=some c/\v=.str ⟨#[c]⟩,λi _=>x.cps.size<=i⟩
def Q2{P:bg}{w:bL}{K:a8}{tg:bj}(x:Str)(t:Tok)(it:ap):Cm P w K tg (Zw x) [it] it (λi h=>h.IsStrIter it (jm x) x t i) where
 mem:=by simp
 obj:=λi h st b j=>by
  obtain rfl:b=it:=by simpa using j
  obtain⟨o,e,c,d⟩:=st;exact⟨o,e,λv z=>by rw[d] at z;cases z⟩
 keep:=λi h h' st k=>let ⟨o,e,r⟩:=st;⟨o,k it (by simp) o e,r⟩
 item:=by
  intro X Y U S T i a s G H E I L st m;subst Y U S;have m:i<x.cps.size:=m;obtain⟨Q,O,f2,N,B,M⟩:=L it (by simp);have n:x.cps[i]?=some x.cps[i]:=getElem?_pos _ i m;have go:∀(h':cg) (y g:Nat),h'.IsStrIter it (jm x) x t (i+1)->bX it s.heap h'->∃u,some (kE ⟨#[x.cps[i]]⟩ y)=some u /\
    aq (ax X.prog X.w) X.A (iB tg (.ref it) u) (λ_ s2=>∃v H',cb X a G H' s2/\eu v u/\(Zw x).yld i H v H'/\s2.heap.IsStrIter it (jm x) x t (i+1)/\∀b∈[it],H' b=none) E {s with heap:=h',toks:=g}:=λh' y g f p=>by
   have I1:cb X a G H {s with heap:=h',toks:=g}:=I.turned (λb o j e=>(p.2 b j).trans e) Q O N B M;refine⟨_,rfl,?_⟩;have q:∃v H',cb X a G H' {s with heap:=h',toks:=g}/\eu v (kE ⟨#[x.cps[i]]⟩ y)/\(Zw x).yld i H v H'/\h'.IsStrIter it (jm x) x t (i+1)/\∀b∈[it],H' b=none:=
    ⟨.str ⟨#[x.cps[i]]⟩,H,I1,⟨y,rfl⟩,⟨rfl,_,n,rfl⟩,f,λb j=>(L b j).1⟩
   unfold iB;cases tg<;>exact a9 q
  cases l:x.cps.all (·<128)
  ·have ty:jm x="str_iterator":=by unfold jm;rw[l];rfl
   rw[ty] at st;exact wpAny_pyNext_wide_item st n λh' f p=>go h' _ _ (by rw[ty];exact f) p
  ·have ty:jm x="str_ascii_iterator":=by unfold jm;rw[l];rfl
   rw[ty] at st;exact wpAny_pyNext_ascii_item st n λh' f p=>go h' _ _ (by rw[ty];exact f) p
 done:=by
  intro X Y U S T i a s G H E I L st m;subst Y U S;have m:x.cps.size<=i:=m;obtain⟨Q,O,f2,N,B,M⟩:=L it (by simp);have n:x.cps[i]?=none:=getElem?_neg _ i (Nat.not_lt.mpr m);unfold jm at st;cases l:x.cps.all (·<128)
  ·rw[l] at st;exact wpAny_pyNext_wide_end (I.ok.hd T) st n λh' eb=>⟨rfl,I.turned (t':=s.toks) (λb o j e=>eb b o j e) Q O N B M⟩
  ·rw[l] at st;exact wpAny_pyNext_ascii_end (I.ok.hd T) st n λh' eb=>⟨rfl,I.turned (t':=s.toks) (λb o j e=>eb b o j e) Q O N B M⟩
 self:=λ_ _ _ _ _ st h=>by
  unfold jm at st;cases l:x.cps.all (·<128)
  ·rw[l] at st;exact wpAny_pyIter_striter_wide st h
  ·rw[l] at st;exact wpAny_pyIter_striter_ascii st h
def q1i(tl:TE):TI:=λa H R=>tl a H λv b=>∃x,v=.str x/\R (Zw x) b
def Q3{X:Cx}{tg l:bj}{tl:TE}(g:PE X l tl):PI X tg l (q1i tl):=by
 intro a s i H R I h;refine fW (g a s i H _ I h) λv s1 c=>?_;obtain⟨y,f,d,m,j⟩:=c;obtain⟨x,rfl,q⟩:=j;obtain⟨t,rfl⟩:=m;refine wpAny_pyIter_strU ?_;refine⟨s1.heap.objs.size,[s1.heap.objs.size],_,_,f,rfl,d.kept (t':=s1.toks) λb o e=>ae _ e,Q2 x t _,⟨_,aC _ rfl,rfl,rfl⟩,λb k=>?_,q⟩;obtain rfl:b=s1.heap.objs.size:=by simpa using k
 exact d.fpOk (av _) (d.hok.fresh (av _))
def cb.turnedL{t':Nat}{ch:List ap}(I:cb X pins σ H s)(k:∀b o,b∉ch->s.heap.get? b=some o->h'.get? b=some o)(d:∀b∈ch,vw X pins H b):cb X pins σ H {s with heap:=h',toks:=t'}:=by
 have nt:∀b u,H b=some u->b∉ch:=λb u e z=>by rw[(d b z).1] at e;cases e
 refine I.step (g':=s.gens) (d':=s.drawn) (ch:=ch) (λb h=>?_) (λb o _ _ a e _=>k b o a e) (λb o _ _ a e _=>⟨o.slots,k b o a e⟩) (λ_ _ _ _ n=>n)
  (λb o a e=>⟨o,k b o a e⟩) (λ_ _ e=>e) (λ_ _ _ e=>e) (λb w e=>⟨#[],by rw[e];simp⟩) (λm l=>?_) (λb u e=>?_) I.bare
 ·obtain⟨x,p,t,j,f,i⟩:=d b h;exact⟨j,p,f,i⟩
 ·obtain⟨o,es,g,ho,r⟩:=l;exact⟨o,es,g,k _ o (λz=>(d _ z).f1 rfl) ho,r⟩
 ·refine(I.hok b u e).stay (λc v a q=>k c v ?_ q) (λ_ q=>q) λ_ _ q=>q;rcases a with z|z
  ·rw[z];exact nt b u e
  ·exact nt c _ z
def cb.track(I:cb X pins σ H s)(f:vw X pins H D)(new:d_ X.prog X.w (upd H D ho) s.heap D ho):cb X pins σ (upd H D ho) s:=by
 obtain⟨a,l,p,i,c,h⟩:=f;have k:cb X pins σ (upd H D ho) {s with heap:=s.heap,gens:=s.gens,drawn:=s.drawn,toks:=s.toks}:=I.step (ch:=[D]) (λb g=>by
   obtain rfl:b=D:=by simpa using g
   exact⟨i,l,c,h⟩) (λb o _ _ _ e _=>e) (λb o _ _ _ e _=>⟨o.slots,e⟩) (λb o d e n=>by rw[bh (λz=>d (by simp[z]))];exact n) (λb o _ e=>⟨o,e⟩)
  (λb xs e=>by rw[bh (cj e a)];exact e) (λb o xs e=>by rw[bh (cj e a)];exact e) (λb q e=>⟨#[],by rw[bh (cj e a),e];simp⟩) (λm j=>j) (D5 I.hok a new) I.bare
 exact k
def wV(c:s.heap.IsTupleIter it l i)(tl:s.heap.IsTuple l items)(g:items[i]?=some x)
  (q:∀h',h'.IsTupleIter it l (i+1)->bX it s.heap h'->Q x {s with heap:=h'}):aq (ax prog w) A (db (.ref it)) Q E s:=by
 obtain⟨j,b,e,a⟩:=id c;obtain⟨h,d,_,nt,f⟩:=tl;unfold db;refine a7 (cS (name:=iw "__next__") c.typeIs jS ?_);refine bS jS c.typeIs FI ?_ (E5 _);show aq _ _ (Ja (.ref it) 0>>=_) _ _ s;refine a7 (eW b a (x:=.ref l) rfl ?_);show aq _ _ (if(bq l==fv)=true then _ else _) _ _ s;rw[if_neg (λz:(bq l==fv)=true=>ba z)];show aq _ _ (Ja (.ref it) 1>>=_) _ _ s;refine a7 (eW b a (x:=.int i 0) rfl ?_);show aq _ _ (uM (.ref l)>>=_) _ _ s;refine a7 (eB d f ?_);simp only[lI,g];refine a7 (ii b a (by simp) (a9 ⟨x,rfl,a9 (q _ ?_ (bT ..))⟩));refine⟨_,eO _ b (Obj.isFreed_of_fields (P0 a _)),(Obj.cls_mapFields ..).trans e,?_⟩;rw[P0 a];simp[cL]
def wW(g:A.handled=none)(d:s.heap.IsTupleIter it l i)(tl:s.heap.IsTuple l items)(h:items[i]?=none)
  (q:∀h' e,L0 it s.heap h'->(∃o,h'.get? e=some o/\o.cls=.type "StopIteration")->E (.ref e) {s with heap:=h'}):aq (ax prog w) A (db (.ref it)) Q E s:=by
 obtain⟨n,b,k,c⟩:=id d;obtain⟨p,f,_,nt,j⟩:=tl;unfold db;refine a7 (cS (name:=iw "__next__") d.typeIs jS ?_);refine bS jS d.typeIs FI ?_ (E5 _);show aq _ _ (Ja (.ref it) 0>>=_) _ _ s;refine a7 (eW b c (x:=.ref l) rfl ?_);show aq _ _ (if(bq l==fv)=true then _ else _) _ _ s;rw[if_neg (λz:(bq l==fv)=true=>ba z)];show aq _ _ (Ja (.ref it) 1>>=_) _ _ s;refine a7 (eW b c (x:=.int i 0) rfl ?_);show aq _ _ (uM (.ref l)>>=_) _ _ s;refine a7 (eB f j ?_);simp only[lI,h];refine a7 (cK (a7 (ii b c (by simp) ?_)));show aq _ _ (vo (.type "StopIteration") []>>=_) _ _ _;refine a7 ?_;simp only[vo,Tj];refine a7 (bz ?_ (by size_fits));refine a7 (m:=mC _ _) (fw (a:=fv) ?_ ?_)
 ·first
   |rfl
   |(simp only[mC];rfl)
 refine bz ?_ (by size_fits);simp only[uL];refine a7 (MN ?_);rw[show A.in1.handled=none from g];refine a7 (a9 (Tl ?_));exact q _ _ (((bT ..).extBut.push _).push _) ⟨_,aC _ rfl,rfl⟩
def Nm(d:A.handled=none)(it l:ap)(a:l≠it)(items:Array ag):
  Draws prog w A it [it,l] items.size (λi v=>items[i]?=some v) (λi h=>h.IsTupleIter it l i/\h.IsTuple l items) where
 live:=λi h st=>let ⟨o,e,_⟩:=st.1;⟨o,e⟩
 frame:=λi h h' st k=>⟨let ⟨o,e,r⟩:=st.1;⟨o,k it (by simp) o e,r⟩,let ⟨o,e,r⟩:=st.2;⟨o,k l (by simp) o e,r⟩⟩
 item:=λi s Q E b st q=>wV st.1 st.2 (x:=items[i]) (by simp[b]) λh' t' c=>q _ h' s.toks (by simp[b]) ⟨t',st.2.extBut c.extBut a⟩ c
 done:=λs Q E st q=>wW d st.1 st.2 (by simp) q
def As(l:ap)(items:Array ag)(n:Nat)(b:Option ap)(j:Array (Option ag)):
  Meets (jQ.«enumerate.__new__» ⟨[.type "enumerate",.ref l],[]⟩) (λ_ R s=>s.heap.get? l=some {cls:=.type "tuple",dict:=b,data:=.seq items n,slots:=j} /\
   R (.ok (.ret (.ref (s.heap.push {cls:=.type "tuple_iterator",data:=.fields #[.ref l,.int 0 0]}).objs.size)))
    {s with heap:=(s.heap.push {cls:=.type "tuple_iterator",data:=.fields #[.ref l,.int 0 0]}).push {cls:=.type "enumerate",data:=.fields #[.none,.bool false,.ref s.heap.objs.size,cL 0,.none,.none]}}):=
 .of_wp λprog w A R s h=>by
  obtain⟨k,g,d,m,i⟩:=s;obtain⟨a,h⟩:=h;have f:=PySem.sub_enumerate;have e:IH (II ⟨k,g,d,m,i⟩) l items:=⟨_,a,rfl,n,rfl⟩;wp_walk using hW a;refine wpAny_stack_any λst=>a9 ?_;split
  ·rename_i c _ _ _ _ _
   cases(c==jy "enumerate")
   ·wp_walk using hW a,i9 e;exact⟨_,rfl,h⟩
   ·wp_walk using hW a,i9 e;exact⟨_,rfl,h⟩
  ·wp_walk using hW a,i9 e;exact⟨_,rfl,h⟩
def Cr(p:s.heap.IsTuple l items)
  (h:∀h',IsEnum h' (s.heap.objs.size+1) s.heap.objs.size 0 .none->h'.IsTupleIter s.heap.objs.size l 0->(∀b o,s.heap.get? b=some o->h'.get? b=some o)->h'.objs.size=s.heap.objs.size+2 ->
   Q (.ref (s.heap.objs.size+1)) {s with heap:=h'}):aq (ax prog w) A (call (.type "enumerate") [.ref l]) Q E s:=by
 obtain⟨⟨c,g,j,m⟩,f,i,n,k⟩:=p;obtain rfl:c=.type "tuple":=i;obtain rfl:j=.seq items n:=k;refine callType_new F.called_enumerate ⋯ (F.typeCall_enumerate_1 _) (F.newCall_enumerate_1 _) (λa=>F.args_object_init_2 a _) F.entry_enumerate_new (As l items n g m) ⟨f,?_⟩;have d:(s.heap.push {cls:=.type "tuple_iterator",data:=.fields #[.ref l,.int 0 0]}).objs.size=s.heap.objs.size+1:=cY ..;show _/\_;rw[d];have he:IsEnum ((s.heap.push {cls:=.type "tuple_iterator",data:=.fields #[.ref l,.int 0 0]}).push {cls:=.type "enumerate",data:=.fields #[.none,.bool false,.ref s.heap.objs.size,cL 0,.none,.none]}) (s.heap.objs.size+1) s.heap.objs.size 0 .none:=by
  have q:=aC (s.heap.push {cls:=.type "tuple_iterator",data:=.fields #[.ref l,.int 0 0]}) (o:={cls:=.type "enumerate",data:=.fields #[.none,.bool false,.ref s.heap.objs.size,cL 0,.none,.none]}) rfl;rw[d] at q;exact q
 exact⟨⟨_,he,rfl⟩,h _ he ⟨_,ae _ (aC _ rfl),rfl,rfl⟩ (λb o e=>ae _ (ae _ e)) (by rw[cY,d])⟩
def Ite(K:a8)(a:ap):It:=
 ⟨λi H=>∃xs x,m8 K H a xs/\xs[i]?=some x,λi H v H'=>∃p,H p=none/\v=.ref p/\∀xs,m8 K H a xs->∃x,xs[i]?=some x/\H'=upd H p (.tup [.int i,x]),λi H=>∃xs,m8 K H a xs/\xs.length<=i⟩
def No{P:bg}{w:bL}{K:a8}{A:List bj}{x1}{a6:Pos}(a e it:ap)(t:e≠it):Cm P w K (.Tuple A x1 a6) (Ite K a) [e,it] e (λi h=>(∃f,IsEnum h e it i f)/\h.IsTupleIter it a i) where
 mem:=by simp
 obj:=λi h st b c=>by
  simp only[aT,br,or_false] at c;rcases c with rfl|rfl
  ·obtain⟨⟨f,q⟩,_⟩:=st;exact⟨_,q,λv z=>by cases z⟩
  ·obtain⟨_,o,q,_,d⟩:=st;exact⟨o,q,λv z=>by rw[d] at z;cases z⟩
 keep:=λi h h' st k=>⟨let ⟨f,q⟩:=st.1;⟨f,k e (by simp) _ q⟩,let ⟨o,q,r⟩:=st.2;⟨o,k it (by simp) o q,r⟩⟩
 item:=by
  intro X hP hw Y hc i m s σ H E I O st hg;subst hP hw Y;obtain⟨xs,x,N,hx⟩:=hg;obtain⟨g,rv,p,hz⟩:=I.tuple N;obtain⟨u,hu,ru⟩:=rv.get hx;obtain⟨⟨f,he⟩,j⟩:=st;have B:=j;obtain⟨oi,ei,_⟩:=B;have a1:a≠it:=λz=>by
   obtain⟨o1,y,M,_⟩:=p;obtain⟨o2,U,c2,_⟩:=j;rw[z,U] at y;cases y;rw[c2] at M;exact absurd (L3 M) ⋯
  have a2:a≠e:=λz=>by
   obtain⟨o1,y,M,_⟩:=p;rw[z,he] at y;cases y;exact absurd (L3 (show jy "enumerate"=jy "tuple" from M)) ⋯
  have a3:i<g.toArray.size:=by simp;exact(List.getElem?_eq_some_iff.mp hu).1
  have G:=aw he;refine wpAny_pyNext_enum_itemD (Nm (by simpa using I.ok.hd hc) it a a1 g.toArray) he ⟨j,p⟩ a3 t (by simp[t,dm a2]) ?_;intro x' h1 Q a4 eo a0 tup sz k1;have l:g[i]?=some x':=by simpa using a4
  rw[hu] at l;cases l;refine⟨_,rfl,wpAny_letOwnedTupleGo_enum eo λh2 U n=>?_⟩;have S:s.heap.objs.size≠e:=fF G;have I2:cb X m σ H {s with heap:=h2,toks:=Q+1}:=I.turnedL (ch:=[e,it]) (λb o c q=>by
   simp only[aT,br,or_false,not_or] at c;exact(n.2 b c.1).trans (k1 b o c.1 c.2 q)) O
  have fT:=I.fpOk (H':=H) (av _) (I.hok.fresh (av _));have L:h2.get? s.heap.objs.size=some {cls:=.type "tuple",data:=.seq #[.int i Q,u]}:=(n.2 _ S).trans tup;have I3:=I2.track (ho:=.tup [.int i,x]) fT ⟨by show 2<=sizeLine;decide,[.int i Q,u],.cons ⟨Q,rfl⟩ (.cons ru .nil),⟨_,L,rfl,0,rfl⟩⟩;refine⟨.ref s.heap.objs.size,_,I3,rfl,⟨_,fT.1,rfl,λys hy=>?_⟩,⟨⟨u,?_⟩,?_⟩,λb c=>?_⟩
  ·rw[I.tuple_inj hy N];exact⟨x,hx,rfl⟩
  ·have:(((i+1:Nat):Int))=(i:Int)+1:=by omega
   rw[this];exact U
  ·obtain⟨o,q,r⟩:=a0.1;exact⟨o,(n.2 it (dm t)).trans q,r⟩
  ·rw[bh]
   ·exact(O b c).1
   ·simp only[aT,br,or_false] at c;rcases c with z|z
    ·rw[z];exact aL G
    ·rw[z];exact aL (aw ei)
 done:=by
  intro X hP hw Y hc i m s σ H E I O st hg;subst hP hw Y;obtain⟨xs,N,hx⟩:=hg;obtain⟨g,rv,p,hz⟩:=I.tuple N;obtain⟨⟨f,he⟩,j⟩:=st;have hl:=rv.length;have hT:s.TypeIs (.ref e) "enumerate":=⟨_,he,rfl⟩;unfold jY;refine a7 (lB (cS (name:=iw "__next__") hT OM ?_));refine bS OM hT F.entry_enumerate_next ?_ (F.args_enumerate_next_1 _);show aq _ _ (Ja (.ref e) 2>>=_) _ _ _;refine a7 (eW he rfl (x:=.ref it) rfl ?_);refine a7 (wW (by simpa using I.ok.hd hc) j (show s.heap.IsTuple a g.toArray from p) (by simp;omega) λh' z eb a5=>?_);obtain⟨o,ho,b0⟩:=a5;refine a7 (i0 (T:="StopIteration") (b:=true) ⟨o,ho,b0⟩ xX ?_);exact a9 ⟨rfl,I.turnedL (t':=s.toks) (ch:=[e,it]) (λb o c q=>eb b o (by
   simp only[aT,br,or_false,not_or] at c;exact c.2) q) O⟩
 self:=λ_ _ _ _ _ st h=>let ⟨⟨_,q⟩,_⟩:=st;wpAny_pyIter_enum q h
def Zx(K:a8)(d:TA):TI:=λc H R=>d c H λe b=>∃a xs,e=[.ref a]/\m8 K b a xs/\R (Ite K a) b
def Ui{X:Cx}{f:List bj}{x1}{e p g:Pos}{a:bj}{o:TA}(L:Gl X "enumerate")(A:X.mg "enumerate"=none)(w:PA X [a] o)(hs:aP [a] X.env=[(false,eI a X.env)]:=by rfl):
  PI X (.Tuple f x1 e) (.Call (.Name "enumerate" p) [a] [] g) (Zx X.K o):=by
 intro c s k H R I h;refine Call_ (vv I L A boot_enumerate (iN (fW (w g c s k H _ I h) λO s1 ⟨P,j,d,E,y⟩=>?_) hs rfl));obtain⟨m,xs,rfl,x,q⟩:=y;obtain⟨u,rfl,t⟩:=lG E;cases t;obtain⟨i,N,v,M⟩:=d.tuple x;refine Cr (show s1.heap.IsTuple m i.toArray from v) λh' n G kp sz=>?_;refine wpAny_pyIter_enum n ?_;have B:cb X c k j {s1 with heap:=h'}:=d.kept (t':=s1.toks) kp;refine⟨s1.heap.objs.size+1,[s1.heap.objs.size+1,s1.heap.objs.size],_,_,j,rfl,B,No m _ _ (fF (gW _)),⟨⟨.none,n⟩,G⟩,λb l=>?_,q⟩;simp only[aT,br,or_false] at l;rcases l with z|z
 ·rw[z];exact d.fpOk (lA _) (d.hok.fresh (lA _))
 ·rw[z];exact d.fpOk (av _) (d.hok.fresh (av _))
section
variable{prog:bg}{w:bL}{A:cy}{E:ag->ak->Prop}{s:ak}{z TI TO i1 i2 l1 l2:ap}{k1 k2:Nat}{xs ys:Array ag}{x y a b:ag}
def j_(t:h.IsTupleIter it l k)(d:bX c h h')(ne:it≠c):h'.IsTupleIter it l k:=t.extBut d.extBut ne
def re(t:h.IsTuple l xs)(d:bX c h h')(ne:l≠c):h'.IsTuple l xs:=t.extBut d.extBut ne
def Q4{Q:ag->ak->Prop}(D:Tn z TI TO i1 i2 l1 l2)(g:xY s.heap z TI TO .none)(pa:lJ s.heap TI (.ref i1) (.ref i2))(Y:lJ s.heap TO a b)
  (u1:s.heap.IsTupleIter i1 l1 k1) (X:s.heap.IsTupleIter i2 l2 k2) (v1:s.heap.IsTuple l1 xs) (v2:s.heap.IsTuple l2 ys) (hx:xs[k1]?=some x) (O:ys[k2]?=some y)
  (q:∀h',xY h' z TI TO (cL s.heap.objs.size)->lJ h' TO x y->h'.IsTupleIter i1 l1 (k1+1)->h'.IsTupleIter i2 l2 (k2+1)->lJ h' s.heap.objs.size x y ->
   (∀c o,c≠z->c≠TO->c≠i1->c≠i2->s.heap.get? c=some o->h'.get? c=some o)->Q (.ref s.heap.objs.size) {s with heap:=h'}):
  aq (ax prog w) A (jQ.«zip.__next__» ⟨[.ref z],[]⟩) (λfin s'=>∃v,fin=.done (.ret v)/\Q v s') E s:=by
 show aq _ _ (Ja (.ref z) 2>>=_) _ _ _;refine a7 (eW g rfl (x:=.bool false) rfl ?_);show aq _ _ (Ja (.ref z) 3>>=_) _ _ _;refine a7 (eW g rfl (x:=.ref TI) rfl ?_);refine a7 (eB pa rfl ?_);show aq _ _ (fQ (.ref z)>>=_) _ _ _;refine a7 ?_;unfold fQ;refine a7 (eW g rfl (x:=.none) rfl (a9 ?_));simp only[if_true];refine a7 (cK ?_);refine a7 (eW g rfl (x:=.ref TO) rfl ?_);refine a7 (jt g (by simp) λg1 p b1=>?_);replace p:xY g1 z TI TO .ellipsis:=p;refine a7 ?_;simp only[zT,To,kA,oS];refine a7 (a7 (zU ?_));show aq _ _ (db (.ref i1)>>=_) _ _ _;refine a7 (wV (j_ u1 b1 D.i1z) (re v1 b1 D.l1z) hx λg2 N b2=>a9 ?_);have B:lJ g2 TO a b:=b2.extBut _ _ D.TOi1 (b1.extBut _ _ D.TOz Y);refine a7 (eB B rfl (a7 (xZ B λS m b3=>?_)));replace m:lJ S TO x b:=m;refine a7 (oJ (a9 (a7 (a7 (zU ?_)))));show aq _ _ (db (.ref i2)>>=_) _ _ _;refine a7 (wV (j_ (j_ (j_ X b1 D.i2z) b2 D.i12.symm) b3 D.TOi2.symm) (re (re (re v2 b1 D.l2z) b2 D.l2i1) b3 D.l2TO) O λg4 T b4=>a9 ?_);have G:lJ g4 TO x b:=b4.extBut _ _ D.TOi2 m;refine a7 (eB G rfl (a7 (xZ G λd l b5=>?_)));replace l:lJ d TO x y:=l;refine a7 (oJ (a9 (a9 ?_)));refine a7 (eB l rfl (a7 (wpAny_newTuple ?_)));have sz:d.objs.size=s.heap.objs.size:=by rw[b5.1,b4.1,b3.1,b2.1,b1.1]
 have M:xY d z TI TO .ellipsis:=b5.extBut _ _ D.TOz.symm (b4.extBut _ _ D.i2z.symm (b3.extBut _ _ D.TOz.symm (b2.extBut _ _ D.i1z.symm p)));have k5:∀c o,c≠z->c≠TO->c≠i1->c≠i2->s.heap.get? c=some o->d.get? c=some o:=λc o f i u n e=>
  b5.extBut _ _ i (b4.extBut _ _ n (b3.extBut _ _ i (b2.extBut _ _ u (b1.extBut _ _ f e))))
 have U:d.IsTupleIter i1 l1 (k1+1):=j_ (j_ (j_ N b3 D.TOi1.symm) b4 D.i12) b5 D.TOi1.symm;have P:d.IsTupleIter i2 l2 (k2+1):=j_ T b5 D.TOi2.symm;have K:z<d.objs.size:=aw M;show aq _ _ (oU (.ref z) (.ref d.objs.size)>>=_) _ _ _;refine a7 ?_;unfold oU;have z6:xY (d.push {cls:=.type "tuple",data:=.seq #[x,y]}) z TI TO .ellipsis:=ae _ M;refine a7 (jt z6 (by simp) λg7 t I=>?_);replace t:xY g7 z TI TO (cL d.objs.size):=t;refine jt t (by simp) λj k L=>?_;replace k:xY j z TI TO (cL d.objs.size):=k;have h:∀c o,c≠z->d.get? c=some o->j.get? c=some o:=λc o f e=>L.extBut _ _ f (I.extBut _ _ f (ae _ e));have H:lJ j d.objs.size x y:=L.extBut _ _ (fF K) (I.extBut _ _ (fF K) (aC _ rfl));rw[sz] at k H;refine a9 ⟨_,rfl,?_⟩;show Q (.ref d.objs.size) _;rw[sz];exact q j k (h _ _ D.TOz l) (let ⟨o,e,r⟩:=U;⟨o,h _ o D.i1z e,r⟩) (let ⟨o,e,r⟩:=P;⟨o,h _ o D.i2z e,r⟩) H λc o f i u n e=>h c o f (k5 c o f i u n e)
theorem Q5(G:A.handled=none)(D:Tn z TI TO i1 i2 l1 l2)(h:xY s.heap z TI TO .none)(S:lJ s.heap TI (.ref i1) (.ref i2))(P:lJ s.heap TO a b)
  (I:s.heap.IsTupleIter i1 l1 k1) (O:s.heap.IsTupleIter i2 l2 k2) (K:s.heap.IsTuple l1 xs) (U:s.heap.IsTuple l2 ys) (g:xs[k1]?=none\/ys[k2]?=none)
  (q:∀h' e,(∀c o,c≠z->c≠TO->c≠i1->c≠i2->s.heap.get? c=some o->h'.get? c=some o)->(∃o,h'.get? e=some o/\o.cls=.type "StopIteration")->E (.ref e) {s with heap:=h'}):
  aq (ax prog w) A (jQ.«zip.__next__» ⟨[.ref z],[]⟩) Q E s:=by
 show aq _ _ (Ja (.ref z) 2>>=_) _ _ _;refine a7 (eW h rfl (x:=.bool false) rfl ?_);show aq _ _ (Ja (.ref z) 3>>=_) _ _ _;refine a7 (eW h rfl (x:=.ref TI) rfl ?_);refine a7 (eB S rfl ?_);show aq _ _ (fQ (.ref z)>>=_) _ _ _;refine a7 ?_;unfold fQ;refine a7 (eW h rfl (x:=.none) rfl (a9 ?_));simp only[if_true];refine a7 (cK ?_);refine a7 (eW h rfl (x:=.ref TO) rfl ?_);refine a7 (jt h (by simp) λT j b1=>?_);replace j:xY T z TI TO .ellipsis:=j;refine a7 ?_;simp only[zT,To,kA,oS];refine a7 (a7 (zU ?_));show aq _ _ (db (.ref i1)>>=_) _ _ _;cases p:xs[k1]? with
 |none=>
  refine a7 (wW G (j_ I b1 D.i1z) (re K b1 D.l1z) p λg2 e b2 he=>?_);obtain⟨k,d,f⟩:=he;have H:xY g2 z TI TO .ellipsis:=b2 _ _ D.i1z.symm j;have l:e≠z:=λn=>by subst n;rw[H] at d;cases d;simp at f
  refine jt H (by simp) λv _ b3=>q v e (λc o i _ t _ m=>b3.extBut _ _ i (b2 _ _ t (b1.extBut _ _ i m))) ⟨k,b3.extBut _ _ l d,f⟩
 |some x=>
  have L:ys[k2]?=none:=g.resolve_left λn=>by rw[p] at n;cases n
  refine a7 (wV (j_ I b1 D.i1z) (re K b1 D.l1z) p λg2 w1 b2=>a9 ?_);have u:lJ g2 TO a b:=b2.extBut _ _ D.TOi1 (b1.extBut _ _ D.TOz P);refine a7 (eB u rfl (a7 (xZ u λv p3 b3=>?_)));refine a7 (oJ (a9 (a7 (a7 (zU ?_)))));show aq _ _ (db (.ref i2)>>=_) _ _ _;refine a7 (wW G (j_ (j_ (j_ O b1 D.i2z) b2 D.i12.symm) b3 D.TOi2.symm) (re (re (re U b1 D.l2z) b2 D.l2i1) b3 D.l2TO) L λX e b4 he=>?_);obtain⟨k,d,f⟩:=he;have B:xY X z TI TO .ellipsis:=b4 _ _ D.i2z.symm (b3.extBut _ _ D.TOz.symm (b2.extBut _ _ D.i1z.symm j));have l:e≠z:=λn=>by subst n;rw[B] at d;cases d;simp at f
  refine jt B (by simp) λY _ b5=>q Y e (λc o i N t M m=>b5.extBut _ _ i (b4 _ _ M (b3.extBut _ _ N (b2.extBut _ _ t (b1.extBut _ _ i m))))) ⟨k,b5.extBut _ _ l d,f⟩
end
abbrev zt1(h:cg)(a:ap):cg:=h.push {cls:=.type "tuple_iterator",data:=.fields #[.ref a,.int 0 0]}
abbrev zt2(h:cg)(b a:ap):cg:=(zt1 h b).push {cls:=.type "tuple_iterator",data:=.fields #[.ref a,.int 0 0]}
abbrev zt3(h:cg)(a b:ap):cg:=(zt2 h a b).push {cls:=.type "tuple",data:=.seq #[.ref h.objs.size,.ref (zt1 h a).objs.size]}
abbrev zt4(h:cg)(b a:ap):cg:=(zt3 h b a).push {cls:=.type "tuple",data:=.seq #[.none,.none]}
abbrev YX(h:cg)(b a:ap):cg:=(zt4 h b a).push {cls:=.type "zip",data:=.fields #[.none,.bool false,.bool false,.ref (zt2 h b a).objs.size,.ref (zt3 h b a).objs.size]}
def Cs(a b:ap)(xs ys:Array ag):
  Meets (jQ.«zip.__new__» ⟨[.type "zip",.ref a,.ref b],[]⟩) (λ_ R s=>s.heap.IsTuple a xs/\s.heap.IsTuple b ys/\R (.ok (.ret (.ref (zt4 s.heap a b).objs.size))) {s with heap:=YX s.heap a b}):=
 .of_wp λprog w A R s h=>by
  obtain⟨f,g,d,i,c⟩:=s;obtain⟨l,k,h⟩:=h;have e:=PySem.sub_zip;have j:IH (II ⟨f,g,d,i,c⟩) a xs:=l;have L2:IH (II ⟨f.push {cls:=.type "tuple_iterator",data:=.fields #[.ref a,.int 0 0]},g,d,i,c⟩) b ys:=Heap.IsTuple.push k _;wp_walk using i9 j,i9 L2;exact⟨_,rfl,h⟩
def Es(p:s.heap.IsTuple l1 xs)(m:s.heap.IsTuple l2 ys)
  (h:∀h',xY h' (s.heap.objs.size+4) (s.heap.objs.size+2) (s.heap.objs.size+3) .none->lJ h' (s.heap.objs.size+2) (.ref s.heap.objs.size) (.ref (s.heap.objs.size+1)) ->
   lJ h' (s.heap.objs.size+3) .none .none->h'.IsTupleIter s.heap.objs.size l1 0->h'.IsTupleIter (s.heap.objs.size+1) l2 0 ->
   (∀c o,s.heap.get? c=some o->h'.get? c=some o)->Q (.ref (s.heap.objs.size+4)) {s with heap:=h'}):aq (ax prog w) A (call (.type "zip") [.ref l1,.ref l2]) Q E s:=by
 refine callType_new F.called_zip ⋯ (F.typeCall_zip_2 _ _) (F.newCall_zip_2 _ _) (λa=>F.args_object_init_3 a _ _) F.entry_zip_new (Cs l1 l2 xs ys) ⟨p,m,?_⟩;have b:(zt1 s.heap l1).objs.size=s.heap.objs.size+1:=cY ..;have d:(zt2 s.heap l1 l2).objs.size=s.heap.objs.size+2:=by rw[cY,b]
 have g:(zt3 s.heap l1 l2).objs.size=s.heap.objs.size+3:=by rw[cY,d]
 have i:(zt4 s.heap l1 l2).objs.size=s.heap.objs.size+4:=by rw[cY,g]
 have f:(YX s.heap l1 l2).get? (zt4 s.heap l1 l2).objs.size=some _:=aC _ rfl;have l:(YX s.heap l1 l2).get? (zt3 s.heap l1 l2).objs.size=some _:=ae _ (aC _ rfl);have k:(YX s.heap l1 l2).get? (zt2 s.heap l1 l2).objs.size=some _:=ae _ (ae _ (aC _ rfl));have j:(YX s.heap l1 l2).get? (zt1 s.heap l1).objs.size=some _:=ae _ (ae _ (ae _ (aC _ rfl)));have n:(YX s.heap l1 l2).get? s.heap.objs.size=some _:=ae _ (ae _ (ae _ (ae _ (aC _ rfl))));show _/\_;rw[d,g,i] at f;rw[b,d] at k;rw[g] at l;rw[b] at j;rw[i];exact⟨⟨_,f,rfl⟩,h _ f k l ⟨_,n,rfl,rfl⟩ ⟨_,j,rfl,rfl⟩ λc o e=>ae _ (ae _ (ae _ (ae _ (ae _ e))))⟩
def m8.ne_fp(I:cb X pins σ H s)(d:m8 X.K H a xs)(c:vw X pins H b):a≠b:=by
 rintro rfl;rcases d with (h|⟨o,h⟩)|⟨o,its,n,hk,_⟩
 ·rw[c.1] at h;cases h
 ·rw[c.1] at h;cases h
 ·have e:X.base.get? a=some o:=I.mod.kin a o hk;rcases c.f3 with z|z
  ·exact I.ok.noex a o e z
  ·exact absurd (aK (aw e) (ca I.ok.bsz z)) (cO _)
def Itz(K:a8)(a b:ap):It:=
 ⟨λi H=>∃xs ys x y,m8 K H a xs/\m8 K H b ys/\xs[i]?=some x/\ys[i]?=some y,
  λi H v H'=>∃p,H p=none/\v=.ref p/\∀xs ys,m8 K H a xs->m8 K H b ys->∃x y,xs[i]?=some x/\ys[i]?=some y/\H'=upd H p (.tup [x,y]),
  λi H=>∃xs ys,m8 K H a xs/\m8 K H b ys/\(xs.length<=i\/ys.length<=i)⟩
structure q1j (z TI TO i1 i2:ap):Prop where
 d1:TI≠z
 d2:TO≠z
 d3:i1≠z
 d4:i2≠z
 d5:TI≠TO
 d6:TI≠i1
 d7:TI≠i2
 d8:TO≠i1
 d9:TO≠i2
 d0:i1≠i2
def Q6{P:bg}{w:bL}{K:a8}{Q:List bj}{x1}{a3:Pos}(M L z TI TO g j:ap)(Z:q1j z TI TO g j):
  Cm P w K (.Tuple Q x1 a3) (Itz K M L) [z,TI,TO,g,j] z (λi h=>xY h z TI TO .none/\lJ h TI (.ref g) (.ref j)/\(∃a b,lJ h TO a b)/\h.IsTupleIter g M i/\h.IsTupleIter j L i) where
 mem:=by simp
 obj:=λi h st b c=>by
  obtain⟨s1,n,⟨_,_,p⟩,⟨o4,e4,_,f4⟩,⟨o5,e5,_,f5⟩⟩:=st;simp only[aT,br,or_false] at c;rcases c with rfl|rfl|rfl|rfl|rfl
  ·exact⟨_,s1,λv q=>by cases q⟩
  ·exact⟨_,n,λv q=>by cases q⟩
  ·exact⟨_,p,λv q=>by cases q⟩
  ·exact⟨o4,e4,λv q=>by rw[f4] at q;cases q⟩
  ·exact⟨o5,e5,λv q=>by rw[f5] at q;cases q⟩
 keep:=λi h h' st k=>by
  obtain⟨s1,n,⟨u,v,p⟩,⟨o4,e4,r4⟩,⟨o5,e5,r5⟩⟩:=st;exact⟨k z (by simp) _ s1,k TI (by simp) _ n,⟨u,v,k TO (by simp) _ p⟩,⟨o4,k g (by simp) _ e4,r4⟩,⟨o5,k j (by simp) _ e5,r5⟩⟩
 item:=by
  intro X hP hw hK hc i t s σ H E I A st hg;subst hP hw hK;obtain⟨xs,ys,x,y,l,m,hx,hy⟩:=hg;obtain⟨N,G,p1,_⟩:=I.tuple l;obtain⟨O,B,p2,_⟩:=I.tuple m;obtain⟨u,hu,ru⟩:=G.get hx;obtain⟨v,hv,rv⟩:=B.get hy;obtain⟨s1,n,⟨a,b,p⟩,Y,s5⟩:=st;have d:∀b∈[z,TI,TO,g,j],M≠b:=λb c=>l.ne_fp I (A b c);have f:∀b∈[z,TI,TO,g,j],L≠b:=λb c=>m.ne_fp I (A b c);have D:Tn z TI TO g j M L:=⟨Z.d1,Z.d2,Z.d3,Z.d4,Z.d5,Z.d6,Z.d7,Z.d8,Z.d9,Z.d0,d z (by simp),d TO (by simp),d g (by simp),d j (by simp),f z (by simp),f TO (by simp),f g (by simp),f j (by simp)⟩;have zl:=aw s1;have U:s.TypeIs (.ref z) "zip":=⟨_,s1,rfl⟩;unfold jY;refine a7 (lB (cS (name:=iw "__next__") U u_ ?_));refine bS u_ U F.entry_zip_next (Q4 D s1 n p Y s5 p1 p2 (by simpa using hu) (by simpa using hv) λh1 z1 t1 y1 y2 pr k1=>?_) (F.args_zip_next_1 _);refine a9 ⟨_,rfl,wpAny_letOwnedTupleGo_zip z1 λh2 z2 b2=>?_⟩;have a0:s.heap.objs.size≠z:=fF zl;have a1:lJ h1 TI (.ref g) (.ref j):=k1 TI _ Z.d1 Z.d5 Z.d6 Z.d7 n;have I2:cb X t σ H {s with heap:=h2}:=I.turnedL (t':=s.toks) (ch:=[z,TI,TO,g,j]) (λb o c q=>by
   simp only[aT,br,or_false,not_or] at c;exact(b2.2 b c.1).trans (k1 b o c.1 c.2.2.1 c.2.2.2.1 c.2.2.2.2 q)) A
  have fT:=I.fpOk (H':=H) (av _) (I.hok.fresh (av _));have a2:h2.get? s.heap.objs.size=some {cls:=.type "tuple",data:=.seq #[u,v]}:=(b2.2 _ a0).trans pr;have I3:=I2.track (ho:=.tup [x,y]) fT ⟨by show 2<=sizeLine;decide,[u,v],.cons ru (.cons rv .nil),⟨_,a2,rfl,0,rfl⟩⟩;refine⟨.ref s.heap.objs.size,_,I3,rfl,⟨_,fT.1,rfl,λa5 a4 h1 h2=>?_⟩,⟨z2,(b2.2 TI Z.d1).trans a1,⟨u,v,(b2.2 TO Z.d2).trans t1⟩,j_ y1 b2 Z.d3,j_ y2 b2 Z.d4⟩,λb c=>?_⟩
  ·rw[I.tuple_inj h1 l,I.tuple_inj h2 m];exact⟨x,y,hx,hy,rfl⟩
  ·have bl:b<s.heap.objs.size:=by
    simp only[aT,br,or_false] at c;rcases c with q|q|q|q|q
    ·rw[q];exact zl
    ·rw[q];exact aw n
    ·rw[q];exact aw p
    ·obtain⟨_,e,_⟩:=Y;rw[q];exact aw e
    ·obtain⟨_,e,_⟩:=s5;rw[q];exact aw e
   rw[bh (aL bl)];exact(A b c).1
 done:=by
  intro X hP hw hK hc i t s σ H E I A st hg;subst hP hw hK;obtain⟨xs,ys,l,m,S⟩:=hg;obtain⟨N,G,p1,_⟩:=I.tuple l;obtain⟨O,B,p2,_⟩:=I.tuple m;obtain⟨s1,n,⟨a,b,p⟩,Y,s5⟩:=st;have d:∀b∈[z,TI,TO,g,j],M≠b:=λb c=>l.ne_fp I (A b c);have f:∀b∈[z,TI,TO,g,j],L≠b:=λb c=>m.ne_fp I (A b c);have D:Tn z TI TO g j M L:=⟨Z.d1,Z.d2,Z.d3,Z.d4,Z.d5,Z.d6,Z.d7,Z.d8,Z.d9,Z.d0,d z (by simp),d TO (by simp),d g (by simp),d j (by simp),f z (by simp),f TO (by simp),f g (by simp),f j (by simp)⟩;have U:s.TypeIs (.ref z) "zip":=⟨_,s1,rfl⟩;have n1:=G.length;have n2:=B.length;unfold jY;refine a7 (lB (cS (name:=iw "__next__") U u_ ?_));refine bS u_ U F.entry_zip_next (Q5 (by simpa using I.ok.hd hc) D s1 n p Y s5 p1 p2 (S.elim (λq=>.inl (by simp;omega)) λq=>.inr (by simp;omega)) λh' e kp he=>?_) (F.args_zip_next_1 _);obtain⟨o,eo,co⟩:=he;refine a7 (i0 (T:="StopIteration") (b:=true) ⟨o,eo,co⟩ xX ?_);exact a9 ⟨rfl,I.turnedL (t':=s.toks) (ch:=[z,TI,TO,g,j]) (λb o c q=>by
   simp only[aT,br,or_false,not_or] at c;exact kp b o c.1 c.2.2.1 c.2.2.2.1 c.2.2.2.2 q) A⟩
 self:=λ_ _ _ _ _ st h=>wpAny_pyIter_zip st.1 h
def q1k(K:a8)(e:TA):TI:=λd H R=>e d H λf c=>∃a b xs ys,f=[.ref a,.ref b]/\m8 K c a xs/\m8 K c b ys/\R (Itz K a b) c
def XR{X:Cx}{m:List bj}{x1}{i p o:Pos}{a b:bj}{E:TA}(hg:Gl X "zip")(Y:X.mg "zip"=none)(Q:PA X [a,b] E)(hs:aP [a,b] X.env=[(false,eI a X.env),(false,eI b X.env)]:=by rfl)
  (f:aP [b] X.env=[(false,eI b X.env)]:=by rfl):PI X (.Tuple m x1 i) (.Call (.Name "zip" p) [a,b] [] o) (q1k X.K E):=by
 intro c s A H R I h;refine Call_ (vv I hg Y boot_zip (iN (fW (Q o c s A H _ I h) λus s1 ⟨vs,v,t,r1,S⟩=>?_) (by rw[hs,f]) (by rw[f];rfl)));obtain⟨z,G,xs,ys,rfl,x,u,q⟩:=S;obtain⟨u1,u2,rfl,w,y⟩:=VW r1;cases w;cases y;obtain⟨g,T,p1,_⟩:=t.tuple x;obtain⟨l,U,M,_⟩:=t.tuple u;refine Es (show s1.heap.IsTuple z g.toArray from p1) (show s1.heap.IsTuple G l.toArray from M) λh' L P O c4 N kp=>?_;refine wpAny_pyIter_zip L ?_;have I2:cb X c A v {s1 with heap:=h'}:=t.kept (t':=s1.toks) kp;have d:∀k j:Nat,k≠j->s1.heap.objs.size+k≠s1.heap.objs.size+j:=λk j n e=>n (Nat.add_left_cancel e);refine⟨s1.heap.objs.size+4,[s1.heap.objs.size+4,s1.heap.objs.size+2,s1.heap.objs.size+3,s1.heap.objs.size+0,s1.heap.objs.size+1],_,_,v,rfl,I2,
  Q6 z G _ _ _ _ _ ⟨d _ _ ⋯,d _ _ ⋯,d _ _ ⋯,d _ _ ⋯,d _ _ ⋯,d _ _ ⋯,d _ _ ⋯,d _ _ ⋯,d _ _ ⋯,d _ _ ⋯⟩,
  ⟨L,P,⟨_,_,O⟩,c4,N⟩,λb B=>?_,q⟩
 have:∀k:Nat,vw X c v (s1.heap.objs.size+k):=λk=>t.fpOk (Tp _ _) (t.hok.fresh (Tp _ _))
 simp only[aT,br,or_false] at B;rcases B with q|q|q|q|q<;>(rw[q];exact this _)
mutual
inductive Jx (K:a8) (H:Hp):V->E6->Prop
 |none:Jx K H .non .none
 |bool (b:Bool):Jx K H (.bl b) (.bool b)
 |int (i:Int):Jx K H (.int i) (.int i)
 |str (x:Str):Jx K H (.str x) (.str x)
 |list {a:ap}{xs:List V}{ds:List E6}:qy K H a xs->Reps K H xs ds->Jx K H (.ref a) (.list ds)
 |tuple {a:ap}{xs:List V}{ds:List E6}:m8 K H a xs->Reps K H xs ds->Jx K H (.ref a) (.tuple ds)
inductive Reps (K:a8) (H:Hp):List V->List E6->Prop
 |nil:Reps K H [] []
 |cons {x:V}{xs:List V}{d:E6}{ds:List E6}:Jx K H x d->Reps K H xs ds->Reps K H (x::xs) (d::ds)
end
def dQ.tup{K:a8}{H H':Hp}{a:ap}{xs:List V}(e:dQ H H')(h:m8 K H a xs):m8 K H' a xs:=by
 rcases h with (h|⟨o,h⟩)|h
 ·exact .inl (.inl (e _ _ h))
 ·exact .inl (.inr ⟨o,e _ _ h⟩)
 ·exact .inr h
def Uj(I:cb X pins σ H s)(h:qy X.K H a xs)(g:∀{f:List ag},eE xs f->∃b,ReadsAll s.heap f ds b)(r:eu (.ref a) u):∃b,Reads s.heap u (.list ds) b:=by
 cases r;obtain⟨i,k,⟨o,n,e,c,_,d⟩,_⟩:=I.list h;obtain⟨b,j⟩:=g k;exact⟨_,.list e c d (by simpa using j)⟩
def Q7(I:cb X pins σ H s)(h:m8 X.K H a xs)(g:∀{f:List ag},eE xs f->∃b,ReadsAll s.heap f ds b)(r:eu (.ref a) u):∃b,Reads s.heap u (.tuple ds) b:=by
 cases r;obtain⟨i,k,⟨o,e,c,n,d⟩,_⟩:=I.tuple h;obtain⟨b,j⟩:=g k;exact⟨_,.tuple e c d (by simpa using j)⟩
def kj(I:cb X pins σ H s)(h:Jx X.K H v d):∀{u:ag},eu v u->∃c,Reads s.heap u d c:=
 Jx.rec (motive_1:=λv d _=>∀{u:ag},eu v u->∃c,Reads s.heap u d c) (motive_2:=λl ds _=>∀{f:List ag},eE l f->∃c,ReadsAll s.heap f ds c)
  (λr=>by cases r;exact⟨_,.none⟩) (λb _ r=>by cases r;exact⟨_,.bool b⟩) (λi _ r=>by obtain⟨t,rfl⟩:=r;exact⟨_,.int i t⟩) (λx _ r=>by obtain⟨t,rfl⟩:=r;exact⟨_,.str x t⟩)
  (λh _ e _ r=>Uj I h e r) (λh _ e _ r=>Q7 I h e r) (λr=>by cases r;exact⟨_,.nil⟩) (λ_ _ a b _ r=>by
   cases r with
   |cons r g=>
    obtain⟨c,k⟩:=a r;obtain⟨bs,j⟩:=b g;exact⟨_,.cons k j⟩) h
inductive W9 (K:a8) (neg:Bool) (x:V) (y:V) (H:Hp) (Q:VK):Prop
 |mk (dx dy:_) (h0:Jx K H x dx) (h1:Jx K H y dy) (h2:dx.canLay0=true) (h3:dy.canLay0=true) (h4:min dx.depth dy.depth<=60) (h5:Q (.bl (if neg then !aR dx dy else aR dx dy)) H):W9 K neg x y H Q
def XS(K:a8)(a:Bool):R2:=W9 K a
def XT(l:X.A.units+64<fZ):sD X (bG .Eq) (XS X.K false):=by
 intro a s m H x y v u Q I c e h;obtain⟨n,k,i,b,d,j,p,q⟩:=h;obtain⟨o,g⟩:=kj I i c;obtain⟨bs,f⟩:=kj I b e;exact PySem.SeqAt.compareEq_reads g f d j ∅ ⟨.bl _,H,I,rfl,q⟩
def XU(l:X.A.units+64<fZ):sD X (bG .NotEq) (XS X.K true):=by
 intro a s m H x y v u Q I c e h;obtain⟨n,k,i,b,d,j,p,q⟩:=h;obtain⟨o,g⟩:=kj I i c;obtain⟨bs,f⟩:=kj I b e;exact PySem.SeqAt.compareNe_reads g f d j ∅ ⟨.bl _,H,I,rfl,q⟩
structure Air (P:bg) (w:bL) (l:List Env) (H H':Hp) (h h' B:cg) (ea C t:ap):Prop where
 fly:Heap.FlyingW B l ea (.ref C) (.ref t) h'
 cov:∀b u,H' b=some u->∃o,B.get? b=some o
 old:∀b o,h.get? b=some o->H b=none->b∉B_ l->B.get? b=some o
 all:∀b o,h.get? b=some o->b∉B_ l->∃o',B.get? b=some o'
 un:Un (B_ l) [] H H' h h'
 hok:sC P w H' h'
inductive Zy (P:bg) (w:bL) (outer:List Env) (H:Hp) (s:ak) (E:XK) (e:ag) (s':ak):Prop
 |mk (ea C t H' B:_) (h0:e=.ref ea) (h1:s'.os=s.os) (h2:su s'.gens) (h3:Air P w outer H H' s.heap s'.heap B ea C t) (h4:E (.ref C) none H'):Zy P w outer H s E e s'
def C0(P:bg)(w:bL):Pu:=Zy P w
def Uk(he:env∈l)(a:env.frame=some b):b∈B_ l:=List.mem_filterMap.mpr ⟨env,he,a⟩
def Air.kp(x:Air P w l H H' h h' B ea C t)(st:B.StaysIn h'')(b:ap)(u:HO)(o:Obj)(e:H' b=some u)(q:h'.get? b=some o):h''.get? b=some o:=by
 obtain⟨o',a⟩:=x.cov b u e;have:=x.fly.1 b o' a;rw[q] at this;cases this;exact st b o a
section
variable{P:bg}{w:bL}{K:a8}{mg:Str->Option ag}{base:cg}{N:List Str}{qual:Str}{scope:eM}{f:ap}{cd:ag}{A:cy}{outer:List Env}{s:ak}{H:Hp}{E:XK}
def Gk(hE:∀c H',E' c none H'->E c none H'):sO (C0 P w) (Al (C0 P w) P w K mg base N qual scope f cd A outer s H E) E':=by
 intro Q σ H1 s1 e s' I h;obtain⟨O,C,t,H',B,rfl,os,i,x,q⟩:=h;let X:=Al (C0 P w) P w K mg base N qual scope f cd A outer s H E
 have a:∀b:ap,b∉X.ex:=λb z=>absurd (show b∈([]:List ap) from z) (by simp);have p:∀b o,s.heap.get? b=some o->b∉B_ outer->b∉B_ X.stack:=λb o e n z=>by
  rcases List.mem_cons.mp (I.stkSub b z) with y|y
  ·exact absurd (aw e) (by rw[y];exact Nat.not_lt.mpr I.ok.above)
  ·exact n y
 have sub:∀b∈B_ outer,b∈B_ X.stack:=λb d=>by
  obtain⟨env,he,hf⟩:=List.mem_filterMap.mp d;exact Uk (af _ he) hf
 show aq _ X.A (leaving X.env (.ref O)) _ _ _;refine wpAny_leaves_onW (base:=B) (outer:=outer) (L:=X.env.locals) I.ok.frames rfl x.fly λh2 M T=>?_;have g:=M.1;refine⟨O,C,t,H',B,rfl,os.trans I.os,i,⟨M,x.cov,λb o e n d=>?_,λb o e d=>?_,⟨λb o e n d G=>?_,λb o e n d G=>?_,λb o e n _=>?_,λb o e _=>?_,λb xs e=>x.un.tups b xs (I.base.tups b xs e),λb o xs e=>x.un.frzs b o xs (I.base.frzs b o xs e),λb ps e=>?_⟩,λb u e=>?_⟩,hE _ _ q⟩
 ·exact x.old b o (I.base.keep b o e n d (a b)) (I.base.free b o e n (a b)) (p b o e d)
 ·obtain⟨o',k⟩:=I.base.there b o e (a b);exact x.all b o' k (p b o e d)
 ·exact g b o (x.old b o (I.base.keep b o e n d (a b)) (I.base.free b o e n (a b)) (p b o e d))
 ·obtain⟨sl,k⟩:=I.base.slot b o e n d (a b);obtain⟨S,m⟩:=x.un.slot b _ k (I.base.free b o e n (a b)) (sub b d) (by simp);obtain⟨_,o',l,k3⟩:=BY x.fly.2.2.1 (sub b d);rw[m] at l;cases l;obtain⟨v,U⟩:=T b _ m k3;exact⟨v,U⟩
 ·obtain⟨o',k⟩:=I.base.there b o e (a b);exact x.un.free b o' k (I.base.free b o e n (a b)) (by simp)
 ·obtain⟨o',k⟩:=I.base.there b o e (a b);by_cases d:b∈B_ outer
  ·obtain⟨_,j,m,_⟩:=BY M.2.2.1 d;exact⟨j,m⟩
  ·obtain⟨j,l⟩:=x.all b o' k (p b o e d);exact⟨j,g b j l⟩
 ·obtain⟨m1,e1⟩:=I.base.tbls b ps e;obtain⟨m2,e2⟩:=x.un.tbls b _ e1;exact⟨m1++m2,by rw[e2,ME]⟩
 ·exact(x.hok b u e).stay (λc o Y k=>by
   rcases Y with z|z
   ·rw[z] at k ⊢;exact x.kp g b u o e k
   ·exact x.kp g c _ o z k) (λ_ q=>q) λ_ _ q=>q
end
structure q1l (base:cg) (C:ap) (bm:List ag):Prop where
 obj:∃nm q N bs hdct sn sub ab col dd k0 k1 k2 k3 k5 newId,base.get? C=some (excClassObj nm q C N bs bm hdct sn sub ab col dd k0 k1 k2 k3 k5 newId)
 exc:bm.contains (.type "BaseException")=true
def tyD:E6->String
 |.none=>"NoneType" | .bool _=>"bool" | .int _=>"int" | .str _=>"str" | .list _=>"list" | .tuple _=>"tuple" | .dict _=>"dict"
def Jy(I:cb X pins σ H s)(a:eu x u)(r:Jx X.K H x d)(e:sF X.K (.type (tyD d)) c=some b)(h:∀l,Q (.bool b) {s with toks:=l}):
  aq (ax X.prog X.w) A (call (.builtin "isinstance") [u,c]) Q E s:=by
 cases r with
 |none=>exact u7 I a .non e h
 |bool y=>exact u7 I a (.bl y) e h
 |int i=>exact u7 I a (.int i) e h
 |str y=>exact u7 I a (.str y) e h
 |list f _=>
  cases a;obtain⟨g,k,⟨o,n,ho,c,_,j⟩,_⟩:=I.list f;exact dC wz I.kIn ⟨o,ho,c⟩ e (λz=>nomatch z) h
 |tuple f _=>
  cases a;obtain⟨g,k,⟨o,ho,c,n,j⟩,_⟩:=I.tuple f;exact dC IX I.kIn ⟨o,ho,c⟩ e (λz=>nomatch z) h
def Q8:ki X (.builtin "isinstance") (λxs H Q=>∃x d T b,xs=[x,.ty T]/\Jx X.K H x d/\sF X.K (.type (tyD d)) (.type T)=some b/\Q (.bl b) H):=by
 intro a s j H xs k Q I r h;obtain⟨x,d,T,b,rfl,i,e,q⟩:=h;obtain⟨u,v,rfl,g,f⟩:=VW r;obtain rfl:v=.type T:=f;exact Jy I g i e λc=>⟨.bl b,H,I.tok c,rfl,q⟩
end L2
namespace HT
open PySem PyProof.Rows
def Gm{t f:ap}{items:Array ag}{k i:ag}{lo c:Option Int}{Q:ag->ak->Prop}(a:IsTup s.heap t items)(hs:s.heap.IsSliceOf f k i .none)(pl:xU k lo)(m:xU i c)
  (j:jK items.size 0 lo=0/\jK items.size items.size c=items.size) (h:Q (.ref t) s):aq (ax prog w) A (sw (.ref t) (.ref f)) Q E s:=by
 obtain⟨n,d,e,l⟩:=id hs;have g:s.TypeIs (.ref f) "slice":=⟨n,d,e⟩;unfold sw;try with_reducible refine cC ?_
 first|refine a7 (a9 ?_)|skip
 refine a7 (wpAny_sequenceKey a.typeIs ⋯ ?_);refine a7 (cS (name:=iw "__getitem__") a.typeIs g_
  (bS g_ a.typeIs entry_tuple_getitem ?_ (args_tuple_getitem _ _)))
 show aq _ _ (wB (.ref t)>>=_) _ _ s;refine a7 (tupleItemsOf_ a ?_);refine a7 (vn g ?_);rw[if_pos ⋯];refine a7 (qz hs pl m ?_);have b:((((jK items.size 0 lo:Nat):Int)==0&&(1:Int)==1&&(jK items.size items.size c-jK items.size 0 lo)==items.size)=true):=by
  rw[j.1,j.2];simp
 show aq _ _ (if(((jK items.size 0 lo:Nat):Int)==0&&(1:Int)==1&&(jK items.size items.size c-jK items.size 0 lo)==items.size)=true then _ else _) _ _ s;rw[if_pos b];refine a7 ?_;unfold Builtin.Tuple.tupleIsExact;refine a7 (vn a.typeIs (a9 ?_));rw[if_pos ⋯];refine a7 (cK ?_);first
  |exact a9 (a9 ⟨_,rfl,h⟩)
  |exact a9 ⟨_,rfl,a9 h⟩
  |exact a7 (a9 (a9 ⟨_,rfl,a9 h⟩))
  |exact a7 (a9 (a9 ⟨_,rfl,h⟩))
end HT
namespace L2
open PySem PySem.Spec PyProof.Rows
inductive Q9 (K:a8) (x:V) (lo:Option Int) (hi:Option Int) (H:Hp) (Q:VK):Prop
 |mk (a xs:_) (h0:x=.ref a) (h1:m8 K H a xs) (h2:(HT.jK xs.length 0 lo=0/\HT.jK xs.length xs.length hi=xs.length)) (h3:Q (.ref a) H):Q9 K x lo hi H Q
def ZA(K:a8):V->Option Int->Option Int->Hp->VK->Prop:=Q9 K
def Ul:Zn X (ZA X.K):=by
 intro e s l H x v n o lo m p Q I f hs pl i h;obtain⟨a,xs,rfl,j,g,q⟩:=h;cases f;obtain⟨c,r,d,k⟩:=I.tuple j;have b:c.toArray.size=xs.length:=by rw[a_];exact r.length.symm
 exact⟨"tuple",_,PyProof.Rows.slot_tuple_getitem.lookup,d.typeIs,HT.Gm d hs pl i (by rw[b];exact g) ⟨.ref a,H,I,rfl,q⟩⟩
def nM(h:H p=none):dQ H (upd H p o):=λb u e=>by rw[bh (cj e h)];exact e
def At(U:X.calm=true):ki X (.type "list") (λxs H Q=>∃a b,xs=[.ref a]/\H a=some (.dK b)/\∀l,H l=none->Q (.ref l) (upd H l (.lst (b.map λp=>kV p.1)))):=by
 intro E s σ H xs us Q I r h;obtain⟨a,b,rfl,hH,q⟩:=h;obtain⟨u,rfl,P⟩:=lG r;cases P;obtain⟨S,hs,g,rk,hd⟩:=(show d_ X.prog X.w H s.heap a (.dK b) from I.hok a _ hH);obtain⟨n,A⟩:∃n,s.heap.DictAt (g9 X.prog X.w) a g n:=by
  obtain⟨o,es,n,z,h2,T,h4⟩:=hd;exact⟨n,o,es,z,h2,T,h4⟩
 have L:b.length=g.length:=j6 rk;refine PySem.W.kdl_call (PySem.W.kdl_dict hs) (I.ok.hd U) A ∅ λh' N d Y kp e f=>?_;have rv:eE (b.map λp=>kV p.1) d.toList:=by
  have y:∀{b:List (gY×V)}{g:List (gY×ag)} (c:List ag),KV b g->c.length=g.length->(∀(j:Nat) (v:ag),c[j]?=some v->∃k x,g[j]?=some (k,x)/\Ah k v=true)->eE (b.map λp=>kV p.1) c:=by
   intro b;induction b with
   |nil=>intro g c rk m _;cases rk;cases c with
    |nil=>exact .nil
    |cons _ _=>simp at m
   |cons p b O=>
    intro g c rk m M;cases rk with
    |cons z t1=>
     cases c with
     |nil=>simp at m
     |cons v c=>
      refine .cons ?_ (O c t1 (by simpa using m) λj v B=>by simpa using M (j+1) v (by simpa using B));obtain⟨k,x,G,e2⟩:=M 0 v rfl;simp only[FO,FJ] at G;subst G;have K:p.1=k:=z.1;rcases gC e2 with⟨i,t,e,rfl⟩|⟨i,t,e,rfl⟩
      ·show eu (kV p.1) _;rw[K,e];exact⟨t,rfl⟩
      ·show eu (kV p.1) _;rw[K,e];exact⟨t,rfl⟩
  exact y d.toList rk (by rw[au];exact f.1) λj v B=>f.2 j v (by rw[<- aO];exact B)
 exact⟨.ref s.heap.objs.size,_,I.laid (t':=N) kp (av _) (show d_ X.prog X.w _ h' _ (.lst _) from⟨by simpa using S,d.toList,Y,rv,by rw[Jb];exact e⟩),rfl,q _ (I.hok.fresh (av _))⟩
def Au(x:Str):List V:=x.cps.toList.map λc=>V.str ⟨#[c]⟩
def zB(K:X.calm=true):ki X (.type "tuple") (λxs H Q=>∃x,xs=[.str x]/\x.cps.size<=sizeLine/\∀l,H l=none->Q (.ref l) (upd H l (.tup (Au x)))):=by
 intro d s z H xs P Q I r h;obtain⟨x,rfl,y,q⟩:=h;obtain⟨u,rfl,G⟩:=lG r;obtain⟨t,rfl⟩:=G;refine call_tuple_str (I.ok.hd K) x t (λh' i a kp f=>?_) y;have B:cb X d z H {s with heap:=h',toks:=i}:=I.kept (t':=i) kp;have M:eE (Au x) a.toList:=by
  have n:∀(g:List Nat) (a:List ag),a.length=g.length->(∀(j:Nat) (v:ag),a[j]?=some v->∃c u,g[j]?=some c/\v=.str ⟨#[c]⟩ u)->eE (g.map λc=>V.str ⟨#[c]⟩) a:=by
   intro g;induction g with
   |nil=>intro a k _;cases a with
    |nil=>exact .nil
    |cons _ _=>simp at k
   |cons c g E=>
    intro a k A;cases a with
    |nil=>simp at k
    |cons v a=>
     obtain⟨O,u,m,rfl⟩:=A 0 v rfl;simp only[FO,FJ] at m;subst m;exact .cons ⟨u,rfl⟩ (E a (by simpa using k) λj v p=>by simpa using A (j+1) v (by simpa using p))
  refine n x.cps.toList a.toList (by rw[au,au];exact f.1) λj v p=>?_;obtain⟨c,u,m,N⟩:=f.2 j v (by rw[<- aO];exact p);exact⟨c,u,by rw[aO];exact m,N⟩
 have L:cb X d z (upd H h'.objs.size (.tup (Au x))) {s with heap:=h'.push {cls:=.type "tuple",data:=.seq a},toks:=i}:=
  B.laid (t':=i) (λb o e=>ae _ e) (av _) (show d_ X.prog X.w _ _ _ (.tup (Au x)) from⟨by unfold Au;simpa using y,a.toList,M,by rw[Jb];exact zo _ _⟩)
 exact⟨.ref h'.objs.size,_,L,rfl,q _ (B.hok.fresh (av _))⟩
end L2
namespace L2
open PySem PySem.Spec PyProof.Rows
def lH{elt target iter ifs bu scope pos it acc env}
  (c:eJ (ax prog w) A (.compLoop (.SetComp elt (⟨target,iter,ifs,0⟩::bu) scope pos) 0 it acc env) R s)
  (h:aq (ax prog w) A (nH it) (λa s'=>eJ (ax prog w) A (.compLoop (.SetComp elt (⟨target,iter,ifs,0⟩::bu) scope pos) 0 a acc env) R s')
   (OX (ax prog w) A env λx s'=>R (.error x) s') s):
  eJ (ax prog w) A (.compStart (.SetComp elt (⟨target,iter,ifs,0⟩::bu) scope pos) 0 it acc env) R s:=by
 refine pW ?_;show aq _ _ ((compStart (.SetComp elt (⟨target,iter,ifs,0⟩::bu) scope pos) 0 it acc env).onRaise (λx=>do E1 x env;mv FP)) _ _ s;refine MP ?_;unfold compStart;show aq _ _ (ask>>=_) _ _ s;refine a7 (gf (wpAny_ite ?_));split
 ·first
   |exact a7 (a9 (a9 (ir rfl c)))
   |exact a9 (ir rfl c)
 ·first
   |exact a7 (cK (a7 (dY (a7 (bx h (λa s' b=>a9 (ir rfl b)) λ_ _ x=>x)))))
   |(refine a7 (cK ?_);show aq _ _ (mv iter.pos>>=_) _ _ s;exact a7 (dY (a7 (bx h (λa s' b=>a9 (ir rfl b)) λ_ _ x=>x))))
def q9(h:Q (.ref s.heap.objs.size) {s with heap:=s.heap.push (gV w)}):aq (ax prog w) A (P1 (.type "set")) Q E s:=by
 unfold P1 setsByText;refine a7 (a7 (gf (a9 ?_)));dsimp only;simp only[newObj];exact a7 (Tf (a9 h))
def Ct(d:mS w s.heap a ss)(f:ss.length+1<iD)
  (h:∀h' b,bX a s.heap h'->mS w h' a (if x∈ss then ss else ss++[x])->Q .none {s with heap:=h',toks:=b}):
  aq (ax prog w) A (call (.builtin "set.add") [.ref a,.str x tk]) Q E s:=by
 have e:s.TypeIs (.ref a) "set":=by obtain⟨es,i,t,I,_⟩:=id d;exact⟨_,I.at_,rfl⟩
 refine bS F.slot_set_add e F.entry_set_add ?_ (F.args_set_add_2 _ _);unfold jQ.«set.add» Tq;simp only[List.isEmpty_nil,bind_assoc];unfold Tr;refine a7 (a9 ?_);try dsimp only
 refine a7 (a9 ?_);try dsimp only
 refine a7 ?_;refine Gd d f λh' b g c=>?_;exact a9 ⟨_,rfl,h h' b g c⟩
def ZB(w:bL)(D:ap)(o:Obj)(a:List Str):Prop:=∀h:cg,h.get? D=some o->mS w h D a
def Um(X:Cx)(c:bj)(env:Env)(D:ap)(K:ak->Prop)(s:ak):Prop:=aq (ax X.prog X.w) X.A (eI c env) (λx a=>aq (ax X.prog X.w) X.A (call (.builtin "set.add") [.ref D,x]) (λ_ b=>K b) (λ_ _=>False) a) (λ_ _=>False) s
abbrev XV(c:TE)(e:St)(H:Hp)(a:List Str)(m:Nat)(V:Nat->List Str->Hp->Prop):Prop:=c e H λy d=>∃z b,y=.str z/\b<m/\V b (if z∈a then a else a++[z]) d
def Gn{X:Cx}{g:bj}{s:TE}{N':List Str}{scope:eM}{M:St->Prop}(E:∀i C b a q k,PE (bi X N' scope i C b a q k) g s):
  G7 X N' scope M (λD o c=>(∀v,o.data≠.cell v)/\ZB X.w D o c) (λc=>c.length+1<iD) (XV s) (Um X g):=by
 intro i C b a q k D pl o c p N A K m V x h2 L _ I Q P O fin
 refine fW (E i C b a q k _ A p N _ P O) λu8 s8 j=>?_
 obtain⟨y,Y,u,r8,z,S,B,U,T⟩:=j
 obtain⟨pD,pN,_⟩:=u.pin (D,_) (aA _ aj)
 subst B
 obtain⟨tz,rfl⟩:=r8
 refine Ct (Q.2 _ pD) I λh9 a1 n f=>?_
 obtain⟨H,G,t9,l,a0⟩:=id f
 have d:=l.at_
 exact fin _ _ Y _ S ((u.swap n d (λ_ z=>nomatch z) x h2 L).tok _) ⟨λ_ z=>(nomatch z),λh e=>f.keep λo t=>by rw[d] at t;cases t;exact e⟩ U T
def Go{X:Cx}{b:bj}{f:Sem Fin}{a:Code}(d:f=pure (.again a))(env:Env)(D:ap)(K:ak->Prop)(s:ak)(h:Um X b env D K s):aq (ax X.prog X.w) X.A ((do let v <- eI b env;mv b.pos;let _ <- call (.builtin "set.add") [.ref D,v])>>=λ_=>f) (λf c=>f=.again a/\K c) (λ_ _=>False) s:=by
 subst d;exact a7 (a7 (fW h λx g e=>a7 (dY (a7 (fW e λ_ _ q=>a9 (a9 ⟨rfl,q⟩))))))
def Uo{X:Cx}{f tg iter:bj}{i:List bj}{scope:eM}{l:Pos}{m:TE}{N':List Str}{nt:Nat}{ix:List Nat}(p:∀n C j g q o,PE (bi X N' scope n C j g q o) f m):
  G8 X N' scope nt nt ix (.SetComp f [⟨tg,iter,i,0⟩] scope l) tg i (P1 (.type "set")) (oN X.w) [] (λk=>k.length+1<iD) (XV m):=
 ⟨_,_,λ_=>Um X f,λ_=>True,λh=>h.1,rfl,λ_=>⟨λ_ z=>(nomatch z),λ_ e=>yg X.w e⟩,λ_ h e=>zZ (h.2 _ e),q9,λ_=>D6 (iter:=iter) (λ_ _=>rfl) λa b c d h=>Go rfl a b c d h,lH,⟨av _,λ_ _ _=>trivial⟩,λ_=>Gn p⟩
inductive Wa (w:bL) (nt:Nat) (ix:List Nat) (g:TG) (tt:TT) (te:TE) (σ:St) (Q:VK) (J:It) (H1:Hp):Prop
 |mk (W:Nat->Nat->List Str->Hp->Prop) (w0:∃m,W 0 m [] H1) (turn:∀i m acc H,W i m acc H ->
 (J.stop i H/\∀p,H p=none->Q (.ref p) (upd H p (oN w p acc))) \/
 (J.go i H/\acc.length+1<iD/\∀x H',J.yld i H x H'->g x (lL nt ix σ) H' λσ2 H2=>tt σ2 H2 λb H3=>
  if b=true then te σ2 H3 λy H4=>∃z m',y=.str z/\m'<m/\W (i+1) m' (if z∈acc then acc else acc++[z]) H4 else ∃m',m'<m/\W (i+1) m' acc H3)):Wa w nt ix g tt te σ Q J H1
def Qa(w:bL)(nt:Nat)(ix:List Nat)(d:TI)(g:TG)(c:TT)(b:TE):TE:=λa H Q=>d a H (Wa w nt ix g c b a Q)
def Jz{X:Cx}{n tg iter:bj}{i:List bj}{scope:eM}{o:Pos}{N:TI}{g:TG}{O:TT}{M:TE}{N':List Str}{nt:Nat}{ix:List Nat}
  (hc:X.calm=true) (S:jZ X scope N' nt ix) (lo:T7 nt g) (hi:PI X tg iter N)
  (E:∀u C j k G z,PG (bi X N' scope u C j k G z) tg g/\Ei (bi X N' scope u C j k G z) i O/\PE (bi X N' scope u C j k G z) n M)
  (hs:∀x,bf iter X.env x=pure x:=by intro _;rfl):PE X (.SetComp n [⟨tg,iter,i,0⟩] scope o) (Qa X.w nt ix N g O M):=by
 intro l s L H Q I h;obtain⟨u,K,c1,Y⟩:=lK (scope:=scope) (env:=X.env) λy P hf=>I.ok.has y.1 (S.free y P hf);show aq _ _ (sH (.SetComp n [⟨tg,iter,i,0⟩] scope o) scope X.env (P2 [⟨tg,iter,i,0⟩] o) (P1 (.type "set")) (firstAsync [⟨tg,iter,i,0⟩]) (firstIter [⟨tg,iter,i,0⟩] X.env)) _ _ _;refine gm (use:=none) rfl hs K S.kind S.loc (fW (hi l s L H _ I h) λv s1 h1=>fW h1 λa0 s2 h2=>?_);obtain⟨it,fp,tn,J,H2,e,I2,T,B,f2,W,U,p⟩:=h2;subst e;refine yf (RR:=λt C=>C8 (ax X.prog X.w) X.A X.xe none (EP X l L Q) t C) (Uo λa b c d e f=>(E a b c d e f).2.2) hc S lo (λa b c d e f=>⟨(E a b c d e f).1,(E a b c d e f).2.1⟩) c1 Y I2 T B f2 U p ?_;intro D C m s' t H' hD _ q hn hI;exact⟨m,hn,λh' sb=>⟨.ref D,_,hI h' sb,rfl,q⟩⟩
def Cu:ki X (.builtin "len") (λxs H Q=>∃p ss,xs=[.ref p]/\H p=some (oN X.w p ss)/\Q (.int ss.length) H):=by
 intro d s j H xs m Q I r h;obtain⟨p,ss,rfl,f,q⟩:=h;obtain⟨u,rfl,e⟩:=lG r;cases e;obtain⟨es,k,t,b,g⟩:=(show d_ X.prog X.w H s.heap p (oN X.w p ss) from I.hok p _ f).1;have a:es.size=ss.length:=by rw[<- g.length_eq,am,au]
 have c:(es.size:Int)<2 ^ 63:=by
  have i:=b.few;have l:iD<=2 ^ 62:=by decide
  omega
 refine pY kind_len plain_len entry_len (args_len1 _) (wpAny_len_body_set b.at_ ⟨rfl,rfl,rfl⟩ rfl b.fits c ?_);refine⟨.int _,H,I.tok _,⟨_,rfl⟩,?_⟩;rw[a];exact q
end L2
namespace L2
open PySem PySem.Spec PyProof.Rows
end L2
namespace L2
open PySem PySem.Spec PyProof.Rows
def Li(so:eM)(N:List Str)(scope:eM)(N':List Str)(nt:Nat)(ix:List Nat):Bool:=
 (scope.kind == .function)&&(scope.names.all λy=>y.2 != .cell||scope.names.lookup y.1==some .cell)&&(scope.names.all λy=>y.2 != .local||scope.names.lookup y.1==some .local) &&
 (scope.names.all λy=>y.2 != .free||so.names.lookup y.1==some .cell||so.names.lookup y.1==some .free) &&
 ((bQ ix.length).all λk=>match ix[k]? with
  |none=>false
  |some i=>match N[i]? with
   |none=>false
   |some x=>N'[nt+k]? == some x&&scope.names.lookup x==some .free)&&(N'.length==nt+ix.length)
def bv(h:Li so N scope N' nt ix=true)(j:X.env.scope=so:=by rfl)(n:X.N=N:=by rfl):jZ X scope N' nt ix:=by
 unfold Li at h;simp only[aU,bY] at h;obtain⟨⟨⟨⟨⟨a,b⟩,c⟩,d⟩,e⟩,l⟩:=h;refine⟨by simpa using a,λy f z=>?_,λy f z=>?_,λy f z=>?_,λk i g=>?_,by simpa using l⟩
 ·have:=b y f;simpa[z] using this
 ·have:=c y f;simpa[z] using this
 ·have:=d y f;rw[j];simpa[z] using this
 ·have m:k<ix.length:=(List.getElem?_eq_some_iff.mp g).1;have:=e k (List.mem_range.mpr m);rw[g] at this;rw[n];simp only at this;split at this
  ·cases this
  ·rename_i x o
   simp only[aU] at this;exact⟨x,o,by simpa using this.1,by simpa using this.2⟩
end L2
namespace L2
open PySem PySem.Spec PyProof.Rows
end L2
namespace J
open PySem L2
abbrev D:=E6
inductive R (α:Type) where
 |ok (a:α)
 |ex (c:Str) (n:Option D)
 |no
def R.bind{b d:Type}:R b->(b->R d)->R d
 |.ok a,f=>f a
 |.ex c n,_=>.ex c n
 |.no,_=>.no
@[simp] theorem bind_ok {α β:Type} (a:α) (f:α->R β):(R.ok a).bind f=f a:=rfl
@[simp] theorem bind_ex {α β:Type} (c:Str) (n:Option D) (f:α->R β):(R.ex c n).bind f=.ex c n:=rfl
@[simp] theorem bind_no {α β:Type} (f:α->R β):(R.no:R α).bind f=.no:=rfl
def kD:gY->D
 |.inl i=>.int i
 |.inr x=>.str x
def tD(ks:List gY):D:=.tuple (ks.map kD)
mutual
inductive RD (K:a8) (H:Hp):V->D->Prop
 |none:RD K H .non .none
 |bool (b:Bool):RD K H (.bl b) (.bool b)
 |int (i:Int):RD K H (.int i) (.int i)
 |str (x:Str):RD K H (.str x) (.str x)
 |list {a:ap}{xs:List V}{ds:List D}:qy K H a xs->RDs K H xs ds->RD K H (.ref a) (.list ds)
 |tuple {a:ap}{xs:List V}{ds:List D}:H a=some (.tup xs)->RDs K H xs ds->RD K H (.ref a) (.tuple ds)
 |dictK {a:ap}{kvs:List (gY×V)}{ds:List (D×D)}:H a=some (.dK kvs)->RDk K H kvs ds->RD K H (.ref a) (.dict ds)
 |dictT {a:ap}{kvs:List (List gY×V)}{ds:List (D×D)}:H a=some (.dT kvs)->kvs≠[]->RDt K H kvs ds->RD K H (.ref a) (.dict ds)
 |dictF {a:ap}{o:Obj}{kvs:List (List gY×V)}{ds:List (D×D)}:H a=some (.frz o (.dT kvs))->kvs≠[]->RDt K H kvs ds->RD K H (.ref a) (.dict ((.none,.none)::ds))
inductive RDs (K:a8) (H:Hp):List V->List D->Prop
 |nil:RDs K H [] []
 |cons {x:V}{xs:List V}{d:D}{ds:List D}:RD K H x d->RDs K H xs ds->RDs K H (x::xs) (d::ds)
inductive RDk (K:a8) (H:Hp):List (gY×V)->List (D×D)->Prop
 |nil:RDk K H [] []
 |cons {k:gY}{x:V}{xs:List (gY×V)}{d:D}{ds:List (D×D)}:RD K H x d->RDk K H xs ds->RDk K H ((k,x)::xs) ((kD k,d)::ds)
inductive RDt (K:a8) (H:Hp):List (List gY×V)->List (D×D)->Prop
 |nil:RDt K H [] []
 |cons {k:List gY}{x:V}{xs:List (List gY×V)}{d:D}{ds:List (D×D)}:RD K H x d->RDt K H xs ds->RDt K H ((k,x)::xs) ((tD k,d)::ds)
end
def RD.same(e:dQ H H')(h:RD K H v d):RD K H' v d:=RD.rec (motive_1:=λv d _=>RD K H' v d) (motive_2:=λv d _=>RDs K H' v d) (motive_3:=λv d _=>RDk K H' v d) (motive_4:=λv d _=>RDt K H' v d) .none .bool .int .str (λh _ r=>.list (e.seq h) r) (λh _ r=>.tuple (e _ _ h) r) (λh _ r=>.dictK (e _ _ h) r) (λh n _ r=>.dictT (e _ _ h) n r) (λh n _ r=>.dictF (e _ _ h) n r) .nil (λ_ _ a b=>.cons a b) .nil (λ_ _ a b=>.cons a b) .nil (λ_ _ a b=>.cons a b) h
def RDs.same(e:dQ H H')(h:RDs K H v d):RDs K H' v d:=RDs.rec (motive_1:=λv d _=>RD K H' v d) (motive_2:=λv d _=>RDs K H' v d) (motive_3:=λv d _=>RDk K H' v d) (motive_4:=λv d _=>RDt K H' v d) .none .bool .int .str (λh _ r=>.list (e.seq h) r) (λh _ r=>.tuple (e _ _ h) r) (λh _ r=>.dictK (e _ _ h) r) (λh n _ r=>.dictT (e _ _ h) n r) (λh n _ r=>.dictF (e _ _ h) n r) .nil (λ_ _ a b=>.cons a b) .nil (λ_ _ a b=>.cons a b) .nil (λ_ _ a b=>.cons a b) h
def RDk.same(e:dQ H H')(h:RDk K H v d):RDk K H' v d:=RDk.rec (motive_1:=λv d _=>RD K H' v d) (motive_2:=λv d _=>RDs K H' v d) (motive_3:=λv d _=>RDk K H' v d) (motive_4:=λv d _=>RDt K H' v d) .none .bool .int .str (λh _ r=>.list (e.seq h) r) (λh _ r=>.tuple (e _ _ h) r) (λh _ r=>.dictK (e _ _ h) r) (λh n _ r=>.dictT (e _ _ h) n r) (λh n _ r=>.dictF (e _ _ h) n r) .nil (λ_ _ a b=>.cons a b) .nil (λ_ _ a b=>.cons a b) .nil (λ_ _ a b=>.cons a b) h
def RDt.same(e:dQ H H')(h:RDt K H v d):RDt K H' v d:=RDt.rec (motive_1:=λv d _=>RD K H' v d) (motive_2:=λv d _=>RDs K H' v d) (motive_3:=λv d _=>RDk K H' v d) (motive_4:=λv d _=>RDt K H' v d) .none .bool .int .str (λh _ r=>.list (e.seq h) r) (λh _ r=>.tuple (e _ _ h) r) (λh _ r=>.dictK (e _ _ h) r) (λh n _ r=>.dictT (e _ _ h) n r) (λh n _ r=>.dictF (e _ _ h) n r) .nil (λ_ _ a b=>.cons a b) .nil (λ_ _ a b=>.cons a b) .nil (λ_ _ a b=>.cons a b) h
mutual
def oO:D->Bool
 |.dict _=>false
 |.list xs=>noDs xs
 |.tuple xs=>noDs xs
 |_=>true
def noDs:List D->Bool
 |[]=>true
 |x::r=>oO x&&noDs r
end
def Wb(h:(a&&b)=true):a=true:=(Bool.and_eq_true_iff.mp h).1
def Wc(h:(a&&b)=true):b=true:=(Bool.and_eq_true_iff.mp h).2
def RD.rep(h:RD K H v d):oO d=true->Jx K H v d:=RD.rec (motive_1:=λv d _=>oO d=true->Jx K H v d) (motive_2:=λv d _=>noDs d=true->Reps K H v d) (motive_3:=λ_ _ _=>True) (motive_4:=λ_ _ _=>True) (λ_=>.none) (λb _=>.bool b) (λi _=>.int i) (λx _=>.str x) (λh _ r e=>.list h (r e)) (λh _ r e=>.tuple (.of h) (r e)) (λ_ _ _ e=>zV e) (λ_ _ _ _ e=>zV e) (λ_ _ _ _ e=>zV e) (λ_=>.nil) (λ_ _ a b e=>.cons (a (Wb e)) (b (Wc e))) trivial (λ_ _ _ _=>trivial) trivial (λ_ _ _ _=>trivial) h
def RDs.length:∀{ds:List D},RDs K H vs ds->vs.length=ds.length:=by
 induction vs with
 |nil=>intro ds h;cases h;rfl
 |cons x r c=>intro ds h;cases h with|cons a b=>exact congrArg (· + 1) (c b)
def RDs.get:∀{ds:List D}{i:Nat}{v:V},RDs K H vs ds->vs[i]?=some v->∃d,ds[i]?=some d/\RD K H v d:=by
 induction vs with
 |nil=>intro ds i v _ e;cases e
 |cons x r c=>
  intro ds i v h e;cases h with
  |cons a b=>
   cases i with
   |zero=>cases e;exact⟨_,rfl,a⟩
   |succ i=>have q:=c (i:=i) b e;exact q
def RDs.get':∀{ds:List D}{i:Nat}{d:D},RDs K H vs ds->ds[i]?=some d->∃v,vs[i]?=some v/\RD K H v d:=by
 induction vs with
 |nil=>intro ds i v h e;cases h;cases e
 |cons x r c=>
  intro ds i v h e;cases h with
  |cons a b=>
   cases i with
   |zero=>cases e;exact⟨_,rfl,a⟩
   |succ i=>have q:=c (i:=i) b e;exact q
def RDs.append:∀{ds:List D},RDs K H vs ds->RDs K H ws es->RDs K H (vs++ws) (ds++es):=by
 induction vs with
 |nil=>intro ds h s;cases h;exact s
 |cons x r c=>intro ds h s;cases h with|cons a b=>exact .cons a (c b s)
def RDs.drop:∀{ds:List D} (n:Nat),RDs K H vs ds->RDs K H (vs.drop n) (ds.drop n):=by
 induction vs with
 |nil=>intro ds n h;cases h;cases n<;>exact .nil
 |cons x r c=>
  intro ds n h;cases n with
  |zero=>exact h
  |succ n=>cases h with|cons a b=>exact c n b
def RDs.take:∀{ds:List D} (n:Nat),RDs K H vs ds->RDs K H (vs.take n) (ds.take n):=by
 induction vs with
 |nil=>intro ds n h;cases h;cases n<;>exact .nil
 |cons x r c=>
  intro ds n h;cases n with
  |zero=>exact .nil
  |succ n=>cases h with|cons a b=>exact .cons a (c n b)
theorem wX:∀(ss:List Str),RDs K H (ss.map V.str) (ss.map ay)
 |[]=>.nil
 |x::r=>.cons (.str x) (wX r)
def RD.str_inv(h:RD K H v (.str x)):v=.str x:=by cases h;rfl
def RD.bool_inv(h:RD K H v (.bool x)):v=.bl x:=by cases h;rfl
def RD.int_inv(h:RD K H v (.int x)):v=.int x:=by cases h;rfl
def z_{e:Type}{c:e->D}{k:e->V}(g:∀{v x},RD K H v (c x)->v=k x){ss:List e}:∀{d:List V},RDs K H d (ss.map c)->d=ss.map k:=by
 induction ss with
 |nil=>intro d h;cases h;rfl
 |cons x r f=>intro d h;cases h with|cons a b=>rw[g a,f b];rfl
def mT{ss:List Str}{a:List V}:RDs K H a (ss.map ay)->a=ss.map V.str:=z_ RD.str_inv
def Cv{ss:List Bool}{a:List V}:RDs K H a (ss.map cr)->a=ss.map V.bl:=z_ RD.bool_inv
def Et{ss:List Int}{a:List V}:RDs K H a (ss.map e8)->a=ss.map V.int:=z_ RD.int_inv
def nt:HO->Bool
 |.tup _=>false
 |_=>true
structure cQ (H Hs H' Hs':Hp):Prop where
 all:dQ H H'
 sh:dQ Hs Hs'
 sub:dQ Hs' H'
 out:∀a o,H a=some o->nt o=true->Hs a=none->Hs' a=none
def cQ.refl(h:dQ Hs H):cQ H Hs H Hs:=⟨.refl _,.refl _,h,λ_ _ _ _ e=>e⟩
def cQ.trans(a:cQ H Hs H1 Hs1)(b:cQ H1 Hs1 H2 Hs2):cQ H Hs H2 Hs2:=
 ⟨a.all.trans b.all,a.sh.trans b.sh,b.sub,λc o e t n=>b.out c o (a.all c o e) t (a.out c o e t n)⟩
def cQ.new(h:dQ Hs H)(n:H p=none):cQ H Hs (upd H p o) (upd Hs p o):=by
 have d:Hs p=none:=h.free n;refine⟨nM n,nM d,λb u e=>?_,λa u e t z=>?_⟩
 ·by_cases c:b=p
  ·subst c;rw[bc] at e ⊢;exact e
  ·rw[bh c] at e ⊢;exact h b u e
 ·rw[bh (cj e n)];exact z
def cQ.mine(h:dQ Hs H)(n:H p=none):cQ H Hs (upd H p o) Hs:=by
 refine⟨nM n,.refl _,λb u e=>?_,λa u e t z=>z⟩;have c:=h b u e;rw[bh (cj c n)];exact c
inductive oP (K:a8) (Hs:Hp):HO->D->Prop
 |lst {vs:List V}{ds:List D}:RDs K Hs vs ds->oP K Hs (.lst vs) (.list ds)
 |dK {kvs:List (gY×V)}{ds:List (D×D)}:RDk K Hs kvs ds->oP K Hs (.dK kvs) (.dict ds)
 |dT {kvs:List (List gY×V)}{ds:List (D×D)}:kvs≠[]->RDt K Hs kvs ds->oP K Hs (.dT kvs) (.dict ds)
 |dF {o:Obj}{kvs:List (List gY×V)}{ds:List (D×D)}:kvs≠[]->RDt K Hs kvs ds->oP K Hs (.frz o (.dT kvs)) (.dict ((.none,.none)::ds))
def oP.same(e:dQ Hs Hs')(h:oP K Hs o d):oP K Hs' o d:=by
 cases h with
 |lst r=>exact .lst (r.same e)
 |dK r=>exact .dK (r.same e)
 |dT n r=>exact .dT n (r.same e)
 |dF n r=>exact .dF n (r.same e)
def oP.nt(h:oP K Hs o d):J.nt o=true:=by cases h<;>rfl
def oP.share(n:Hs a=none)(h:oP K Hs o d):RD K (upd Hs a o) (.ref a) d:=by
 have e:dQ Hs (upd Hs a o):=nM n;cases h with
 |lst r=>exact .list (.of bc) (r.same e)
 |dK r=>exact .dictK bc (r.same e)
 |dT n r=>exact .dictT bc n (r.same e)
 |dF n r=>exact .dictF bc n (r.same e)
inductive Sl where
 |no
 |shr (d:D)
 |own (d:D)
 |lck (d:D)
 |ow2 (dss:List (List D))
abbrev aE:=List Sl
inductive D9 (K:a8) (H Hs:Hp):List ap->List (List D)->Prop
 |nil:D9 K H Hs [] []
 |cons {a:ap}{as:List ap}{vs:List V}{ds:List D}{dss:List (List D)}:H a=some (.lst vs)->RDs K Hs vs ds->D9 K H Hs as dss->D9 K H Hs (a::as) (ds::dss)
def D9.step(e:dQ H H')(a:dQ Hs Hs')(h:D9 K H Hs as dss):D9 K H' Hs' as dss:=by
 induction h with
 |nil=>exact .nil
 |cons h r t b=>exact .cons (e _ _ h) (r.same a) b
def D9.upd(n:b∉as)(h:D9 K H Hs as dss):D9 K (upd H b o) Hs as dss:=by
 induction h with
 |nil=>exact .nil
 |cons h r t a=>exact .cons (by rw[bh (λz=>n (by rw[<- z];exact aj))];exact h) r (a λz=>n (af _ z))
def D9.there(h:D9 K H Hs as dss)(hb:b∈as):∃o,H b=some o/\nt o=true:=by
 induction h with
 |nil=>cases hb
 |cons h r t a=>
  rcases List.mem_cons.mp hb with e|hb
  ·exact⟨_,e ▸ h,rfl⟩
  ·exact a hb
structure O2 (K:a8) (H0 H Hs:Hp) (ρ:aE) (σ:St) (i:Nat) (dss:List (List D)) (a:ap) (as:List ap):Prop where
 at_:σ[i]?=some (some (V.ref a))
 ob:H a=some (.lst (as.map V.ref))
 nd:(a::as).Nodup
 out:∀b∈a::as,Hs b=none/\H0 b=none
 dj:∀b∈a::as,∀(j:Nat) (e:D),ρ[j]?=some (Sl.own e)->σ[j]?≠some (some (V.ref b))
 inn:D9 K H Hs as dss
structure Fr (K:a8) (H0 Hs0:Hp) (la:Nat->Option ap) (ρ:aE) (σ:St) (H Hs:Hp):Prop where
 st:cQ H0 Hs0 H Hs
 len:ρ.length=σ.length
 sh:∀(i:Nat) (d:D),ρ[i]?=some (Sl.shr d)->∃v,σ[i]?=some (some v)/\RD K Hs v d
 ow:∀(i:Nat) (d:D),ρ[i]?=some (Sl.own d)->∃a o,σ[i]?=some (some (V.ref a))/\H a=some o/\Hs a=none/\H0 a=none/\oP K Hs o d
 lk:∀(i:Nat) (d:D),ρ[i]?=some (Sl.lck d)->∃a o,σ[i]?=some (some (V.ref a))/\la i=some a/\H a=some o/\Hs a=none/\H0 a=some o/\oP K Hs o d
 dj:∀(i j:Nat) (d e:D) (a:ap),ρ[i]?=some (Sl.own d)->ρ[j]?=some (Sl.own e)->σ[i]?=some (some (V.ref a))->σ[j]?=some (some (V.ref a))->i=j
 lh:∀(i:Nat) (a:ap),la i=some a->∃o,H0 a=some o
 o2:∀(i:Nat) (dss:List (List D)),ρ[i]?=some (Sl.ow2 dss)->∃a as,O2 K H0 H Hs ρ σ i dss a as
 u2:∀(i j:Nat) (d e:List (List D)),ρ[i]?=some (Sl.ow2 d)->ρ[j]?=some (Sl.ow2 e)->i=j
def Fr.step(f:Fr K H0 Hs0 la ρ σ H Hs)(s:cQ H Hs H' Hs'):Fr K H0 Hs0 la ρ σ H' Hs':=by
 refine⟨f.st.trans s,f.len,λi d e=>?_,λi d e=>?_,λi d e=>?_,f.dj,f.lh,λi l e=>?_,f.u2⟩
 ·obtain⟨v,g,c⟩:=f.sh i d e;exact⟨v,g,c.same s.sh⟩
 ·obtain⟨a,o,g,c,j,m,k⟩:=f.ow i d e;exact⟨a,o,g,s.all _ _ c,s.out _ _ c k.nt j,m,k.same s.sh⟩
 ·obtain⟨a,o,g,c,j,m,k,n⟩:=f.lk i d e;exact⟨a,o,g,c,s.all _ _ j,s.out _ _ j n.nt m,k,n.same s.sh⟩
 ·obtain⟨a,q,h⟩:=f.o2 i l e;refine⟨a,q,h.at_,s.all _ _ h.ob,h.nd,λb hb=>⟨?_,(h.out b hb).2⟩,h.dj,h.inn.step s.all s.sh⟩;have there:∃o,H b=some o/\nt o=true:=by
   rcases List.mem_cons.mp hb with rfl|hb
   ·exact⟨_,h.ob,rfl⟩
   ·exact h.inn.there hb
  obtain⟨o,ho,p⟩:=there;exact s.out b o ho p (h.out b (by assumption)).1
inductive ZC (K:a8) (H Hs:Hp) (v:V) (d:D):Prop
 |mk (a:ap) (o:HO) (h0:v=.ref a) (h1:H a=some o) (h2:Hs a=none) (h3:oP K Hs o d):ZC K H Hs v d
def RB(K:a8)(H Hs:Hp)(v:V)(d:D):Prop:=RD K Hs v d\/ZC K H Hs v d
def RB.step(h:RB K H Hs v d)(s:cQ H Hs H' Hs'):RB K H' Hs' v d:=by
 rcases h with h|⟨a,o,h1,h2,h3,h4⟩
 ·exact .inl (h.same s.sh)
 ·exact .inr ⟨a,o,h1,s.all _ _ h2,s.out _ _ h2 h4.nt h3,h4.same s.sh⟩
def RB.full(sub:dQ Hs H)(h:RB K H Hs v d):RD K H v d:=by
 rcases h with h|⟨a,o,rfl,h2,h3,h4⟩
 ·exact h.same sub
 ·have e:dQ (upd Hs a o) H:=λb u q=>by
   by_cases c:b=a
   ·subst c;rw[bc] at q;cases q;exact h2
   ·rw[bh c] at q;exact sub b u q
  exact(h4.share h3).same e
def RB.list(sub:dQ Hs H)(h:RB K H Hs v (.list ds)):∃a b,v=.ref a/\qy K H a b/\RDs K Hs b ds:=by
 rcases h with h|⟨a,o,rfl,h2,h3,h4⟩
 ·cases h with|list q r=>exact⟨_,_,rfl,sub.seq q,r⟩
 ·cases h4 with|lst r=>exact⟨a,_,rfl,.of h2,r⟩
def RB.tuple(sub:dQ Hs H)(h:RB K H Hs v (.tuple ds)):∃a b,v=.ref a/\m8 K H a b/\RDs K Hs b ds/\Hs a=some (.tup b):=by
 rcases h with h|⟨a,o,rfl,h2,h3,h4⟩
 ·cases h with|tuple q r=>exact⟨_,_,rfl,.of (sub _ _ q),r,q⟩
 ·cases h4
def RB.str(h:RB K H Hs v (.str x)):v=.str x:=by
 rcases h with h|⟨a,o,rfl,h2,h3,h4⟩
 ·exact h.str_inv
 ·cases h4
def RB.int(h:RB K H Hs v (.int i)):v=.int i:=by
 rcases h with h|⟨a,o,rfl,h2,h3,h4⟩
 ·exact h.int_inv
 ·cases h4
def RB.non(h:RB K H Hs v .none):v=.non:=by
 rcases h with h|⟨a,o,rfl,h2,h3,h4⟩
 ·cases h;rfl
 ·cases h4
def XW(K:a8)(cls:Str->ap)(E:XK)(c:Str)(n:Option D)(H Hs:Hp):Prop:=match n with
 |none=>E (.ref (cls c)) none H
 |some d=>∀a v,H a=some (.xd [("number",v)])->RD K Hs v d->E (.ref (cls c)) (some a) H
def Fin{b:Type}(K:a8)(cls:Str->ap)(E:XK)(H Hs:Hp)(r:R b)(q:b->Prop):Prop:=match r with
 |.ok d=>q d
 |.ex c n=>∀H' a,cQ H Hs H' a->XW K cls E c n H' a
 |.no=>False
inductive TRI (K:a8) (cls:Str->ap) (E:XK) (ρ:aE) (r:R D) (σ:St) (H:Hp) (Q:VK):Prop
 |mk (H0 Hs0:Hp) (la:Nat->Option ap) (Hs:Hp) (f:Fr K H0 Hs0 la ρ σ H Hs) (q:Fin K cls E H Hs r λd=>∀v H' Hs',cQ H Hs H' Hs'->RD K Hs' v d->Q v H'):TRI K cls E ρ r σ H Q
def TR(K:a8)(cls:Str->ap)(E:XK)(ρ:aE)(r:R D):TE:=TRI K cls E ρ r
inductive TBI (K:a8) (cls:Str->ap) (E:XK) (ρ:aE) (r:R D) (σ:St) (H:Hp) (Q:VK):Prop
 |mk (H0 Hs0:Hp) (la:Nat->Option ap) (Hs:Hp) (f:Fr K H0 Hs0 la ρ σ H Hs) (q:Fin K cls E H Hs r λd=>∀v H' Hs',cQ H Hs H' Hs'->RB K H' Hs' v d->Q v H'):TBI K cls E ρ r σ H Q
def TB(K:a8)(cls:Str->ap)(E:XK)(ρ:aE)(r:R D):TE:=TBI K cls E ρ r
inductive ZD (K:a8) (cls:Str->ap) (E:XK) (ρ:aE) (r:R Bool) (σ:St) (H:Hp) (Q:Bool->Hp->Prop):Prop
 |mk (H0 Hs0:Hp) (la:Nat->Option ap) (Hs:Hp) (f:Fr K H0 Hs0 la ρ σ H Hs) (q:Fin K cls E H Hs r λb=>∀H' Hs',cQ H Hs H' Hs'->Q b H'):ZD K cls E ρ r σ H Q
def Cy(K:a8)(cls:Str->ap)(E:XK)(ρ:aE)(r:R Bool):TT:=ZD K cls E ρ r
inductive Wd (K:a8) (H Hs:Hp):List V->List D->Prop
 |nil:Wd K H Hs [] []
 |cons {x:V}{xs:List V}{d:D}{ds:List D}:RB K H Hs x d->Wd K H Hs xs ds->Wd K H Hs (x::xs) (d::ds)
inductive ZE (K:a8) (cls:Str->ap) (E:XK) (ρ:aE) (r:R (List D)) (σ:St) (H:Hp) (Q:List V->Hp->Prop):Prop
 |mk (H0 Hs0:Hp) (la:Nat->Option ap) (Hs:Hp) (f:Fr K H0 Hs0 la ρ σ H Hs) (q:Fin K cls E H Hs r λd=>∀v H' Hs',cQ H Hs H' Hs'->RDs K Hs' v d->Q v H'):ZE K cls E ρ r σ H Q
def TAs(K:a8)(cls:Str->ap)(E:XK)(ρ:aE)(r:R (List D)):TA:=ZE K cls E ρ r
inductive ZF (K:a8) (cls:Str->ap) (E:XK) (ρ:aE) (r:R (List D)) (σ:St) (H:Hp) (Q:List V->Hp->Prop):Prop
 |mk (H0 Hs0:Hp) (la:Nat->Option ap) (Hs:Hp) (f:Fr K H0 Hs0 la ρ σ H Hs) (q:Fin K cls E H Hs r λd=>∀v H' Hs',cQ H Hs H' Hs'->Wd K H' Hs' v d->Q v H'):ZF K cls E ρ r σ H Q
def TBs(K:a8)(cls:Str->ap)(E:XK)(ρ:aE)(r:R (List D)):TA:=ZF K cls E ρ r
structure C where
 X:Cx
 cls:Str->ap
 E:XK
structure JE (c:C) (e:bj) (g:aE->R D):Prop where of ::
 run:∀ ρ,PE c.X e (TR c.X.K c.cls c.E ρ (g ρ))
instance{c:C}{e:bj}{g:aE->R D}:CoeFun (JE c e g) (λ_=>∀ ρ,PE c.X e (TR c.X.K c.cls c.E ρ (g ρ))):=⟨JE.run⟩
structure JB (c:C) (e:bj) (g:aE->R D):Prop where of ::
 run:∀ ρ,PE c.X e (TB c.X.K c.cls c.E ρ (g ρ))
instance{c:C}{e:bj}{g:aE->R D}:CoeFun (JB c e g) (λ_=>∀ ρ,PE c.X e (TB c.X.K c.cls c.E ρ (g ρ))):=⟨JB.run⟩
structure JT (c:C) (e:bj) (g:aE->R Bool):Prop where of ::
 run:∀ ρ,PT c.X e (Cy c.X.K c.cls c.E ρ (g ρ))
instance{c:C}{e:bj}{g:aE->R Bool}:CoeFun (JT c e g) (λ_=>∀ ρ,PT c.X e (Cy c.X.K c.cls c.E ρ (g ρ))):=⟨JT.run⟩
structure JW (c:C) (e:bj) (g:aE->R Bool):Prop where of ::
 run:∀ ρ,PW c.X e (Cy c.X.K c.cls c.E ρ (g ρ))
instance{c:C}{e:bj}{g:aE->R Bool}:CoeFun (JW c e g) (λ_=>∀ ρ,PW c.X e (Cy c.X.K c.cls c.E ρ (g ρ))):=⟨JW.run⟩
structure Np (c:C) (es:List bj) (g:aE->R (List D)):Prop where of ::
 run:∀ ρ,PA c.X es (TAs c.X.K c.cls c.E ρ (g ρ))
instance{c:C}{es:List bj}{g:aE->R (List D)}:CoeFun (Np c es g) (λ_=>∀ ρ,PA c.X es (TAs c.X.K c.cls c.E ρ (g ρ))):=⟨Np.run⟩
structure Uq (c:C) (es:List bj) (g:aE->R (List D)):Prop where of ::
 run:∀ ρ,PA c.X es (TBs c.X.K c.cls c.E ρ (g ρ))
instance{c:C}{es:List bj}{g:aE->R (List D)}:CoeFun (Uq c es g) (λ_=>∀ ρ,PA c.X es (TBs c.X.K c.cls c.E ρ (g ρ))):=⟨Uq.run⟩
def sS(h:PE X e t)(m:∀a H Q,t' a H Q->t a H Q):PE X e t':=λb s a H Q I q=>h b s a H Q I (m a H Q q)
def ZG(h:PT X e t)(m:∀a H Q,t' a H Q->t a H Q):PT X e t':=λb s a H Q I q=>h b s a H Q I (m a H Q q)
def mPW(h:PW X e t)(m:∀a H Q,t' a H Q->t a H Q):PW X e t':=λc b s a H Q I q=>h c b s a H Q I (m a H Q q)
def XX{X:Cx}{e:List bj}{t t':TA}(h:PA X e t)(m:∀a H Q,t' a H Q->t a H Q):PA X e t':=λc b s a H Q I q=>h c b s a H Q I (m a H Q q)
def C1{X:Cx}{e:dZ}{t t':TS}(h:PS X e t)(m:∀D a H,t' D a H->t D a H):PS X e t':=λb s a H Q I q=>h b s a H Q I (m Q a H q)
def q1m{X:Cx}{e:List dZ}{t t':TS}(h:L7 X e t)(m:∀D a H,t' D a H->t D a H):L7 X e t':=λb s a H Q I q=>h b s a H Q I (m Q a H q)
def JE.bor(h:JE c e g):JB c e g:=.of λρ=>sS (h ρ) λk H Q ⟨j,b,la,Hs,f,q⟩=>⟨j,b,la,Hs,f,by
 cases a:g ρ with
 |ok d=>rw[a] at q;exact λv H' i s r=>q v H' i s (.inl r)
 |ex c n=>rw[a] at q;exact q
 |no=>rw[a] at q;exact q⟩
def one{K:a8}{cls:Str->ap}{E:XK}{ρ:aE}{r:R D}{i:Type}{k:D->R i}{e:St}{H:Hp}{g b Hs:Hp}{la:Nat->Option ap}{Q:V->Hp->Prop}{q:i->Prop}(f:Fr K g b la ρ e H Hs)
  (h:Fin K cls E H Hs (r.bind k) q) (m:∀d v H' a,r=.ok d->cQ H Hs H' a->Fr K g b la ρ e H' a->RB K H' a v d->Q v H'):TB K cls E ρ r e H Q:=by
 refine⟨g,b,la,Hs,f,?_⟩;cases r with
 |ok d=>exact λv H' a s r=>m d v H' a rfl s (f.step s) r
 |ex c n=>exact h
 |no=>exact h
def Cz{K:a8}{cls:Str->ap}{E:XK}{ρ:aE}{r:R D}{i:Type}{k:D->R i}{e:St}{H:Hp}{g b Hs:Hp}{la:Nat->Option ap}{Q:V->Hp->Prop}{q:i->Prop}(f:Fr K g b la ρ e H Hs)
  (h:Fin K cls E H Hs (r.bind k) q) (m:∀d v H' a,r=.ok d->cQ H Hs H' a->Fr K g b la ρ e H' a->RD K a v d->Q v H'):TR K cls E ρ r e H Q:=by
 refine⟨g,b,la,Hs,f,?_⟩;cases r with
 |ok d=>exact λv H' a s r=>m d v H' a rfl s (f.step s) r
 |ex c n=>exact h
 |no=>exact h
def Nq{K:a8}{cls:Str->ap}{E:XK}{ρ:aE}{r:R Bool}{i:Type}{k:Bool->R i}{e:St}{H:Hp}{g b Hs:Hp}{la:Nat->Option ap}{Q:Bool->Hp->Prop}{q:i->Prop}(f:Fr K g b la ρ e H Hs)
  (h:Fin K cls E H Hs (r.bind k) q) (m:∀d H' a,r=.ok d->cQ H Hs H' a->Fr K g b la ρ e H' a->Q d H'):Cy K cls E ρ r e H Q:=by
 refine⟨g,b,la,Hs,f,?_⟩;cases r with
 |ok d=>exact λH' a s=>m d H' a rfl s (f.step s)
 |ex c n=>exact h
 |no=>exact h
def JA{K:a8}{cls:Str->ap}{E:XK}{ρ:aE}{r:R (List D)}{i:Type}{k:List D->R i}{e:St}{H:Hp}{g b Hs:Hp}{la:Nat->Option ap}{Q:List V->Hp->Prop}{q:i->Prop}(f:Fr K g b la ρ e H Hs)
  (h:Fin K cls E H Hs (r.bind k) q) (m:∀d v H' a,r=.ok d->cQ H Hs H' a->Fr K g b la ρ e H' a->RDs K a v d->Q v H'):TAs K cls E ρ r e H Q:=by
 refine⟨g,b,la,Hs,f,?_⟩;cases r with
 |ok d=>exact λv H' a s r=>m d v H' a rfl s (f.step s) r
 |ex c n=>exact h
 |no=>exact h
def Qb{K:a8}{cls:Str->ap}{E:XK}{ρ:aE}{r:R (List D)}{i:Type}{k:List D->R i}{e:St}{H:Hp}{g b Hs:Hp}{la:Nat->Option ap}{Q:List V->Hp->Prop}{q:i->Prop}(f:Fr K g b la ρ e H Hs)
  (h:Fin K cls E H Hs (r.bind k) q) (m:∀d v H' a,r=.ok d->cQ H Hs H' a->Fr K g b la ρ e H' a->Wd K H' a v d->Q v H'):TBs K cls E ρ r e H Q:=by
 refine⟨g,b,la,Hs,f,?_⟩;cases r with
 |ok d=>exact λv H' a s r=>m d v H' a rfl s (f.step s) r
 |ex c n=>exact h
 |no=>exact h
def Fin.on{e:Type}{K:a8}{cls:Str->ap}{E:XK}{H Hs H' b:Hp}{r:R e}{q q':e->Prop}(h:Fin K cls E H Hs r q)(s:cQ H Hs H' b)(m:∀a,q a->q' a):Fin K cls E H' b r q':=by
 cases r with
 |ok a=>exact m a h
 |ex c n=>exact λf d g=>h f d (s.trans g)
 |no=>exact h
def IQ(ρ:aE)(i:Nat):R D:=match ρ[i]? with
 |some (Sl.shr d)=>.ok d
 |_=>.no
def IR(ρ:aE)(i:Nat):R D:=match ρ[i]? with
 |some (Sl.shr d)=>.ok d
 |some (Sl.own d)=>.ok d
 |some (Sl.lck d)=>.ok d
 |_=>.no
section
variable{c:C}{e a b:bj}{g ga gb:aE->R D}{pos:Pos}
def ah(i:Nat)(l:c.X.N[i]?=some x:=by rfl)(p:OR c.X.env.scope x:=by first|exact iq rfl|exact f9 (iq rfl)|exact f9 (f9 rfl))(n:(x==("__debug__" : Str))=false:=by decide)
  (k:(x==("__classdict__" : Str))=false:=by decide):JE c (.Name x pos) (λρ=>IQ ρ i):=.of λρ=>sS (r9 l p n k) λu H Q j=>by
 obtain⟨w,t,la,Hs,f,q⟩:=j;cases h:ρ[i]? with
 |none=>simp only[IQ,h] at q;exact q.elim
 |some s=>
  cases s with
  |shr d=>
   obtain⟨v,m,o⟩:=f.sh i d h;simp only[IQ,h] at q;exact⟨v,m,q v H Hs (.refl f.st.sub) o⟩
  |no=>simp only[IQ,h] at q;exact q.elim
  |own d=>simp only[IQ,h] at q;exact q.elim
  |lck d=>simp only[IQ,h] at q;exact q.elim
  |ow2 d=>simp only[IQ,h] at q;exact q.elim
theorem ai(i:Nat)(u:c.X.N[i]?=some x:=by rfl)(z:OR c.X.env.scope x:=by first|exact iq rfl|exact f9 (iq rfl)|exact f9 (f9 rfl))(y:(x==("__debug__" : Str))=false:=by decide)
  (l:(x==("__classdict__" : Str))=false:=by decide):JB c (.Name x pos) (λρ=>IR ρ i):=.of λρ=>sS (r9 u z y l) λB H Q n=>by
 obtain⟨E,A,la,Hs,f,q⟩:=n;cases h:ρ[i]? with
 |none=>simp only[IR,h] at q;exact q.elim
 |some s=>
  cases s with
  |shr d=>
   obtain⟨v,j,k⟩:=f.sh i d h;simp only[IR,h] at q;exact⟨v,j,q v H Hs (.refl f.st.sub) (.inl k)⟩
  |no=>simp only[IR,h] at q;exact q.elim
  |own d=>
   obtain⟨a,o,j,k,m,p,t⟩:=f.ow i d h;simp only[IR,h] at q;exact⟨_,j,q _ H Hs (.refl f.st.sub) (.inr ⟨a,o,rfl,k,m,t⟩)⟩
  |lck d=>
   obtain⟨a,o,j,k,m,p,t,w⟩:=f.lk i d h;simp only[IR,h] at q;exact⟨_,j,q _ H Hs (.refl f.st.sub) (.inr ⟨a,o,rfl,m,p,w⟩)⟩
  |ow2 d=>simp only[IR,h] at q;exact q.elim
def sU(h:PE c.X e (tC v))(r:∀Hs,RD c.X.K Hs v d):JE c e (λ_=>.ok d):=.of λρ=>sS h λk H Q i=>by obtain⟨l,j,la,Hs,f,q⟩:=i;exact q v H Hs (.refl f.st.sub) (r Hs)
def aG:JE c (.Constant (.int i) j pos) (λ_=>.ok (.int i)):=sU X6 λ_=>.int i
def kL:JE c (.Constant (.bool i) j pos) (λ_=>.ok (.bool i)):=sU Z4 λ_=>.bool i
def yn:JE c (.Constant .none j pos) (λ_=>.ok .none):=sU X7 λ_=>.none
def Eu:JE c (.Constant (.str i) j pos) (λ_=>.ok (.str i)):=sU X8 λ_=>.str i
def wY(f:Gl c.X x)(d:∃t,c.X.mg x=some (.int i t))(h:(x==("__debug__" : Str))=false:=by decide):JE c (.Name x pos) (λ_=>.ok (.int i)):=by
 obtain⟨t,d⟩:=d;exact sU (TK f d (v:=.int i) ⟨t,rfl⟩ h) λ_=>.int i
inductive rDI (K:a8) (h:D->D->R D) (x:V) (y:V) (H:Hp) (Q:VK):Prop
 |mk (Hs dx dy:_) (h0:dQ Hs H) (h1:RB K H Hs x dx) (h2:RB K H Hs y dy) (h3:∃d,h dx dy=.ok d/\∀v H' Hs',cQ H Hs H' Hs'->RD K Hs' v d->Q v H'):rDI K h x y H Q
def rD(K:a8)(h:D->D->R D):R2:=rDI K h
def wZ(X:Cx)(f:ag->ag->Sem ag)(h:D->D->R D):Prop:=sD X f (rD X.K h)/\∀x y c n,h x y≠.ex c n
def g2(ga gb:aE->R D)(h:D->D->R D):aE->R D:=λρ=>(ga ρ).bind λx=>(gb ρ).bind λy=>h x y
def two(I:∀x y c n,h x y≠.ex c n)(q:TR K cls E ρ (g2 ga gb h ρ) σ H Q):Ze (rD K h) (TB K cls E ρ (ga ρ)) (TB K cls E ρ (gb ρ)) σ H Q:=by
 obtain⟨O,L,la,Hs,f,q⟩:=q;refine one f q λx v N o t s1 s z=>?_;unfold g2 at q;rw[t,bind_ok] at q;refine one s (q.on s1 (q':=λ_=>True) λ_ _=>trivial) λy u P k M l m B=>?_;rw[M,bind_ok] at q;cases i:h x y with
 |ok d=>
  rw[i] at q;exact⟨k,x,y,m.st.sub,z.step l,B,d,i,λw p j A G=>q w p j (s1.trans (l.trans A)) G⟩
 |ex c n=>exact(I x y c n i).elim
 |no=>rw[i] at q;exact q.elim
def cz(ho:wZ c.X (ic op) h)(d:JB c a ga)(f:JB c b gb):JE c (.BinOp a op b pos) (g2 ga gb h):=.of λρ=>sS (VU ho.1 (d ρ) (f ρ)) λi H Q q=>two ho.2 q
def mE(ho:wZ c.X (bG op) h)(f:JB c a ga)(i:JB c b gb)(d:iM op b=false:=by first|exact Pp _|rfl):JE c (.Compare a [op] [b] pos) (g2 ga gb h):=.of λρ=>sS (TY ho.1 (f ρ) (i ρ) d) λj H Q q=>two ho.2 q
def eQ(g:aE->R D):aE->R Bool:=λρ=>(g ρ).bind λd=>match d with
 |.bool b=>.ok b
 |_=>.no
theorem ZH(q:Cy K cls E ρ (eQ g ρ) σ H Q):TR K cls E ρ (g ρ) σ H λx H'=>∃k,x=.bl k/\Q k H':=by
 obtain⟨o,m,la,Hs,f,q⟩:=q;refine Cz f q λd v i h j s1 n l=>?_;unfold eQ at q;rw[j,bind_ok] at q;cases l with
 |bool b=>exact⟨b,rfl,q i h s1⟩
 |_=>exact q.elim
def dg(ho:wZ c.X (bG op) h)(f:JB c a ga)(i:JB c b gb)(d:iM op b=false:=by first|exact Pp _|rfl):JT c (.Compare a [op] [b] pos) (eQ (g2 ga gb h)):=.of λρ=>ZG (TZ ho.1 (f ρ) (i ρ) d) λj H Q q=>two ho.2 (ZH q)
def eK(h:JE c e g)(he:∀d,xT e c.X.env d=(do let v <- d;mv e.pos;ID [v] (truthy v)):=by intro _;rfl):JT c e (eQ g):=.of λρ=>ZG (X9 (h ρ) he) λf H Q q=>ZH q
def ji(g:aE->R Bool):aE->R Bool:=λρ=>(g ρ).bind λb=>.ok (!b)
def qB(g h:aE->R Bool):aE->R Bool:=λρ=>(g ρ).bind λb=>if b then h ρ else .ok false
def IS(g h:aE->R Bool):aE->R Bool:=λρ=>(g ρ).bind λb=>if b then .ok true else h ρ
variable{gt gu:aE->R Bool}{bu:List bj}
def fX(h:JT c e gt):JT c (.UnaryOp .Not e pos) (ji gt):=.of λρ=>ZG (Xc (h ρ)) λm H Q q=>by
 obtain⟨o,l,la,Hs,f,q⟩:=q;refine Nq f q λd j i k s1 n=>?_;unfold ji at q;rw[k,bind_ok] at q;exact q j i s1
def mU(h:JT c a gt):JW c (.BoolOp .And [a] pos) gt:=.of λρ=>TM (h ρ)
def nN(h:JT c a gt):JW c (.BoolOp .Or [a] pos) gt:=.of λρ=>Xa (h ρ)
def qc(h:JT c a gt)(u:JW c (.BoolOp .And (b::bu) pos) gu):JW c (.BoolOp .And (a::b::bu) pos) (qB gt gu):=.of λρ=>mPW (Xb (h ρ) (u ρ)) λv H Q q=>by
 obtain⟨n,l,la,Hs,f,q⟩:=q;refine Nq f q λd m i s s1 o=>?_;unfold qB at q;rw[s,bind_ok] at q;cases d with
 |true=>exact wN ⟨n,l,la,i,o,q.on s1 λb k p j t=>k p j (s1.trans t)⟩
 |false=>exact wM (q m i s1)
def se(h:JT c a gt)(u:JW c (.BoolOp .Or (b::bu) pos) gu):JW c (.BoolOp .Or (a::b::bu) pos) (IS gt gu):=.of λρ=>mPW (Z5 (h ρ) (u ρ)) λv H Q q=>by
 obtain⟨n,l,la,Hs,f,q⟩:=q;refine Nq f q λd m i s s1 o=>?_;unfold IS at q;rw[s,bind_ok] at q;cases d with
 |false=>exact wM ⟨n,l,la,i,o,q.on s1 λb k p j t=>k p j (s1.trans t)⟩
 |true=>exact wN (q m i s1)
def JW.t(h:JW c e gt):JT c e gt:=.of λρ=>(h ρ).pt
def Db(g:aE->R D):aE->R D:=λρ=>(eQ g ρ).bind λb=>.ok (.bool (!b))
def JC(h:JE c e g):JE c (.UnaryOp .Not e pos) (Db g):=.of λρ=>sS (Xf (h ρ)) λm H Q q=>by
 refine ZH ?_;obtain⟨o,l,la,Hs,f,q⟩:=q;refine Nq f q λd j i k s1 n=>?_;unfold Db at q;rw[k,bind_ok] at q;exact q _ j i s1 (.bool _)
def mM(g h:aE->R D):aE->R D:=λρ=>(eQ g ρ).bind λb=>if b then h ρ else .ok (.bool false)
def yo(h:JE c a g):JE c (.BoolOp op [a] pos) g:=.of λρ=>Xd (h ρ)
def vC(h:JE c a ga)(u:JE c (.BoolOp .And (b::bu) pos) gb):JE c (.BoolOp .And (a::b::bu) pos) (mM ga gb):=.of λρ=>sS (Xe (h ρ) (u ρ)) λx H Q q=>by
 refine ZH ?_;obtain⟨n,l,la,Hs,f,q⟩:=q;refine Nq f q λd m i s s1 o=>?_;unfold mM at q;rw[s,bind_ok] at q;cases d with
 |true=>exact wN ⟨n,l,la,i,o,q.on s1 λb k v p j t w=>k v p j (s1.trans t) w⟩
 |false=>exact wM (q _ m i s1 (.bool _))
def ZI(t:aE->R Bool)(g h:aE->R D):aE->R D:=λρ=>(t ρ).bind λb=>if b then g ρ else h ρ
def We(s:JT c t gt)(u:JE c a ga)(w:JE c b gb):JE c (.IfExp t a b pos) (ZI gt ga gb):=.of λρ=>sS (Pi (s ρ) (u ρ) (w ρ)) λz H Q q=>by
 obtain⟨o,j,la,Hs,f,q⟩:=q;refine Nq f q λd y i x s1 p=>?_;unfold ZI at q;rw[x,bind_ok] at q;cases d with
 |true=>exact wN ⟨o,j,la,i,p,q.on s1 λb k v l h m n=>k v l h (s1.trans m) n⟩
 |false=>exact wM ⟨o,j,la,i,p,q.on s1 λb k v l h m n=>k v l h (s1.trans m) n⟩
def sV(ga gb d:aE->R D)(h h':D->D->R D):aE->R D:=λρ=>(ga ρ).bind λx=>(gb ρ).bind λy=>(h x y).bind λz=>match z with
 |.bool true=>(d ρ).bind λw=>h' y w
 |.bool false=>.ok (.bool false)
 |_=>.no
def aa(g:aE->R D)(f:aE->R (List D)):aE->R (List D):=λρ=>(g ρ).bind λd=>(f ρ).bind λds=>.ok (d::ds)
def aH:aE->R (List D):=λ_=>.ok []
def aJ:Np c [] aH:=.of λρ=>XX kJ λi H Q d=>by obtain⟨j,h,la,Hs,f,q⟩:=d;exact q [] H Hs (.refl f.st.sub) .nil
def ck:Uq c [] aH:=.of λρ=>XX kJ λi H Q d=>by obtain⟨j,h,la,Hs,f,q⟩:=d;exact q [] H Hs (.refl f.st.sub) .nil
def ac(h:JE c e g)(l:Np c es gs)(hs:aP (e::es) c.X.env=(false,eI e c.X.env)::aP es c.X.env:=by rfl):Np c (e::es) (aa g gs):=.of λρ=>XX (iR (h ρ) (l ρ) hs) λy H Q i=>by
 obtain⟨z,u,la,Hs,f,q⟩:=i;refine Cz f q λd v x m p s1 n s=>?_;unfold aa at q;rw[p,bind_ok] at q;refine JA n (q.on s1 (q':=λ_=>True) λ_ _=>trivial) λds B o j w k A t=>?_;rw[w,bind_ok] at q;exact q _ o j (s1.trans k) (.cons (s.same k.sh) t)
def bE(h:JB c e g)(l:Uq c es gs)(hs:aP (e::es) c.X.env=(false,eI e c.X.env)::aP es c.X.env:=by rfl):Uq c (e::es) (aa g gs):=.of λρ=>XX (iR (h ρ) (l ρ) hs) λy H Q i=>by
 obtain⟨z,u,la,Hs,f,q⟩:=i;refine one f q λd v x m p s1 n s=>?_;unfold aa at q;rw[p,bind_ok] at q;refine Qb n (q.on s1 (q':=λ_=>True) λ_ _=>trivial) λds B o j w k A t=>?_;rw[w,bind_ok] at q;exact q _ o j (s1.trans k) (.cons (s.step k) t)
def eZ(d:aE->R (List D))(k:List D->D):aE->R D:=λρ=>(d ρ).bind λds=>if ds.length<=1000 then .ok (k ds) else .no
def lM{x1}(h:Np c es gs):JE c (.Tuple es x1 pos) (eZ gs .tuple):=.of λρ=>sS (Xy (h ρ)) λt H Q d=>by
 obtain⟨u,o,la,Hs,f,q⟩:=d;refine JA f q λds v s m n s1 j k=>?_;unfold eZ at q;rw[n,bind_ok] at q;by_cases i:ds.length<=1000
 ·rw[if_pos i] at q;refine⟨cE (eX (by rw[k.length];exact i)),λp l=>q _ _ _ (s1.trans (.new j.st.sub l)) (.tuple bc (k.same (cQ.new j.st.sub l).sh))⟩
 ·rw[if_neg i] at q;exact q.elim
def kM(h:Np c es gs):JE c (.List es pos) (eZ gs .list):=.of λρ=>sS (vy (h ρ)) λt H Q d=>by
 obtain⟨u,o,la,Hs,f,q⟩:=d;refine JA f q λds v s m n s1 j k=>?_;unfold eZ at q;rw[n,bind_ok] at q;by_cases i:ds.length<=1000
 ·rw[if_pos i] at q;refine⟨cE (eX (by rw[k.length];exact i)),λp l=>q _ _ _ (s1.trans (.new j.st.sub l)) (.list (.of bc) (k.same (cQ.new j.st.sub l).sh))⟩
 ·rw[if_neg i] at q;exact q.elim
end
end J
namespace J
open PySem PySem.Spec PyProof.Rows L2
def fS:D->D->R D
 |.int i,.int j=>.ok (.int (i+j))
 |.str x,.str y=>if x.length+y.length<=1000 then .ok (.str (x++y)) else .no
 |.tuple xs,.tuple ys=>if xs.length+ys.length<=1000 then .ok (.tuple (xs++ys)) else .no
 |.list xs,.list ys=>if xs.length+ys.length<=1000 then .ok (.list (xs++ys)) else .no
 |_,_=>.no
inductive Qc (K:a8) (x:V) (y:V) (H:Hp) (Q:VK):Prop
 |mk (l b xs zs:_) (h0:x=.ref l) (h1:y=.ref b) (h2:qy K H l xs) (h3:qy K H b zs) (h4:xs.length+zs.length<=sizeLine) (h5:∀p,H p=none->Q (.ref p) (upd H p (.lst (xs++zs)))):Qc K x y H Q
def ZJ(K:a8):R2:=Qc K
def Ur:sD X (ic .Add) (ZJ X.K):=by
 intro k s σ H x y v u Q I A N h;obtain⟨l,b,xs,U,rfl,rfl,w,P,G,q⟩:=h;cases A;cases N;obtain⟨c,r,⟨o,n,e,p,i,g⟩,z⟩:=I.list w;obtain⟨a,t,⟨B,M,f,d,j,m⟩,z2⟩:=I.list P;obtain⟨Y,T,k3,L⟩:=o;obtain⟨m1,m2,S,O⟩:=B;simp only at p i g d j m;subst p i g d j m;refine C6 ⟨_,e,rfl⟩ ⟨_,f,rfl⟩ noFill_list_add seq_list_add PySem.F.slot_list_add PySem.F.entry_list_add (PySem.F.args_list_add_2 _ _) (PyProof.Rows.list_addW l b _ _ n M _ _ L O (by rw[a_,a_,<- r.length,<- t.length];exact G)) ⟨e,f,?_⟩;have E:c.toArray++a.toArray=(c++a).toArray:=by simp
 rw[E];exact⟨.ref _,_,I.lnew (t':=s.toks) (r.append t) (by rw[aI];omega),rfl,q _ I.fresh⟩
inductive Qd (K:a8) (x:V) (y:V) (H:Hp) (Q:VK):Prop
 |mk (a b ys:_) (h0:x=.ref a) (h1:y=.ref b) (h2:m8 K H a []) (h3:m8 K H b ys) (h4:Q (.ref b) H):Qd K x y H Q
def ZK(K:a8):R2:=Qd K
def Us:sD X (ic .Add) (ZK X.K):=by
 intro g s M H x y v u Q I m w h;obtain⟨a,b,ys,rfl,rfl,l,B,q⟩:=h;cases m;cases w;obtain⟨p,r,⟨⟨L,G,S,o⟩,e,j,n,d⟩,z⟩:=I.tuple l;obtain⟨f,P,⟨⟨T,N,E,A⟩,k,c,t,i⟩,O⟩:=I.tuple B;simp only at j d c i;subst j d c i;cases r;exact C6 ⟨_,e,rfl⟩ ⟨_,k,rfl⟩ D_ MI qY qw (pU _ _)
  (PyProof.Rows.tuple_addW0 a b _ _ n t _ _ o A rfl) ⟨e,k,⟨.ref b,H,I,rfl,q⟩⟩
def e7:wZ X (ic .Add) fS:=by
 refine⟨λf s z H x y v u Q I A B ⟨Hs,N,L,sub,i,l,d,g,q⟩=>?_,λx y c n=>?_⟩
 ·unfold fS at g;split at g
  ·cases g;exact Xr f s z H x y v u Q I A B ⟨_,_,i.int,l.int,q _ H Hs (.refl sub) (.int _)⟩
  ·split at g
   ·rename_i w
    cases g;exact Jn f s z H x y v u Q I A B ⟨_,_,i.str,l.str,cE (eX w),q _ H Hs (.refl sub) (.str _)⟩
   ·cases g
  ·split at g
   ·rename_i xs ys w
    cases g;obtain⟨a,t,rfl,G,o,_⟩:=i.tuple sub;obtain⟨b,k,rfl,K,m,_⟩:=l.tuple sub;have j:t.length+k.length<=sizeLine:=by rw[o.length,m.length];exact cE (eX w)
    have big:∀p,H p=none->Q (.ref p) (upd H p (.tup (t++k))):=λp E=>q _ _ _ (.new sub E) (.tuple bc ((o.append m).same (cQ.new sub E).sh));cases t with
    |nil=>
     cases o;refine Us f s z H _ _ v u Q I A B ⟨a,b,k,rfl,rfl,G,K,?_⟩;rcases l with l|⟨_,_,_,_,_,ow⟩
     ·exact q _ H Hs (.refl sub) (by simpa using l)
     ·cases ow
    |cons O M=>
     refine U5 f s z H _ _ v u Q I A B ⟨a,b,_,k,rfl,rfl,G,K,by simp,j,λe=>?_,λ_=>big⟩;subst e;cases m;rcases i with i|⟨_,_,_,_,_,ow⟩
     ·exact q _ H Hs (.refl sub) (by simpa using i)
     ·cases ow
   ·cases g
  ·split at g
   ·rename_i xs ys w
    cases g;obtain⟨a,t,rfl,G,o⟩:=i.list sub;obtain⟨b,k,rfl,K,m⟩:=l.list sub;have j:t.length+k.length<=sizeLine:=by rw[o.length,m.length];exact cE (eX w)
    exact Ur f s z H _ _ v u Q I A B ⟨a,b,t,k,rfl,rfl,G,K,j,λp E=>q _ _ _ (.new sub E) (.list (.of bc) ((o.append m).same (cQ.new sub E).sh))⟩
   ·cases g
  ·cases g
 ·unfold fS;split<;>(try split)<;>exact λh=>by cases h
def JD(C:Int->Int->Bool)(k:Int->Int->D):D->D->R D
 |.int i,.int j=>if C i j then .ok (k i j) else .no
 |_,_=>.no
def JF{f:ag->ag->Sem ag}{C:Int->Int->Bool}{P:Int->Int->Prop}{k:Int->Int->D}{e:Int->Int->V}(h:sD X f (rI P e))(w:∀i j,C i j=true->P i j)(z:∀Hs i j,RD X.K Hs (e i j) (k i j)):wZ X f (JD C k):=by
 refine⟨λb s m H x y v u Q I p t ⟨Hs,B,A,sub,g,o,d,a,q⟩=>?_,λx y c n=>?_⟩
 ·unfold JD at a;split at a
  ·split at a
   ·rename_i l
    cases a;exact h b s m H x y v u Q I p t ⟨_,_,g.int,o.int,w _ _ l,q _ H Hs (.refl sub) (z _ _ _)⟩
   ·cases a
  ·cases a
 ·unfold JD;split<;>(try split)<;>exact λh=>by cases h
def Dc(i j:Int):Bool:=(decide (-(2 ^ 64)<i)&&decide (i<2 ^ 64))||(decide (-(2 ^ 64)<j)&&decide (j<2 ^ 64))
def zC:=JD Dc λi j=>.int (i*j)
def Nr:=JD (λ_ j=>decide (0<j)) λi j=>.int (i % j)
def Qe:=JD (λ_ j=>decide (0<j)&&decide (j<1073741824)) λi j=>.int (i / j)
def sW:wZ X (ic .Mult) zC:=JF Xs (λi j h=>by
 unfold Dc at h;simp only[jg,aU,decide_eq_true_eq] at h;exact h) λ_ _ _=>.int _
def Ev:wZ X (ic .Mod) Nr:=JF Xt (λi j h=>of_decide_eq_true h) λ_ _ _=>.int _
def Ut:wZ X (ic .FloorDiv) Qe:=JF TW (λi j h=>by
 simp only[aU,decide_eq_true_eq] at h;exact h) λ_ _ _=>.int _
def mF(a:Bool)(x y:D):R D:=if x.canLay0&&y.canLay0&&decide (min x.depth y.depth<=60) then .ok (.bool (if a then !aR x y else aR x y)) else .no
mutual
theorem rf:∀d:D,d.canLay0=true->oO d=true
 |.none,_=>rfl
 |.bool _,_=>rfl
 |.int _,_=>rfl
 |.str _,_=>rfl
 |.list xs,h=>by
  simp only[dk] at h;simp only[oO];exact lays_noD xs h
 |.tuple xs,h=>by
  simp only[dk] at h;simp only[oO];exact lays_noD xs h
 |.dict _,h=>by simp[dk] at h
theorem lays_noD:∀d:List D,bW d=true->noDs d=true
 |[],_=>rfl
 |x::r,h=>by
  simp only[bW,aU] at h;simp only[noDs,aU];exact⟨rf x h.1,lays_noD r h.2⟩
end
def Qf(h:sD X f (XS X.K neg)):wZ X f (mF neg):=by
 refine⟨λb s j H x y v u Q I m o ⟨Hs,k,g,sub,i,l,d,e,q⟩=>?_,λx y c n=>?_⟩
 ·unfold mF at e;split at e
  ·rename_i a
   simp only[aU,decide_eq_true_eq] at a;cases e;exact h b s j H x y v u Q I m o ⟨k,g,(i.full sub).rep (rf _ a.1.1),(l.full sub).rep (rf _ a.1.2),a.1.1,a.1.2,a.2,q _ H Hs (.refl sub) (.bool _)⟩
  ·cases e
 ·unfold mF;split<;>exact λh=>by cases h
def qC(a:X.A.units+64<fZ):wZ X (bG .Eq) (mF false):=Qf (XT a)
def Av(a:X.A.units+64<fZ):wZ X (bG .NotEq) (mF true):=Qf (XU a)
def Nt(k:Int->Int->Bool)(t:Str->Str->Bool):D->D->R D
 |.int i,.int j=>.ok (.bool (k i j))
 |.str x,.str y=>.ok (.bool (t x y))
 |_,_=>.no
def Qg(p:sD X f (Xn λi j=>.bl (k i j)))(w:sD X f (λx y H Q=>∃i j,x=.str i/\y=.str j/\Q (.bl (t i j)) H)):wZ X f (Nt k t):=by
 refine⟨λa s g H x y v u Q I m o ⟨Hs,A,z,sub,e,l,d,b,q⟩=>?_,λx y c n=>?_⟩
 ·unfold Nt at b;split at b
  ·cases b;exact p a s g H x y v u Q I m o ⟨_,_,e.int,l.int,q _ H Hs (.refl sub) (.bool _)⟩
  ·cases b;exact w a s g H x y v u Q I m o ⟨_,_,e.str,l.str,q _ H Hs (.refl sub) (.bool _)⟩
  ·cases b
 ·unfold Nt;split<;>exact λh=>by cases h
def JH:=Nt (λi j=>decide (i<j)) sd
def Wf:=Nt (λi j=>decide (i<=j)) λx y=>!sd y x
def YY:D->D->R D
 |.int i,.int j=>.ok (.bool (decide (j<i)))
 |_,_=>.no
def Dd:wZ X (bG .Lt) JH:=Qg Zh N5
def De:wZ X (bG .LtE) Wf:=Qg Zi Nl
def Wg:wZ X (bG .Gt) YY:=by
 refine⟨λa s f H x y v u Q I i j ⟨Hs,l,k,sub,e,g,d,b,q⟩=>?_,λx y c n=>?_⟩
 ·unfold YY at b;split at b
  ·cases b;exact Zj a s f H x y v u Q I i j ⟨_,_,e.int,g.int,q _ H Hs (.refl sub) (.bool _)⟩
  ·cases b
 ·unfold YY;split<;>exact λh=>by cases h
def JJ:D->Bool
 |.none=>true
 |_=>false
def Gp(a:Bool):D->D->R D
 |x,.none=>.ok (.bool (if a then !JJ x else JJ x))
 |_,_=>.no
def Lj{K:a8}{H Hs:Hp}{v:V}{d:D}(h:RB K H Hs v d):decide (v=.non)=JJ d:=by
 rcases h with h|⟨a,o,rfl,_,_,h⟩
 ·cases h<;>rfl
 ·cases h<;>rfl
def Wh:wZ X (bG .Is) (Gp false):=by
 refine⟨λa s f H x y v u Q I i j ⟨Hs,l,k,sub,e,g,d,b,q⟩=>?_,λx y c n=>?_⟩
 ·unfold Gp at b;split at b
  ·cases b;exact Xu a s f H x y v u Q I i j ⟨g.non,by rw[Lj e];exact q _ H Hs (.refl sub) (.bool _)⟩
  ·cases b
 ·unfold Gp;split<;>exact λh=>by cases h
def Qh:wZ X (bG .IsNot) (Gp true):=by
 refine⟨λa s f H x y v u Q I i j ⟨Hs,l,k,sub,e,g,d,b,q⟩=>?_,λx y c n=>?_⟩
 ·unfold Gp at b;split at b
  ·cases b;exact TX a s f H x y v u Q I i j ⟨g.non,by rw[Lj e];exact q _ H Hs (.refl sub) (.bool _)⟩
  ·cases b
 ·unfold Gp;split<;>exact λh=>by cases h
def mO:D->Bool
 |.none=>true
 |.bool _=>true
 |.int _=>true
 |.str _=>true
 |_=>false
def oG(a:Bool):D->D->R D
 |x,.list ys=>if mO x&&ys.all mO then .ok (.bool (if a then !(ys.any λy=>aR y x) else ys.any λy=>aR y x)) else .no
 |x,.tuple ys=>if mO x&&ys.all mO then .ok (.bool (if a then !(ys.any λy=>aR y x) else ys.any λy=>aR y x)) else .no
 |_,_=>.no
def Lk{K:a8}{H:Hp}{v:V}{d:D}(h:RD K H v d)(f:mO d=true):sP v=true:=by
 cases h<;>first|rfl|cases f
def Gq{K:a8}{H Hs:Hp}{v:V}{d:D}(h:RB K H Hs v d)(f:mO d=true):sP v=true:=by
 rcases h with h|⟨a,o,rfl,_,_,h⟩
 ·exact Lk h f
 ·cases h<;>cases f
def Gr{K:a8}{H:Hp}{a:List V}:∀{ds:List D},RDs K H a ds->ds.all mO=true->a.all sP=true:=by
 induction a with
 |nil=>intro ds _ _;rfl
 |cons x r b=>
  intro ds h f;cases h with
  |cons h t=>
   rw[qR,aU] at f ⊢;exact⟨Lk h f.1,b t f.2⟩
def XY{K:a8}{H k Hs:Hp}{v u:V}{d e:D}(h:RD K H v d)(j:RB K k Hs u e)(f:mO d=true)(g:mO e=true):U8 v u=aR d e:=by
 have c:RD K Hs u e:=by
  rcases j with j|⟨a,o,rfl,_,_,j⟩
  ·exact j
  ·cases j<;>cases g
 cases h with
 |list _ _=>cases f
 |tuple _ _=>cases f
 |dictK _ _=>cases f
 |dictT _ _ _=>cases f
 |dictF _ _ _=>cases f
 |none=>cases c<;>first|rfl|cases g
 |bool b=>cases c<;>first|rfl|cases g
 |int i=>cases c<;>first|rfl|cases g
 |str x=>cases c<;>first|rfl|cases g
theorem JK{K:a8}{H d Hs:Hp}{u:V}{e:D}(a:RB K d Hs u e)(b:mO e=true):∀{c:List V}{ds:List D},RDs K H c ds->ds.all mO=true->inV u c=ds.any λy=>aR y e
 |_,_,.nil,_=>rfl
 |_,_,.cons h t,f=>by
  rw[qR,aU] at f;have:=JK a b t f.2;unfold inV at this ⊢;rw[eT,eT,this,XY h a f.1 b]
def Qi(h:sD X f (rIn X.K neg)):wZ X f (oG neg):=by
 refine⟨λg s m H x y v u Q I p t ⟨Hs,z,w,sub,j,o,d,e,q⟩=>?_,λx y c n=>?_⟩
 ·unfold oG at e;split at e
  ·split at e
   ·rename_i a
    simp only[aU] at a;cases e;obtain⟨b,l,rfl,k,i⟩:=o.list sub;refine h g s m H _ _ v u Q I p t ⟨b,l,rfl,.inl k,Gq j a.1,Gr i a.2,?_⟩;rw[JK j a.1 i a.2];exact q _ H Hs (.refl sub) (.bool _)
   ·cases e
  ·split at e
   ·rename_i a
    simp only[aU] at a;cases e;obtain⟨b,l,rfl,k,i,_⟩:=o.tuple sub;refine h g s m H _ _ v u Q I p t ⟨b,l,rfl,.inr k,Gq j a.1,Gr i a.2,?_⟩;rw[JK j a.1 i a.2];exact q _ H Hs (.refl sub) (.bool _)
   ·cases e
  ·cases e
 ·unfold oG;split<;>(try split)<;>exact λh=>by cases h
def ve:wZ X (bG .In) (oG false):=Qi N8
def nO:wZ X (bG .NotIn) (oG true):=Qi Ee
end J
namespace J
open PySem L2
section
variable{c:C}{e a b:bj}{g ga gb:aE->R D}{pos:Pos}
def JM:D->D->R D
 |.list xs,.int i=>match IP xs i with
  |some d=>.ok d
  |none=>.no
 |.tuple xs,.int i=>match IP xs i with
  |some d=>.ok d
  |none=>.no
 |.str x,.int i=>if x.length<=1000 then(match IP x.cps.toList i with
  |some k=>.ok (.str ⟨#[k]⟩)
  |none=>.no) else .no
 |_,_=>.no
def Ll(h:RDs K H vs ds)(e:IP ds i=some d):∃v,IP vs i=some v/\RD K H v d:=by
 unfold IP at e ⊢;rw[h.length];cases f:XC ds.length i with
 |none=>rw[f] at e;cases e
 |some j=>
  rw[f] at e;exact h.get' e
def q1n:Zp X (rD X.K JM):=by
 intro t E i s n H x y v u Q I A B h;obtain⟨Hs,O,N,sub,m,z,d,f,q⟩:=h;unfold JM at f;split at f
 ·split at f
  ·rename_i d' he
   cases f;obtain⟨p,L,rfl,l,G⟩:=m.list sub;obtain⟨w,o,j⟩:=Ll G he;exact wI t E i s n H _ _ v u Q I A B ⟨p,L,_,w,rfl,z.int,l,o,q _ H Hs (.refl sub) j⟩
  ·cases f
 ·split at f
  ·rename_i d' he
   cases f;obtain⟨p,L,rfl,l,G,_⟩:=m.tuple sub;obtain⟨w,o,j⟩:=Ll G he;exact XD t E i s n H _ _ v u Q I A B ⟨p,L,_,w,rfl,z.int,l,o,q _ H Hs (.refl sub) j⟩
  ·cases f
 ·split at f
  ·rename_i M
   split at f
   ·rename_i k he
    cases f;exact XE t E i s n H _ _ v u Q I A B ⟨_,_,k,m.str,z.int,cE (eX M),he,q _ H Hs (.refl sub) (.str _)⟩
   ·cases f
  ·cases f
 ·cases f
def XZ(x y:D)(c:Str)(n:Option D):JM x y≠.ex c n:=by
 unfold JM;split<;>(try split)<;>(try split)<;>exact λh=>by cases h
def ZL(d:JB c a ga)(f:JB c b gb)(hs:wH b:=by exact λ_ _=>rfl):JE c (.Subscript a b pos) (g2 ga gb JM):=.of λρ=>sS (VY q1n (d ρ) (f ρ) hs) λh H Q q=>two XZ q
def Aw(ds:List D)(lo d:Option Int):List D:=(ds.drop (HT.jK ds.length 0 lo)).take (HT.jK ds.length ds.length d-HT.jK ds.length 0 lo)
def Lm(h:RDs K H vs ds)(lo d:Option Int):RDs K H (FZ vs lo d) (Aw ds lo d):=by
 unfold FZ Aw;rw[h.length];exact(h.drop _).take _
def Ln:D->Option Int->Option Int->R D
 |.list xs,lo,d=>.ok (.list (Aw xs lo d))
 |.tuple xs,lo,d=>.ok (.tuple (Aw xs lo d))
 |_,_,_=>.no
inductive Wi (K:a8) (x:V) (lo:Option Int) (hi:Option Int) (H:Hp) (Q:VK):Prop
 |mk (Hs dx:_) (h0:dQ Hs H) (h1:RB K H Hs x dx) (h2:∃d,Ln dx lo hi=.ok d/\∀v H' Hs',cQ H Hs H' Hs'->RD K Hs' v d->Q v H'):Wi K x lo hi H Q
def q1o(K:a8):V->Option Int->Option Int->Hp->VK->Prop:=Wi K
def q1p{X:Cx}:Zn X (q1o X.K):=by
 intro f s y H x v z A lo j B Q I w hs pl E h;obtain⟨Hs,G,sub,n,d,m,q⟩:=h;unfold Ln at m;split at m
 ·cases m;obtain⟨p,i,rfl,t,o⟩:=n.list sub;exact U7 f s y H _ v z A lo j B Q I w hs pl E ⟨p,i,rfl,t,λl k=>q _ _ _ (.new sub k) (.list (.of bc) ((Lm o lo j).same (cQ.new sub k).sh))⟩
 ·cases m;obtain⟨p,i,rfl,t,o,_⟩:=n.tuple sub;by_cases u:HT.jK i.length 0 lo=0/\HT.jK i.length i.length j=i.length
  ·refine Ul f s y H _ v z A lo j B Q I w hs pl E ⟨p,i,rfl,t,u,?_⟩;rcases n with n|⟨_,_,_,_,_,ow⟩
   ·refine q _ H Hs (.refl sub) ?_;unfold Aw;rw[<- o.length,u.1,u.2,o.length];simpa using n
   ·cases ow
  ·exact XB f s y H _ v z A lo j B Q I w hs pl E ⟨p,i,rfl,t,u,λl k=>q _ _ _ (.new sub k) (.tuple bc ((Lm o lo j).same (cQ.new sub k).sh))⟩
 ·cases m
inductive ZM (K:a8) (cls:Str->ap) (E:XK) (ρ:aE) (r:R (Option Int)) (σ:St) (H:Hp) (Q:Option Int->Hp->Prop):Prop
 |mk (H0 Hs0:Hp) (la:Nat->Option ap) (Hs:Hp) (f:Fr K H0 Hs0 la ρ σ H Hs) (q:Fin K cls E H Hs r λd=>∀H' Hs',cQ H Hs H' Hs'->Q d H'):ZM K cls E ρ r σ H Q
def TOr(K:a8)(cls:Str->ap)(E:XK)(ρ:aE)(r:R (Option Int)):TO:=ZM K cls E ρ r
structure JO (c:C) (e:Option bj) (g:aE->R (Option Int)):Prop where of ::
 run:∀ ρ,PO c.X e (TOr c.X.K c.cls c.E ρ (g ρ))
instance{c:C}{e:Option bj}{g:aE->R (Option Int)}:CoeFun (JO c e g) (λ_=>∀ ρ,PO c.X e (TOr c.X.K c.cls c.E ρ (g ρ))):=⟨JO.run⟩
def mPO{X:Cx}{e:Option bj}{t t':TO}(h:PO X e t)(m:∀d H Q,t' d H Q->t d H Q):PO X e t':=λf s d H Q I q=>h f s d H Q I (m d H Q q)
def IT:aE->R (Option Int):=λ_=>.ok none
def Ew(g:aE->R D):aE->R (Option Int):=λρ=>(g ρ).bind λd=>match d with
 |.int i=>.ok (some i)
 |_=>.no
def w_:JO c none IT:=.of λρ=>mPO U3 λi H Q d=>by obtain⟨j,h,la,Hs,f,q⟩:=d;exact q H Hs (.refl f.st.sub)
def rg(h:JE c e g):JO c (some e) (Ew g):=.of λρ=>mPO (U4 (h ρ)) λp H Q k=>by
 obtain⟨s,o,la,Hs,f,q⟩:=k;refine Cz f q λd v l j m s1 t n=>?_;unfold Ew at q;rw[m,bind_ok] at q;cases n with
 |int i=>exact⟨i,rfl,q l j s1⟩
 |_=>exact q.elim
theorem ZN{K:a8}{cls:Str->ap}{E:XK}{ρ:aE}{r:R (Option Int)}{p:Type}{k:Option Int->R p}{l:St}{H:Hp}{o j Hs:Hp}{la:Nat->Option ap}{Q:Option Int->Hp->Prop}{q:p->Prop}(f:Fr K o j la ρ l H Hs)
  (h:Fin K cls E H Hs (r.bind k) q) (m:∀d H' i,r=.ok d->cQ H Hs H' i->Fr K o j la ρ l H' i->Q d H'):TOr K cls E ρ r l H Q:=by
 refine⟨o,j,la,Hs,f,?_⟩;cases r with
 |ok d=>exact λH' i s=>m d H' i rfl s (f.step s)
 |ex c n=>exact h
 |no=>exact h
def FM(g:aE->R D)(d f:aE->R (Option Int)):aE->R D:=λρ=>(g ρ).bind λx=>(d ρ).bind λl=>(f ρ).bind λh=>Ln x l h
def qD{lo t:Option bj}{p s:aE->R (Option Int)}{y:Pos}(he:JB c e g)(B:JO c lo p)(P:JO c t s):JE c (.Subscript e (.Slice lo t none y) pos) (FM g p s):=.of λρ=>sS (Px q1p (he ρ) (B ρ) (P ρ)) λY H Q j=>by
 obtain⟨H0,T,la,Hs,f,q⟩:=j;refine one f q λd v X I O s1 M S=>?_;unfold FM at q;rw[O,bind_ok] at q;refine ZN M (q.on s1 (q':=λ_=>True) λ_ _=>trivial) λl H2 N U o G=>?_;rw[U,bind_ok] at q;refine ZN G (q.on (s1.trans o) (q':=λ_=>True) λ_ _=>trivial) λh H3 k A u L=>?_;rw[A,bind_ok] at q;cases i:Ln d l h with
 |ok z=>rw[i] at q;exact⟨k,d,L.st.sub,(S.step o).step u,z,i,λw E m x K=>q w E m (s1.trans (o.trans (u.trans x))) K⟩
 |ex c n=>unfold Ln at i;split at i<;>cases i
 |no=>rw[i] at q;exact q.elim
inductive rCI (K:a8) (h:List D->R D) (xs:List V) (H:Hp) (Q:VK):Prop
 |mk (Hs ds:_) (h0:dQ Hs H) (h1:Wd K H Hs xs ds) (h2:∃d,h ds=.ok d/\∀v H' Hs',cQ H Hs H' Hs'->RD K Hs' v d->Q v H'):rCI K h xs H Q
def rC(K:a8)(h:List D->R D):List V->Hp->VK->Prop:=rCI K h
def Nu(X:Cx)(f:ag)(h:List D->R D):Prop:=ki X f (rC X.K h)/\∀x c n,h x≠.ex c n
def cw(d:aE->R (List D))(h:List D->R D):aE->R D:=λρ=>(d ρ).bind h
def Qj{K:a8}{cls:Str->ap}{E:XK}{h:List D->R D}{m:aE->R (List D)}{ρ:aE}{l:St}{H:Hp}{Q:VK}(y:∀x c n,h x≠.ex c n)(q:TR K cls E ρ (cw m h ρ) l H Q):YW (rC K h) (TBs K cls E ρ (m ρ)) l H Q:=by
 obtain⟨B,z,la,Hs,f,q⟩:=q;refine Qb f q λds G A k s s1 p t=>?_;unfold cw at q;rw[s,bind_ok] at q;cases i:h ds with
 |ok d=>
  rw[i] at q;exact⟨k,ds,p.st.sub,t,d,i,λw o j u v=>q w o j (s1.trans u) v⟩
 |ex c n=>exact(y ds c n i).elim
 |no=>rw[i] at q;exact q.elim
variable{es:List bj}{gs:aE->R (List D)}{x:Str}{p:Pos}{id T:String}{h:List D->R D}
def cf(i:Nu c.X (.builtin id) h)(n:Gl c.X x)(j:c.X.mg x=none)(m:jq x=some (.builtin id))(k:Uq c (e::es) gs)(l:x≠"__name__":=by decide)(d:(x==("__debug__" : Str))=false:=by decide)
  (he:aP (e::es) c.X.env=(false,eI e c.X.env)::aP es c.X.env:=by rfl) (f:(iz pos (aP es c.X.env)).any (·.1)=false:=by rfl):JE c (.Call (.Name x p) (e::es) [] pos) (cw gs h):=.of λρ=>sS (wF i.1 n j m (k ρ) l d he f) λo H Q q=>Qj i.2 q
def gJ(i:Nu c.X (.type T) h)(n:Gl c.X x)(j:c.X.mg x=none)(m:jq x=some (.type T))(k:Uq c (e::es) gs)(l:x≠"__name__":=by decide)(d:(x==("__debug__" : Str))=false:=by decide)
  (he:aP (e::es) c.X.env=(false,eI e c.X.env)::aP es c.X.env:=by rfl) (f:(iz pos (aP es c.X.env)).any (·.1)=false:=by rfl):JE c (.Call (.Name x p) (e::es) [] pos) (cw gs h):=.of λρ=>sS (D1 i.1 n j m (k ρ) l d he f) λo H Q q=>Qj i.2 q
end
def Wd.one(h:Wd K H Hs xs [d]):∃x,xs=[x]/\RB K H Hs x d:=by
 cases h with|cons a t=>cases t;exact⟨_,rfl,a⟩
def iT(h:D->R D):List D->R D
 |[d]=>h d
 |_=>.no
def sX(m:∀d c n,h d≠.ex c n)
  (j:∀a s e H x u Q Hs d d',cb X a e H s->eu x u->dQ Hs H->RB X.K H Hs x d->h d=.ok d'->(∀v H' b,cQ H Hs H' b->RD X.K b v d'->Q v H')->aq (ax X.prog X.w) X.A (call f [u]) (EP X a e Q) X.xe s):Nu X f (iT h):=by
 refine⟨λa s e H xs o Q I r ⟨Hs,ds,sub,l,d,g,q⟩=>?_,λx c n=>?_⟩
 ·unfold iT at g;split at g
  ·obtain⟨x,rfl,i⟩:=l.one;obtain⟨u,rfl,k⟩:=lG r;exact j a s e H x u Q Hs _ _ I k sub i g q
  ·cases g
 ·unfold iT;split
  ·exact m _ _ _
  ·exact λh=>by cases h
def mf:D->R D
 |.list xs=>.ok (.int xs.length)
 |.tuple xs=>.ok (.int xs.length)
 |.str x=>if x.length<=1000 then .ok (.int x.length) else .no
 |_=>.no
def RDk.length:∀{ds:List (D×D)},RDk K H vs ds->vs.length=ds.length:=by
 induction vs with
 |nil=>intro ds h;cases h;rfl
 |cons x r c=>intro ds h;cases h with|cons a b=>exact congrArg (· + 1) (c b)
theorem RDt.length:∀{a:List (List gY×V)}{ds:List (D×D)},RDt K H a ds->a.length=ds.length
 |_,_,.nil=>rfl
 |_,_,.cons _ t=>by simp[RDt.length t]
def RB.dict(sub:dQ Hs H)(h:RB K H Hs v (.dict ds)):∃a,v=.ref a/\((∃b,H a=some (.dK b)/\RDk K Hs b ds)\/(∃b,H a=some (.dT b)/\b≠[]/\RDt K Hs b ds)\/∃o b es,ds=(.none,.none)::es/\H a=some (.frz o (.dT b))/\b≠[]/\RDt K Hs b es):=by
 rcases h with h|⟨a,o,rfl,h2,h3,h4⟩
 ·cases h with
  |dictK q r=>exact⟨_,rfl,.inl ⟨_,sub _ _ q,r⟩⟩
  |dictT q n r=>exact⟨_,rfl,.inr (.inl ⟨_,sub _ _ q,n,r⟩)⟩
  |dictF q n r=>exact⟨_,rfl,.inr (.inr ⟨_,_,_,rfl,sub _ _ q,n,r⟩)⟩
 ·cases h4 with
  |dK r=>exact⟨a,rfl,.inl ⟨_,h2,r⟩⟩
  |dT n r=>exact⟨a,rfl,.inr (.inl ⟨_,h2,n,r⟩)⟩
  |dF n r=>exact⟨a,rfl,.inr (.inr ⟨_,_,_,rfl,h2,n,r⟩)⟩
def j8:Nu X (.builtin "len") (iT mf):=by
 refine sX (λd c n=>?_) λb s i H x u Q Hs d d' I j sub g e q=>?_
 ·unfold mf;split<;>(try split)<;>exact λh=>by cases h
 ·unfold mf at e;split at e
  ·cases e;obtain⟨a,l,rfl,f,k⟩:=g.list sub;refine wK b s i H _ _ Q I (.cons j .nil) ⟨a,l,rfl,.inl f,?_⟩;rw[k.length];exact q _ H Hs (.refl sub) (.int _)
  ·cases e;obtain⟨a,l,rfl,f,k,_⟩:=g.tuple sub;refine wK b s i H _ _ Q I (.cons j .nil) ⟨a,l,rfl,.inr f,?_⟩;rw[k.length];exact q _ H Hs (.refl sub) (.int _)
  ·split at e
   ·rename_i m
    cases e;exact Ef b s i H _ _ Q I (.cons j .nil) ⟨_,by rw[g.str],cE (eX m),q _ H Hs (.refl sub) (.int _)⟩
   ·cases e
  ·cases e
def Gs(T:String)(d:D):Bool:=match T,d with
 | "str",.str _=>true
 | "int",.int _=>true
 | "int",.bool _=>true
 | "bool",.bool _=>true
 | "list",.list _=>true
 | "tuple",.tuple _=>true
 |_,_=>false
def Ax(g:aE->R D)(T:String):aE->R D:=λρ=>(g ρ).bind λd=>if oO d then .ok (.bool (Gs T d)) else .no
def Uu(T:String)(a:T="str"\/T="int"\/T="bool"\/T="list"\/T="tuple")(h:oO d=true):sF K (.type (tyD d)) (.type T)=some (Gs T d):=by
 rcases a with rfl|rfl|rfl|rfl|rfl<;>cases d<;>first|rfl|simp[oO] at h
def sY(h:JB c e g)(i:Gl c.X "isinstance")(s:c.X.mg "isinstance"=none)(m:Gl c.X T)(y:c.X.mg T=none)(z:jq T=some (.type Ts))
  (k:Ts="str"\/Ts="int"\/Ts="bool"\/Ts="list"\/Ts="tuple")
  (u:T≠"__name__":=by decide) (j:(T==("__debug__" : Str))=false:=by decide)
  (he:aP [e,.Name T p2] c.X.env=(false,eI e c.X.env)::aP [.Name T p2] c.X.env:=by rfl) (n:(iz pos (aP [.Name T p2] c.X.env)).any (·.1)=false:=by rfl):
  JE c (.Call (.Name "isinstance" p) [e,.Name T p2] [] pos) (Ax g Ts):=.of λρ=>by
 refine sS (wF Q8 i s PyProof.Rows.boot_isinstance (iR (h ρ) (iR (TL m y z (v:=.ty Ts) rfl u j) kJ) he) ⋯ ⋯ he n) λB H Q b=>?_;obtain⟨E,A,la,Hs,f,q⟩:=b;refine one f q λd v o l w s1 t x=>?_;unfold Ax at q;rw[w,bind_ok] at q;by_cases a:oO d=true
 ·rw[if_pos a] at q;exact⟨v,d,Ts,_,rfl,(x.full t.st.sub).rep a,Uu Ts k a,q _ o l s1 (.bool _)⟩
 ·rw[if_neg a] at q;exact q.elim
def oY:List D->Option (List Bool)
 |[]=>some []
 |.bool b::r=>(oY r).map (b::·)
 |_::_=>none
def Ex:∀{bs:List Bool},oY ds=some bs->ds=bs.map cr:=by
 induction ds with
 |nil=>intro bs h;cases h;rfl
 |cons d r c=>
  intro bs h;cases d with
  |bool b=>
   have h:(oY r).map (b::·)=some bs:=h;cases a:oY r with
   |none=>rw[a] at h;cases h
   |some z=>rw[a] at h;cases h;rw[c a];rfl
  |_=>cases h
def fm(k:List Bool->Bool):D->R D
 |.list ds=>match oY ds with
  |some bs=>.ok (.bool (k bs))
  |none=>.no
 |_=>.no
def Gu{id:String}{k:List Bool->Bool}(h:ki X (.builtin id) (λxs H Q=>∃p,∃bs:List Bool,xs=[.ref p]/\qy X.K H p (bs.map V.bl)/\Q (.bl (k bs)) H)):Nu X (.builtin id) (iT (fm k)):=by
 refine sX (λd c n=>?_) λe s j H x u Q Hs d d' I m sub i b q=>?_
 ·unfold fm;split<;>(try split)<;>exact λh=>by cases h
 ·unfold fm at b;split at b
  ·split at b
   ·rename_i bs l
    cases b;obtain⟨a,o,rfl,f,g⟩:=i.list sub;rw[Ex l] at g;rw[Cv g] at f;exact h e s j H _ _ Q I (.cons m .nil) ⟨a,bs,rfl,f,q _ H Hs (.refl sub) (.bool _)⟩
   ·cases b
  ·cases b
def rh(a:X.calm=true):Nu X (.builtin "all") (iT (fm λbs=>bs.all id)):=Gu (Aq a)
def vD(a:X.calm=true):Nu X (.builtin "any") (iT (fm λbs=>bs.any id)):=Gu (Ar a)
def qd(x:Str):List D:=x.cps.toList.map λc=>ay ⟨#[c]⟩
def Nv(x:Str):RDs K H (Au x) (qd x):=by
 unfold Au qd;induction x.cps.toList with
 |nil=>exact .nil
 |cons a r b=>exact .cons (.str _) b
def j9:D->R D
 |.list xs=>.ok (.tuple xs)
 |.tuple xs=>.ok (.tuple xs)
 |.str x=>if x.cps.size<=1000 then .ok (.tuple (qd x)) else .no
 |_=>.no
def jV(t:X.calm=true):Nu X (.type "tuple") (iT j9):=by
 refine sX (λd c n=>?_) λb s j H x u Q Hs d d' I k sub f e q=>?_
 ·unfold j9;split<;>(try split)<;>exact λh=>by cases h
 ·unfold j9 at e;split at e
  ·cases e;obtain⟨a,m,rfl,i,o⟩:=f.list sub;exact vd b s j H _ _ Q I (.cons k .nil) ⟨a,m,rfl,.inl ⟨i,λl g=>q _ _ _ (.new sub g) (.tuple bc (o.same (cQ.new sub g).sh))⟩⟩
  ·cases e;obtain⟨a,m,rfl,i,o,_⟩:=f.tuple sub;refine vd b s j H _ _ Q I (.cons k .nil) ⟨a,m,rfl,.inr ⟨i,?_⟩⟩;rcases f with f|⟨_,_,_,_,_,ow⟩
   ·exact q _ H Hs (.refl sub) f
   ·cases ow
  ·split at e
   ·rename_i p
    cases e;exact zB t b s j H _ _ Q I (.cons k .nil) ⟨_,by rw[f.str],cE (eX p),λl g=>q _ _ _ (.new sub g) (.tuple bc (Nv _))⟩
   ·cases e
  ·cases e
def Df:D->R D
 |.list xs=>.ok (.list xs)
 |.tuple xs=>.ok (.list xs)
 |_=>.no
def Uv:Nu X (.type "list") (iT Df):=by
 refine sX (λd c n=>?_) λb s m H x u Q Hs d d' I o sub k f q=>?_
 ·unfold Df;split<;>exact λh=>by cases h
 ·unfold Df at f;split at f
  ·cases f;obtain⟨a,j,rfl,g,i⟩:=k.list sub;exact wL b s m H _ _ Q I (.cons o .nil) ⟨a,j,rfl,.inl g,λl e=>q _ _ _ (.new sub e) (.list (.of bc) (i.same (cQ.new sub e).sh))⟩
  ·cases f;obtain⟨a,j,rfl,g,i,_⟩:=k.tuple sub;exact wL b s m H _ _ Q I (.cons o .nil) ⟨a,j,rfl,.inr g,λl e=>q _ _ _ (.new sub e) (.list (.of bc) (i.same (cQ.new sub e).sh))⟩
  ·cases f
def eU:List D->Option (List Str)
 |[]=>some []
 |.str b::r=>(eU r).map (b::·)
 |_::_=>none
def oZ:∀{bs:List Str},eU ds=some bs->ds=bs.map ay:=by
 induction ds with
 |nil=>intro bs h;cases h;rfl
 |cons d r c=>
  intro bs h;cases d with
  |str b=>
   have h:(eU r).map (b::·)=some bs:=h;cases a:eU r with
   |none=>rw[a] at h;cases h
   |some z=>rw[a] at h;cases h;rw[c a];rfl
  |_=>cases h
@[simp] theorem strsOf_map:∀bs:List Str,eU (bs.map ay)=some bs
 |[]=>rfl
 |b::r=>by show(eU (r.map ay)).map (b::·)=_;rw[strsOf_map r];rfl
def ue:D->R D
 |.list ds=>match eU ds with
  |some ss=>if ss.length<64 then .ok (.list ((jU ss).map .str)) else .no
  |none=>.no
 |_=>.no
def Nw:Nu X (.builtin "sorted") (iT ue):=by
 refine sX (λd c n=>?_) λe s m H x u Q Hs d d' I o sub i b q=>?_
 ·unfold ue;split<;>(try split)<;>(try split)<;>exact λh=>by cases h
 ·unfold ue at b;split at b
  ·split at b
   ·split at b
    ·rename_i ss hs k
     cases b;obtain⟨a,p,rfl,f,g⟩:=i.list sub;rw[oZ hs] at g;rw[mT g] at f;exact ym e s m H _ _ Q I (.cons o .nil) ⟨a,ss,rfl,f,k,λl j=>q _ _ _ (.new sub j) (.list (.of bc) (wX _))⟩
    ·cases b
   ·cases b
  ·cases b
inductive ZO (K:a8) (cls:Str->ap) (n:Nat) (F:List D->R D) (vs:List V) (H:Hp) (Q:VK) (E:XK):Prop
 |mk (Hs ds:_) (h0:dQ Hs H) (h1:ds.length=n) (h2:RDs K Hs vs ds) (h3:Fin K cls E H Hs (F ds) λd=>∀v H' Hs',cQ H Hs H' Hs'->RD K Hs' v d->Q v H'):ZO K cls n F vs H Q E
def Uw(K:a8)(cls:Str->ap)(n:Nat)(F:List D->R D):Sp:=ZO K cls n F
structure Fn (P:bg) (w:bL) (K:a8) (mg:Str->Option ag) (base:cg) (cls:Str->ap) (x:Str) (k n:Nat) (F:List D->R D):Prop where
 ex:∃f fd ps,uS P w K mg base (C0 P w) k f fd ps (Uw K cls n F)/\mg x=some (.ref f)/\gN K (.ref f)=true/\mL K fd ps []
def eA(n:Nat)(F:List D->R D)(a:aE->R (List D)):aE->R D:=λρ=>(a ρ).bind λds=>if ds.length=n then F ds else .no
def Ux(G:Fn c.X.prog c.X.w c.X.K c.X.mg c.X.base c.cls x k n F)(m:m9 k c.X.A)(O:Gl c.X x)(N:sO (C0 c.X.prog c.X.w) c.X c.E)(l:Np c (e::es) gs)
  (b:(x==("__debug__" : Str))=false:=by decide) (he:aP (e::es) c.X.env=(false,eI e c.X.env)::aP es c.X.env:=by rfl) (j:(iz pos (aP es c.X.env)).any (·.1)=false:=by rfl):
  JE c (.Call (.Name x p) (e::es) [] pos) (eA n F gs):=.of λρ=>by
 obtain⟨f,U,ps,o,t,L,s⟩:=G.ex;refine sS (La (E:=c.E) o m O t L s .nil N (l ρ) b he j) λY H Q a=>?_;obtain⟨H0,P,la,Hs,fr,q⟩:=a;refine JA fr q λds S T g z s1 u B=>?_;unfold eA at q;rw[z,bind_ok] at q;by_cases h:ds.length=n
 ·rw[if_pos h] at q;show Uw _ _ _ _ (S++[]) _ _ _;rw[b_];exact⟨g,ds,u.st.sub,h,B,q.on s1 λd k v y i I M=>k v y i (s1.trans I) M⟩
 ·rw[if_neg h] at q;exact q.elim
inductive Fl where
 |nx (ρ:aE)
 |rt (d:D)
 |bk (ρ:aE)
 |ct (ρ:aE)
def qE(K:a8)(cls:Str->ap)(E:XK)(f e:Hp)(la:Nat->Option ap)(D:FW)(r:R Fl):Prop:=match r with
 |.ok (.nx b)=>∀ σ' H' a,Fr K f e la b σ' H' a->D.nx σ' H'
 |.ok (.bk b)=>∀ σ' H' a,Fr K f e la b σ' H' a->D.bk σ' H'
 |.ok (.ct b)=>∀ σ' H' a,Fr K f e la b σ' H' a->D.ct σ' H'
 |.ok (.rt d)=>∀v H' a,cQ f e H' a->RD K a v d->D.rt v H'
 |.ex c n=>∀H' a,cQ f e H' a->XW K cls E c n H' a
 |.no=>False
inductive SRI (K:a8) (cls:Str->ap) (E:XK) (ρ:aE) (r:R Fl) (D:FW) (σ:St) (H:Hp):Prop
 |mk (H0 Hs0:Hp) (la:Nat->Option ap) (Hs:Hp) (f:Fr K H0 Hs0 la ρ σ H Hs) (q:qE K cls E H0 Hs0 la D r):SRI K cls E ρ r D σ H
def SR(K:a8)(cls:Str->ap)(E:XK)(ρ:aE)(r:R Fl):TS:=SRI K cls E ρ r
structure JS (c:C) (s:dZ) (g:aE->R Fl):Prop where of ::
 run:∀ ρ,PS c.X s (SR c.X.K c.cls c.E ρ (g ρ))
instance{c:C}{s:dZ}{g:aE->R Fl}:CoeFun (JS c s g) (λ_=>∀ ρ,PS c.X s (SR c.X.K c.cls c.E ρ (g ρ))):=⟨JS.run⟩
structure Lo (c:C) (s:List dZ) (g:aE->R Fl):Prop where of ::
 run:∀ ρ,L7 c.X s (SR c.X.K c.cls c.E ρ (g ρ))
instance{c:C}{s:List dZ}{g:aE->R Fl}:CoeFun (Lo c s g) (λ_=>∀ ρ,L7 c.X s (SR c.X.K c.cls c.E ρ (g ρ))):=⟨Lo.run⟩
def Fr.set(f:Fr K H0 Hs0 la ρ σ H Hs)(i:Nat)(r:RD K Hs v d):Fr K H0 Hs0 la (ρ.set i (.shr d)) (σ.set i (some v)) H Hs:=by
 have u:=f.len;have nx:∀{j:Nat}{s:Sl},(∀d,s≠.shr d)->(ρ.set i (.shr d))[j]?=some s->ρ[j]?=some s/\i≠j:=λ{j s} hs e=>by
  by_cases c:i=j
  ·subst c;by_cases l:i<ρ.length
   ·rw[aN l] at e;exact absurd (cc e).symm (hs d)
   ·rw[df (by simpa using l)] at e;cases e
  ·rw[ao c] at e;exact⟨e,c⟩
 refine⟨f.st,by simp[u],λj e h=>?_,λj e h=>?_,λj e h=>?_,λj k n o a g m q t=>?_,f.lh,λj e h=>?_,λj k n o g m=>?_⟩
 ·by_cases c:i=j
  ·subst c;by_cases l:i<ρ.length
   ·rw[aN l] at h;cases h;exact⟨v,aN ∅,r⟩
   ·rw[df (by simpa using l)] at h;cases h
  ·rw[ao c] at h ⊢;exact f.sh j e h
 ·obtain⟨h,c⟩:=nx (λ_ z=>by cases z) h;rw[ao c];exact f.ow j e h
 ·obtain⟨h,c⟩:=nx (λ_ z=>by cases z) h;rw[ao c];exact f.lk j e h
 ·obtain⟨g,w⟩:=nx (λ_ z=>by cases z) g;obtain⟨m,x⟩:=nx (λ_ z=>by cases z) m;rw[ao w] at q;rw[ao x] at t;exact f.dj j k n o a g m q t
 ·obtain⟨h,c⟩:=nx (λ_ z=>by cases z) h;obtain⟨a,B,O⟩:=f.o2 j e h;refine⟨a,B,by rw[ao c];exact O.at_,O.ob,O.nd,O.out,λb y k A p=>?_,O.inn⟩;obtain⟨p,E⟩:=nx (λ_ z=>by cases z) p;rw[ao E];exact O.dj b y k A p
 ·exact f.u2 j k n o (nx (λ_ z=>by cases z) g).1 (nx (λ_ z=>by cases z) m).1
def Fr.setO(f:Fr K H0 Hs0 la ρ σ H Hs)(i:Nat)(n:H a=none)(r:oP K Hs o d):Fr K H0 Hs0 la (ρ.set i (.own d)) (σ.set i (some (.ref a))) (upd H a o) Hs:=by
 have y:=f.step (cQ.mine (o:=o) f.st.sub n);have G:=f.len;have M:H0 a=none:=f.st.all.free n;have I:Hs a=none:=f.st.sub.free n;have nx:∀{j:Nat}{s:Sl},(∀d,s≠.own d)->(ρ.set i (.own d))[j]?=some s->ρ[j]?=some s/\i≠j:=λ{j s} hs e=>by
  by_cases g:i=j
  ·subst g;by_cases p:i<ρ.length
   ·rw[aN p] at e;exact absurd (cc e).symm (hs d)
   ·rw[df (by simpa using p)] at e;cases e
  ·rw[ao g] at e;exact⟨e,g⟩
 have ne:∀j e,ρ[j]?=some (Sl.own e)->σ[j]?≠some (some (V.ref a)):=λj e h z=>by
  obtain⟨b,o',m,l,_⟩:=f.ow j e h;rw[z] at m;cases m;rw[n] at l;cases l
 refine⟨y.st,by simp[G],λj e h=>?_,λj e h=>?_,λj e h=>?_,λj k v x b m l u t=>?_,f.lh,λj e h=>?_,λj k v x m l=>?_⟩
 ·obtain⟨h,g⟩:=nx (λ_ z=>by cases z) h;rw[ao g];exact y.sh j e h
 ·by_cases g:i=j
  ·subst g;by_cases p:i<ρ.length
   ·rw[aN p] at h;cases h;exact⟨a,o,aN ∅,bc,I,M,r⟩
   ·rw[df (by simpa using p)] at h;cases h
  ·rw[ao g] at h ⊢;exact y.ow j e h
 ·obtain⟨h,g⟩:=nx (λ_ z=>by cases z) h;rw[ao g];exact y.lk j e h
 ·by_cases g:i=j
  ·by_cases q:i=k
   ·exact g.symm.trans q
   ·rw[ao q] at l t;subst g;by_cases p:i<ρ.length
    ·rw[aN ∅] at u;cases u;exact(ne k x l t).elim
    ·rw[df (by simpa using p)] at m;cases m
  ·rw[ao g] at m u;by_cases q:i=k
   ·subst q;by_cases p:i<ρ.length
    ·rw[aN ∅] at t;cases t;exact(ne j v m u).elim
    ·rw[df (by simpa using p)] at l;cases l
   ·rw[ao q] at l t;exact f.dj j k v x b m l u t
 ·obtain⟨h,g⟩:=nx (λ_ z=>by cases z) h;obtain⟨b,B,O⟩:=f.o2 j e h;have A:∀c∈b::B,c≠a:=λc w z=>by
   subst z;rcases List.mem_cons.mp w with z|z
   ·have:=O.ob;rw[<- z,n] at this;cases this
   ·obtain⟨o,ho,_⟩:=O.inn.there z;rw[n] at ho;cases ho
  refine⟨b,B,by rw[ao g];exact O.at_,by rw[bh (A b aj)];exact O.ob,O.nd,O.out,λc w k L q=>?_,O.inn.upd λz=>A a (af _ z) rfl⟩;by_cases E:i=k
  ·subst E;intro z;by_cases p:i<ρ.length
   ·rw[aN ∅] at z;cases z;exact A _ w rfl
   ·rw[df (by simp;omega)] at q;cases q
  ·rw[ao E] at q ⊢;exact O.dj c w k L q
 ·exact f.u2 j k v x (nx (λ_ z=>by cases z) m).1 (nx (λ_ z=>by cases z) l).1
def Fr.write(f:Fr K H0 Hs0 la ρ σ H Hs)(i:Nat)(m:ρ[i]?=some (Sl.own d))(hs:σ[i]?=some (some (V.ref a)))(r:oP K Hs o d'):Fr K H0 Hs0 la (ρ.set i (.own d')) σ (upd H a o) Hs:=by
 obtain⟨Y,o',l,n,w,q,h5⟩:=f.ow i d m;rw[hs] at l;cases l;have S:=f.len;have p:i<ρ.length:=(List.getElem?_eq_some_iff.mp m).1;have nx:∀{j:Nat}{s:Sl},(∀d,s≠.own d)->(ρ.set i (.own d'))[j]?=some s->ρ[j]?=some s/\i≠j:=λ{j s} hs e=>by
  by_cases g:i=j
  ·subst g;rw[aN p] at e;exact absurd (cc e).symm (hs d')
  ·rw[ao g] at e;exact⟨e,g⟩
 refine⟨⟨λb u e=>?_,f.st.sh,λb u e=>?_,f.st.out⟩,by simp[S],λj e h=>?_,λj e h=>?_,λj e h=>?_,λj k I M b l n w q=>?_,f.lh,λj e h=>?_,λj k I M l n=>?_⟩
 ·rw[bh (cj e q)];exact f.st.all b u e
 ·rw[bh (cj e w)];exact f.st.sub b u e
 ·obtain⟨h,g⟩:=nx (λ_ z=>by cases z) h;exact f.sh j e h
 ·by_cases g:i=j
  ·subst g;rw[aN p] at h;cases h;exact⟨a,o,hs,bc,w,q,r⟩
  ·rw[ao g] at h;obtain⟨b,u,v,A,G,B,y⟩:=f.ow j e h;refine⟨b,u,v,?_,G,B,y⟩;rw[bh (λz=>g ?_)]
   ·exact A
   ·subst z;exact f.dj i j d e b m h hs v
 ·obtain⟨h,g⟩:=nx (λ_ z=>by cases z) h;obtain⟨b,u,v,A,G,B,y,T⟩:=f.lk j e h;refine⟨b,u,v,A,?_,B,y,T⟩;rw[bh (cj y q)];exact G
 ·have t:∀{j:Nat}{e:D},(ρ.set i (.own d'))[j]?=some (Sl.own e)->∃E,ρ[j]?=some (Sl.own E):=λ{j e} h=>by
   by_cases g:i=j
   ·subst g;exact⟨d,m⟩
   ·rw[ao g] at h;exact⟨e,h⟩
  obtain⟨U,l⟩:=t l;obtain⟨X,n⟩:=t n;exact f.dj j k U X b l n w q
 ·obtain⟨h,g⟩:=nx (λ_ z=>by cases z) h;obtain⟨b,N,O⟩:=f.o2 j e h;have L:∀c∈b::N,c≠a:=λc x z=>by
   subst z;exact O.dj c x i d m hs
  refine⟨b,N,O.at_,by rw[bh (L b aj)];exact O.ob,O.nd,O.out,λc x k E P=>?_,O.inn.upd λz=>L a (af _ z) rfl⟩;by_cases Q:i=k
  ·subst Q;exact O.dj c x i d m
  ·rw[ao Q] at P;exact O.dj c x k E P
 ·exact f.u2 j k I M (nx (λ_ z=>by cases z) l).1 (nx (λ_ z=>by cases z) n).1
def gQ(ρ:aE):aE:=ρ.map λs=>match s with
 |.own d=>.shr d
 |.ow2 a=>.shr (.list (a.map .list))
 |s=>s
open Classical in
def Fr.share(f:Fr K H0 Hs0 la ρ σ H Hs):∃c,Fr K H0 Hs0 la (gQ ρ) σ H c/\cQ H Hs H c\/Fr K H0 Hs0 la (gQ ρ) σ H c:=by
 let P:ap->Prop:=λb=>(∃(i:Nat) (d:D),ρ[i]?=some (Sl.own d)/\σ[i]?=some (some (V.ref b)))\/∃(i:Nat) (g:List (List D)) (a:ap) (E:List ap),ρ[i]?=some (Sl.ow2 g)/\O2 K H0 H Hs ρ σ i g a E/\b∈a::E
 let c:Hp:=λb=>if P b then H b else Hs b
 have A:∀b,P b->c b=H b:=λb h=>if_pos h;have w:∀b,¬ P b->c b=Hs b:=λb h=>if_neg h;have G:dQ Hs c:=λb o e=>by
  by_cases h:P b
  ·rw[A b h];exact f.st.sub b o e
  ·rw[w b h];exact e
 have l:∀b o,H0 b=some o->¬ P b:=λb o e hP=>by
  rcases hP with⟨i,d,B,M⟩|⟨i,g,a,E,B,O,p⟩
  ·obtain⟨a,o',x,_,_,L,_⟩:=f.ow i d B;rw[M] at x;cases x;rw[e] at L;cases L
  ·have:=(O.out b p).2;rw[e] at this;cases this
 have un:∀{j:Nat}{s:Sl},(gQ ρ)[j]?=some s->(∃d,s=.shr d/\ρ[j]?=some (Sl.own d))\/(∃g:List (List D),s=.shr (.list (g.map .list))/\ρ[j]?=some (Sl.ow2 g))\/((∀d,s≠.own d)/\(∀d,s≠.ow2 d)/\ρ[j]?=some s):=λ{j s} e=>by
  unfold gQ at e;rw[b9] at e;cases h:ρ[j]? with
  |none=>rw[h] at e;cases e
  |some t=>
   rw[h] at e;cases t with
   |own d=>cases e;exact .inl ⟨d,rfl,rfl⟩
   |no=>cases e;exact .inr (.inr ⟨λ_ z=>(by cases z),λ_ z=>(by cases z),rfl⟩)
   |shr d=>cases e;exact .inr (.inr ⟨λ_ z=>(by cases z),λ_ z=>(by cases z),rfl⟩)
   |lck d=>cases e;exact .inr (.inr ⟨λ_ z=>(by cases z),λ_ z=>(by cases z),rfl⟩)
   |ow2 d=>cases e;exact .inr (.inl ⟨d,rfl,rfl⟩)
 refine⟨c,.inr ⟨⟨f.st.all,f.st.sh.trans G,λb o e=>?_,λa o e t z=>?_⟩,by simp[gQ,f.len],λj d h=>?_,λj d h=>?_,λj d h=>?_,λj k S X a B M _ _=>?_,f.lh,λj d h=>?_,λj k S X B M=>?_⟩⟩
 ·by_cases h:P b
  ·rw[A b h] at e;exact e
  ·rw[w b h] at e;exact f.st.sub b o e
 ·rw[w a (l a o e)];exact f.st.out a o e t z
 ·rcases un h with⟨d',e,h'⟩|⟨g,e,h'⟩|⟨_,_,h'⟩
  ·cases e;obtain⟨a,o,x,I,T,L,N⟩:=f.ow j d h';refine⟨_,x,?_⟩;have Q:c a=some o:=by rw[A a (.inl ⟨j,d,h',x⟩)];exact I
   have e:dQ (upd Hs a o) c:=λb u q=>by
    by_cases p:b=a
    ·subst p;rw[bc] at q;cases q;exact Q
    ·rw[bh p] at q;exact G b u q
   exact(N.share T).same e
  ·cases e;obtain⟨a,E,O⟩:=f.o2 j g h';refine⟨_,O.at_,?_⟩;have Q:∀b∈a::E,∀o,H b=some o->c b=some o:=λb p o ho=>by rw[A b (.inr ⟨j,g,a,E,h',O,p⟩)];exact ho
   refine .list (.of (Q a aj _ O.ob)) ?_;have go:∀{y:List ap}{m:List (List D)},(∀b∈y,b∈a::E)->D9 K H Hs y m->RDs K c (y.map V.ref) (m.map .list):=λ{y m} hs hi=>by
    induction hi with
    |nil=>exact .nil
    |cons B M _ U=>exact .cons (.list (.of (Q _ (hs _ aj) _ B)) (M.same G)) (U λb p=>hs b (af _ p))
   exact go (λb p=>af _ p) O.inn
  ·obtain⟨v,x,I⟩:=f.sh j d h';exact⟨v,x,I.same G⟩
 ·rcases un h with⟨d',e,h'⟩|⟨d',e,h'⟩|⟨n,_,h'⟩
  ·cases e
  ·cases e
  ·exact(n d rfl).elim
 ·rcases un h with⟨d',e,h'⟩|⟨d',e,h'⟩|⟨_,_,h'⟩
  ·cases e
  ·cases e
  ·obtain⟨a,o,x,I,T,L,N,Y⟩:=f.lk j d h';exact⟨a,o,x,I,T,by rw[w a (l a o N)];exact L,N,Y.same G⟩
 ·rcases un B with⟨d',e,h'⟩|⟨d',e,h'⟩|⟨n,_,h'⟩
  ·cases e
  ·cases e
  ·exact(n S rfl).elim
 ·rcases un h with⟨d',e,h'⟩|⟨d',e,h'⟩|⟨_,n,h'⟩
  ·cases e
  ·cases e
  ·exact(n d rfl).elim
 ·rcases un B with⟨d',e,h'⟩|⟨d',e,h'⟩|⟨_,n,h'⟩
  ·cases e
  ·cases e
  ·exact(n S rfl).elim
def Fr.shared(f:Fr K H0 Hs0 la ρ σ H Hs):∃a,Fr K H0 Hs0 la (gQ ρ) σ H a:=by
 obtain⟨a,h|h⟩:=f.share
 ·exact⟨a,h.1⟩
 ·exact⟨a,h⟩
section
variable{c:C}{e a b:bj}{g ga gb:aE->R D}{pos:Pos}{x:Str}{st:dZ}{bu:List dZ}{gs gr:aE->R Fl}
def aQ(g h:aE->R Fl):aE->R Fl:=λρ=>(g ρ).bind λf=>match f with
 |.nx d=>h d
 |f=>.ok f
def dq:Lo c [] (λρ=>.ok (.nx ρ)):=.of λρ=>q1m TQ λD h H d=>by obtain⟨j,i,la,Hs,f,q⟩:=d;exact q h H Hs f
def aM(h:JS c st gs):Lo c [st] gs:=.of λρ=>TU (h ρ)
theorem aD(h:JS c st gs)(w:Lo c bu gr):Lo c (st::bu) (aQ gs gr):=.of λρ i s o H D I p=>by
 obtain⟨m,j,la,Hs,f,q⟩:=p;unfold aQ at q;cases k:gs ρ with
 |no=>rw[k] at q;exact q.elim
 |ex x n=>
  rw[k] at q;refine sL (h ρ) (u6 (X:=c.X) (sts:=bu)) i s o H D I ⟨m,j,la,Hs,f,?_⟩;rw[k];exact q
 |ok v=>
  rw[k,bind_ok] at q;cases v with
  |nx l=>
   refine sL (h ρ) (w l) i s o H D I ⟨m,j,la,Hs,f,?_⟩;rw[k];exact λσ' H' t u=>⟨m,j,la,t,u,q⟩
  |rt d=>
   refine sL (h ρ) (u6 (X:=c.X) (sts:=bu)) i s o H D I ⟨m,j,la,Hs,f,?_⟩;rw[k];exact q
  |bk l=>
   refine sL (h ρ) (u6 (X:=c.X) (sts:=bu)) i s o H D I ⟨m,j,la,Hs,f,?_⟩;rw[k];exact q
  |ct l=>
   refine sL (h ρ) (u6 (X:=c.X) (sts:=bu)) i s o H D I ⟨m,j,la,Hs,f,?_⟩;rw[k];exact q
theorem sE(f:Fr K H0 Hs0 la ρ σ H Hs)
  (h:qE K cls E H0 Hs0 la D' (r.bind k)) (m:∀d v H' i,r=.ok d->cQ H Hs H' i->Fr K H0 Hs0 la ρ σ H' i->RD K i v d->Q v H'):TR K cls E ρ r σ H Q:=by
 refine⟨H0,Hs0,la,Hs,f,?_⟩;cases r with
 |ok d=>exact λv H' i s r=>m d v H' i rfl s (f.step s) r
 |ex c n=>exact λH' i s=>h H' i (f.st.trans s)
 |no=>exact h
theorem sT(f:Fr K H0 Hs0 la ρ σ H Hs)
  (h:qE K cls E H0 Hs0 la D' (r.bind k)) (m:∀d H' i,r=.ok d->cQ H Hs H' i->Fr K H0 Hs0 la ρ σ H' i->Q d H'):Cy K cls E ρ r σ H Q:=by
 refine⟨H0,Hs0,la,Hs,f,?_⟩;cases r with
 |ok d=>exact λH' i s=>m d H' i rfl s (f.step s)
 |ex c n=>exact λH' i s=>h H' i (f.st.trans s)
 |no=>exact h
def dv(g:aE->R D):aE->R Fl:=λρ=>(g (gQ ρ)).bind λd=>.ok (.rt d)
theorem bH(h:JE c e g):JS c (.Return (some e) pos) (dv g):=.of λρ=>C1 (Xg (h (gQ ρ))) λD t H i=>by
 obtain⟨u,s,la,Hs,f,q⟩:=i;obtain⟨l,o⟩:=f.shared;refine sE o q λd v k j n s1 m p=>?_;unfold dv at q;rw[n,bind_ok] at q;exact q v k j m.st p
def fK(t:aE->R Bool)(g h:aE->R Fl):aE->R Fl:=λρ=>(t ρ).bind λb=>if b then g ρ else h ρ
def gq(n:JT c t gt)(m:Lo c A gA)(p:Lo c B gB):JS c (.If t A B pos) (fK gt gA gB):=.of λρ=>C1 (Za (n ρ) (m ρ) (p ρ)) λD u H j=>by
 obtain⟨k,i,la,Hs,f,q⟩:=j;refine sT f q λd s h o s1 l=>?_;unfold fK at q;rw[o,bind_ok] at q;cases d with
 |true=>exact wN ⟨k,i,la,h,l,q⟩
 |false=>exact wM ⟨k,i,la,h,l,q⟩
def fN(i:Nat)(g:aE->R D):aE->R Fl:=λρ=>(g ρ).bind λd=>.ok (.nx (ρ.set i (.shr d)))
def eC(i:Nat)(h:JE c e g)(l:c.X.N.Nodup)(o:c.X.N[i]?=some x:=by rfl)(u:T6 c.X.env.scope x:=by first|exact iq rfl|exact f9 rfl)(hs:hX e (some (.Name x pos')) pos.line c.X.env=pure false:=by rfl)
  (n:c.X.fn x=true\/c.X.env.scope.names.lookup x=some .local:=by first|exact .inl rfl|exact .inr rfl|assumption):JS c (.Assign [.Name x pos'] e pos) (fN i g):=.of λρ=>C1 (Ji l o u (h ρ) hs n) λD y H j=>by
 obtain⟨z,w,la,Hs,f,q⟩:=j;refine sE f q λd v m k s s1 p t=>?_;unfold fN at q;rw[s,bind_ok] at q;exact q _ m k (p.set i t)
def mP(g:aE->R D):aE->R Fl:=λρ=>(g ρ).bind λ_=>.ok (.nx ρ)
def kO(h:JE c e g)(hs:hX e none pos.line c.X.env=pure false:=by rfl):JS c (.Expr e pos) (mP g):=.of λρ=>C1 (Ea (h ρ) hs) λD o H i=>by
 obtain⟨p,n,la,Hs,f,q⟩:=i;refine sE f q λd v k j m s1 l s=>?_;unfold mP at q;rw[m,bind_ok] at q;exact q _ k j l
def TGq(K:a8)(h f:Hp)(la:Nat->Option ap)(H Hs:Hp)(Q:St->Hp->Prop)(r:R aE):Prop:=match r with
 |.ok d=>∀ σ',Fr K h f la d σ' H Hs->Q σ' H
 |_=>False
inductive ZP (K:a8) (ρ:aE) (d:D) (r:R aE) (v:V) (σ:St) (H:Hp) (Q:St->Hp->Prop):Prop
 |mk (H0 Hs0:Hp) (la:Nat->Option ap) (Hs:Hp) (f:Fr K H0 Hs0 la ρ σ H Hs) (rd:RD K Hs v d) (q:TGq K H0 Hs0 la H Hs Q r):ZP K ρ d r v σ H Q
def X_(K:a8)(ρ:aE)(d:D)(r:R aE):TG:=ZP K ρ d r
inductive Wj (K:a8) (ρ:aE) (ds:List D) (r:R aE) (vs:List V) (σ:St) (H:Hp) (Q:St->Hp->Prop):Prop
 |mk (H0 Hs0:Hp) (la:Nat->Option ap) (Hs:Hp) (f:Fr K H0 Hs0 la ρ σ H Hs) (rd:RDs K Hs vs ds) (q:TGq K H0 Hs0 la H Hs Q r):Wj K ρ ds r vs σ H Q
def ZQ(K:a8)(ρ:aE)(ds:List D)(r:R aE):TV:=Wj K ρ ds r
structure JG (c:C) (t:bj) (k:D->aE->R aE):Prop where of ::
 run:∀ ρ d,PG c.X t (X_ c.X.K ρ d (k d ρ))
instance{c:C}{t:bj}{k:D->aE->R aE}:CoeFun (JG c t k) (λ_=>∀ ρ d,PG c.X t (X_ c.X.K ρ d (k d ρ))):=⟨JG.run⟩
structure YZ (c:C) (t:List bj) (k:List D->aE->R aE):Prop where of ::
 run:∀ ρ d,VS c.X t (ZQ c.X.K ρ d (k d ρ))
instance{c:C}{t:List bj}{k:List D->aE->R aE}:CoeFun (YZ c t k) (λ_=>∀ ρ d,VS c.X t (ZQ c.X.K ρ d (k d ρ))):=⟨YZ.run⟩
def mPG(h:PG X e t)(m:∀v d H Q,t' v d H Q->t v d H Q):PG X e t':=λf s d H v u Q I r q=>h f s d H v u Q I r (m v d H Q q)
def q1q{X:Cx}{e:List bj}{t t':TV}(h:VS X e t)(m:∀v d H Q,t' v d H Q->t v d H Q):VS X e t':=λf s d H v u Q I r q=>h f s d H v u Q I r (m v d H Q q)
def bO(i:Nat):D->aE->R aE:=λd ρ=>.ok (ρ.set i (.shr d))
def c_(i:Nat)(j:c.X.N.Nodup)(l:c.X.N[i]?=some x:=by rfl)(k:T6 c.X.env.scope x:=by first|exact iq rfl|exact f9 rfl)(m:c.X.fn x=true\/c.X.env.scope.names.lookup x=some .local:=by first|exact .inl rfl|exact .inr rfl|assumption):
  JG c (.Name x pos) (bO i):=.of λρ d=>mPG (bU j l k m) λv o H Q h=>by obtain⟨p,n,la,Hs,f,r,q⟩:=h;exact q _ (f.set i r)
def nP:List D->aE->R aE:=λds ρ=>match ds with
 |[]=>.ok ρ
 |_=>.no
def cP(k:D->aE->R aE)(ks:List D->aE->R aE):List D->aE->R aE:=λds ρ=>match ds with
 |d::r=>(k d ρ).bind λf=>ks r f
 |_=>.no
def lV:YZ c [] nP:=.of λρ ds=>q1q wD λk h H Q d=>by
 obtain⟨j,i,la,Hs,f,r,q⟩:=d;cases r with
 |nil=>exact⟨rfl,q h f⟩
 |cons _ _=>exact q.elim
theorem dh(h:JG c t kt)(w:YZ c ts kts)(hs:(jr (t::ts) c.X.env).map (·.2)=mw t c.X.env::(jr ts c.X.env).map (·.2):=by rfl):YZ c (t::ts) (cP kt kts):=.of λρ ds j s u H K E Q I B i=>by
 obtain⟨o,k,la,Hs,f,r,q⟩:=i;cases r with
 |nil=>exact q.elim
 | @cons v p d y A G=>
  unfold cP at q;cases l:kt d ρ with
  |ok m=>
   simp only[l,bind_ok] at q;refine kH (h ρ d) (w m y) hs j s u H _ E Q I B ⟨v,p,rfl,o,k,la,Hs,f,A,?_⟩;rw[l];exact λσ' z=>⟨o,k,la,Hs,z,G,q⟩
  |ex x n=>simp only[l,bind_ex] at q;exact q.elim
  |no=>simp only[l,bind_no] at q;exact q.elim
def mG(n:Nat)(ks:List D->aE->R aE):D->aE->R aE:=λd ρ=>match d with
 |.tuple ds=>if ds.length=n then ks ds ρ else .no
 |_=>.no
theorem qe(A:c.X.calm=true)(h:YZ c ts kts)(z:(jr ts c.X.env).length=n:=by rfl)(m:(jr ts c.X.env).findIdx? (·.1)=none:=by rfl):JG c (.Tuple ts k pos) (mG n kts):=.of λρ d=>by
 cases d with
 |tuple ds=>
  refine mPG (Aj A (h ρ ds) z m) λv B H Q l=>?_;obtain⟨w,j,la,Hs,f,r,q⟩:=l;cases r with
  | @tuple p xs _ E t=>
   unfold mG at q;by_cases o:ds.length=n
   ·simp only[if_pos o] at q;exact⟨p,xs,rfl,(m8.of (f.st.sub _ _ E)),by rw[t.length];exact o,w,j,la,Hs,f,t,q⟩
   ·simp only[if_neg o] at q;exact q.elim
 |_=>exact λy s B H v u Q I G i=>by obtain⟨w,j,la,Hs,f,r,q⟩:=i;exact q.elim
def xa(g:aE->R D)(k:D->aE->R aE):aE->R Fl:=λρ=>(g ρ).bind λd=>match k d ρ with
 |.ok f=>.ok (.nx f)
 |_=>.no
theorem vE(h:JE c e g)(N:JG c t kt)(hs:zO [t] e pos.line c.X.env=pure false:=by rfl)(K:zP [t] e c.X.env=pure none:=by rfl)(A:(jr [t] c.X.env).map (·.2)=[mw t c.X.env]:=by rfl):
  JS c (.Assign [t] e pos) (xa g kt):=.of λρ=>by
 cases o:g ρ with
 |ok d=>
  refine C1 (Pk (h ρ) (N ρ d) hs K A) λD E H m=>?_;obtain⟨y,j,la,Hs,f,q⟩:=m;refine sE (k:=λd=>match kt d ρ with | .ok w=>.ok (.nx w)|_=>.no) f q λd' v B i u s1 L M=>?_;rw[o] at u;cases u;unfold xa at q;rw[o,bind_ok] at q;refine⟨y,j,la,i,L,M,?_⟩;cases z:kt d ρ with
  |ok w=>rw[z] at q;exact λσ' O=>q σ' B i O
  |ex x n=>rw[z] at q;exact q.elim
  |no=>rw[z] at q;exact q.elim
 |ex x n=>
  refine C1 (Pk (h ρ) (N ρ .none) hs K A) λD E H l=>?_;obtain⟨y,j,la,Hs,f,q⟩:=l;refine sE (k:=λ_=>.no) (D':=D) f (by unfold xa at q;rw[o] at q ⊢;exact q) λd' v B i u s1 L M=>?_;rw[o] at u;cases u
 |no=>
  refine λG s E H D I p=>?_;obtain⟨y,j,la,Hs,f,q⟩:=p;unfold xa at q;rw[o] at q;exact q.elim
end
def OS(K:a8)(J:It)(ds:List D)(f Hs:Hp):Prop:=∀b a,dQ f b->dQ Hs a->dQ a b ->
 (∀i,i<ds.length->J.go i b)/\(∀i,ds.length<=i->J.stop i b)/\∀i x e,i<ds.length->J.yld i b x e->∃d c,ds[i]?=some d/\cQ b a e c/\RD K c x d
def Ey(h:qy K Hn a vs)(r:RDs K Hs vs ds):OS K (Itl K a) ds Hn Hs:=λn e f j k=>by
 have q:=f.seq h;refine⟨λi b=>?_,λi b=>⟨vs,q,by rw[r.length];exact b⟩,λi x m b y=>?_⟩
 ·have c:i<vs.length:=by rw[r.length];exact b
  exact⟨vs,vs[i],q,bw c⟩
 ·obtain⟨rfl,y⟩:=y;obtain⟨d,l,g⟩:=r.get (y vs q);exact⟨d,e,l,.refl k,g.same j⟩
def Qk(h:m8 K Hn a vs)(r:RDs K Hs vs ds):OS K (Itt K a) ds Hn Hs:=λn e f j k=>by
 have q:=f.tup h;refine⟨λi b=>?_,λi b=>⟨vs,q,by rw[r.length];exact b⟩,λi x m b y=>?_⟩
 ·have c:i<vs.length:=by rw[r.length];exact b
  exact⟨vs,vs[i],q,bw c⟩
 ·obtain⟨rfl,y⟩:=y;obtain⟨d,l,g⟩:=r.get (y vs q);exact⟨d,e,l,.refl k,g.same j⟩
def Ql(x:Str):OS K (Zw x) (qd x) Hn Hs:=λh b j k e=>by
 have d:(qd x).length=x.cps.size:=by simp[qd]
 refine⟨λi a=>by rw[d] at a;exact a,λi a=>by rw[d] at a;exact a,λi v g a y=>?_⟩;obtain⟨rfl,c,f,rfl⟩:=y;refine⟨.str ⟨#[c]⟩,b,?_,.refl e,.str _⟩;unfold qd;rw[b9,aO,f];rfl
def sZ(lo:Int)(n:Nat):List D:=(bQ n).map λ(k:Nat)=>e8 (lo+k)
def Qm(lo:Int)(n:Nat):OS K (Itr lo n) (sZ lo n) Hn Hs:=λf b g h d=>by
 have c:(sZ lo n).length=n:=by simp[sZ]
 refine⟨λi a=>by rw[c] at a;exact a,λi a=>by rw[c] at a;exact a,λi v e a y=>?_⟩;obtain⟨rfl,rfl⟩:=y;refine⟨.int (lo+i),b,?_,.refl d,.int _⟩;rw[c] at a;unfold sZ;rw[b9,MQ a];rfl
def nQ(n:Nat):List D->List D
 |[]=>[]
 |d::r=>.tuple [.int n,d]::nQ (n+1) r
theorem Dg:∀(ds:List D) (n i:Nat),(nQ n ds)[i]?=(ds[i]?).map λd=>ft [.int ((n+i:Nat):Int),d]
 |[],_,_=>by simp[nQ]
 |d::r,n,0=>by simp[nQ]
 |d::r,n,i+1=>by
  simp only[nQ,kG];rw[Dg r (n+1) i,show n+1+i=n+(i+1) by omega]
theorem Dh:∀(ds:List D) (n:Nat),(nQ n ds).length=ds.length
 |[],_=>rfl
 |d::r,n=>by simp[nQ,Dh r]
def Uy(h:m8 K Hn a vs)(r:RDs K Hs vs ds):OS K (Ite K a) (nQ 0 ds) Hn Hs:=λu j k m n=>by
 have q:=k.tup h;have s:=Dh ds 0;refine⟨λi c=>?_,λi c=>⟨vs,q,by rw[r.length];omega⟩,λi x t c y=>?_⟩
 ·have b:i<vs.length:=by rw[r.length];omega
  exact⟨vs,vs[i],q,bw b⟩
 ·obtain⟨p,l,rfl,y⟩:=y;obtain⟨x,g,rfl⟩:=y vs q;obtain⟨d,f,e⟩:=r.get g;have st:=cQ.new (o:=.tup [.int i,x]) n l;refine⟨.tuple [.int i,d],_,?_,st,.tuple bc (.cons (.int _) (.cons ((e.same m).same st.sh) .nil))⟩;rw[Dg,f];simp
def zD:List D->List D->List D
 |x::xs,y::ys=>.tuple [x,y]::zD xs ys
 |_,_=>[]
theorem Gv:∀(xs ys:List D) (i:Nat) (x y:D),xs[i]?=some x->ys[i]?=some y->(zD xs ys)[i]?=some (.tuple [x,y])
 |x::xs,y::ys,0,_,_,a,b=>by simp at a b;subst a b;rfl
 |_::xs,_::ys,i+1,x,y,a,b=>by
  simp only[kG] at a b;simp only[zD,kG];exact Gv xs ys i x y a b
 |[],_,_,_,_,a,_=>by simp at a
 |_::_,[],_,_,_,_,b=>by simp at b
theorem Gw:∀(xs ys:List D),(zD xs ys).length=min xs.length ys.length
 |x::xs,y::ys=>by simp[zD,Gw xs ys]
 |[],_=>by simp[zD]
 |_::_,[]=>by simp[zD]
def Y0(h:m8 K Hn a vs)(r:RDs K Hs vs ds)(h':m8 K Hn b ws)(f:RDs K Hs ws es):OS K (Itz K a b) (zD ds es) Hn Hs:=λG u k l A=>by
 have q:=k.tup h;have q':=k.tup h';have B:=Gw ds es;refine⟨λi j=>?_,λi j=>⟨vs,ws,q,q',by rw[r.length,f.length];omega⟩,λi x E j y=>?_⟩
 ·have m:i<vs.length:=by rw[r.length];omega
  have v:i<ws.length:=by rw[f.length];omega
  exact⟨vs,ws,vs[i],ws[i],q,q',bw m,bw v⟩
 ·obtain⟨p,w,rfl,y⟩:=y;obtain⟨x,z,t,c,rfl⟩:=y vs ws q q';obtain⟨d,s,n⟩:=r.get t;obtain⟨d',g,e⟩:=f.get c;have st:=cQ.new (o:=.tup [x,z]) A w;exact⟨.tuple [d,d'],_,Gv ds es i d d' s g,st,.tuple bc (.cons ((n.same l).same st.sh) (.cons ((e.same l).same st.sh) .nil))⟩
inductive ZR (K:a8) (cls:Str->ap) (E:XK) (ρ:aE) (r:R (List D)) (σ:St) (H:Hp) (Q:It->Hp->Prop):Prop
 |mk (H0 Hs0:Hp) (la:Nat->Option ap) (Hs:Hp) (f:Fr K H0 Hs0 la ρ σ H Hs) (q:Fin K cls E H Hs r λds=>∀J H' Hs' Hn,cQ H Hs H' Hs'->dQ Hn H'->OS K J ds Hn Hs'->Q J H'):ZR K cls E ρ r σ H Q
def Uz(K:a8)(cls:Str->ap)(E:XK)(ρ:aE)(r:R (List D)):TI:=ZR K cls E ρ r
inductive ZS (K:a8) (cls:Str->ap) (E:XK) (ρ:aE) (r:R (List D)) (σ:St) (H:Hp) (Q:It->Hp->Prop):Prop
 |mk (H0 Hs0:Hp) (la:Nat->Option ap) (Hs:Hp) (f:Fr K H0 Hs0 la ρ σ H Hs) (q:Fin K cls E H Hs r λds=>∀J H' Hs',cQ H Hs H' Hs'->OS K J ds Hs' Hs'->Q J H'):ZS K cls E ρ r σ H Q
def TIs(K:a8)(cls:Str->ap)(E:XK)(ρ:aE)(r:R (List D)):TI:=ZS K cls E ρ r
structure JI (c:C) (tg it:bj) (g:aE->R (List D)):Prop where of ::
 run:∀ ρ,PI c.X tg it (Uz c.X.K c.cls c.E ρ (g ρ))
instance{c:C}{tg it:bj}{g:aE->R (List D)}:CoeFun (JI c tg it g) (λ_=>∀ ρ,PI c.X tg it (Uz c.X.K c.cls c.E ρ (g ρ))):=⟨JI.run⟩
structure OT (c:C) (tg it:bj) (g:aE->R (List D)):Prop where of ::
 run:∀ ρ,PI c.X tg it (TIs c.X.K c.cls c.E ρ (g ρ))
instance{c:C}{tg it:bj}{g:aE->R (List D)}:CoeFun (OT c tg it g) (λ_=>∀ ρ,PI c.X tg it (TIs c.X.K c.cls c.E ρ (g ρ))):=⟨OT.run⟩
def Nx(h:PI X tg e t)(m:∀a H Q,t' a H Q->t a H Q):PI X tg e t':=λb s a H Q I q=>h b s a H Q I (m a H Q q)
def rj:D->R (List D)
 |.list ds=>.ok ds
 |.tuple ds=>.ok ds
 |.str x=>.ok (qd x)
 |_=>.no
def gE(g:aE->R D):aE->R (List D):=λρ=>(g ρ).bind rj
def dJ(h:JB c l g):JI c tg l (gE g):=.of λρ=>by
 cases j:g ρ with
 |no=>exact λe s o H Q I y=>by obtain⟨p,b,la,Hs,f,q⟩:=y;exact by unfold gE at q;rw[j] at q;exact q.elim
 |ex x n=>
  refine Nx (wE (h ρ)) λo H Q M=>?_;obtain⟨p,b,la,Hs,f,q⟩:=M;refine one f q λd v m i k s1 w t=>?_;rw[j] at k;cases k
 |ok d=>
  cases d with
  |list ds=>
   refine Nx (wE (h ρ)) λo H Q z=>?_;obtain⟨p,b,la,Hs,f,q⟩:=z;refine one f q λd v m i k s1 w t=>?_;rw[j] at k;cases k;unfold gE at q;rw[j,bind_ok] at q;obtain⟨a,O,rfl,u,N⟩:=t.list w.st.sub;exact⟨a,rfl,⟨O,u⟩,q _ m i m s1 (.refl _) (Ey u N)⟩
  |tuple ds=>
   refine Nx (Pm (h ρ)) λo H Q A=>?_;obtain⟨p,b,la,Hs,f,q⟩:=A;refine one f q λd v m i k s1 w t=>?_;rw[j] at k;cases k;unfold gE at q;rw[j,bind_ok] at q;obtain⟨a,O,rfl,u,N,_⟩:=t.tuple w.st.sub;exact⟨a,rfl,⟨O,u⟩,q _ m i m s1 (.refl _) (Qk u N)⟩
  |str x=>
   refine Nx (Q3 (h ρ)) λo H Q L=>?_;obtain⟨p,b,la,Hs,f,q⟩:=L;refine one f q λd v m i k s1 w t=>?_;rw[j] at k;cases k;unfold gE at q;rw[j,bind_ok] at q;exact⟨x,t.str,q _ m i m s1 (.refl _) (Ql x)⟩
  |none=>exact λe s o H Q I B=>by obtain⟨p,b,la,Hs,f,q⟩:=B;exact by unfold gE at q;rw[j] at q;exact q.elim
  |bool _=>exact λe s o H Q I E=>by obtain⟨p,b,la,Hs,f,q⟩:=E;exact by unfold gE at q;rw[j] at q;exact q.elim
  |int _=>exact λe s o H Q I G=>by obtain⟨p,b,la,Hs,f,q⟩:=G;exact by unfold gE at q;rw[j] at q;exact q.elim
  |dict _=>exact λe s o H Q I K=>by obtain⟨p,b,la,Hs,f,q⟩:=K;exact by unfold gE at q;rw[j] at q;exact q.elim
def A1(h:JE c l g):OT c tg l (gE g):=.of λρ=>by
 cases i:g ρ with
 |no=>exact λb s k H Q I L=>by obtain⟨m,a,la,Hs,f,q⟩:=L;exact by unfold gE at q;rw[i] at q;exact q.elim
 |ex x n=>
  refine Nx (wE (h ρ)) λk H Q E=>?_;obtain⟨m,a,la,Hs,f,q⟩:=E;refine Cz f q λd v o e j s1 B p=>?_;rw[i] at j;cases j
 |ok d=>
  cases d with
  |list ds=>
   refine Nx (wE (h ρ)) λk H Q K=>?_;obtain⟨m,a,la,Hs,f,q⟩:=K;refine Cz f q λd v o e j s1 B p=>?_;rw[i] at j;cases j;unfold gE at q;rw[i,bind_ok] at q;cases p with
   |list t M=>exact⟨_,rfl,⟨_,B.st.sub.seq t⟩,q _ o e s1 (Ey t M)⟩
  |tuple ds=>
   refine Nx (Pm (h ρ)) λk H Q y=>?_;obtain⟨m,a,la,Hs,f,q⟩:=y;refine Cz f q λd v o e j s1 B p=>?_;rw[i] at j;cases j;unfold gE at q;rw[i,bind_ok] at q;cases p with
   |tuple t M=>exact⟨_,rfl,⟨_,(m8.of (B.st.sub _ _ t))⟩,q _ o e s1 (Qk (.of t) M)⟩
  |str x=>
   refine Nx (Q3 (h ρ)) λk H Q z=>?_;obtain⟨m,a,la,Hs,f,q⟩:=z;refine Cz f q λd v o e j s1 B p=>?_;rw[i] at j;cases j;unfold gE at q;rw[i,bind_ok] at q;cases p with
   |str _=>exact⟨x,rfl,q _ o e s1 (Ql x)⟩
  |none=>exact λb s k H Q I G=>by obtain⟨m,a,la,Hs,f,q⟩:=G;exact by unfold gE at q;rw[i] at q;exact q.elim
  |bool _=>exact λb s k H Q I A=>by obtain⟨m,a,la,Hs,f,q⟩:=A;exact by unfold gE at q;rw[i] at q;exact q.elim
  |int _=>exact λb s k H Q I w=>by obtain⟨m,a,la,Hs,f,q⟩:=w;exact by unfold gE at q;rw[i] at q;exact q.elim
  |dict _=>exact λb s k H Q I u=>by obtain⟨m,a,la,Hs,f,q⟩:=u;exact by unfold gE at q;rw[i] at q;exact q.elim
def OT.i(h:OT c tg l gs):JI c tg l gs:=.of λρ=>Nx (h ρ) λg H Q ⟨e,d,la,Hs,f,q⟩=>⟨e,d,la,Hs,f,by
 cases b:gs ρ with
 |ok ds=>rw[b] at q;exact λJ H' a s i=>q J H' a a s s.sub i
 |ex x n=>rw[b] at q;exact q
 |no=>rw[b] at q;exact q⟩
def JP:List D->R (List D)
 |[.int j]=>if -(2 ^ 62)<=j/\j<2 ^ 62 then .ok (sZ 0 j.toNat) else .no
 |_=>.no
def Di(a:aE->R (List D)):aE->R (List D):=λρ=>(a ρ).bind JP
def vF(n:Gl c.X "range")(k:c.X.mg "range"=none)(i:Uq c [a] gs)(hs:aP [a] c.X.env=[(false,eI a c.X.env)]:=by rfl):OT c tg (.Call (.Name "range" p) [a] [] pos) (Di gs):=.of λρ=>Nx (N1 n k (i ρ) hs) λs H Q b=>by
 obtain⟨t,o,la,Hs,f,q⟩:=b;refine Qb f q λds v h e l s1 u m=>?_;unfold Di at q;rw[l,bind_ok] at q;unfold JP at q;split at q
 ·rename_i j
  by_cases d:-(2 ^ 62)<=j/\j<2 ^ 62
  ·rw[if_pos d] at q;obtain⟨x,rfl,g⟩:=m.one;exact⟨j,by rw[g.int],d.1,d.2,q _ h e s1 (Qm 0 _)⟩
  ·rw[if_neg d] at q;exact q.elim
 ·exact q.elim
def enm:List D->R (List D)
 |[.tuple ds]=>.ok (nQ 0 ds)
 |_=>.no
def CA(a:aE->R (List D)):aE->R (List D):=λρ=>(a ρ).bind enm
def RDs.one(h:RDs K H xs [d]):∃x,xs=[x]/\RD K H x d:=by
 cases h with|cons a t=>cases t;exact⟨_,rfl,a⟩
def RDs.two{K:a8}{H:Hp}{xs:List V}{d e:D}(h:RDs K H xs [d,e]):∃x y,xs=[x,y]/\RD K H x d/\RD K H y e:=by
 cases h with|cons a t=>cases t with|cons b t=>cases t;exact⟨_,_,rfl,a,b⟩
def xb{x1}(o:Gl c.X "enumerate")(j:c.X.mg "enumerate"=none)(i:Np c [a] gs)(hs:aP [a] c.X.env=[(false,eI a c.X.env)]:=by rfl):OT c (.Tuple elts x1 tpos) (.Call (.Name "enumerate" p) [a] [] pos) (CA gs):=.of λρ=>Nx (Ui o j (i ρ) hs) λt H Q b=>by
 obtain⟨u,s,la,Hs,f,q⟩:=b;refine JA f q λds v h d l s1 k m=>?_;unfold CA at q;rw[l,bind_ok] at q;unfold enm at q;split at q
 ·obtain⟨x,rfl,g⟩:=m.one;cases g with
  |tuple e n=>exact⟨_,_,rfl,(m8.of (k.st.sub _ _ e)),q _ h d s1 (Uy (.of e) n)⟩
 ·exact q.elim
def zp:List D->R (List D)
 |[.tuple ds,.tuple es]=>.ok (zD ds es)
 |_=>.no
def UA(a:aE->R (List D)):aE->R (List D):=λρ=>(a ρ).bind zp
def UB{x1}(w:Gl c.X "zip")(n:c.X.mg "zip"=none)(m:Np c [a,b] gs)(hs:aP [a,b] c.X.env=[(false,eI a c.X.env),(false,eI b c.X.env)]:=by rfl)(e:aP [b] c.X.env=[(false,eI b c.X.env)]:=by rfl):
  OT c (.Tuple elts x1 tpos) (.Call (.Name "zip" p) [a,b] [] pos) (UA gs):=.of λρ=>Nx (XR w n (m ρ) hs e) λA H Q d=>by
 obtain⟨B,z,la,Hs,f,q⟩:=d;refine JA f q λds E l g o s1 j t=>?_;unfold UA at q;rw[o,bind_ok] at q;unfold zp at q;split at q
 ·obtain⟨x,y,rfl,k,s⟩:=t.two;cases k with
  |tuple h v=>
   cases s with
   |tuple i u=>exact⟨_,_,_,_,rfl,(m8.of (j.st.sub _ _ h)),(m8.of (j.st.sub _ _ i)),q _ l g s1 (Y0 (.of h) v (.of i) u)⟩
 ·exact q.elim
inductive TNI (K:a8) (cls:Str->ap) (E:XK) (ρ:aE) (r:R D) (σ:St) (H:Hp) (Q:VK):Prop
 |mk (H0 Hs0:Hp) (la:Nat->Option ap) (Hs:Hp) (f:Fr K H0 Hs0 la ρ σ H Hs) (q:Fin K cls E H Hs r λd=>∀a o H' Hs',cQ H Hs H' Hs'->H' a=none->oP K Hs' o d->Q (.ref a) (upd H' a o)):TNI K cls E ρ r σ H Q
def TN(K:a8)(cls:Str->ap)(E:XK)(ρ:aE)(r:R D):TE:=TNI K cls E ρ r
structure JN (c:C) (e:bj) (g:aE->R D):Prop where of ::
 run:∀ ρ,PE c.X e (TN c.X.K c.cls c.E ρ (g ρ))
instance{c:C}{e:bj}{g:aE->R D}:CoeFun (JN c e g) (λ_=>∀ ρ,PE c.X e (TN c.X.K c.cls c.E ρ (g ρ))):=⟨JN.run⟩
section
variable{c:C}{e a b l tg:bj}{g ga gb:aE->R D}{pos p:Pos}{gs:aE->R (List D)}{es:List bj}{x:Str}
theorem q1r(q:TR K cls E ρ r σ H Q):TN K cls E ρ r σ H Q:=by
 obtain⟨i,h,la,Hs,f,q⟩:=q;refine⟨i,h,la,Hs,f,?_⟩;cases r with
 |ok d=>exact λa o H' j s n r=>q _ _ _ (s.trans (.new s.sub n)) (r.share (s.sub.free n))
 |ex x n=>exact q
 |no=>exact q
def JN.je(h:JN c e g):JE c e g:=.of λρ=>sS (h ρ) λd H Q q=>q1r q
theorem Ez(h:Np c es gs):JN c (.List es pos) (eZ gs .list):=.of λρ=>sS (vy (h ρ)) λt H Q d=>by
 obtain⟨u,s,la,Hs,f,q⟩:=d;refine JA f q λds w m j n s1 v k=>?_;unfold eZ at q;rw[n,bind_ok] at q;by_cases i:ds.length<=1000
 ·rw[if_pos i] at q;exact⟨cE (eX (by rw[k.length];exact i)),λp o=>q p _ m j s1 o (.lst k)⟩
 ·rw[if_neg i] at q;exact q.elim
theorem Lp:JN c (.Dict [] [] pos) (λ_=>.ok (.dict [])):=.of λρ=>sS PK λj H Q d=>by obtain⟨k,i,la,Hs,f,q⟩:=d;exact λp h=>q p _ H Hs (.refl f.st.sub) h (.dK .nil)
def fD(i:Nat)(g:aE->R D):aE->R Fl:=λρ=>(g ρ).bind λd=>.ok (.nx (ρ.set i (.own d)))
theorem sN(f:Fr K H0 Hs0 la ρ σ H Hs)
  (h:qE K cls E H0 Hs0 la D' (r.bind k)) (m:∀d a o H' i,r=.ok d->Fr K H0 Hs0 la ρ σ H' i->H' a=none->oP K i o d->Q (.ref a) (upd H' a o)):TN K cls E ρ r σ H Q:=by
 refine⟨H0,Hs0,la,Hs,f,?_⟩;cases r with
 |ok d=>exact λa o H' i s n r=>m d a o H' i rfl (f.step s) n r
 |ex c n=>exact λH' i s=>h H' i (f.st.trans s)
 |no=>exact h
theorem mV(i:Nat)(h:JN c e g)(m:c.X.N.Nodup)(t:c.X.N[i]?=some x:=by rfl)(y:T6 c.X.env.scope x:=by first|exact iq rfl|exact f9 rfl)(hs:hX e (some (.Name x pos')) pos.line c.X.env=pure false:=by rfl)
  (s:c.X.fn x=true\/c.X.env.scope.names.lookup x=some .local:=by first|exact .inl rfl|exact .inr rfl|assumption):JS c (.Assign [.Name x pos'] e pos) (fD i g):=.of λρ=>C1 (Ji m t y (h ρ) hs s) λD B H j=>by
 obtain⟨E,z,la,Hs,f,q⟩:=j;refine sN f q λd a o A k v u n w=>?_;unfold fD at q;rw[v,bind_ok] at q;exact q _ _ k (u.setO i n w)
def Ay{d:Type}:R d->R d
 |.ex _ _=>.no
 |r=>r
def rm{d:Type}{r:R d}{a:d}(h:Ay r=.ok a):r=.ok a:=by
 cases r<;>first|exact h|cases h
def fE(f:D->R (Option D)):List D->R (List D)
 |[]=>.ok []
 |d::r=>(f d).bind λo=>(fE f r).bind λys=>.ok (match o with
  |some y=>y::ys
  |none=>ys)
theorem nR(h:fE f (d::r)=.ok ys):∃o i,f d=.ok o/\fE f r=.ok i/\ys=o.toList++i:=by
 unfold fE at h;cases j:f d with
 |ok o=>
  rw[j,bind_ok] at h;cases k:fE f r with
  |ok i=>
   rw[k,bind_ok] at h;cases h;cases o<;>exact⟨_,i,rfl,rfl,rfl⟩
  |ex x n=>rw[k] at h;cases h
  |no=>rw[k] at h;cases h
 |ex x n=>rw[j] at h;cases h
 |no=>rw[j] at h;cases h
def UC:Sl->Sl
 |.own d=>.lck d
 |.ow2 _=>.no
 |s=>s
def jM(nt:Nat)(ix:List Nat)(ρ:aE):aE:=uZ nt Sl.no++ix.map λi=>UC ((ρ[i]?).getD .no)
def UD(nt:Nat):D->aE->R aE:=match nt with
 | 1=>bO 0
 | 2=>mG 2 (cP (bO 0) (cP (bO 1) nP))
 |_=>λ_ _=>.no
def iG(nt:Nat)(ρ:aE)(gt:aE->R Bool)(ge:aE->R D):D->R (Option D):=λd=>Ay ((UD nt d ρ).bind λf=>(gt f).bind λb=>if b then(ge f).bind λy=>.ok (some y) else .ok none)
def de(nt:Nat)(ix:List Nat)(d:aE->R (List D))(gt:aE->R Bool)(ge:aE->R D):aE->R D:=λρ=>(d ρ).bind λds=>if ds.length<=1000 then(fE (iG nt (jM nt ix ρ) gt ge) ds).bind λys=>.ok (.list ys) else .no
structure Wk (c:C) (ifs:List bj) (g:aE->R Bool):Prop where of ::
 run:∀ ρ,Ei c.X ifs (Cy c.X.K c.cls c.E ρ (g ρ))
instance{c:C}{ifs:List bj}{g:aE->R Bool}:CoeFun (Wk c ifs g) (λ_=>∀ ρ,Ei c.X ifs (Cy c.X.K c.cls c.E ρ (g ρ))):=⟨Wk.run⟩
def eR:Wk c [] (λ_=>.ok true):=.of λρ d s i H Q I h=>by obtain⟨k,j,la,Hs,f,q⟩:=h;exact Uc d s i H Q I (q H Hs (.refl f.st.sub))
def i3(h:JT c e gt):Wk c [e] gt:=.of λρ=>Ud (h ρ)
def zE(K:a8)(nt:Nat):TG:=match nt with
 | 1=>mK 0
 |_=>Xi K 2 (L2.aa (mK 0) (L2.aa (mK 1) L2.aH))
def uf{K:a8}{nt:Nat}(h:nt=1\/nt=2):T7 nt (zE K nt):=by
 rcases h with rfl|rfl
 ·exact PP ⋯
 ·exact Uf ⋯ ⋯
theorem s_{K:a8}{nt:Nat}{s k H Hs:Hp}{la:Nat->Option ap}{ρ j:aE}{o:St}{v:V}{d:D}{Q:St->Hp->Prop}(m:nt=1\/nt=2)(f:Fr K s k la ρ o H Hs)(r:RD K Hs v d)(h:UD nt d ρ=.ok j)
  (q:∀ σ',Fr K s k la j σ' H Hs->Q σ' H):zE K nt v o H Q:=by
 rcases m with rfl|rfl
 ·cases h;exact q _ (f.set 0 r)
 ·unfold UD mG at h;simp only at h;cases r with
  | @tuple p xs ds t i=>
   simp only at h;split at h
   ·rename_i n
    cases i with
    |nil=>cases n
    |cons u i=>
     cases i with
     |nil=>cases n
     |cons w i=>
      cases i with
      |nil=>
       cases h;exact⟨p,_,rfl,(m8.of (f.st.sub _ _ t)),rfl,_,_,rfl,_,_,rfl,rfl,q _ ((f.set 0 u).set 1 w)⟩
      |cons _ _=>simp at n
   ·cases h
  |none=>cases h
  |bool _=>cases h
  |int _=>cases h
  |str _=>cases h
  |list _ _=>cases h
  |dictK _ _=>cases h
  |dictT _ _ _=>cases h
  |dictF _ _ _=>cases h
theorem Fr.block(f:Fr K H0 Hs0 la ρ σ H Hs)(nt:Nat)(ix:List Nat):∃E,Fr K H Hs E (jM nt ix ρ) (L2.lL nt ix σ) H Hs:=by
 have I:∀(j:Nat) (d:D),(jM nt ix ρ)[j]?=some (Sl.lck d)->∃a o,(L2.lL nt ix σ)[j]?=some (some (V.ref a))/\H a=some o/\Hs a=none/\oP K Hs o d:=λj d h=>by
  unfold jM at h;by_cases m:j<nt
  ·rw[c8 (by simpa using m),cF,if_pos m] at h;cases h
  ·have m:nt<=j:=by omega
   rw[aY (by simpa using m),dS,b9] at h;cases t:ix[j-nt]? with
   |none=>rw[t] at h;cases h
   |some i=>
    rw[t] at h;have z:∀v,σ[i]?=some (some v)->(L2.lL nt ix σ)[j]?=some (some v):=λv u=>by
     unfold L2.lL;rw[aY (by simpa using m),dS,b9,t];simp[u]
    cases n:ρ[i]? with
    |none=>simp only[dG,n,iC,UC] at h;cases h
    |some s=>
     simp only[dG,n,lT] at h;cases s with
     |own d'=>
      cases h;obtain⟨a,o,u,w,A,B,L⟩:=f.ow i d n;exact⟨a,o,z _ u,w,A,L⟩
     |lck d'=>
      cases h;obtain⟨a,o,u,w,A,B,L,O⟩:=f.lk i d n;exact⟨a,o,z _ u,A,B,O⟩
     |no=>cases h
     |shr _=>cases h
     |ow2 _=>cases h
 have y:∀(j:Nat) (d:List (List D)),¬ (jM nt ix ρ)[j]?=some (Sl.ow2 d):=λj d h=>by
  unfold jM at h;by_cases m:j<nt
  ·rw[c8 (by simpa using m),cF,if_pos m] at h;cases h
  ·have m:nt<=j:=by omega
   rw[aY (by simpa using m),dS,b9] at h;cases t:ix[j-nt]? with
   |none=>rw[t] at h;cases h
   |some i=>
    rw[t] at h;cases n:ρ[i]? with
    |none=>simp only[dG,n,iC,UC] at h;cases h
    |some s=>
     simp only[dG,n,lT] at h;cases s<;>cases h
 refine⟨λj=>match (jM nt ix ρ)[j]?,(L2.lL nt ix σ)[j]? with
  |some (Sl.lck _),some (some (V.ref a))=>some a
  |_,_=>none,.refl f.st.sub,by simp[jM,L2.lL],λj d h=>?_,λj d h=>?_,λj d h=>?_,λj k G N a q M _ _=>?_,λj a h=>?_,λj d h=>(y j d h).elim,λj k G N q _=>(y j G q).elim⟩
 case refine_3=>
  obtain⟨a,o,u,w,A,B⟩:=I j d h;exact⟨a,o,u,by rw[h,u],w,A,w,B⟩
 case refine_5=>
  split at h
  ·rename_i d P q M
   cases h;obtain⟨P,o,u,w,_⟩:=I j d q;rw[M] at u;cases u;exact⟨o,w⟩
  ·cases h
 all_goals
  unfold jM at *
 ·have h:=h;by_cases m:j<nt
  ·rw[c8 (by simpa using m),cF,if_pos m] at h;cases h
  ·have m:nt<=j:=by omega
   rw[aY (by simpa using m),dS,b9] at h;cases t:ix[j-nt]? with
   |none=>rw[t] at h;cases h
   |some i=>
    rw[t] at h;cases n:ρ[i]? with
    |none=>simp only[dG,n,iC,UC] at h;cases h
    |some s=>
     simp only[dG,n,lT] at h;cases s with
     |shr d'=>
      cases h;obtain⟨v,u,w⟩:=f.sh i d n;refine⟨v,?_,w⟩;unfold L2.lL;rw[aY (by simpa using m),dS,b9,t];simp[u]
     |no=>cases h
     |own _=>cases h
     |lck _=>cases h
     |ow2 _=>cases h
 ·have h:=h;by_cases m:j<nt
  ·rw[c8 (by simpa using m),cF,if_pos m] at h;cases h
  ·have m:nt<=j:=by omega
   rw[aY (by simpa using m),dS,b9] at h;cases t:ix[j-nt]? with
   |none=>rw[t] at h;cases h
   |some i=>
    rw[t] at h;cases n:ρ[i]? with
    |none=>simp only[dG,n,iC,UC] at h;cases h
    |some s=>
     simp only[dG,n,lT] at h;cases s<;>cases h
 ·have q:=q;by_cases m:j<nt
  ·rw[c8 (by simpa using m),cF,if_pos m] at q;cases q
  ·have m:nt<=j:=by omega
   rw[aY (by simpa using m),dS,b9] at q;cases t:ix[j-nt]? with
   |none=>rw[t] at q;cases q
   |some i=>
    rw[t] at q;cases n:ρ[i]? with
    |none=>simp only[dG,n,iC,UC] at q;cases q
    |some s=>
     simp only[dG,n,lT] at q;cases s<;>cases q
theorem xc(h:∀d c n,f d≠.ex c n):∀(ds:List D) (c:Str) (n:Option D),fE f ds≠.ex c n
 |[],c,n=>λe=>by cases e
 |d::r,c,n=>λe=>by
  unfold fE at e;cases j:f d with
  |ok o=>
   rw[j,bind_ok] at e;cases i:fE f r with
   |ok m=>rw[i,bind_ok] at e;cases e
   |ex x k=>exact xc h r x k i
   |no=>rw[i] at e;cases e
  |ex x k=>exact h d x k j
  |no=>rw[j] at e;cases e
theorem Az(nt:Nat)(ρ:aE)(gt:aE->R Bool)(ge:aE->R D)(d:D)(c:Str)(n:Option D):iG nt ρ gt ge d≠.ex c n:=by
 unfold iG Ay;split<;>first|exact λe=>by cases e|skip
 rename_i h
 exact λe=>h c n e
inductive cnI (K:a8) (f:D->R (Option D)) (ds ys:List D) (H1 Hs1:Hp) (i m:Nat) (acc:List V) (H':Hp):Prop
 |mk (done bu zs ya Hs':_) (h0:ds=done++bu) (h1:done.length=i) (h2:bu.length=m) (h3:cQ H1 Hs1 H' Hs') (h4:RDs K Hs' acc ya) (h5:ya.length<=i) (h6:fE f bu=.ok zs) (h7:ys=ya++zs):cnI K f ds ys H1 Hs1 i m acc H'
theorem Lq{K:a8}{cls:Str->ap}{E:XK}{nt:Nat}{ix:List Nat}{gi:aE->R (List D)}{gt:aE->R Bool}{ge:aE->R D}{ρ:aE}{u:St}{H:Hp}{Q:VK}(X:nt=1\/nt=2)
  (q:TN K cls E ρ (de nt ix gi gt ge ρ) u H Q):
  PL nt ix (Uz K cls E ρ (gi ρ)) (zE K nt) (λu H Q=>∃h,Cy K cls E0 h (gt h) u H Q) (λu H Q=>∃h,TR K cls E0 h (ge h) u H Q) u H Q:=by
 obtain⟨H0,a4,la,Hs,f,q⟩:=q;refine⟨H0,a4,la,Hs,f,?_⟩;unfold de at q;cases hi:gi ρ with
 |no=>rw[hi] at q;exact q
 |ex x n=>rw[hi] at q;exact q
 |ok ds=>
  rw[hi,bind_ok] at q;intro J H1 L Hn s1 sn it;by_cases hl:ds.length<=1000
  ·rw[if_pos hl] at q;cases U:fE (iG nt (jM nt ix ρ) gt ge) ds with
   |no=>rw[U] at q;exact q.elim
   |ex x n=>exact(xc (Az _ _ _ _) _ _ _ U).elim
   |ok ys=>
    rw[U,bind_ok] at q;obtain⟨lb,fb⟩:=(f.step s1).block nt ix;refine⟨cnI K (iG nt (jM nt ix ρ) gt ge) ds ys H1 L,
     ⟨ds.length,[],ds,ys,[],L,rfl,rfl,rfl,.refl s1.sub,.nil,cH _,U,rfl⟩,?_⟩
    rintro i m a6 H' ⟨done,bu,zs,ya,M,k,s,O,st,S,yl,hz,P⟩;obtain⟨a3,t,w⟩:=it H' M (sn.trans st.all) st.sh st.sub;cases bu with
    |nil=>
     left;cases hz;rw[b_] at k P;subst P k;exact⟨t i ∅,λp hp=>q p _ H' M (s1.trans st) hp (.lst S)⟩
    |cons d bu=>
     right;have G:i<ds.length:=by rw[k,aI,aZ];omega
     refine⟨a3 i G,eX (by rw[S.length];omega),λx H2 a1=>?_⟩;obtain⟨d',a0,hd,N,r2⟩:=w i x H2 G a1;have a2:d'=d:=by
      rw[k,aY ∅] at hd;simp[s] at hd;exact hd.symm
     subst a2;obtain⟨o,z,j,I,rfl⟩:=nR hz;have j:=rm j;cases T:UD nt d' (jM nt ix ρ) with
     |no=>rw[T] at j;cases j
     |ex x n=>rw[T] at j;cases j
     |ok h=>
      rw[T,bind_ok] at j;refine s_ X ((fb.step st).step N) r2 T λa5 f2=>⟨h,?_⟩;refine⟨_,_,_,a0,f2,?_⟩;cases ht:gt h with
      |no=>rw[ht] at j;cases j
      |ex x n=>rw[ht] at j;cases j
      |ok b=>
       rw[ht,bind_ok] at j;intro H3 B A;cases b with
       |false=>
        rw[if_neg ba] at j;cases j;refine wM ⟨bu.length,by rw[<- O];simp,done++[d'],bu,z,ya,B,by rw[k];simp,by simp[s],rfl,(st.trans N).trans A,S.same (N.trans A).sh,by omega,I,by simpa using P⟩
       |true=>
        rw[if_pos rfl] at j;refine wN ⟨h,_,_,_,B,f2.step A,?_⟩;cases he:ge h with
        |no=>rw[he] at j;cases j
        |ex x n=>rw[he] at j;cases j
        |ok y=>
         rw[he,bind_ok] at j;cases j;intro v H4 Y s4 r4;exact⟨bu.length,by rw[<- O];simp,done++[d'],bu,z,ya++[y],Y,by rw[k];simp,by simp[s],rfl,((st.trans N).trans A).trans s4,(S.same ((N.trans A).trans s4).sh).append (.cons r4 .nil),by simp;omega,I,by rw[P];simp⟩
  ·rw[if_neg hl] at q;exact q.elim
def C.comp(c:C)(N':List Str)(scope:eM)(h:List (Str×ap))(A:ap)(d:ak)(f:Hp)(j:List ap)(i:List (ap×Obj)):C:=⟨bi c.X N' scope h A d f j i,c.cls,E0⟩
variable{elt iter:bj}{ifs:List bj}{scope:eM}{N':List Str}{nt:Nat}{ix:List Nat}{gi:aE->R (List D)}{gt:aE->R Bool}{ge:aE->R D}
def xf(c:C)(N':List Str)(scope:eM)(nt:Nat)(tg:bj)(ifs:List bj)(elt:bj)(gt:aE->R Bool)(ge:aE->R D):Prop:=
 ∀h A d f j i,PG (c.comp N' scope h A d f j i).X tg (zE c.X.K nt)/\Wk (c.comp N' scope h A d f j i) ifs gt/\JE (c.comp N' scope h A d f j i) elt ge
def xf.at(h:xf c N' scope nt tg ifs elt gt ge):∀m A i f o n,PG (bi c.X N' scope m A i f o n) tg (zE c.X.K nt)/\Ei (bi c.X N' scope m A i f o n) ifs (λk H Q=>∃d,Cy c.X.K c.cls E0 d (gt d) k H Q) /\
  PE (bi c.X N' scope m A i f o n) elt (λk H Q=>∃d,TR c.X.K c.cls E0 d (ge d) k H Q):=λm A i f o n=>by
 obtain⟨v,y,w⟩:=h m A i f o n;exact⟨v,λj s k H Q I u=>by obtain⟨d,q⟩:=u;exact y d j s k H Q I q,λj s k H Q I t=>by obtain⟨d,q⟩:=t;exact w d j s k H Q I q⟩
def er(nt:Nat)(d:nt=1\/nt=2)(f:c.X.calm=true)(S:jZ c.X scope N' nt ix)(h:JI c tg iter gi)(i:xf c N' scope nt tg ifs elt gt ge)(hs:∀x,bf iter c.X.env x=pure x:=by intro _;rfl):
  JN c (.ListComp elt [⟨tg,iter,ifs,0⟩] scope pos) (de nt ix gi gt ge):=.of λρ=>sS (Gb f S (uf d) (h ρ) i.at hs) λj H Q q=>Lq d q
theorem iU(i:Nat){h u:Pos}(nt:Nat)(j:nt=1\/nt=2)(v:c.X.N.Nodup)(y:c.X.calm=true)(S:jZ c.X scope N' nt ix)(B:JI c tg iter gi)(E:xf c N' scope nt tg ifs elt gt ge)
  (s:c.X.N[i]?=some x:=by rfl) (w:c.X.env.scope.names.lookup x=some .local:=by rfl)
  (n:hX (.ListComp elt [⟨tg,iter,ifs,0⟩] scope pos) (some (.Name x u)) h.line c.X.env=pure true:=by rfl)
  (hs:∀x,bf iter c.X.env x=pure x:=by intro _;rfl):JS c (.Assign [.Name x u] (.ListComp elt [⟨tg,iter,ifs,0⟩] scope pos) h) (fD i (de nt ix gi gt ge)):=.of λρ=>C1 (Js v s w y S (uf j) (B ρ) E.at n hs) λD z H k=>by
 obtain⟨M,L,la,Hs,f,q⟩:=k;refine Lq (Q:=λx t=>D.nx (z.set i (some x)) t) j (sN f q λd a o t m I G A K=>?_);unfold fD at q;rw[I,bind_ok] at q;exact q _ _ m (G.setO i A K)
end
def Qn(h:PS X.nox st t):PS X st t:=λa s b H D I c=>
 bx (h a s b H D (I.wish _) c) (λ_ _ q=>q.unwish) λ_ _ z=>jA z
def C.nox(c:C):C:=⟨c.X.nox,c.cls,E0⟩
def k7(k:D->aE->R aE)(b:aE->R Fl):List D->aE->R Fl
 |[],ρ=>.ok (.nx ρ)
 |d::r,ρ=>match k d ρ with
  |.ok ρ1=>match b ρ1 with
   |.ok (.nx a)=>k7 k b r a
   |.ok (.ct a)=>k7 k b r a
   |.ok (.bk a)=>.ok (.nx a)
   |.ok (.rt d)=>.ok (.rt d)
   |_=>.no
  |_=>.no
def EA(i:Nat)(ρ:aE):aE:=match ρ[i]? with
 |some (Sl.own d)=>ρ.set i (.lck d)
 |_=>ρ
def AA(i:Nat)(a ρ:aE):aE:=match a[i]?,ρ[i]? with
 |some (Sl.own _),some (Sl.lck d)=>ρ.set i (.own d)
 |_,_=>ρ
def unl(i:Nat)(a:aE):R Fl->R Fl
 |.ok (.nx ρ)=>.ok (.nx (AA i a ρ))
 |.ok (.bk ρ)=>.no
 |.ok (.ct ρ)=>.no
 |r=>r
inductive fgI (K:a8) (cls:Str->ap) (E:XK) (H0 Hs0:Hp) (la:Nat->Option ap) (D':FW) (kt:D->aE->R aE) (gb:aE->R Fl) (ds:List D) (i m:Nat) (σ:St) (H:Hp):Prop
 |mk (done bu ρ Hs:_) (h0:ds=done++bu) (h1:done.length=i) (h2:bu.length=m) (h3:Fr K H0 Hs0 la ρ σ H Hs) (h4:qE K cls E H0 Hs0 la D' (k7 kt gb bu ρ)):fgI K cls E H0 Hs0 la D' kt gb ds i m σ H
def Qo
  (it:OS K J ds Hn Hs0) (O:dQ Hn H0) (f:Fr K H0 Hs0 la ρ g H Hs)
  (B:∀ ρ d v g H Q,X_ K ρ d (kt d ρ) v g H Q->tg v g H Q) (s:∀ ρ D g H,SR K cls E0 ρ (gb ρ) D g H->tb D g H)
  (q:qE K cls E H0 Hs0 la D' (k7 kt gb ds ρ)):
  TFI tg tb D' g J H:=by
 refine⟨fgI K cls E H0 Hs0 la D' kt gb ds,⟨ds.length,[],ds,ρ,Hs,rfl,rfl,rfl,f,q⟩,?_⟩;rintro i m g H ⟨done,bu,ρ,Hs,e,o,G,f,q⟩;obtain⟨u,h,k⟩:=it H Hs (O.trans f.st.all) f.st.sh f.st.sub;cases bu with
 |nil=>
  rw[b_] at e;subst e;exact .inl ⟨h i ∅,q g H Hs f⟩
 |cons d bu=>
  have l:i<ds.length:=by rw[e,aI,aZ];omega
  refine .inr ⟨u i l,λσ' H'=>∃b a,Fr K H0 Hs0 la b σ' H' a/\qE K cls E H0 Hs0 la D' (k7 kt gb bu b),λσ' H' ⟨b,a,j,q'⟩=>⟨bu.length,by rw[<- G];simp,done++[d],bu,b,a,by rw[e];simp,by simp[o],rfl,j,q'⟩,λx w z=>?_⟩;obtain⟨d',p,y,P,S⟩:=k i x w l z;have t:d'=d:=by
   rw[e,aY ∅] at y;simp[o] at y;exact y.symm
  subst t;unfold k7 at q;refine B ρ d' x g w _ ⟨H0,Hs0,la,p,f.step P,S,?_⟩;cases A:kt d' ρ with
  |ex c n=>rw[A] at q;exact q
  |no=>rw[A] at q;exact q
  |ok ρ1=>
   rw[A] at q;intro I N;refine s ρ1 _ I w ⟨H0,Hs0,la,p,N,?_⟩;cases L:gb ρ1 with
   |no=>simp only[L] at q;exact q.elim
   |ex c n=>simp only[L] at q;exact q.elim
   |ok M=>
    simp only[L] at q;cases M with
    |nx b=>exact λσ' H' a j=>⟨b,a,j,q⟩
    |ct b=>exact λσ' H' a j=>⟨b,a,j,q⟩
    |bk b=>exact λσ' H' a j=>q σ' H' a j
    |rt d=>exact q
def uU(A B:Hp):Hp:=λb=>match A b with
 |some o=>some o
 |none=>B b
def kP:dQ A (uU A B):=λb o e=>by unfold uU;rw[e]
def kn(h:A b=none):uU A B b=B b:=by unfold uU;rw[h]
def Gx(a:dQ A H)(c:dQ B H):dQ (uU A B) H:=λb o e=>by
 cases h:A b with
 |some u=>unfold uU at e;rw[h] at e;cases e;exact a b o h
 |none=>rw[kn h] at e;exact c b o e
def Qp(a:dQ A H)(c:dQ B H):dQ B (uU A B):=λb o e=>by
 cases h:A b with
 |some u=>
  unfold uU;rw[h];have:=a b u h;rw[c b o e] at this;exact this.symm
 |none=>rw[kn h];exact e
def Fr.into(f:Fr K H0 Hs0 la ρ σ H Hs):Fr K (uU H0 Hs) Hs la ρ σ H Hs:=by
 have sub:=Gx f.st.all f.st.sub;refine⟨⟨sub,.refl _,f.st.sub,λa o e _ z=>z⟩,f.len,f.sh,λi d h=>?_,λi d h=>?_,f.dj,λi a e=>let ⟨o,k⟩:=f.lh i a e;⟨o,kP _ _ k⟩,λi d h=>?_,f.u2⟩
 ·obtain⟨a,o,g,n,c,j,m⟩:=f.ow i d h;exact⟨a,o,g,n,c,by rw[kn j];exact c,m⟩
 ·obtain⟨a,o,g,n,c,j,m,p⟩:=f.lk i d h;exact⟨a,o,g,n,c,j,kP _ _ m,p⟩
 ·obtain⟨a,q,O⟩:=f.o2 i d h;exact⟨a,q,O.at_,O.ob,O.nd,λb l=>⟨(O.out b l).1,by rw[kn (O.out b l).2];exact(O.out b l).1⟩,O.dj,O.inn⟩
def cQ.outof(s:cQ H0 Hs0 H1 Hs1)(t:cQ (uU H0 Hs1) Hs1 H' Hs'):cQ H0 Hs0 H' Hs':=
 ⟨kP.trans t.all,s.sh.trans t.sh,t.sub,λa o e n z=>t.out a o (kP _ _ e) n (s.out a o e n z)⟩
def Fr.outof(j:Fr K H0 Hs0 la ρ1 σ1 H1 Hs1)(f:Fr K (uU H0 Hs1) Hs1 la ρ σ H' Hs'):Fr K H0 Hs0 la ρ σ H' Hs':=by
 refine⟨j.st.outof f.st,f.len,f.sh,λi d h=>?_,λi d h=>?_,f.dj,j.lh,λi d h=>?_,f.u2⟩
 ·obtain⟨a,o,g,c,l,m,k⟩:=f.ow i d h;exact⟨a,o,g,c,l,kP.free m,k⟩
 ·obtain⟨a,o,g,c,l,m,k,q⟩:=f.lk i d h;obtain⟨o',e⟩:=j.lh i a c;have n:=kP (B:=Hs1) _ _ e;rw[k] at n;cases n;exact⟨a,o,g,c,l,m,e,q⟩
 ·obtain⟨a,s,O⟩:=f.o2 i d h;exact⟨a,s,O.at_,O.ob,O.nd,λb p=>⟨(O.out b p).1,kP.free (O.out b p).2⟩,O.dj,O.inn⟩
def qE.into(b:Fr K H0 Hs0 la ρ1 σ1 H1 Hs1)(q:qE K cls E H0 Hs0 la D' r):qE K cls E (uU H0 Hs1) Hs1 la D' r:=by
 cases r with
 |no=>exact q
 |ex c n=>exact λH' a s=>q H' a (b.st.outof s)
 |ok e=>
  cases e with
  |nx ρ=>exact λσ' H' a f=>q σ' H' a (b.outof f)
  |bk ρ=>exact λσ' H' a f=>q σ' H' a (b.outof f)
  |ct ρ=>exact λσ' H' a f=>q σ' H' a (b.outof f)
  |rt d=>exact λv H' a s r=>q v H' a (b.st.outof s) r
def Fr.lock(f:Fr K H0 Hs0 la ρ σ H Hs)(B:ρ[i]?=some (Sl.own d))(x:σ[i]?=some (some (V.ref a)))(I:H a=some o)(Y:Hs a=none)(L:H0 a=none)(T:oP K Hs o d):
  Fr K (uU H0 (upd Hs a o)) Hs (λj=>if j=i then some a else la j) (ρ.set i (.lck d)) σ H Hs:=by
 have n:i<ρ.length:=(List.getElem?_eq_some_iff.mp B).1;have sub:dQ (upd Hs a o) H:=λb u q=>by
  by_cases M:b=a
  ·subst M;rw[bc] at q;cases q;exact I
  ·rw[bh M] at q;exact f.st.sub b u q
 have nx:∀{j:Nat}{s:Sl},(∀d,s≠.lck d)->(ρ.set i (.lck d))[j]?=some s->ρ[j]?=some s/\i≠j:=λ{j s} hs e=>by
  by_cases g:i=j
  ·subst g;rw[aN n] at e;exact absurd (cc e).symm (hs d)
  ·rw[ao g] at e;exact⟨e,g⟩
 refine⟨⟨Gx f.st.all sub,.refl _,f.st.sub,λa o e _ z=>z⟩,by simp[f.len],λj e h=>?_,λj e h=>?_,λj e h=>?_,λj k w y b m p N Q=>?_,λj b h=>?_,λj e h=>?_,λj k w y m p=>?_⟩
 ·obtain⟨h,_⟩:=nx (λ_ z=>by cases z) h;exact f.sh j e h
 ·obtain⟨h,g⟩:=nx (λ_ z=>by cases z) h;obtain⟨b,u,t,E,v,A,G⟩:=f.ow j e h;refine⟨b,u,t,E,v,?_,G⟩;rw[kn A,bh (λz=>g ?_)]
  ·exact v
  ·subst z;exact f.dj i j d e b B h x t
 ·by_cases g:i=j
  ·subst g;rw[aN n] at h;cases h;exact⟨a,o,x,if_pos rfl,I,Y,by rw[kn L,bc],T⟩
  ·rw[ao g] at h;obtain⟨b,u,t,E,v,A,G,P⟩:=f.lk j e h;exact⟨b,u,t,by rw[if_neg (dm g)];exact E,v,A,kP _ _ G,P⟩
 ·obtain⟨m,_⟩:=nx (λ_ z=>by cases z) m;obtain⟨p,_⟩:=nx (λ_ z=>by cases z) p;exact f.dj j k w y b m p N Q
 ·by_cases g:j=i
  ·simp only[if_pos g] at h;cases h;exact⟨o,by rw[kn L,bc]⟩
  ·simp only[if_neg g] at h;obtain⟨u,e⟩:=f.lh j b h;exact⟨u,kP _ _ e⟩
 ·obtain⟨h,g⟩:=nx (λ_ z=>by cases z) h;obtain⟨b,U,O⟩:=f.o2 j e h;refine⟨b,U,O.at_,O.ob,O.nd,λc l=>⟨(O.out c l).1,?_⟩,λc l k S X=>O.dj c l k S (nx (λ_ z=>by cases z) X).1,O.inn⟩;rw[kn (O.out c l).2,bh (λz=>?_)]
  ·exact(O.out c l).1
  ·subst z;exact O.dj c l i d B x
 ·exact f.u2 j k w y (nx (λ_ z=>by cases z) m).1 (nx (λ_ z=>by cases z) p).1
def cQ.unlock(s:cQ H0 Hs0 H Hs)(t:cQ (uU H0 (upd Hs a o)) Hs H' Hs'):cQ H0 Hs0 H' Hs':=
 ⟨kP.trans t.all,s.sh.trans t.sh,t.sub,λb u e n z=>t.out b u (kP _ _ e) n (s.out b u e n z)⟩
def Fr.unlock(f:Fr K H0 Hs0 la ρ σ H Hs)(E:ρ[i]?=some (Sl.own d))(k4:H0 a=none)
  (g:Fr K (uU H0 (upd Hs a o)) Hs (λj=>if j=i then some a else la j) ρ' σ' H' Hs'):Fr K H0 Hs0 la (AA i ρ ρ') σ' H' Hs':=by
 have st:=f.st.unlock g.st;have own:∀(j:Nat) (e:D),ρ'[j]?=some (Sl.own e)->∃b u,σ'[j]?=some (some (V.ref b))/\H' b=some u/\Hs' b=none/\H0 b=none/\oP K Hs' u e/\(uU H0 (upd Hs a o)) b=none:=λj e h=>by
  obtain⟨b,u,l,m,t,n,p⟩:=g.ow j e h;exact⟨b,u,l,m,t,kP.free n,p,n⟩
 have lck:∀(j:Nat) (e:D),j≠i->ρ'[j]?=some (Sl.lck e)->∃b u,σ'[j]?=some (some (V.ref b))/\la j=some b/\H' b=some u/\Hs' b=none/\H0 b=some u/\oP K Hs' u e:=λj e q h=>by
  obtain⟨b,u,l,m,t,n,p,Y⟩:=g.lk j e h;simp only[if_neg q] at m;obtain⟨u',T⟩:=f.lh j b m;have:=kP (B:=upd Hs a o) _ _ T;rw[p] at this;cases this;exact⟨b,u,l,m,t,n,T,Y⟩
 have two:∀(j:Nat) (e:List (List D)),ρ'[j]?=some (Sl.ow2 e)->∃b G,O2 K H0 H' Hs' ρ' σ' j e b G:=λj e h=>by
  obtain⟨b,G,O⟩:=g.o2 j e h;exact⟨b,G,O.at_,O.ob,O.nd,λc M=>⟨(O.out c M).1,kP.free (O.out c M).2⟩,O.dj,O.inn⟩
 unfold AA;cases A:ρ'[i]? with
 |none=>
  simp only[E];refine⟨st,g.len,g.sh,λj e h=>let ⟨b,u,l,m,t,n,p,_⟩:=own j e h;⟨b,u,l,m,t,n,p⟩,λj e h=>lck j e (λz=>by rw[z,A] at h;cases h) h,g.dj,f.lh,two,g.u2⟩
 |some s=>
  cases s with
  |no=>simp only[E];exact⟨st,g.len,g.sh,λj e h=>let ⟨b,u,l,m,t,n,p,_⟩:=own j e h;⟨b,u,l,m,t,n,p⟩,λj e h=>lck j e (λz=>by rw[z,A] at h;cases h) h,g.dj,f.lh,two,g.u2⟩
  |shr _=>simp only[E];exact⟨st,g.len,g.sh,λj e h=>let ⟨b,u,l,m,t,n,p,_⟩:=own j e h;⟨b,u,l,m,t,n,p⟩,λj e h=>lck j e (λz=>by rw[z,A] at h;cases h) h,g.dj,f.lh,two,g.u2⟩
  |own _=>simp only[E];exact⟨st,g.len,g.sh,λj e h=>let ⟨b,u,l,m,t,n,p,_⟩:=own j e h;⟨b,u,l,m,t,n,p⟩,λj e h=>lck j e (λz=>by rw[z,A] at h;cases h) h,g.dj,f.lh,two,g.u2⟩
  |ow2 _=>simp only[E];exact⟨st,g.len,g.sh,λj e h=>let ⟨b,u,l,m,t,n,p,_⟩:=own j e h;⟨b,u,l,m,t,n,p⟩,λj e h=>lck j e (λz=>by rw[z,A] at h;cases h) h,g.dj,f.lh,two,g.u2⟩
  |lck d'=>
   simp only[E];have L:i<ρ'.length:=(List.getElem?_eq_some_iff.mp A).1;have nx:∀{j:Nat}{s:Sl},(∀d,s≠.own d)->(ρ'.set i (.own d'))[j]?=some s->ρ'[j]?=some s/\i≠j:=λ{j s} hs e=>by
    by_cases q:i=j
    ·subst q;rw[aN L] at e;exact absurd (cc e).symm (hs d')
    ·rw[ao q] at e;exact⟨e,q⟩
   obtain⟨b,u,l,m,t,n,p,Y⟩:=g.lk i d' A;simp only[if_pos rfl] at m;cases m;have ne:∀(j:Nat) (e:D),ρ'[j]?=some (Sl.own e)->σ'[j]?≠some (some (V.ref a)):=λj e h z=>by
    obtain⟨b,u,U,_,_,_,_,p6⟩:=own j e h;rw[z] at U;cases U;rw[p] at p6;cases p6
   refine⟨st,by simp[g.len],λj e h=>?_,λj e h=>?_,λj e h=>?_,λj k N Q c v I P S=>?_,f.lh,λj e h=>?_,λj k N Q v I=>?_⟩
   ·obtain⟨h,_⟩:=nx (λ_ z=>by cases z) h;exact g.sh j e h
   ·by_cases q:i=j
    ·subst q;rw[aN L] at h;cases h;exact⟨a,u,l,t,n,k4,Y⟩
    ·rw[ao q] at h;obtain⟨b,u,U,p2,p3,p4,p5,_⟩:=own j e h;exact⟨b,u,U,p2,p3,p4,p5⟩
   ·obtain⟨h,q⟩:=nx (λ_ z=>by cases z) h;exact lck j e (dm q) h
   ·by_cases q:i=j
    ·by_cases w:i=k
     ·exact q.symm.trans w
     ·rw[ao w] at I;subst q;rw[l] at P;cases P;exact(ne k Q I S).elim
    ·rw[ao q] at v;by_cases w:i=k
     ·subst w;rw[l] at S;cases S;exact(ne j N v P).elim
     ·rw[ao w] at I;exact g.dj j k N Q c v I P S
   ·obtain⟨h,q⟩:=nx (λ_ z=>by cases z) h;obtain⟨b,G,O⟩:=two j e h;refine⟨b,G,O.at_,O.ob,O.nd,O.out,λc M k T w=>?_,O.inn⟩;by_cases nk:i=k
    ·subst nk;intro z;rw[l] at z;cases z;obtain⟨b',X,O'⟩:=g.o2 j e h;have hh:=O.at_;rw[O'.at_] at hh;cases hh;have hs:X=G:=by
      have v:=O.ob;rw[O'.ob] at v;injection v with v;injection v with v;exact ON (λx y z=>by cases z;rfl) |>.mp v
     subst hs;have:=(O'.out _ M).2;rw[p] at this;cases this
    ·rw[ao nk] at w;exact O.dj c M k T w
   ·exact g.u2 j k N Q (nx (λ_ z=>by cases z) v).1 (nx (λ_ z=>by cases z) I).1
def qf(a:aE->R (List D))(kt:D->aE->R aE)(gb:aE->R Fl):aE->R Fl:=λρ=>match a ρ with
 |.ok ds=>k7 kt gb ds ρ
 |_=>.no
def rn(m:c.X.calm=true)(p:OT c.nox tg iter gi)(y:JG c.nox tg kt)(t:Lo c.nox body gbd)(hs:∀x,bf iter c.X.env x=pure x:=by intro _;rfl):JS c (.For tg iter body [] pos) (qf gi kt gbd):=.of λρ=>by
 refine Qn (C1 (Po x_ m (p ρ) (g:=λv a H Q=>∃ ρ d,X_ c.X.K ρ d (kt d ρ) v a H Q) (tb:=λD a H=>∃ ρ,SR c.X.K c.cls E0 ρ (gbd ρ) D a H) ?_ ?_ hs) λD a H ⟨o,l,la,Hs,f,q⟩=>?_)
 ·exact λb s a H v u Q I r i=>by obtain⟨ρ,d,q⟩:=i;exact y ρ d b s a H v u Q I r q
 ·exact λb s a H D I k=>by obtain⟨ρ,q⟩:=k;exact t ρ b s a H D I q
 ·refine⟨o,l,la,Hs,f,?_⟩;unfold qf at q;cases j:gi ρ with
  |no=>rw[j] at q;exact q
  |ex x n=>rw[j] at q;exact q.elim
  |ok ds=>
   rw[j] at q;intro J z w s1 it;have e:=f.step s1;exact Qo (E:=c.E) (cls:=c.cls) (kt:=kt) (gb:=gbd) (tg:=λv a H Q=>∃ ρ d,X_ c.X.K ρ d (kt d ρ) v a H Q) (tb:=λD a H=>∃ ρ,SR c.X.K c.cls E0 ρ (gbd ρ) D a H) it (Qp e.st.all e.st.sub) e.into (λρ d v a H Q h=>⟨ρ,d,h⟩) (λρ D a H h=>⟨ρ,h⟩) (qE.into e q)
def sf(i:Nat)(kt:D->aE->R aE)(gb:aE->R Fl):aE->R Fl:=λρ=>match ρ[i]? with
 |some (Sl.own (.list ds))=>unl i ρ (k7 kt gb ds (EA i ρ))
 |_=>qf (gE λρ=>IQ ρ i) kt gb ρ
theorem AB{kt:D->aE->R aE}{gb:aE->R Fl}:∀(ds:List D) (ρ:aE) (a:Fl),k7 kt gb ds ρ=.ok a->(∃b,a=.nx b)\/∃d,a=.rt d
 |[],ρ,a,h=>by cases h;exact .inl ⟨_,rfl⟩
 |d::r,ρ,a,h=>by
  unfold k7 at h;split at h
  ·split at h
   ·exact AB r _ _ h
   ·exact AB r _ _ h
   ·cases h;exact .inl ⟨_,rfl⟩
   ·cases h;exact .inr ⟨_,rfl⟩
   ·cases h
  ·cases h
theorem EB{kt:D->aE->R aE}{gb:aE->R Fl}:∀(ds:List D) (ρ:aE) (c:Str) (n:Option D),k7 kt gb ds ρ≠.ex c n
 |[],ρ,c,n,h=>by cases h
 |d::r,ρ,c,n,h=>by
  unfold k7 at h;split at h
  ·split at h
   ·exact EB r _ _ _ h
   ·exact EB r _ _ _ h
   ·cases h
   ·cases h
   ·cases h
  ·cases h
def Lr(i:Nat)(P:c.X.calm=true)(hg:JG c.nox tg kt)(t:Lo c.nox body gbd)(L:c.X.N[i]?=some x:=by rfl)(Y:OR c.X.env.scope x:=by first|exact iq rfl|exact f9 (iq rfl)|exact f9 (f9 rfl))(U:(x==("__debug__" : Str))=false:=by decide)
  (m:(x==("__classdict__" : Str))=false:=by decide) (hs:∀y,bf (.Name x p) c.X.env y=pure y:=by intro _;rfl):JS c (.For tg (.Name x p) body [] pos) (sf i kt gbd):=.of λρ=>by
 by_cases ho:∃ds,ρ[i]?=some (Sl.own (.list ds))
 ·obtain⟨ds,ho⟩:=ho;refine Qn (C1 (Po (tg:=tg) x_ P (wE (X:=c.nox.X) (r9 L Y U m)) (g:=λv j H Q=>∃ ρ d,X_ c.X.K ρ d (kt d ρ) v j H Q) (tb:=λD j H=>∃ ρ,SR c.X.K c.cls E0 ρ (gbd ρ) D j H) ?_ ?_ hs) λD j H ⟨H0,a1,la,Hs,f,q⟩=>?_)
  ·exact λk s j H v u Q I r z=>by obtain⟨ρ,d,q⟩:=z;exact hg ρ d k s j H v u Q I r q
  ·exact λk s j H D I A=>by obtain⟨ρ,q⟩:=A;exact t ρ k s j H D I q
  ·obtain⟨a,o,M,B,k3,O,k5⟩:=f.ow i _ ho;cases k5 with
   | @lst G _ r=>
    refine⟨_,M,a,rfl,⟨_,.of B⟩,?_⟩;have hn:qy c.X.K (upd Hs a (.lst G)) a G:=.of bc;unfold sf at q;simp only[ho] at q;have S:=f.lock ho M B k3 O (.lst r);have sub:dQ (upd Hs a (.lst G)) H:=λb u q=>by
     by_cases t:b=a
     ·subst t;rw[bc] at q;cases q;exact B
     ·rw[bh t] at q;exact f.st.sub b u q
    refine Qo (E:=c.E) (cls:=c.cls) (kt:=kt) (gb:=gbd) (ρ:=EA i ρ) (Hs:=Hs) (la:=λT=>if T=i then some a else la T) (tg:=λv j H Q=>∃ ρ d,X_ c.X.K ρ d (kt d ρ) v j H Q) (tb:=λD j H=>∃ ρ,SR c.X.K c.cls E0 ρ (gbd ρ) D j H) (Ey hn r) (Qp f.st.all sub) ?_ (λρ d v j H Q h=>⟨ρ,d,h⟩) (λρ D j H h=>⟨ρ,h⟩) ?_
    ·unfold EA;rw[ho];exact S
    ·cases w:k7 kt gbd ds (EA i ρ) with
     |no=>rw[w] at q;exact q
     |ex c n=>exact(EB _ _ _ _ w).elim
     |ok S=>
      rw[w] at q;rcases AB _ _ _ w with⟨a0,rfl⟩|⟨d,rfl⟩
      ·exact λσ' H' l f'=>q σ' H' l (f.unlock ho O f')
      ·exact λv H' l s r=>q v H' l (f.st.unlock s) r
 ·have e:sf i kt gbd ρ=qf (gE λρ=>IQ ρ i) kt gbd ρ:=by
   unfold sf;split
   ·rename_i ds h;exact(ho ⟨ds,h⟩).elim
   ·rfl
  rw[e];exact rn P (A1 (c:=c.nox) (ah (c:=c.nox) i L Y U m)) hg t hs ρ
def hU(t:aE->R Bool)(b:aE->R Fl):Nat->aE->R Fl
 | 0,_=>.no
 |n+1,ρ=>match t ρ with
  |.ok true=>match b ρ with
   |.ok (.nx a)=>hU t b n a
   |.ok (.ct a)=>hU t b n a
   |.ok (.bk a)=>.ok (.nx a)
   |.ok (.rt d)=>.ok (.rt d)
   |_=>.no
  |.ok false=>.ok (.nx ρ)
  |_=>.no
def AC(n:Nat)(z:JT c.nox t gt)(B:Lo c.nox body gbd):JS c (.While t body [] pos) (hU gt gbd n):=.of λρ=>by
 refine Qn (C1 (Pl x_ (tc:=λi H Q=>∃ ρ,Cy c.X.K c.cls E0 ρ (gt ρ) i H Q) (tb:=λD i H=>∃ ρ,SR c.X.K c.cls E0 ρ (gbd ρ) D i H) ?_ ?_) λD i H ⟨l,g,la,Hs,f,q⟩=>?_)
 ·exact λj s i H Q I v=>by obtain⟨ρ,q⟩:=v;exact z ρ j s i H Q I q
 ·exact λj s i H D I u=>by obtain⟨ρ,q⟩:=u;exact B ρ j s i H D I q
 ·refine⟨λm i H=>∃ ρ Hs,Fr c.X.K l g la ρ i H Hs/\qE c.X.K c.cls c.E l g la D (hU gt gbd m ρ),⟨n,ρ,Hs,f,q⟩,?_⟩;rintro m i H ⟨ρ,Hs,f,q⟩;cases m with
  |zero=>exact q.elim
  |succ m=>
   unfold hU at q;refine⟨ρ,l,g,la,Hs,f,?_⟩;cases w:gt ρ with
   |no=>rw[w] at q;exact q
   |ex x n=>rw[w] at q;exact q.elim
   |ok b=>
    rw[w] at q;intro y o s1;cases b with
    |false=>exact wM (q i y o (f.step s1))
    |true=>
     refine wN ⟨λσ' H'=>∃e a,Fr c.X.K l g la e σ' H' a/\qE c.X.K c.cls c.E l g la D (hU gt gbd m e),λσ' H' h=>⟨m,gW _,h⟩,ρ,l,g,la,o,f.step s1,?_⟩;cases k:gbd ρ with
     |no=>simp only[k] at q;exact q
     |ex x n=>simp only[k] at q;exact q.elim
     |ok A=>
      simp only[k] at q;cases A with
      |nx e=>exact λσ' H' a p=>⟨e,a,p,q⟩
      |ct e=>exact λσ' H' a p=>⟨e,a,p,q⟩
      |bk e=>exact λσ' H' a p=>q σ' H' a p
      |rt d=>exact q
def AD(i:Nat)(g:aE->R D):aE->R Fl:=λρ=>match ρ[i]? with
 |some (Sl.own (.list ds))=>(g ρ).bind λd=>if ds.length<1000 then .ok (.nx (ρ.set i (.own (.list (ds++[d]))))) else .no
 |_=>.no
def yp(i:Nat)(h:JE c e g)(A:c.X.N[i]?=some x:=by rfl)(Q:OR c.X.env.scope x:=by first|exact iq rfl|exact f9 (iq rfl)|exact f9 (f9 rfl))(O:(x==("__debug__" : Str))=false:=by decide)
  (s:(x==("__classdict__" : Str))=false:=by decide)
  (k:MK (.Name x p) "append" c.X.env (eI (.Name x p) c.X.env)=eI (.Name x p) c.X.env:=by rfl)
  (m:((iz cpos (aP [e] c.X.env)).all (λx=>!x.1)&&(backToKw cpos (Td [] c.X.env)).all (λx=>x.1.isSome)
   && decide ([e].length+([]:List IE).length+(if([]:List IE).isEmpty then 0 else 1)<30))=true:=by rfl)
  (j:(apos.endLine==cpos.line)=true:=by rfl) (l:aP [e] c.X.env=(false,eI e c.X.env)::aP [] c.X.env:=by rfl) (b:(iz cpos (aP [] c.X.env)).any (·.1)=false:=by rfl)
  (hs:hX (.Call (.Attribute (.Name x p) "append" apos) [e] [] cpos) none pos.line c.X.env=pure false:=by rfl):
  JS c (.Expr (.Call (.Attribute (.Name x p) "append" apos) [e] [] cpos) pos) (AD i g):=.of λρ=>by
 refine C1 (Ea (W3 CW Ce Cf D2 (r9 A Q O s) (iR (h ρ) kJ l) k m j l b) hs) λD Y H n=>?_;obtain⟨B,u,la,Hs,f,q⟩:=n;replace q:qE c.X.K c.cls c.E B u la D (AD i g ρ):=q;unfold AD at q;split at q
 ·rename_i ds ho
  obtain⟨a,o,z,w,k3,U,I⟩:=f.ow i _ ho;cases I with
  | @lst S _ r=>
   refine⟨_,z,.inl ⟨rfl,_,.of w⟩,?_⟩;refine sE f q λd v T t L s1 G M=>?_;rw[L,bind_ok] at q;by_cases y:ds.length<1000
   ·rw[if_pos y] at q;have P:=r.same s1.sh;exact⟨a,S,v,rfl,rfl,s1.all _ _ w,eX (by rw[r.length];omega),q _ _ t (G.write i ho z (.lst (P.append (.cons M .nil))))⟩
   ·rw[if_neg y] at q;exact q.elim
 ·exact q.elim
def qF:D->Option gY
 |.int i=>some (.inl i)
 |.str x=>some (.inr x)
 |_=>none
def qG(h:qF d=some y):d=kD y:=by
 cases d<;>cases h<;>rfl
@[simp] theorem keyOf_of (y:gY):qF (kD y)=some y:=by cases y<;>rfl
def t4(a:List (D×D))(k d:D):List (D×D):=if a.any (λb=>aR b.1 k) then a.map (λb=>if aR b.1 k then(b.1,d) else b) else a++[(k,d)]
def EC(a b:gY):aR (kD a) (kD b)=decide (a=b):=by
 cases a<;>cases b<;>simp[kD,aR,u0]
def RDk.any(y:gY):∀{ds:List (D×D)},RDk K H kvs ds->(ds.any λa=>aR a.1 (kD y))=kvs.any λa=>decide (a.1=y):=by
 induction kvs with
 |nil=>intro ds h;cases h;rfl
 |cons x r b=>intro ds h;cases h with|cons h t=>rw[eT,eT,b t,EC]
theorem RDk.repl(y:gY)(c:RD K H v d):∀{b:List (gY×V)}{ds:List (D×D)},RDk K H b ds ->
  RDk K H (b.map λa=>if a.1=y then(a.1,v) else a) (ds.map λa=>if aR a.1 (kD y) then(a.1,d) else a)
 |_,_,.nil=>.nil
 |_,_,.cons (k:=k) h t=>by
  rw[ar,ar];have e:=EC k y;by_cases f:k=y
  ·subst f;rw[show(if k=k then(k,v) else(k,_))=(k,v) from if_pos rfl,show(if aR (kD k) (kD k)=true then(kD k,d) else(kD k,_))=(kD k,d) from if_pos (by rw[e];simp)];exact .cons c (RDk.repl k c t)
  ·simp only[e,f,if_neg,decide_false,bn,not_false_eq_true];exact .cons h (RDk.repl y c t)
theorem RDk.snoc(y:gY)(b:RD K H v d):∀{a:List (gY×V)}{ds:List (D×D)},RDk K H a ds->RDk K H (a++[(y,v)]) (ds++[(kD y,d)])
 |_,_,.nil=>.cons b .nil
 |_,_,.cons h t=>.cons h (RDk.snoc y b t)
def RDk.put(r:RDk K H kvs ds)(y:gY)(a:RD K H v d):RDk K H (mR kvs y v) (t4 ds (kD y) d):=by
 unfold mR t4;rw[r.any y];split
 ·exact r.repl y a
 ·exact r.snoc y a
def fo(a:List (D×D)):Bool:=a.all λb=>(qF b.1).isSome
def uV(i:Nat)(b g:aE->R D):aE->R Fl:=λρ=>match ρ[i]? with
 |some (Sl.own (.dict a))=>(g ρ).bind λd=>(b ρ).bind λk=>match qF k with
  |some _=>if a.length<1000/\fo a=true then .ok (.nx (ρ.set i (.own (.dict (t4 a k d))))) else .no
  |none=>.no
 |_=>.no
def AE(h:RD K H v (kD y)):v=kV y:=by
 cases y<;>cases h<;>rfl
def RDt.flat(h:RDt K H kvs ds)(f:fo ds=true):kvs=[]/\ds=[]:=by
 cases h with
 |nil=>exact⟨rfl,rfl⟩
 |cons h t=>simp[fo,tD,qF] at f
def ED(i:Nat)(h:JE c e g)(hk:JE c k gk)(hu:c.X.A.units+1<fZ)(hN:c.X.N[i]?=some x:=by rfl)(hv:OR c.X.env.scope x:=by first|exact iq rfl|exact f9 (iq rfl)|exact f9 (f9 rfl))(hd:(x==("__debug__" : Str))=false:=by decide)
  (L:(x==("__classdict__" : Str))=false:=by decide) (hs:hX e (some (.Subscript (.Name x p) k apos)) pos.line c.X.env=pure false:=by rfl):JS c (.Assign [.Subscript (.Name x p) k apos] e pos) (uV i gk g):=.of λρ=>by
 refine C1 (Lf hu (r9 hN hv hd L) (hk ρ) (h ρ) hs) λD σ H P=>?_
 obtain⟨H0,B,la,Hs,f,q⟩:=P
 replace q:qE c.X.K c.cls c.E H0 B la D (uV i gk g ρ):=q
 unfold uV at q
 split at q
 ·rename_i j ho
  obtain⟨a,o,I,M,k3,k4,k5⟩:=f.ow i _ ho
  have l:∀{H:Hp}{T:List (gY×V)},Fr c.X.K H0 B la ρ σ H Hs->H a=some (.dK T)->RDk c.X.K Hs T j->W6 (X5 i) (TR c.X.K c.cls c.E ρ (gk ρ)) (TR c.X.K c.cls c.E ρ (g ρ)) D σ H:=λ{H T} f M r=>by
   refine sE f q λd v U m t s1 s Q=>?_
   rw[t,bind_ok] at q
   refine⟨_,I,sE s q λy w H2 b G u O S=>?_⟩
   rw[G,bind_ok] at q
   split at q
   ·rename_i ky hy
    obtain rfl:=qG hy
    by_cases Y:j.length<1000/\fo j=true
    ·rw[if_pos Y] at q
     have ha:=u.all _ _ (s1.all _ _ M)
     have r':=(r.same s1.sh).same u.sh
     rw[AE S]
     exact⟨a,_,rfl,G4.k ha (eX (by rw[r.length];omega)),q _ _ b (O.write i ho I (.dK (r'.put ky (Q.same u.sh))))⟩
    ·rw[if_neg Y] at q;exact q.elim
   ·exact q.elim
  cases k5 with
  |dK r=>exact l f M r
  |dT n r=>
   refine sE f q λd v U m t s1 s Q=>?_
   rw[t,bind_ok] at q
   refine⟨_,I,sE s q λy w H2 b G u O S=>?_⟩
   rw[G,bind_ok] at q
   split at q
   ·rw[if_neg (λz=>n (r.flat z.2).1)] at q;exact q.elim
   ·exact q.elim
  |dF n r=>
   refine sE f q λd v U m t s1 s Q=>?_
   rw[t,bind_ok] at q
   refine⟨_,I,sE s q λy w H2 b G u O S=>?_⟩
   rw[G,bind_ok] at q
   split at q
   ·rw[if_neg (λz=>by cases z.2)] at q;exact q.elim
   ·exact q.elim
 ·exact q.elim
def iH(a:List (D×D))(k:D):Option D:=(a.find? λb=>aR b.1 k).map (·.2)
theorem RDk.val:∀{a:List (gY×V)}{ds:List (D×D)},RDk K H a ds->∀(y:gY),(qA a y=none/\iH ds (kD y)=none)\/∃v d,qA a y=some v/\iH ds (kD y)=some d/\RD K H v d
 |_,_,.nil,y=>.inl ⟨rfl,rfl⟩
 |_,_,.cons (k:=k) h t,y=>by
  unfold qA iH;rw[bM,bM,EC];by_cases b:k=y
  ·simp only[b,decide_true,dG];exact .inr ⟨_,_,rfl,rfl,h⟩
  ·simp only[b,decide_false];exact RDk.val t y
def aX:D->D->R D
 |.dict a,k=>match qF k with
  |some _=>if fo a=true then(match iH a k with
   |some d=>.ok d
   |none=>.no) else .no
  |none=>.no
 |x,k=>JM x k
def bP(M:c.X.A.units+1<fZ)(B:JB c a ga)(E:JB c b gb)(hs:wH b:=by exact λ_ _=>rfl):JE c (.Subscript a b pos) (g2 ga gb aX):=.of λρ=>by
 by_cases i:∃g,ga ρ=.ok (.dict g)
 ·obtain⟨g,i⟩:=i;refine sS (Le M (B ρ) (E ρ) hs) λN H Q m=>?_;obtain⟨H0,a0,la,Hs,f,q⟩:=m;refine one f q λd v H1 S G s1 T Y=>?_;rw[i] at G;cases G;unfold g2 at q;rw[i,bind_ok] at q;refine one T (q.on s1 (q':=λ_=>True) λ_ _=>trivial) λy w U t e2 I P z=>?_;rw[e2,bind_ok] at q;unfold aX at q;simp only at q;split at q
  ·rename_i x L
   obtain rfl:=qG L;by_cases j:fo g=true
   ·rw[if_pos j] at q;obtain⟨p,rfl,h⟩:=(Y.step I).dict P.st.sub;have rk:w=kV x:=by
     rcases z with z|⟨_,o,rfl,_,_,ow⟩
     ·exact AE z
     ·cases x<;>cases ow
    subst rk;rcases h with⟨K,n,l⟩|⟨K,n,hn,l⟩|⟨o,K,es,rfl,n,hn,l⟩
    ·rcases l.val x with⟨_,s⟩|⟨u,d,s,h4,h5⟩
     ·rw[s] at q;exact q.elim
     ·rw[h4] at q;exact⟨p,u,rfl,by rw[<- s];exact wO.k n,q _ U t (s1.trans I) h5⟩
    ·exact(hn (l.flat j).1).elim
    ·cases j
   ·rw[if_neg j] at q;exact q.elim
  ·exact q.elim
 ·refine sS (ZL B E hs ρ) λN H Q q=>?_;have e:g2 ga gb aX ρ=g2 ga gb JM ρ:=by
   unfold g2;cases O:ga ρ with
   |ok d=>
    cases d with
    |dict g=>exact(i ⟨g,O⟩).elim
    |_=>rfl
   |_=>rfl
  rw[e] at q;exact q
def o_:D->R D
 |.dict a=>if fo a=true then .ok (.list (a.map (·.1))) else .no
 |x=>Df x
theorem Gy:∀{a:List (gY×V)}{ds:List (D×D)},RDk K H a ds->RDs K H (a.map λp=>kV p.1) (ds.map (·.1))
 |_,_,.nil=>.nil
 |_,_,.cons (k:=k) h t=>.cons (by cases k<;>constructor) (Gy t)
def Gz(z:X.calm=true):Nu X (.type "list") (iT o_):=by
 refine sX (λd c n=>?_) λf s t H x u Q Hs d d' I w sub m g q=>?_
 ·unfold o_ Df;split<;>(try split)<;>(try split)<;>exact λh=>by cases h
 ·by_cases y:∃b,d=.dict b
  ·obtain⟨b,rfl⟩:=y;unfold o_ at g;simp only at g;split at g
   ·rename_i v
    cases g;obtain⟨a,rfl,⟨k,j,i⟩|⟨k,j,n,i⟩|⟨o,k,es,rfl,j,n,i⟩⟩:=m.dict sub
    ·exact At z f s t H _ _ Q I (.cons w .nil) ⟨a,k,rfl,j,λl p=>q _ _ _ (.new sub p) (.list (.of bc) ((Gy i).same (cQ.new sub p).sh))⟩
    ·exact(n (i.flat v).1).elim
    ·cases v
   ·cases g
  ·have e:o_ d=Df d:=by
    cases d with
    |dict b=>exact(y ⟨b,rfl⟩).elim
    |_=>rfl
   rw[e] at g;exact(Uv (X:=X)).1 f s t H [x] [u] Q I (.cons w .nil) ⟨Hs,[d],sub,.cons m .nil,d',g,q⟩
section
open PyProof.Rows (envOfC)
section
variable{c:C}{e a b d:bj}{g ga gb gc:aE->R D}{pos p cpos:Pos}{x:Str}
def Qq(hx:∀x y c n,h x y≠.ex c n)(o:∀x y c n,h' x y≠.ex c n)(q:TR K cls E ρ (sV ga gb gc h h' ρ) σ H Q):
  Jl (rD K h) (rD K h') (TB K cls E ρ (ga ρ)) (TB K cls E ρ (gb ρ)) (TB K cls E ρ (gc ρ)) σ H Q:=by
 obtain⟨H0,a0,la,Hs,f,q⟩:=q;refine one f q λx v H1 S e1 s1 Y r1=>?_;unfold sV at q;rw[e1,bind_ok] at q;refine one Y (q.on s1 (q':=λ_=>True) λ_ _=>trivial) λy u H2 G e2 m L M=>?_;rw[e2,bind_ok] at q;cases l:h x y with
 |ex c n=>exact(hx x y c n l).elim
 |no=>rw[l] at q;exact q.elim
 |ok z=>
  rw[l,bind_ok] at q;refine⟨G,x,y,L.st.sub,r1.step m,M,z,l,λw X s j r3=>?_⟩;cases r3 with
  |bool k=>
   refine⟨k,rfl,?_⟩;have U:=L.step j;cases k with
   |false=>exact wM (q _ X s (s1.trans (m.trans j)) (.bool _))
   |true=>
    refine wN (one U (q.on (s1.trans (m.trans j)) (q':=λ_=>True) λ_ _=>trivial) λt u' H4 B O I N T=>?_);simp only[O,bind_ok] at q;cases i:h' y t with
    |ex c n=>exact(o y t c n i).elim
    |no=>rw[i] at q;exact q.elim
    |ok z'=>
     rw[i] at q;exact⟨B,y,t,N.st.sub,(M.step j).step I,T,z',i,λw H5 A P r5=>q w H5 A (s1.trans (m.trans (j.trans (I.trans P)))) r5⟩
  |none=>exact q.elim
  |int _=>exact q.elim
  |str _=>exact q.elim
  |list _ _=>exact q.elim
  |tuple _ _=>exact q.elim
  |dictK _ _=>exact q.elim
  |dictT _ _ _=>exact q.elim
  |dictF _ _ _=>exact q.elim
def GA(ho:wZ c.X (bG op) h)(f:wZ c.X (bG op') h')(k:JB c a ga)(l:JB c b gb)(j:JB c d gc)(i:OE [op,op'] [b,d]=false:=by with_unfolding_all rfl):JE c (.Compare a [op,op'] [b,d] pos) (sV ga gb gc h h'):=
 .of λρ=>sS (Pq ho.1 f.1 (k ρ) (l ρ) (j ρ) i) λm H Q q=>Qq ho.2 f.2 q
def Qr(ho:wZ c.X (bG op) h)(f:wZ c.X (bG op') h')(k:JB c a ga)(l:JB c b gb)(j:JB c d gc)(i:OE [op,op'] [b,d]=false:=by with_unfolding_all rfl):JT c (.Compare a [op,op'] [b,d] pos) (eQ (sV ga gb gc h h')):=
 .of λρ=>ZG (Pr ho.1 f.1 (k ρ) (l ρ) (j ρ) i) λm H Q q=>Qq ho.2 f.2 (ZH q)
inductive ZT (K:a8) (w:bL) (cls:Str->ap) (E:XK) (ρ:aE) (r:R (List Str)) (σ:St) (H:Hp) (Q:VK):Prop
 |mk (H0 Hs0:Hp) (la:Nat->Option ap) (Hs:Hp) (f:Fr K H0 Hs0 la ρ σ H Hs) (q:Fin K cls E H Hs r λss=>∀p H' Hs',cQ H Hs H' Hs'->H' p=none->Q (.ref p) (upd H' p (oN w p ss))):ZT K w cls E ρ r σ H Q
def ZU(K:a8)(w:bL)(cls:Str->ap)(E:XK)(ρ:aE)(r:R (List Str)):TE:=ZT K w cls E ρ r
structure T9 (c:C) (e:bj) (g:aE->R (List Str)):Prop where of ::
 run:∀ ρ,PE c.X e (ZU c.X.K c.X.w c.cls c.E ρ (g ρ))
instance{c:C}{e:bj}{g:aE->R (List Str)}:CoeFun (T9 c e g) (λ_=>∀ ρ,PE c.X e (ZU c.X.K c.X.w c.cls c.E ρ (g ρ))):=⟨T9.run⟩
theorem Ls{K:a8}{w:bL}{cls:Str->ap}{E:XK}{ρ:aE}{r:R (List Str)}{t:Type}{k:List Str->R t}{l:St}{H:Hp}{o j Hs:Hp}{la:Nat->Option ap}{Q:V->Hp->Prop}{q:t->Prop}(f:Fr K o j la ρ l H Hs)
  (h:Fin K cls E H Hs (r.bind k) q) (m:∀ss p H' i,r=.ok ss->cQ H Hs H' i->Fr K o j la ρ l H' i->H' p=none->Q (.ref p) (upd H' p (oN w p ss))):ZU K w cls E ρ r l H Q:=by
 refine⟨o,j,la,Hs,f,?_⟩;cases r with
 |ok d=>exact λp H' i s n=>m d p H' i rfl s (f.step s) n
 |ex c n=>exact h
 |no=>exact h
variable{gset:aE->R (List Str)}
def vG:D->R (List Str)
 |.list ds=>match eU ds with
  |some ss=>if ss.length<60 then .ok (dn [] ss) else .no
  |none=>.no
 |.tuple ds=>match eU ds with
  |some ss=>if ss.length<60 then .ok (dn [] ss) else .no
  |none=>.no
 |_=>.no
def tf(g:aE->R D):aE->R (List Str):=λρ=>(g ρ).bind vG
theorem JQ(y:c.X.calm=true)(h:JB c e g)(m:Gl c.X "set")(s:c.X.mg "set"=none)(he:aP [e] c.X.env=(false,eI e c.X.env)::aP [] c.X.env:=by rfl):
  T9 c (.Call (.Name "set" p) [e] [] cpos) (tf g):=.of λρ=>by
 refine sS (D1 (Gj y) m s PyProof.Rows.boot_set (iR (h ρ) kJ he) (he:=he)) λE H Q n=>?_;obtain⟨G,A,la,Hs,f,q⟩:=n;refine one f q λd v t k z s1 u w=>?_;unfold tf at q;rw[z,bind_ok] at q;unfold vG at q;split at q
 ·split at q
  ·rename_i ss hs
   by_cases i:ss.length<60
   ·rw[if_pos i] at q;obtain⟨a,B,rfl,j,l⟩:=w.list u.st.sub;rw[oZ hs] at l;rw[mT l] at j;exact⟨a,ss,rfl,.inl j,aK (MR i 1) ⋯,λp o=>q p t k s1 o⟩
   ·rw[if_neg i] at q;exact q.elim
  ·exact q.elim
 ·split at q
  ·rename_i ss hs
   by_cases i:ss.length<60
   ·rw[if_pos i] at q;obtain⟨a,B,rfl,j,l,_⟩:=w.tuple u.st.sub;rw[oZ hs] at l;rw[mT l] at j;exact⟨a,ss,rfl,.inr j,aK (MR i 1) ⋯,λp o=>q p t k s1 o⟩
   ·rw[if_neg i] at q;exact q.elim
  ·exact q.elim
 ·exact q.elim
def mh(g:aE->R (List Str)):aE->R D:=λρ=>(g ρ).bind λss=>if ss.length<64 then .ok (.list ((jU ss).map .str)) else .no
def vH(s:c.X.calm=true)(h:T9 c e gset)(z:Gl c.X "sorted")(u:c.X.mg "sorted"=none)(he:aP [e] c.X.env=(false,eI e c.X.env)::aP [] c.X.env:=by rfl):
  JE c (.Call (.Name "sorted" p) [e] [] cpos) (mh gset):=.of λρ=>by
 refine sS (wF (zA s) z u nr (iR (h ρ) kJ he) (he:=he)) λB H Q k=>?_;obtain⟨E,A,la,Hs,f,q⟩:=k;dsimp only[L2.YW,L2.Pt,L2.Xx];refine Ls (w:=c.X.w) f q λss p n i y s1 v t=>?_;unfold mh at q;rw[y,bind_ok] at q;by_cases m:ss.length<64
 ·rw[if_pos m] at q;have j:cQ n i (upd n p (oN c.X.w p ss)) i:=.mine v.st.sub t;exact⟨p,ss,rfl,bc,m,λl o=>q _ _ _ (s1.trans (j.trans (.new j.sub o))) (.list (.of bc) (wX _))⟩
 ·rw[if_neg m] at q;exact q.elim
def xg(g:aE->R (List Str)):aE->R D:=λρ=>(g ρ).bind λss=>.ok (.int ss.length)
def Ny(h:T9 c e gset)(t:Gl c.X "len")(n:c.X.mg "len"=none)(he:aP [e] c.X.env=(false,eI e c.X.env)::aP [] c.X.env:=by rfl):
  JE c (.Call (.Name "len" p) [e] [] cpos) (xg gset):=.of λρ=>by
 refine sS (wF Cu t n cm (iR (h ρ) kJ he) (he:=he)) λv H Q j=>?_;obtain⟨y,u,la,Hs,f,q⟩:=j;dsimp only[L2.YW,L2.Pt,L2.Xx];refine Ls (w:=c.X.w) f q λss p l i s s1 o m=>?_;unfold xg at q;rw[s,bind_ok] at q;have k:cQ l i (upd l p (oN c.X.w p ss)) i:=.mine o.st.sub m;exact⟨p,ss,rfl,bc,q _ _ _ (s1.trans k) (.int _)⟩
variable{elt iter tg:bj}{ifs:List bj}{scope:eM}{N':List Str}{nt:Nat}{ix:List Nat}{gi:aE->R (List D)}{gt:aE->R Bool}{ge:aE->R D}
def yq(nt:Nat)(ix:List Nat)(gi:aE->R (List D))(gt:aE->R Bool)(ge:aE->R D):aE->R (List Str):=λρ=>(gi ρ).bind λds=>if ds.length<=60 then(fE (iG nt (jM nt ix ρ) gt ge) ds).bind λys=>match eU ys with
 |some ss=>.ok (dn [] ss)
 |none=>.no else .no
theorem qg:∀{ss:List Str},eU (xs++ys)=some ss->∃s1 f,eU xs=some s1/\eU ys=some f/\ss=s1++f:=by
 induction xs with
 |nil=>intro ss h;exact⟨[],ss,rfl,h,rfl⟩
 |cons d r j=>
  intro ss h;cases d with
  |str b=>
   have h:(eU (r++ys)).map (b::·)=some ss:=h;cases i:eU (r++ys) with
   |none=>rw[i] at h;cases h
   |some z=>
    rw[i] at h;cases h;obtain⟨s1,f,k,l,rfl⟩:=j i;exact⟨b::s1,f,by show(eU r).map (b::·)=_;rw[k];rfl,l,rfl⟩
  |_=>cases h
theorem vI(z:Str):∀(l f:List Str),dn f (l++[z])=if z∈dn f l then dn f l else dn f l++[z]
 |[],f=>rfl
 |x::l,f=>by
  show dn _ (l++[z])=_;rw[vI z l];rfl
inductive scI (f:D->R (Option D)) (ds:List D) (ss:List Str) (H1 Hs1:Hp) (i m:Nat) (acc:List Str) (H':Hp):Prop
 |mk (done bu zs sa sz Hs':_) (h0:ds=done++bu) (h1:done.length=i) (h2:bu.length=m) (h3:cQ H1 Hs1 H' Hs') (h4:acc=dn [] sa) (h5:sa.length<=i) (h6:fE f bu=.ok zs) (h7:eU zs=some sz) (h8:ss=sa++sz):scI f ds ss H1 Hs1 i m acc H'
theorem UE(Y:nt=1\/nt=2)
  (q:ZU K w cls E ρ (yq nt ix gi gt ge ρ) A H Q):
  Qa w nt ix (Uz K cls E ρ (gi ρ)) (zE K nt) (λA H Q=>∃j,Cy K cls E0 j (gt j) A H Q) (λA H Q=>∃j,TR K cls E0 j (ge j) A H Q) A H Q:=by
 obtain⟨H0,a6,la,Hs,f,q⟩:=q;refine⟨H0,a6,la,Hs,f,?_⟩;unfold yq at q;cases hi:gi ρ with
 |no=>rw[hi] at q;exact q
 |ex x n=>rw[hi] at q;exact q
 |ok ds=>
  rw[hi,bind_ok] at q;intro J H1 O Hn s1 sn it;by_cases hl:ds.length<=60
  ·rw[if_pos hl] at q;cases X:fE (iG nt (jM nt ix ρ) gt ge) ds with
   |no=>rw[X] at q;exact q.elim
   |ex x n=>exact(xc (Az _ _ _ _) _ _ _ X).elim
   |ok ys=>
    rw[X,bind_ok] at q;cases hs:eU ys with
    |none=>rw[hs] at q;exact q.elim
    |some ss=>
     rw[hs] at q;obtain⟨lb,fb⟩:=(f.step s1).block nt ix;refine⟨scI (iG nt (jM nt ix ρ) gt ge) ds ss H1 O,
      ⟨ds.length,[],ds,ys,[],ss,O,rfl,rfl,rfl,.refl s1.sub,rfl,cH _,X,hs,rfl⟩,?_⟩
     rintro i m b6 H' ⟨done,bu,zs,sa,sz,P,l,s,S,st,rfl,yl,hz,G,T⟩;obtain⟨a5,t,u⟩:=it H' P (sn.trans st.all) st.sh st.sub;cases bu with
     |nil=>
      left;cases hz;cases G;rw[b_] at l T;subst T l;exact⟨t i ∅,λp hp=>q p H' P (s1.trans st) hp⟩
     |cons d bu=>
      right;have M:i<ds.length:=by rw[l,aI,aZ];omega
      have a3:=gy sa [];simp at a3;refine⟨a5 i M,pV (show(dn [] sa).length+1<=61 by omega) ⋯,λx H2 a2=>?_⟩;obtain⟨d',a1,hd,s2,r2⟩:=u i x H2 M a2;have a4:d'=d:=by
       rw[l,aY ∅] at hd;simp[s] at hd;exact hd.symm
      subst a4;obtain⟨o,B,k,N,rfl⟩:=nR hz;have k:=rm k;obtain⟨so,I,h,hsz,rfl⟩:=qg G;cases U:UD nt d' (jM nt ix ρ) with
      |no=>rw[U] at k;cases k
      |ex x n=>rw[U] at k;cases k
      |ok j=>
       rw[U,bind_ok] at k;refine s_ Y ((fb.step st).step s2) r2 U λb0 f2=>⟨j,?_⟩;refine⟨_,_,_,a1,f2,?_⟩;cases ht:gt j with
       |no=>rw[ht] at k;cases k
       |ex x n=>rw[ht] at k;cases k
       |ok b=>
        rw[ht,bind_ok] at k;intro H3 L s3;cases b with
        |false=>
         rw[if_neg ba] at k;cases k;cases h;refine wM ⟨bu.length,by rw[<- S];simp,done++[d'],bu,B,sa,I,L,by rw[l];simp,by simp[s],rfl,(st.trans s2).trans s3,rfl,by omega,N,hsz,by simpa using T⟩
        |true=>
         rw[if_pos rfl] at k;refine wN ⟨j,_,_,_,L,f2.step s3,?_⟩;cases he:ge j with
         |no=>rw[he] at k;cases k
         |ex x n=>rw[he] at k;cases k
         |ok y=>
          rw[he,bind_ok] at k;cases k;intro v H4 a0 s4 r4;cases r4 with
          |str z=>
           cases h;exact⟨z,bu.length,rfl,by rw[<- S];simp,done++[d'],bu,B,sa++[z],I,a0,by rw[l];simp,by simp[s],rfl,((st.trans s2).trans s3).trans s4,(vI z sa []).symm,by simp;omega,N,hsz,by rw[T];simp⟩
          |none=>cases h
          |bool _=>cases h
          |int _=>cases h
          |list _ _=>cases h
          |tuple _ _=>cases h
          |dictK _ _=>cases h
          |dictT _ _ _=>cases h
          |dictF _ _ _=>cases h
  ·rw[if_neg hl] at q;exact q.elim
def Qs(nt:Nat)(f:nt=1\/nt=2)(h:c.X.calm=true)(S:jZ c.X scope N' nt ix)(i:JI c tg iter gi)(j:xf c N' scope nt tg ifs elt gt ge)(hs:∀x,bf iter c.X.env x=pure x:=by intro _;rfl):
  T9 c (.SetComp elt [⟨tg,iter,ifs,0⟩] scope pos) (yq nt ix gi gt ge):=.of λρ=>sS (Jz h S (uf f) (i ρ) j.at hs) λk H Q q=>UE f q
end
def bV(n:Nat)(ds:List D):aE:=ds.map Sl.shr++uZ (n-ds.length) Sl.no
def fL(n:Nat)(g:aE->R Fl):List D->R D:=λds=>match g (bV n ds) with
 |.ok (.nx _)=>.ok .none
 |.ok (.rt d)=>.ok d
 |.ex c m=>.ex c m
 |_=>.no
def AF{n:Nat}{ds:List D}{i:Nat}{s:Sl}(h:(bV n ds)[i]?=some s):(∃d,ds[i]?=some d/\s=.shr d)\/s=.no:=by
 unfold bV at h;by_cases b:i<ds.length
 ·rw[c8 (by simpa using b),b9] at h;cases a:ds[i]? with
  |none=>rw[a] at h;cases h
  |some z=>rw[a] at h;cases h;exact .inl ⟨z,rfl,rfl⟩
 ·rw[aY (by simp;omega),cF] at h;split at h<;>cases h;exact .inr rfl
def Nz{N:List Str}{a:List V}{i:Nat}{v:V}(h:a[i]?=some v):(L2.start N a)[i]?=some (some v):=by
 unfold L2.start;have b:i<a.length:=(List.getElem?_eq_some_iff.mp h).1;rw[c8 (by simpa using b),b9,h];rfl
def Fr.start{K:a8}{H Hs:Hp}{N:List Str}{b:List V}{ds:List D}(sub:dQ Hs H)(r:RDs K Hs b ds):Fr K H Hs (λ_=>none) (bV N.length ds) (L2.start N b) H Hs:= by
  have f:= r.length;refine⟨.refl sub,by simp[bV,L2.start,f],λi d h=>?_,λi d h=>?_,λi d h=>?_,λi j d e a h _ _ _=>?_,λi a h=>(nomatch h),λi d h=>?_,λi j d e h _=>?_⟩
  · rcases AF h with⟨z,k,e⟩ | e
    · cases e;obtain⟨v,g,c⟩:= r.get' k;exact⟨v,Nz g,c⟩
    · cases e
  all_goals (rcases AF h with⟨z,_,e⟩ | e <;> cases e)
def Wl(F:Nc K x qual st f fd)(S:bB N ps (az st))
  (h:∀(a:ag) (A:cy) (outer:List Env) (s:ak) (H:Hp) (E:XK),m9 k (A.deeper (vm qual (az st) s.heap.objs.size f a))->Lo ⟨Al (C0 P w) P w K mg base N qual (az st) f a A outer s H E,cls,E⟩ (jh st) g):
  uS P w K mg base (C0 P w) (k+1) f fd ps (Uw K cls ps.length (fL N.length g)):=by
 obtain⟨L,O,kV,p,I,M,a,ct,y,rfl,z,i⟩:=F.ex;refine Zl z i S (λG H Q E j=>by obtain⟨Hs,ds,sub,o,r,q⟩:=j;exact by rw[r.length];exact o) λA outer s H G Q E u l=>?_;obtain⟨Hs,ds,sub,o,r,q⟩:=l;refine⟨_,h a A outer s H E u (bV N.length ds),H,Hs,_,Hs,Fr.start sub r,?_⟩;unfold fL at q;cases m:g (bV N.length ds) with
 |no=>rw[m] at q;exact q
 |ex c n=>rw[m] at q;exact q
 |ok t=>
  rw[m] at q;cases t with
  |nx e=>exact λσ' H' b B=>q .non H' b B.st .none
  |rt d=>exact λv H' b s r=>q v H' b s r
  |bk e=>exact q.elim
  |ct e=>exact q.elim
def ZV(F:Nc K x qual st f fd)(S:bB N ps (az st))(b:mg x=some (.ref f))(c:mL K fd ps [])
  (h:∀(a:ag) (A:cy) (outer:List Env) (s:ak) (H:Hp) (E:XK),m9 k (A.deeper (vm qual (az st) s.heap.objs.size f a))->Lo ⟨Al (C0 P w) P w K mg base N qual (az st) f a A outer s H E,cls,E⟩ (jh st) g):
  Fn P w K mg base cls x (k+1) ps.length (fL N.length g):=⟨f,fd,ps,Wl F S h,b,F.kp,c⟩
def eV:sO (C0 X.prog X.w) X E0:=λ_ _ _ _ _ _ _ h=>by
 obtain⟨_,_,_,_,_,_,_,_,_,q⟩:=h;exact q.elim
end
def clear2(ρ:aE):aE:=ρ.map λs=>match s with
 |.ow2 _=>.no
 |s=>s
def Fr.clear2(f:Fr K H0 Hs0 la ρ σ H Hs):Fr K H0 Hs0 la (clear2 ρ) σ H Hs/\∀(j:Nat) (d:List (List D)),¬ (J.clear2 ρ)[j]?=some (Sl.ow2 d):=by
 have un:∀{j:Nat}{s:Sl},(J.clear2 ρ)[j]?=some s->(∀d,s≠.ow2 d)/\(ρ[j]?=some s\/s=.no):=λ{j s} e=>by
  unfold J.clear2 at e;rw[b9] at e;cases h:ρ[j]? with
  |none=>rw[h] at e;cases e
  |some t=>
   rw[h] at e;cases t with
   |ow2 d=>cases e;exact⟨λ_ z=>(by cases z),.inr rfl⟩
   |no=>cases e;exact⟨λ_ z=>(by cases z),.inl rfl⟩
   |shr d=>cases e;exact⟨λ_ z=>(by cases z),.inl rfl⟩
   |lck d=>cases e;exact⟨λ_ z=>(by cases z),.inl rfl⟩
   |own d=>cases e;exact⟨λ_ z=>(by cases z),.inl rfl⟩
 have c:∀{j:Nat}{s:Sl},s≠.no->(J.clear2 ρ)[j]?=some s->ρ[j]?=some s:=λ{j s} n e=>(un e).2.resolve_right n;have b:∀(j:Nat) (d:List (List D)),¬ (J.clear2 ρ)[j]?=some (Sl.ow2 d):=λj d e=>(un e).1 d rfl;exact⟨⟨f.st,by simp[J.clear2,f.len],λj d h=>f.sh j d (c (λz=>by cases z) h),λj d h=>f.ow j d (c (λz=>by cases z) h),λj d h=>f.lk j d (c (λz=>by cases z) h),λj k d e a g i=>f.dj j k d e a (c (λz=>by cases z) g) (c (λz=>by cases z) i),f.lh,λj d h=>(b j d h).elim,λj k d e h _=>(b j d h).elim⟩,b⟩
def tj:List ap->Hp->Hp
 |[],H=>H
 |a::b,H=>tj b (upd H a (.lst []))
theorem AG:∀(c:List ap) (H:Hp),(∀a∈c,H a=none)->c.Nodup->dQ H (tj c H)
 |[],H,_,_=>.refl H
 |a::c,H,h,e=>by
  obtain⟨f,g⟩:=List.nodup_cons.mp e;refine(nM (h a aj)).trans (AG c _ (λb d=>?_) g);rw[bh (λ(z:b=a)=>f (z ▸ d))];exact h b (af _ d)
theorem GB:∀(d:List ap) (H:Hp),d.Nodup->∀a∈d,tj d H a=some (.lst [])
 |a::d,H,i,b,k=>by
  obtain⟨l,j⟩:=List.nodup_cons.mp i;show tj d (upd H a (.lst [])) b=_;by_cases f:b∈d
  ·exact GB d _ j b f
  ·have e:b=a:=(List.mem_cons.mp k).resolve_right f;subst e;have:∀(d:List ap) (H:Hp),b∉d->tj d H b=H b:=by
    intro d;induction d with
    |nil=>intro H _;rfl
    |cons c d g=>
     intro H h;show tj d (upd H c (.lst [])) b=_;rw[g _ (λz=>h (af _ z)),bh (λ(z:b=c)=>h (by rw[z];exact aj))]
   rw[this d _ f,bc]
theorem nU:∀(d:List ap) (H:Hp) (b:ap),tj d H b=none->H b=none/\b∉d
 |[],H,b,h=>⟨h,by simp⟩
 |a::d,H,b,h=>by
  obtain⟨c,f⟩:=nU d (upd H a (.lst [])) b h;by_cases e:b=a
  ·subst e;rw[bc] at c;cases c
  ·rw[bh e] at c;exact⟨c,λz=>(List.mem_cons.mp z).elim e f⟩
def UF(i:Nat):aE->R Fl:=λρ=>.ok (.nx ((clear2 ρ).set i (.ow2 [[],[],[],[]])))
def Y1(i:Nat)(hN:c.X.N.Nodup)(A:c.X.N[i]?=some x:=by rfl)(hx:T6 c.X.env.scope x:=by first|exact iq rfl|exact f9 rfl)
  (hs:hX (.List [.List [] p1,.List [] p2,.List [] p3,.List [] p4] p) (some (.Name x pos')) spos.line c.X.env=pure false:=by rfl)
  (hf:c.X.fn x=true\/c.X.env.scope.names.lookup x=some .local:=by first|exact .inl rfl|exact .inr rfl|assumption)
  (y:aP [.List [] p1,.List [] p2,.List [] p3,.List [] p4] c.X.env=(false,eI (.List [] p1) c.X.env)::aP [.List [] p2,.List [] p3,.List [] p4] c.X.env:=by rfl)
  (G:aP [.List [] p2,.List [] p3,.List [] p4] c.X.env=(false,eI (.List [] p2) c.X.env)::aP [.List [] p3,.List [] p4] c.X.env:=by rfl)
  (P:aP [.List [] p3,.List [] p4] c.X.env=(false,eI (.List [] p3) c.X.env)::aP [.List [] p4] c.X.env:=by rfl)
  (Q:aP [.List [] p4] c.X.env=(false,eI (.List [] p4) c.X.env)::aP [] c.X.env:=by rfl):
  JS c (.Assign [.Name x pos'] (.List [.List [] p1,.List [] p2,.List [] p3,.List [] p4] p) spos) (UF i):=.of λρ=>by
 refine C1 (Ji hN A hx (vy (iR (vy kJ) (iR (vy kJ) (iR (vy kJ) (iR (vy kJ) kJ Q) P) G) y)) hs hf) λD σ H U=>?_;obtain⟨H0,a5,la,Hs,f,q⟩:=U;replace q:qE c.X.K c.cls c.E H0 a5 la D (UF i ρ):=q;obtain⟨f,L⟩:=f.clear2;refine⟨cH _,λg n1=>⟨cH _,λl n2=>⟨cH _,λm n3=>⟨cH _,λu n4=>⟨cE (eX (show 4<=1000 by decide)),λa n=>?_⟩⟩⟩⟩⟩;have N:=nU [g,l,m,u] H a n;have M:=nU [g,l,m] H u n4;have T:=nU [g,l] H m n3;have N2:=nU [g] H l n2;simp only[aT,br,or_false,not_or] at N M T N2;have Y:[g,l,m,u].Nodup:=by
  simp only[gx,aT,br,or_false,not_or,g6,and_true,not_false_eq_true];exact⟨⟨dm N2.2,dm T.2.1,dm M.2.1⟩,⟨dm T.2.2,dm M.2.2.1⟩,dm M.2.2.2⟩
 have free:∀b∈[g,l,m,u],H b=none:=λb w=>by
  simp only[aT,br,or_false] at w;rcases w with rfl|rfl|rfl|rfl
  ·exact n1
  ·exact N2.1
  ·exact T.1
  ·exact M.1
 have O:(a::[g,l,m,u]).Nodup:=List.nodup_cons.mpr ⟨by simp only[aT,br,or_false,not_or];exact N.2,Y⟩;have sm:dQ H (tj [g,l,m,u] H):=AG _ _ free Y;have all:dQ H (upd (tj [g,l,m,u] H) a (.lst [.ref g,.ref l,.ref m,.ref u])):=sm.trans (nM n);have v:∀b∈a::[g,l,m,u],H b=none:=λb w=>(List.mem_cons.mp w).elim (λz=>z ▸ N.1) (free b);have st:cQ H Hs (upd (tj [g,l,m,u] H) a (.lst [.ref g,.ref l,.ref m,.ref u])) Hs:=⟨all,.refl _,f.st.sub.trans all,λ_ _ _ _ z=>z⟩;have B:=f.step st;have hl:i<σ.length\/¬ i<σ.length:=Decidable.em _;have nx:∀{j:Nat}{s:Sl},(∀d,s≠.ow2 d)->((clear2 ρ).set i (.ow2 [[],[],[],[]]))[j]?=some s->(clear2 ρ)[j]?=some s/\i≠j:=λ{j s} hs e=>by
  by_cases t:i=j
  ·subst t;by_cases A:i<(clear2 ρ).length
   ·rw[aN A] at e;exact absurd (cc e).symm (hs _)
   ·rw[df (by simpa using A)] at e;cases e
  ·rw[ao t] at e;exact⟨e,t⟩
 refine q _ _ Hs ⟨B.st,by simp[B.len],λj d h=>?_,λj d h=>?_,λj d h=>?_,λj k d d' b y G P Q=>?_,B.lh,λj d h=>?_,λj k d d' y G=>?_⟩
 ·obtain⟨h,t⟩:=nx (λ_ z=>by cases z) h;rw[ao t];exact B.sh j d h
 ·obtain⟨h,t⟩:=nx (λ_ z=>by cases z) h;rw[ao t];exact B.ow j d h
 ·obtain⟨h,t⟩:=nx (λ_ z=>by cases z) h;rw[ao t];exact B.lk j d h
 ·obtain⟨y,t⟩:=nx (λ_ z=>by cases z) y;obtain⟨G,I⟩:=nx (λ_ z=>by cases z) G;rw[ao t] at P;rw[ao I] at Q;exact B.dj j k d d' b y G P Q
 ·by_cases t:i=j
  ·subst t;by_cases A:i<(clear2 ρ).length
   ·rw[aN A] at h;cases h;have a0:=GB [g,l,m,u] H Y;have ne:∀b∈[g,l,m,u],b≠a:=λb w z=>(List.nodup_cons.mp O).1 (z ▸ w);have S:∀b∈[g,l,m,u],upd (tj [g,l,m,u] H) a (.lst [.ref g,.ref l,.ref m,.ref u]) b=some (.lst []):=λb w=>by rw[bh (ne b w)];exact a0 b w
    refine⟨a,[g,l,m,u],aN (by rw[<- B.len];exact A),bc,O,λb w=>⟨f.st.sub.free (v b w),f.st.all.free (v b w)⟩,λb w k e I=>?_,.cons (S _ (by simp)) .nil (.cons (S _ (by simp)) .nil (.cons (S _ (by simp)) .nil (.cons (S _ (by simp)) .nil .nil)))⟩;obtain⟨I,nk⟩:=nx (λ_ z=>by cases z) I;rw[ao nk];intro z;obtain⟨b',o,k1,k2,_⟩:=f.ow k e I;rw[z] at k1;cases k1;rw[v b w] at k2;cases k2
   ·rw[df (by simpa using A)] at h;cases h
  ·rw[ao t] at h;exact(L j d h).elim
 ·by_cases t:i=j
  ·by_cases I:i=k
   ·exact t.symm.trans I
   ·rw[ao I] at G;exact(L k d' G).elim
  ·rw[ao t] at y;exact(L j d y).elim
def Qt(h:JS c st gs):JS c st (λρ=>gs (gQ ρ)):=.of λρ=>C1 (h (gQ ρ)) λD i H a=>by
 obtain⟨e,d,la,Hs,f,q⟩:=a;obtain⟨b,g⟩:=f.shared;exact⟨e,d,la,b,g,q⟩
def shareAt(i:Nat)(ρ:aE):aE:=match ρ[i]? with
 |some (Sl.own d)=>ρ.set i (.shr d)
 |_=>ρ
def Fr.shareAt(f:Fr K H0 Hs0 la ρ σ H Hs)(i:Nat):∃I,Fr K H0 Hs0 la (J.shareAt i ρ) σ H I:=by
 unfold J.shareAt;split
 ·rename_i d ho
  obtain⟨a,o,B,Q,P,N,Y⟩:=f.ow i d ho;have n:i<ρ.length:=(List.getElem?_eq_some_iff.mp ho).1;have m:dQ Hs (upd Hs a o):=nM P;have nx:∀{j:Nat}{s:Sl},(∀d,s≠.shr d)->(ρ.set i (.shr d))[j]?=some s->ρ[j]?=some s/\i≠j:=λ{j s} hs e=>by
   by_cases g:i=j
   ·subst g;rw[aN n] at e;exact absurd (cc e).symm (hs d)
   ·rw[ao g] at e;exact⟨e,g⟩
  have ne:∀(j:Nat) (e:D) (b:ap),i≠j->ρ[j]?=some (Sl.own e)->σ[j]?=some (some (V.ref b))->b≠a:=λj e b g h w z=>by
   subst z;exact g (f.dj i j d e b ho h B w)
  refine⟨upd Hs a o,⟨f.st.all,f.st.sh.trans m,λb u e=>?_,λb u e t z=>?_⟩,by simp[f.len],λj e h=>?_,λj e h=>?_,λj e h=>?_,λj k A E b y L S U=>?_,f.lh,λj e h=>?_,λj k A E y L=>?_⟩
  ·by_cases w:b=a
   ·subst w;rw[bc] at e;cases e;exact Q
   ·rw[bh w] at e;exact f.st.sub b u e
  ·rw[bh (cj e N)];exact f.st.out b u e t z
  ·by_cases g:i=j
   ·subst g;rw[aN n] at h;cases h;exact⟨_,B,Y.share P⟩
   ·rw[ao g] at h;obtain⟨v,l,q⟩:=f.sh j e h;exact⟨v,l,q.same m⟩
  ·obtain⟨h,g⟩:=nx (λ_ z=>by cases z) h;obtain⟨b,u,l,q,M,G,x⟩:=f.ow j e h;exact⟨b,u,l,q,by rw[bh (ne j e b g h l)];exact M,G,x.same m⟩
  ·obtain⟨h,g⟩:=nx (λ_ z=>by cases z) h;obtain⟨b,u,l,q,M,G,x,T⟩:=f.lk j e h;exact⟨b,u,l,q,M,by rw[bh (cj x N)];exact G,x,T.same m⟩
  ·exact f.dj j k A E b (nx (λ_ z=>by cases z) y).1 (nx (λ_ z=>by cases z) L).1 S U
  ·obtain⟨h,g⟩:=nx (λ_ z=>by cases z) h;obtain⟨b,as,O⟩:=f.o2 j e h;refine⟨b,as,O.at_,O.ob,O.nd,λc p=>⟨?_,(O.out c p).2⟩,λc p k X hk=>O.dj c p k X (nx (λ_ z=>by cases z) hk).1,O.inn.step (.refl _) m⟩;rw[bh (λz=>O.dj c p i d ho (by rw[z];exact B))];exact(O.out c p).1
  ·exact f.u2 j k A E (nx (λ_ z=>by cases z) y).1 (nx (λ_ z=>by cases z) L).1
 ·exact⟨Hs,f⟩
def JR(i:Nat)(h:JS c st gs):JS c st (λρ=>gs (shareAt i ρ)):=.of λρ=>C1 (h (shareAt i ρ)) λD j H a=>by
 obtain⟨e,d,la,Hs,f,q⟩:=a;obtain⟨b,g⟩:=f.shareAt i;exact⟨e,d,la,b,g,q⟩
def D9.get(h:D9 K H Hs as dss):∀{j:Nat}{ds:List D},dss[j]?=some ds->∃b a,as[j]?=some b/\H b=some (.lst a)/\RDs K Hs a ds:=by
 induction h with
 |nil=>intro j ds e;cases e
 |cons h r t c=>
  intro j ds e;cases j with
  |zero=>cases e;exact⟨_,_,rfl,h,r⟩
  |succ j=>have q:=c (j:=j) e;exact q
theorem D9.set(i:RDs K Hs vs' ds'):∀{d:List ap}{c:List (List D)}{j:Nat}{b:ap},D9 K H Hs d c->d[j]?=some b->d.Nodup->D9 K (L2.upd H b (.lst vs')) Hs d (c.set j ds')
 |_,_,_,_,.nil,h,_=>by simp at h
 |_,_,0,b,.cons h r t,e,g=>by
  simp at e;subst e;exact .cons bc i (t.upd (List.nodup_cons.mp g).1)
 |_,_,j+1,b,.cons (a:=a) h r t,e,g=>by
  have f:_:=e;simp only[kG] at f;obtain⟨k,l⟩:=List.nodup_cons.mp g;have m:b∈_:=ip f;exact .cons (by rw[bh (λz=>k (by rw[z];exact m))];exact h) r (D9.set i t f l)
def qH(i:Nat)(b g:aE->R D):aE->R Fl:=λρ=>match ρ[i]? with
 |some (Sl.ow2 a)=>(b ρ).bind λk=>match k with
  |.int j=>if 0<=j then(match a[j.toNat]? with
   |some ds=>(g ρ).bind λd=>if ds.length<1000 then .ok (.nx (ρ.set i (.ow2 (a.set j.toNat (ds++[d]))))) else .no
   |none=>.no) else .no
  |_=>.no
 |_=>.no
def AH(i:Nat)(a3:JE c ie gi)(h:JE c e g)(hN:c.X.N[i]?=some x:=by rfl)(hv:OR c.X.env.scope x:=by first|exact iq rfl|exact f9 (iq rfl)|exact f9 (f9 rfl))(hd:(x==("__debug__" : Str))=false:=by decide)
  (a0:(x==("__classdict__" : Str))=false:=by decide) (b6:wH ie:=by exact λ_ _=>rfl)
  (P:MK (.Subscript (.Name x p) ie p3) "append" c.X.env (eI (.Subscript (.Name x p) ie p3) c.X.env)=eI (.Subscript (.Name x p) ie p3) c.X.env:=by rfl)
  (T:((iz cpos (aP [e] c.X.env)).all (λx=>!x.1)&&(backToKw cpos (Td [] c.X.env)).all (λx=>x.1.isSome)
   && decide ([e].length+([]:List IE).length+(if([]:List IE).isEmpty then 0 else 1)<30))=true:=by rfl)
  (G:(apos.endLine==cpos.line)=true:=by rfl) (S:aP [e] c.X.env=(false,eI e c.X.env)::aP [] c.X.env:=by rfl) (A:(iz cpos (aP [] c.X.env)).any (·.1)=false:=by rfl)
  (hs:hX (.Call (.Attribute (.Subscript (.Name x p) ie p3) "append" apos) [e] [] cpos) none pos.line c.X.env=pure false:=by rfl):
  JS c (.Expr (.Call (.Attribute (.Subscript (.Name x p) ie p3) "append" apos) [e] [] cpos) pos) (qH i gi g):=.of λρ=>by
 refine C1 (Ea (W3 CW Ce Cf D2 (VY wI (r9 hN hv hd a0) (a3 ρ) b6) (iR (h ρ) kJ S) P T G S A) hs) λD σ H a2=>?_;obtain⟨H0,a5,la,Hs,f,q⟩:=a2;replace q:qE c.X.K c.cls c.E H0 a5 la D (qH i gi g ρ):=q;unfold qH at q;split at q
 ·rename_i B ho
  obtain⟨a,as,O⟩:=f.o2 i B ho;refine⟨_,O.at_,?_⟩;refine sE f q λk v H1 b8 e1 s1 f1 r1=>?_;rw[e1,bind_ok] at q;cases r1 with
  |int j=>
   simp only at q;by_cases M:0<=j
   ·rw[if_pos M] at q;split at q
    ·rename_i ds a6
     obtain⟨b,vs,hb,hH,rv⟩:=O.inn.get a6;have b7:IP (as.map V.ref) j=some (.ref b):=by
      have:=ua (xs:=as.map V.ref) (j:=j.toNat) (v:=V.ref b) (by rw[b9,hb];rfl)
      rwa[fJ M] at this
     refine⟨a,_,j,_,rfl,rfl,.of (s1.all _ _ O.ob),b7,.inl ⟨rfl,_,.of (s1.all _ _ hH)⟩,?_⟩;refine sE f1 q λd w H2 a4 e2 s2 o r2=>?_;rw[e2,bind_ok] at q;by_cases hl:ds.length<1000
     ·rw[if_pos hl] at q;have st:=s1.trans s2;refine⟨b,vs,w,rfl,rfl,st.all _ _ hH,eX (by rw[rv.length];omega),?_⟩;have U:i<ρ.length:=(List.getElem?_eq_some_iff.mp ho).1;obtain⟨a',L,l⟩:=o.o2 i B ho;have ea:a'=a:=by
       have:=l.at_;rw[O.at_] at this;cases this;rfl
      subst ea;have a1:L=as:=by
       have t:=l.ob;rw[st.all _ _ O.ob] at t;injection t with t;injection t with t;exact(ON (λx y z=>by cases z;rfl) |>.mp t).symm
      subst a1;have Q:b∈a'::L:=af _ (ip hb);have nb:b≠a':=λz=>(List.nodup_cons.mp O.nd).1 (z ▸ ip hb);obtain⟨bs,b0⟩:=l.out b Q;have nx:∀{m:Nat}{s:Sl},(∀d,s≠.ow2 d)->(ρ.set i (.ow2 (B.set j.toNat (ds++[d]))))[m]?=some s->ρ[m]?=some s/\i≠m:=λ{m s} hs e=>by
       by_cases M:i=m
       ·subst M;rw[aN U] at e;exact absurd (cc e).symm (hs _)
       ·rw[ao M] at e;exact⟨e,M⟩
      refine q _ _ a4 ⟨⟨λc u e=>?_,o.st.sh,λc u e=>?_,o.st.out⟩,by simp[o.len],λm d' h=>o.sh m d' (nx (λ_ z=>by cases z) h).1,λm d' h=>?_,λm d' h=>?_,λm k' d' e' a t h2=>o.dj m k' d' e' a (nx (λ_ z=>by cases z) t).1 (nx (λ_ z=>by cases z) h2).1,o.lh,λm d' h=>?_,λm k' d' e' t h2=>?_⟩
      ·rw[bh (cj e b0)];exact o.st.all c u e
      ·rw[bh (cj e bs)];exact o.st.sub c u e
      ·obtain⟨h,_⟩:=nx (λ_ z=>by cases z) h;obtain⟨c',u,k1,k2,k3,k4,Y⟩:=o.ow m d' h;refine⟨c',u,k1,?_,k3,k4,Y⟩;rw[bh (λz=>l.dj b Q m d' h (by rw[<- z];exact k1))];exact k2
      ·obtain⟨h,_⟩:=nx (λ_ z=>by cases z) h;obtain⟨c',u,k1,k2,k3,k4,Y,k6⟩:=o.lk m d' h;refine⟨c',u,k1,k2,?_,k4,Y,k6⟩;rw[bh (cj Y b0)];exact k3
      ·by_cases n:i=m
       ·subst n;rw[aN U] at h;cases h;refine⟨a',L,l.at_,by rw[bh (dm nb)];exact l.ob,l.nd,l.out,λc hc k e' hk=>l.dj c hc k e' (nx (λ_ z=>by cases z) hk).1,?_⟩;exact D9.set ((rv.same st.sh).append (.cons r2 .nil)) l.inn hb (List.nodup_cons.mp l.nd).2
       ·rw[ao n] at h;exact(n (o.u2 i m _ _ ho h)).elim
      ·by_cases n:i=m
       ·by_cases I:i=k'
        ·exact n.symm.trans I
        ·rw[ao I] at h2;exact(I (o.u2 i k' _ _ ho h2)).elim
       ·rw[ao n] at t;exact(n (o.u2 i m _ _ ho t)).elim
     ·rw[if_neg hl] at q;exact q.elim
    ·exact q.elim
   ·rw[if_neg M] at q;exact q.elim
  |none=>exact q.elim
  |bool _=>exact q.elim
  |str _=>exact q.elim
  |list _ _=>exact q.elim
  |tuple _ _=>exact q.elim
  |dictK _ _=>exact q.elim
  |dictT _ _ _=>exact q.elim
  |dictF _ _ _=>exact q.elim
 ·exact q.elim
structure Bi (mg:Str->Option ag):Prop where
 len:mg "len"=none
 isinstance:mg "isinstance"=none
 all:mg "all"=none
 any:mg "any"=none
 zip:mg "zip"=none
 tuple:mg "tuple"=none
 list:mg "list"=none
 sorted:mg "sorted"=none
 set:mg "set"=none
 range:mg "range"=none
 enumerate:mg "enumerate"=none
 dict:mg "dict"=none
 sum:mg "sum"=none
 max:mg "max"=none
 min:mg "min"=none
 reversed:mg "reversed"=none
 str:mg "str"=none
 int:mg "int"=none
 bool:mg "bool"=none
def bits(j:Nat):List Bool:=[decide (0=j),decide (1=j),decide (2=j),decide (3=j),decide (4=j),decide (5=j),decide (6=j),decide (7=j),decide (8=j),decide (9=j),decide (10=j)]
end J
namespace L2
open PySem
end L2
namespace J
open PySem L2
section
open PyProof.Rows (OwnCls)
abbrev UG:List ag:=[.type "ValueError",.type "Exception",.type "BaseException",.type "object"]
structure TopC (K:a8) (x:Str) (C:ap):Prop where
 ns:iQ K cn x=some (some (.ref C))
 ex:PySem.W.excIn K C UG "ValueError.__new__"=true
 mb:j0 K C (.type "BaseException")=some true
inductive ZW (K:a8) (F:List D->R D) (vs:List V) (H:Hp) (Q:VK) (z_3:XK):Prop
 |mk (Hs ds d:_) (h0:dQ Hs H) (h1:ds.length=1) (h2:RDs K Hs vs ds) (h3:F ds=.ok d) (h4:∀v H' Hs',cQ H Hs H' Hs'->RD K Hs' v d->Q v H'):ZW K F vs H Q z_3
def ZX(K:a8)(F:List D->R D):Sp:=ZW K F
def Y2:∀a H Q E,ZX K F a H Q E->Uw K cls 1 F a H Q E:=λa H Q E ⟨Hs,ds,d,s,l,r,e,q⟩=>⟨Hs,ds,s,l,r,by rw[e];exact q⟩
def ZY(l:List (Str×ap)):Str->ap:=λx=>(l.lookup x).getD 0
def Y3{K:a8}{F:List D->R D}{H:Hp}{a:ap}{b:List Int}(d:F [.list (b.map .int)]=.ok (.bool true))(h:qy K H a (b.map V.int)):ZX K F [.ref a] H (λv _=>v=.bl true) λ_ _ _=>False:=by
 have e:∀b:List Int,RDs K H (b.map V.int) (b.map .int):=λb=>by
  induction b with
  |nil=>exact .nil
  |cons x r c=>exact .cons (.int x) c
 refine⟨H,[.list (b.map .int)],.bool true,.refl H,rfl,.cons (.list h (e b)) .nil,d,?_⟩;intro v H' f _ r;cases r;rfl
def Y4(h:C0 P w [] H s (λ_ _ _=>False) e s'):False:=by
 obtain⟨_,_,_,_,_,_,_,_,_,q⟩:=h;exact q
def walkF{l:zq}{k:Nat}{q:bg}{b:List Str}{A:(Str->Option ag)->cg->Prop}{i:bL->cg->Prop}{d:DefRec}{K:Params->a8}{x:Str}{F0:List D->R D}
  (y:l.most=some 63) (g:d.params.defaults=[]) (v:m9 k yQ) (o:∀(w:bL) (h:cg),i w h->(K w.params).In h)
  (F:∀(w:bL) (e:Str->Option ag) (m:ap) (h:cg),(K w.params).In h->h.Ns cn e->e d.name=some (.ref m) ->
   ∃j:ig,(∀(s:ak) (u:ag),C5 s j ⟨[u],[]⟩ [(x,u)])/\∀base:cg,(K w.params).In base->base.Ns cn e->uS l.prog w (K w.params) e base (C0 l.prog w) k m j [x] (ZX (K w.params) F0))
  (p:∀c:List Int,c.length<=63->F0 [.list (c.map .int)]=.ok (.bool true)):
  SX q b A i l.row.toRowW d [] (λf B=>ML f B):=
 L2.Ua (n:=63) (k:=k) (x:=x) (CX:=λw=>C0 l.prog w) (sp:=λw=>ZX (K w.params) F0) y ⋯ g v o F (λw H a c t _ z=>Y3 (p c t) z) λ_ _ _ _ _ h=>Y4 h
def NA(i:Nat)(g:aE->R Fl):aE->R Fl:=λρ=>g (shareAt i ρ)
def yr(i:Nat)(h:JS c st gs):JS c st (NA i gs):=JR i h
end
def AI{b c:Type}(a:b)(f:b->R c):(R.ok a).bind f=f a:=id rfl
def UH(h:aE->R Fl):Fl->R Fl:=λb=>match b with
 |.nx a=>h a
 |b=>.ok b
def GC(g h:aE->R Fl):aQ g h (s::ρ)=(g (s::ρ)).bind (UH h):=id rfl
def xh(h:aE->R Fl)(ρ:aE):UH h (.nx ρ)=h ρ:=id rfl
def GD(h:aE->R Fl)(d:D):UH h (.rt d)=.ok (.rt d):=id rfl
def ifK(g h:aE->R Fl)(ρ:aE):Bool->R Fl:=λb=>bif b then g ρ else h ρ
def ZZ(t:aE->R Bool)(g h:aE->R Fl):fK t g h (s::ρ)=(t (s::ρ)).bind (ifK g h (s::ρ)):=by
 show(t (s::ρ)).bind _=_;congr 1;funext b;cases b<;>rfl
def Qu(g h:aE->R Fl)(ρ:aE):ifK g h ρ false=h ρ:=id rfl
def Qv(g h:aE->R Fl)(ρ:aE)(b:Bool):ifK g h ρ b=bif b then g ρ else h ρ:=id rfl
def rtK:D->R Fl:=λd=>.ok (.rt d)
def Wm(g:aE->R D):dv g (s::ρ)=(g (gQ (s::ρ))).bind rtK:=id rfl
def Z_(d:D):rtK d=.ok (.rt d):=id rfl
def AJ:Sl->Sl
 |.own d=>.shr d
 |.ow2 a=>.shr (.list (a.map .list))
 |s=>s
def Lu:gQ (s::ρ)=AJ s::gQ ρ:=by cases s<;>rfl
def GE:gQ []=[]:=id rfl
def Lv:AJ .no=.no:=id rfl
def GF(d:D):AJ (.shr d)=.shr d:=id rfl
def GG(d:D):AJ (.own d)=.shr d:=id rfl
def GH(d:List (List D)):AJ (.ow2 d)=.shr (.list (d.map .list)):=id rfl
def q00(i:Nat)(ρ:aE):D->R Fl:=λd=>.ok (.nx (ρ.set i (.shr d)))
def Qw(i:Nat)(g:aE->R D):fN i g (s::ρ)=(g (s::ρ)).bind (q00 i (s::ρ)):=id rfl
def Qx(i:Nat)(ρ:aE)(d:D):q00 i ρ d=.ok (.nx (ρ.set i (.shr d))):=id rfl
def Wn(i:Nat)(ρ:aE):D->R Fl:=λd=>.ok (.nx (ρ.set i (.own d)))
def Qy(i:Nat)(g:aE->R D):fD i g (s::ρ)=(g (s::ρ)).bind (Wn i (s::ρ)):=id rfl
def Lw(i:Nat)(ρ:aE)(d:D):Wn i ρ d=.ok (.nx (ρ.set i (.own d))):=id rfl
def PF(ρ:aE):D->R Fl:=λ_=>.ok (.nx ρ)
def Qz(g:aE->R D):mP g (s::ρ)=(g (s::ρ)).bind (J.PF (s::ρ)):=id rfl
def Lx(ρ:aE)(d:D):J.PF ρ d=.ok (.nx ρ):=id rfl
def g2K(gb:aE->R D)(h:D->D->R D)(ρ:aE):D->R D:=λx=>(gb ρ).bind (h x)
def q01(a gb:aE->R D)(h:D->D->R D):g2 a gb h (s::ρ)=(a (s::ρ)).bind (g2K gb h (s::ρ)):=id rfl
def Wo(gb:aE->R D)(h:D->D->R D)(ρ:aE)(x:D):g2K gb h ρ x=(gb ρ).bind (h x):=id rfl
def UI:D->R Bool:=λd=>match d with
 |.bool b=>.ok b
 |_=>.no
def Wp(g:aE->R D):eQ g (s::ρ)=(g (s::ρ)).bind UI:=id rfl
def QA(b:Bool):UI (.bool b)=.ok b:=id rfl
def q02:Bool->R Bool:=λb=>.ok (!b)
def Wq(g:aE->R Bool):ji g (s::ρ)=(g (s::ρ)).bind q02:=id rfl
def QB(b:Bool):q02 b=.ok (!b):=id rfl
def q03(h:aE->R Bool)(ρ:aE):Bool->R Bool:=λb=>bif b then h ρ else .ok false
def orK(h:aE->R Bool)(ρ:aE):Bool->R Bool:=λb=>bif b then .ok true else h ρ
def Wr(g h:aE->R Bool):qB g h (s::ρ)=(g (s::ρ)).bind (q03 h (s::ρ)):=by
 show(g (s::ρ)).bind _=_;congr 1;funext b;cases b<;>rfl
def q04(g h:aE->R Bool):IS g h (s::ρ)=(g (s::ρ)).bind (orK h (s::ρ)):=by
 show(g (s::ρ)).bind _=_;congr 1;funext b;cases b<;>rfl
def QC(h:aE->R Bool)(ρ:aE)(b:Bool):q03 h ρ b=bif b then h ρ else .ok false:=id rfl
def Ws(h:aE->R Bool)(ρ:aE)(b:Bool):orK h ρ b=bif b then .ok true else h ρ:=id rfl
def Wt:Bool->R D:=λb=>.ok (.bool (!b))
def QD(g:aE->R D):Db g (s::ρ)=((g (s::ρ)).bind UI).bind Wt:=id rfl
def Ly(b:Bool):Wt b=.ok (.bool (!b)):=id rfl
def Wu(h:aE->R D)(ρ:aE):Bool->R D:=λb=>bif b then h ρ else .ok (.bool false)
def QE(g h:aE->R D):mM g h (s::ρ)=((g (s::ρ)).bind UI).bind (Wu h (s::ρ)):=by
 show(eQ g (s::ρ)).bind _=(eQ g (s::ρ)).bind _;congr 1;funext b;cases b<;>rfl
def Lz(h:aE->R D)(ρ:aE)(b:Bool):Wu h ρ b=bif b then h ρ else .ok (.bool false):=id rfl
def q05(g h:aE->R D)(ρ:aE):Bool->R D:=λb=>bif b then g ρ else h ρ
def Wv(t:aE->R Bool)(g h:aE->R D):ZI t g h (s::ρ)=(t (s::ρ)).bind (q05 g h (s::ρ)):=by
 show(t (s::ρ)).bind _=_;congr 1;funext b;cases b<;>rfl
def QF(g h:aE->R D)(ρ:aE)(b:Bool):q05 g h ρ b=bif b then g ρ else h ρ:=id rfl
def q06(gb a:aE->R D)(h h':D->D->R D)(ρ:aE):D->R D:=λx=>(gb ρ).bind λy=>(h x y).bind λz=>match z with
 |.bool true=>(a ρ).bind λw=>h' y w
 |.bool false=>.ok (.bool false)
 |_=>.no
def q07(a:aE->R D)(h h':D->D->R D)(ρ:aE)(x:D):D->R D:=λy=>(h x y).bind λz=>match z with
 |.bool true=>(a ρ).bind λw=>h' y w
 |.bool false=>.ok (.bool false)
 |_=>.no
def q08(a:aE->R D)(h':D->D->R D)(ρ:aE)(y:D):D->R D:=λz=>match z with
 |.bool true=>(a ρ).bind (h' y)
 |.bool false=>.ok (.bool false)
 |_=>.no
def LA(b gb a:aE->R D)(h h':D->D->R D):sV b gb a h h' (s::ρ)=(b (s::ρ)).bind (q06 gb a h h' (s::ρ)):=id rfl
def QG(gb a:aE->R D)(h h':D->D->R D)(ρ:aE)(x:D):q06 gb a h h' ρ x=(gb ρ).bind (q07 a h h' ρ x):=id rfl
def QH(a:aE->R D)(h h':D->D->R D)(ρ:aE)(x y:D):q07 a h h' ρ x y=(h x y).bind (q08 a h' ρ y):=id rfl
def QI(a:aE->R D)(h':D->D->R D)(ρ:aE)(y:D)(b:Bool):q08 a h' ρ y (.bool b)=bif b then(a ρ).bind (h' y) else .ok (.bool false):=by cases b<;>rfl
def QJ(a:aE->R (List D))(ρ:aE):D->R (List D):=λd=>(a ρ).bind λds=>.ok (d::ds)
def QK(d:D):List D->R (List D):=λds=>.ok (d::ds)
def QL(g:aE->R D)(a:aE->R (List D)):J.aa g a (s::ρ)=(g (s::ρ)).bind (QJ a (s::ρ)):=id rfl
def GI(a:aE->R (List D))(ρ:aE)(d:D):QJ a ρ d=(a ρ).bind (QK d):=id rfl
def GJ(d:D)(ds:List D):QK d ds=.ok (d::ds):=id rfl
def Ww(ρ:aE):J.aH ρ=.ok []:=id rfl
def Wx(k:List D->D):List D->R D:=λds=>if ds.length<=1000 then .ok (k ds) else .no
def QM(a:aE->R (List D))(k:List D->D):eZ a k (s::ρ)=(a (s::ρ)).bind (Wx k):=id rfl
def LB(k:List D->D)(ds:List D):Wx k ds=if ds.length<=1000 then .ok (k ds) else .no:=id rfl
def QN(a:aE->R (List D))(h:List D->R D):cw a h (s::ρ)=(a (s::ρ)).bind h:=id rfl
def fnK(n:Nat)(F:List D->R D):List D->R D:=λds=>if ds.length=n then F ds else .no
def q09(n:Nat)(F:List D->R D)(a:aE->R (List D)):eA n F a (s::ρ)=(a (s::ρ)).bind (fnK n F):=id rfl
def Wz(n:Nat)(F:List D->R D)(ds:List D):fnK n F ds=if ds.length=n then F ds else .no:=id rfl
def WA(h:D->R D)(d:D):iT h [d]=h d:=id rfl
def QO(d:D)(ρ:aE):IQ (.shr d::ρ) 0=.ok d:=id rfl
def WB(s:Sl)(ρ:aE)(n:Nat):IQ (s::ρ) (n+1)=IQ ρ n:=by simp[IQ]
def QP(d:D)(ρ:aE):IR (.shr d::ρ) 0=.ok d:=id rfl
def QQ(d:D)(ρ:aE):IR (.own d::ρ) 0=.ok d:=id rfl
def WC(s:Sl)(ρ:aE)(n:Nat):IR (s::ρ) (n+1)=IR ρ n:=by simp[IR]
def q0a(T:String):D->R D:=λd=>if oO d then .ok (.bool (Gs T d)) else .no
def WD(g:aE->R D)(T:String):Ax g T (s::ρ)=(g (s::ρ)).bind (q0a T):=id rfl
def QR(T:String)(d:D):q0a T d=if oO d then .ok (.bool (Gs T d)) else .no:=id rfl
def q0b(a b:aE->R (Option Int))(ρ:aE):D->R D:=λx=>(a ρ).bind λl=>(b ρ).bind λh=>Ln x l h
def q0c(a:aE->R (Option Int))(ρ:aE)(x:D):Option Int->R D:=λl=>(a ρ).bind λh=>Ln x l h
def q0d(g:aE->R D)(b a:aE->R (Option Int)):FM g b a (s::ρ)=(g (s::ρ)).bind (q0b b a (s::ρ)):=id rfl
def QS(b a:aE->R (Option Int))(ρ:aE)(x:D):q0b b a ρ x=(b ρ).bind (q0c a ρ x):=id rfl
def QT(a:aE->R (Option Int))(ρ:aE)(x:D)(l:Option Int):q0c a ρ x l=(a ρ).bind (Ln x l):=id rfl
def WE(ρ:aE):IT ρ=.ok none:=id rfl
def q0e:D->R (Option Int):=λd=>match d with
 |.int i=>.ok (some i)
 |_=>.no
def WF(g:aE->R D):Ew g (s::ρ)=(g (s::ρ)).bind q0e:=id rfl
def QU(i:Int):q0e (.int i)=.ok (some i):=id rfl
def Y5(g:aE->R D):gE g (s::ρ)=(g (s::ρ)).bind rj:=id rfl
def QV(a:aE->R (List D)):Di a (s::ρ)=(a (s::ρ)).bind JP:=id rfl
def WG(a:aE->R (List D)):CA a (s::ρ)=(a (s::ρ)).bind enm:=id rfl
def WH(a:aE->R (List D)):UA a (s::ρ)=(a (s::ρ)).bind zp:=id rfl
def WI(nt:Nat)(ix:List Nat)(gt:aE->R Bool)(ge:aE->R D)(ρ:aE):List D->R D:=λds=>if ds.length<=1000 then(fE (iG nt (jM nt ix ρ) gt ge) ds).bind λys=>.ok (.list ys) else .no
def WJ:List D->R D:=λys=>.ok (.list ys)
def QW(nt:Nat)(ix:List Nat)(a:aE->R (List D))(gt:aE->R Bool)(ge:aE->R D):de nt ix a gt ge (s::ρ)=(a (s::ρ)).bind (WI nt ix gt ge (s::ρ)):=id rfl
def LC(nt:Nat)(ix:List Nat)(gt:aE->R Bool)(ge:aE->R D)(ρ:aE)(ds:List D):WI nt ix gt ge ρ ds=if ds.length<=1000 then(fE (iG nt (jM nt ix ρ) gt ge) ds).bind WJ else .no:=id rfl
def LD(ys:List D):WJ ys=.ok (.list ys):=id rfl
def AK(a:aE->R (List D))(kt:D->aE->R aE)(gb:aE->R Fl)(ds:List D)(h:a (s::ρ)=.ok ds):qf a kt gb (s::ρ)=k7 kt gb ds (s::ρ):=by unfold qf;rw[h]
def NB(k:D->aE->R aE)(ρ:aE):D->R Fl:=λd=>match k d ρ with
 |.ok a=>.ok (.nx a)
 |_=>.no
def WK(g:aE->R D)(k:D->aE->R aE):xa g k (s::ρ)=(g (s::ρ)).bind (NB k (s::ρ)):=id rfl
def Dj(ds:List D):rj (.list ds)=.ok ds:=id rfl
def Dk(ds:List D):rj (.tuple ds)=.ok ds:=id rfl
def Dl(x:Str):rj (.str x)=.ok (qd x):=id rfl
def QX(ds:List D):enm [.tuple ds]=.ok (nQ 0 ds):=id rfl
def q0f(ds es:List D):zp [.tuple ds,.tuple es]=.ok (zD ds es):=id rfl
def AL(ρ:aE)(i:Nat):Sl:=UC ((ρ[i]?).getD .no)
def QY(ix:List Nat)(ρ:aE):aE:=ix.map (AL ρ)
def QZ(ix:List Nat)(ρ:aE):jM 1 ix ρ=.no::QY ix ρ:=id rfl
def Q_(ix:List Nat)(ρ:aE):jM 2 ix ρ=.no::.no::QY ix ρ:=id rfl
def R0(ρ:aE):QY [] ρ=[]:=id rfl
def R1(i:Nat)(ix:List Nat)(ρ:aE):QY (i::ix) ρ=AL ρ i::QY ix ρ:=id rfl
def R4(s:Sl)(ρ:aE):AL (s::ρ) 0=UC s:=id rfl
def R5(s:Sl)(ρ:aE)(n:Nat):AL (s::ρ) (n+1)=AL ρ n:=by simp[AL]
def Dm(d:D):UC (.shr d)=.shr d:=id rfl
def EE(h:ρ[i]?=some (Sl.own d)):shareAt i ρ=ρ.set i (.shr d):=by unfold shareAt;rw[h]
theorem dE{a:Type}(f:D->R (Option D))(c:a->D)(h:a->D):∀(xs:List a),(∀x∈xs,f (c x)=.ok (some (h x)))->fE f (xs.map c)=.ok (xs.map h)
 |[],_=>rfl
 |x::r,e=>by
  rw[ar,ar];unfold fE;rw[e x aj,bind_ok,dE f c h r λy b=>e y (af _ b),bind_ok]
theorem dw{a:Type}(f:D->R (Option D))(c:a->D)(h:a->D)(p:a->Bool):∀(xs:List a),(∀x∈xs,f (c x)=.ok (if p x then some (h x) else none))->fE f (xs.map c)=.ok ((xs.filter p).map h)
 |[],_=>rfl
 |x::r,e=>by
  rw[ar];unfold fE;rw[e x aj,bind_ok,dw f c h p r λy d=>e y (af _ d),bind_ok];cases b:p x<;>simp[b]
def WL:iG 1 ρ gt ge d=Ay (((gt (ρ.set 0 (.shr d)))).bind λb=>if b then(ge (ρ.set 0 (.shr d))).bind λy=>.ok (some y) else .ok none):=id rfl
def fU(a:gt (ρ.set 0 (.shr d))=.ok true)(b:ge (ρ.set 0 (.shr d))=.ok y):iG 1 ρ gt ge d=.ok (some y):=by
 rw[WL,a,bind_ok,if_pos rfl,b];rfl
def jC(a:gt (ρ.set 0 (.shr d))=.ok b)(c:b=true->ge (ρ.set 0 (.shr d))=.ok y):iG 1 ρ gt ge d=.ok (if b then some y else none):=by
 rw[WL,a,bind_ok];cases b with
 |true=>rw[if_pos rfl,c rfl];rfl
 |false=>rfl
def UJ(b:-(2 ^ 62)<=j)(f:j<2 ^ 62):JP [.int j]=.ok (sZ 0 j.toNat):=by
 have h:-(2 ^ 62)<=j/\j<2 ^ 62:=⟨b,f⟩;unfold JP;split
 ·rename_i c e
  have a:j=c:=by injection e with e;injection e
  subst a;rw[if_pos h]
 ·rename_i d
  exact(d j rfl).elim
end J
namespace L2
open PySem PySem.Spec PyProof.Rows
end L2
namespace J
open PySem L2
open PyProof.Rows (envOfC)
def ln1{c:Type}{b:List c}(h:b.length=1):∃a,b=[a]:=by
 rcases b with _|⟨a0,_|⟨z,r⟩⟩
 ·simp at h
 ·exact⟨_,rfl⟩
 ·simp at h
def ln2{d:Type}{c:List d}(h:c.length=2):∃a b,c=[a,b]:=by
 rcases c with _|⟨a0,_|⟨a0,_|⟨z,r⟩⟩⟩
 ·simp at h
 ·simp at h
 ·exact⟨_,_,rfl⟩
 ·simp at h
def ln3{e:Type}{d:List e}(h:d.length=3):∃a b c,d=[a,b,c]:=by
 rcases d with _|⟨a0,_|⟨a0,_|⟨a0,_|⟨z,r⟩⟩⟩⟩
 ·simp at h
 ·simp at h
 ·simp at h
 ·exact⟨_,_,_,rfl⟩
 ·simp at h
def ln4{f:Type}{e:List f}(h:e.length=4):∃a b c d,e=[a,b,c,d]:=by
 rcases e with _|⟨a0,_|⟨a0,_|⟨a0,_|⟨a0,_|⟨z,r⟩⟩⟩⟩⟩
 ·simp at h
 ·simp at h
 ·simp at h
 ·simp at h
 ·exact⟨_,_,_,_,rfl⟩
 ·simp at h
def ln5{g:Type}{f:List g}(h:f.length=5):∃a b c d e,f=[a,b,c,d,e]:=by
 rcases f with _|⟨a0,_|⟨a0,_|⟨a0,_|⟨a0,_|⟨a0,_|⟨z,r⟩⟩⟩⟩⟩⟩
 ·simp at h
 ·simp at h
 ·simp at h
 ·simp at h
 ·simp at h
 ·exact⟨_,_,_,_,_,rfl⟩
 ·simp at h
end J
namespace L2
open PySem PySem.Spec PyProof.Rows
end L2
namespace L2
open PySem
def LF(a:Nat):Nat->Nat×Nat->Nat×Nat
 | 0,x=>x
 |n+1,x=>LF a n (SetTable.leap a x.1 x.2)
theorem LG(a:Nat):∀(n m:Nat) (x:Nat×Nat),LF a (n+m) x=LF a m (LF a n x)
 | 0,m,x=>by rw[fH];rfl
 |n+1,m,x=>by
  rw[Nat.succ_add];exact LG a n m _
theorem LH(a:Nat):∀(n:Nat) (x:Nat×Nat),(LF a n x).2=x.2 / 32 ^ n
 | 0,x=>by simp[LF]
 |n+1,x=>by
  show(LF a n _).2=_;rw[LH a n];show x.2 / 32 / 32 ^ n=_;rw[Nat.div_div_eq_div_mul,Nat.pow_succ,Jc]
theorem LI(a:Nat):∀(n:Nat) (x:Nat×Nat),x.1<=a->(LF a n x).1<=a
 | 0,x,h=>h
 |n+1,x,h=>LI a n _ (by
  show(x.1*5+1+x.2 / 32) % (a+1)<=a;exact zr (E4 _ (Jd _)))
theorem Do:∀(fuel i p:Nat),eP mask owner fuel i p=none->∀n,n<fuel->(owner.getD (LF mask n (i,p)).1 (some 0)).isSome=true
 | 0,_,_,_,n,h=>absurd h (u4 n)
 |fuel+1,i,p,e,n,h=>by
  unfold eP at e;split at e
  ·cases e
  ·rename_i b
   cases n with
   |zero=>
    have a:=List.find?_eq_none.mp b 0 (List.mem_range.mpr (by unfold SetTable.runEnd;split<;>omega));simp only[oK] at a;show(owner.getD i (some 0)).isSome=true;cases q:owner.getD i (some 0) with
    |none=>rw[q] at a;exact absurd rfl a
    |some _=>rfl
   |succ n=>exact Do fuel _ _ e n (Je h)
theorem Dp:∀(fuel i p k:Nat),eP mask owner fuel i p=some k->owner.getD k (some 0)=none
 | 0,_,_,_,e=>nomatch e
 |fuel+1,i,p,k,e=>by
  unfold eP at e;split at e
  ·rename_i a b
   cases e;have:=List.find?_some b;cases q:owner.getD (i+a) (some 0) with
   |none=>rfl
   |some _=>rw[q] at this;cases this
  ·exact Dp fuel _ _ k e
def OU(a:Nat):Prop:=a=7\/a=15\/a=31
def q0g(a:Nat):Bool:=(bQ (a+1)).all λi=>(bQ (a+1)).all λj=>(bQ (a+1)).any λn=>decide ((LF a n (i,0)).1=j)
def UK(h:OU mask):q0g mask=true:=by
 rcases h with h|h|h<;>subst h<;>decide +kernel
def getD_none{owner:Array (Option Nat)}{k:Nat}(h:owner.getD k (some 0)=none):owner.toList[k]?=some none:=by
 by_cases a:k<owner.size
 ·rw[jn,bC a] at h;rw[aO,bC a];simpa using h
 ·rw[jn,cW ∅] at h;cases h
def NC{a:Nat}(h:OU a){owner:Array (Option Nat)}{j:Nat}(o:j<=a)(d:owner.toList[j]?=some none){i p:Nat}(s:i<=a)(m:p<2 ^ 64):
  ∃k,eP a owner (sy a) i p=some k/\owner.toList[k]?=some none:=by
 cases e:eP a owner (sy a) i p with
 |some k=>exact⟨k,rfl,getD_none (Dp _ _ _ _ e)⟩
 |none=>
  exfalso;have l:(LF a 13 (i,p)).2=0:=by
   rw[LH];exact Nat.div_eq_of_lt (aK m ⋯)
  have f:=LI a 13 (i,p) s;have g:=UK h;unfold q0g at g;rw[bY] at g;have g:=g _ (List.mem_range.mpr (qS f));rw[bY] at g;have g:=g j (List.mem_range.mpr (qS o));rw[jR] at g;obtain⟨n,c,b⟩:=g;have c:=List.mem_range.mp c;have b:=of_decide_eq_true b;have hs:(LF a (13+n) (i,p)).1=j:=by
   rw[LG,<- b,<- l]
  have:=Do _ _ _ e (13+n) (by unfold sy;omega);rw[hs] at this;have q:owner.getD j (some 0)=none:=by
   rw[aO] at d;rw[jn,d];rfl
  rw[q] at this;cases this
def UL(h:Int):oV h<2 ^ 64:=by
 unfold oV;have:=pZ h (show(0:Int)<2 ^ 64 by decide);have:=u5 h (show(2 ^ 64:Int)≠0 by decide);omega
theorem GK:∀{l:List (Option Nat)}{j:Nat},l[j]?=some none->((l.set j (some k)).filterMap id).Perm (k::l.filterMap id)
 |[],_,h=>nomatch h
 |x::r,0,h=>by
  cases h;exact .refl _
 |x::r,j+1,h=>by
  have a:=GK (k:=k) (l:=r) (j:=j) h;cases x with
  |none=>exact a
  |some y=>exact(a.cons y).trans (.swap k y _)
theorem GL:∀{l:List (Option Nat)},(l.filterMap id).length<l.length->∃j,j<l.length/\l[j]?=some none
 |[],h=>absurd h (cO 0)
 |none::r,_=>⟨0,Jd _,rfl⟩
 |some y::r,h=>by
  obtain⟨j,a,b⟩:=GL (l:=r) (Je h);exact⟨j+1,Nat.succ_lt_succ a,b⟩
def LJ(a:Nat)(b:Option (Array (Option Nat)×Nat))(h:Int):Option (Array (Option Nat)×Nat):=b.bind λx=>(eP a x.1 (sy a) (oV h % (a+1)) (oV h)).bind λj=>some (x.1.setIfInBounds j (some x.2),x.2+1)
def GM(a:Nat)(hs:Array Int):wt a hs=(hs.toList.foldl (LJ a) (some (Ag (a+1) none,0))).map (·.1):=by
 rw[Array.foldl_toList];rfl
theorem LK(g:OU mask):∀(l:List Int) (owner:Array (Option Nat)) (k:Nat),owner.size=mask+1->(owner.toList.filterMap id).Perm (bQ k)->k+l.length<=mask ->
  ∃o',l.foldl (LJ mask) (some (owner,k))=some (o',k+l.length)/\o'.size=mask+1/\(o'.toList.filterMap id).Perm (bQ (k+l.length))
 |[],owner,k,a,b,_=>⟨owner,rfl,a,b⟩
 |h::r,owner,k,a,b,n=>by
  simp only[aZ] at n ⊢;obtain⟨j,f,p⟩:=GL (l:=owner.toList) (by rw[b.length_eq,gn,au,a];omega);rw[au,a] at f;obtain⟨m,s,o⟩:=NC g (zr f) p (i:=oV h % (mask+1)) (zr (E4 _ (Jd _))) (UL h);have e:LJ mask (some (owner,k)) h=some (owner.setIfInBounds m (some k),k+1):=by
   unfold LJ;simp only[OO,s]
  rw[eh,e];obtain⟨o',d,q,c⟩:=LK g r (owner.setIfInBounds m (some k)) (k+1) (by rw[E7];exact a) (by
   rw[Cg];refine(GK o).trans ?_;rw[List.range_succ];exact((b.cons k).trans (List.perm_append_singleton k _).symm)) ∅
  rw[show k+1+r.length=k+(r.length+1) by omega] at d c;exact⟨o',d,q,c⟩
def LL{n:Nat}{o:Array (Option Nat)}(h:o.size=n):(bQ n).filterMap (λj=>o.getD j none)=o.toList.filterMap id:=by
 have e:(bQ n).map (λj=>o.getD j none)=o.toList:=by
  refine zS (by simp[h]) λi a b=>?_;simp only[am,gn] at a;rw[zW,OP,jn,bC ∅];simp
 rw[<- e,oR];rfl
def LM{mask finger moves:Nat}{led plain:Bool}{hs:Array Int}(f:OU mask)(i:hs.size<=mask):∃place a,BX mask finger moves led plain hs=some ({mask,place,dummies:=#[],finger,led,moves,plain},a)/\place.size=hs.size/\a.toList.Perm (bQ hs.size):=by
 obtain⟨o,d,c,b⟩:=LK f hs.toList (Ag (mask+1) none) 0 (by simp) (by
  have:(Ag (mask+1) (none:Option Nat)).toList.filterMap id=[]:=by
   rw[Array.toList_replicate,List.filterMap_eq_nil_iff];intro x h;rw[(List.mem_replicate.mp h).2];rfl
  rw[this];exact .refl _) (by rw[au];omega)
 have g:wt mask hs=some o:=by
  rw[GM,d];rfl
 rw[fH,au] at b;refine⟨_,_,by unfold BX;rw[g];rfl,?_,?_⟩
 ·have e:=congrArg jI (LL c);rw[b.length_eq,gn] at e;rw[a_,am,<- e];rw[zt,zt];congr 1;funext j;cases o.getD j none<;>rfl
 ·rw[List.map_filterMap];refine .trans (.of_eq ?_) b;rw[<- LL c];show List.filterMap _ _=List.filterMap _ _;congr 1;funext j;cases o.getD j none<;>rfl
end L2
namespace L2
open PySem
def R6:∀n:_root_.Fin 31,n.val<cZ n.val/\(cZ n.val=8\/cZ n.val=16\/cZ n.val=32):=by decide +kernel
def R7(h:n<=30):n<=cZ n-1/\OU (cZ n-1)/\cZ n<=32:=by
 obtain⟨a,b⟩:=R6 ⟨n,by omega⟩;simp only at a b;unfold OU;omega
def AM{es:Array (Int×ag)}{a:Array Nat}(h:a.toList.Perm (bQ es.size)):(a.filterMap (es[·]?)).toList.Perm es.toList:=by
 rw[Array.toList_filterMap];refine(h.filterMap _).trans (.of_eq ?_);have e:(bQ es.size).map (λi=>es[i]?)=es.toList.map some:=by
  refine zS (by simp) λi b d=>?_;simp only[am,gn] at b;rw[zW,OP,zW,Array.getElem_toList];exact bC b
 have c:(bQ es.size).filterMap (λi=>es[i]?)=((bQ es.size).map (λi=>es[i]?)).filterMap id:=by rw[oR];rfl
 rw[c,e,oR];simp
def dR.of(I:dR w h a es ep t)(p:es'.toList.Perm es.toList)(f:t'.fits es'.size=true)(l:t'.led=t.led)(pl:t'.plain=t.plain):dR w (h.update a (sI es' t')) a es' (ep+1) t':=by
 have sz:es'.size=es.size:=by rw[<- au,p.length_eq,au]
 refine⟨ub I,λe he=>I.txt e (p.mem_iff.mp he),(p.map lD).nodup_iff.mpr I.nd,by rw[sz];exact I.few,f,l.trans I.led,?_⟩;rw[sz,pl];exact I.pl
def AN{t:mB}{n:Nat}(h:t.fits n=true):t.place.size=n/\t.fill<=t.mask:=by
 unfold oT at h;rw[aU] at h;exact⟨eq_of_beq h.1,of_decide_eq_true h.2⟩
def LN{mask finger moves:Nat}{led plain:Bool}{place:Array Nat}{n:Nat}(h:place.size=n)(a:n<=mask):oT {mask,place,dummies:=#[],finger,led,moves,plain} n=true:=by
 unfold oT P3;subst h;simp only[beq_self_eq_true,wC,decide_eq_true_eq];exact a
def JU{a:ap}{es:Array (Int×ag)}{l:Nat}{t:mB}{b:Nat}{Q:Unit->ak->Prop}(I:dR w s.heap a es l t)(m:b<=30)(o:es.size<=b)
  (h:∀h' es' d t',bX a s.heap h'->dR w h' a es' d t'->es'.toList.Perm es.toList->OU t'.mask->b<=t'.mask->Q () {s with heap:=h'}):aq (ax P w) A (setRelay a b) Q E s:=by
 obtain⟨k,i,p⟩:=R7 m;obtain⟨place,c,e,j,ho⟩:=LM (finger:=t.finger) (moves:=t.movedTo (cZ b-1)) (led:=t.led) (plain:=t.plain) (hs:=es.map (·.1)) i (by rw[lC];omega);rw[lC] at j ho;have f:=AM ho;have sz:(c.filterMap (es[·]?)).size=es.size:=by rw[<- au,f.length_eq,au]
 unfold setRelay;refine a7 (bI I.at_ rfl I.fits ?_);show aq _ _ (if cZ b > sizeLine then _ else _) _ _ s;have n:(32:Nat)<=sizeLine:=by decide
 rw[if_neg ∅];refine a7 ?_;unfold MM;rw[e];show aq _ _ (if((c.filterMap (es[·]?)).size != es.size)=true then _ else pure (c.filterMap (es[·]?),_)) _ _ s;rw[if_neg (by rw[sz];simp)];refine a9 ?_;have g:oT {mask:=cZ b-1,place,dummies:=#[],finger:=t.finger,led:=t.led,moves:=t.movedTo (cZ b-1),plain:=t.plain} (c.filterMap (es[·]?)).size=true:=LN (by rw[sz];exact j) (by rw[sz];omega);refine jP I.at_ rfl ?_ (by rw[sz];exact gL I.few);exact h _ _ _ _ (bT s.heap a _) (I.of f g rfl rfl) f i k
def EF{a:ap}{es:Array (Int×ag)}{e:Nat}{t:mB}{more:Nat}{Q:Unit->ak->Prop}(I:dR w s.heap a es e t)(m:es.size+more<=15)(g:es.size≠0\/OU t.mask)
  (h:∀h' es' b t',bX a s.heap h'->dR w h' a es' b t'->es'.toList.Perm es.toList->(es.size≠0\/OU t'.mask)->more<=t'.mask->Q () {s with heap:=h'}):aq (ax P w) A (setRoomFor a more) Q E s:=by
 obtain⟨c,n⟩:=AN I.fits;unfold setRoomFor;refine a7 (bI I.at_ rfl I.fits ?_);dsimp only;unfold SetTable.roomFor;by_cases d:(t.fill+more)*5 ≥ t.mask*3
 ·rw[if_pos d];refine JU I (by rw[c];omega) (by rw[c];omega) λh' es' b t' i k f l j=>?_;exact h h' es' b t' i k f (.inr l) (by rw[c] at j;omega)
 ·rw[if_neg d];exact a9 (h s.heap es e t (.refl ..) I (.refl _) g ∅)
end L2
namespace L2
open PySem
theorem A2{c a:Type}{M:Model}{A:cy}{E:ag->ak->Prop}{Q:a->ak->Prop}{f:c->a->Sem (ForInStep a)}{b:a}(I:List c->ak->Prop)
  (step:∀x r s,I (x::r) s->aq M A (f x b) (λst s'=>st=.yield b/\I r s') E s) (fin:∀s,I [] s->Q b s):∀(l:List c) (s:ak),I l s->aq M A (forIn l b f) Q E s
 |[],s,h=>by rw[oS];exact a9 (fin s h)
 |x::r,s,h=>by
  rw[kA];refine a7 (bx (step x r s h) (λst s' q=>?_) λ_ _ e=>e);obtain⟨rfl,q⟩:=q;exact A2 I step fin r s' q
def GN(h:∀a∈l,∃es f t,dR w s.heap a es f t)(q:Q true s):aq (ax P w) A (setsQuiet l) Q E s:=by
 unfold setsQuiet;refine a7 (A2 (λr s'=>s'=s/\∀a∈r,∃es f t,dR w s.heap a es f t) (λa r s' c=>?_) (λs' c=>?_) l s ⟨rfl,h⟩)
 ·obtain⟨rfl,c⟩:=c;obtain⟨es,f,t,I⟩:=c a aj;unfold setEntries;refine a7 (a7 (bI I.at_ rfl I.fits (a9 ?_)));dsimp only;rw[<- MS];refine a7 (A2 (λi g=>g=s'/\∀e∈i,vz w e) (λe i g d=>?_) (λg d=>?_) es.toList s' ⟨rfl,I.txt⟩)
  ·obtain⟨rfl,d⟩:=d;obtain⟨x,k,rfl⟩:=d e aj;exact a9 ⟨rfl,rfl,λe he=>d e (af _ he)⟩
  ·obtain⟨rfl,_⟩:=d;exact a9 ⟨rfl,rfl,λb j=>c b (af _ j)⟩
 ·obtain⟨rfl,_⟩:=c;exact a9 q
def ND(I:dR w s.heap o es ep t)(b:w.params.followText "set-order"=true\/t.plain=true\/es.size<=1)
  (q:∀es',es'.toList.Perm es.toList->Q es' s):aq (ax P w) A (setWalk o) Q E s:=by
 unfold setWalk;refine a7 (bI I.at_ rfl I.fits (a7 (gD ?_)));cases a:w.params.followText "set-order" with
 |true=>
  simp only[if_true];exact a7 (gf (a9 (q _ (yh _ _))))
 |false=>
  simp only[bn,if_false];have d:(!t.plain&&decide (es.size > 1))=false:=by
   rcases b with h|h|h
   ·rw[a] at h;cases h
   ·rw[h];rfl
   ·rw[decide_eq_false ∅,v5]
  have c:t.led=true:=by rw[I.led,a];rfl
  show aq _ _ (if(!t.plain&&decide (es.size > 1))=true then _ else _) _ _ s;rw[d,if_neg ba];refine a7 ?_;show aq _ _ (if(!t.led&&decide (es.size > 1))=true then _ else pure ()) _ _ s;rw[c,if_neg (by simp)];exact a9 (a9 (q _ (.refl _)))
def zF(I:dR w s.heap o eo epo to)(J:dR w s.heap a es ep t)
  (q:∀h' es' e t',bX a s.heap h'->dR w h' a es e t'->es'.toList.Perm eo.toList->Q es' {s with heap:=h'}):aq (ax P w) A (setWalkUnseen o [a] (some a)) Q E s:=by
 unfold setWalkUnseen;refine a7 (bI I.at_ rfl I.fits (a7 (gD ?_)));cases d:(w.params.followText "set-order" || to.led&&to.plain||decide (eo.size<=1)) with
 |true=>
  rw[if_pos rfl];refine ND I ?_ λes' p=>q s.heap es' ep t (.refl ..) J p;rw[jg,jg,aU,decide_eq_true_eq] at d;rcases d with (h|h)|h
  ·exact .inl h
  ·exact .inr (.inl h.2)
  ·exact .inr (.inr h)
 |false=>
  rw[if_neg ba];rw[L4,L4,decide_eq_false_iff_not] at d;obtain⟨⟨i,_⟩,j⟩:=d;refine a7 (GN (λb g=>?_) ?_)
  ·rcases List.mem_cons.mp g with h|h
   ·rw[h];exact⟨_,_,_,I⟩
   ·rw[List.mem_singleton.mp h];exact⟨_,_,_,J⟩
  rw[if_neg (by simp)];refine a7 (cK ?_);dsimp only;refine a7 (bI J.at_ rfl J.fits ?_);dsimp only;have f:to.plain=false:=I.pl.resolve_left ∅;have c:(t.led&&to.led)=t.led:=by rw[I.led,J.led,qV]
  split
  ·refine a7 (jP J.at_ rfl ?_ (gL J.few));refine a9 (q _ _ _ _ (bT s.heap a _) (⟨ub J,J.txt,J.nd,J.few,?_,?_,?_⟩:dR w _ a es (ep+1) _) (.refl _))
   ·exact J.fits
   ·exact c.trans J.led
   ·exact .inr (by show(t.plain&&to.plain)=false;rw[f,v5])
  ·exact a9 (q s.heap eo ep t (.refl ..) J (.refl _))
end L2
namespace L2
open PySem
def dR.but(I:dR w h o eo epo to)(ne:a≠o)(b:bX a h h'):dR w h' o eo epo to:=I.keep λ_ e=>(b.2 o (dm ne)).trans e
def AO{a o:ap}{es c:Array (Int×ag)}{ep T:Nat}{t n:mB}{k:Sem Unit}{Q:Unit->ak->Prop}(ne:a≠o)(J:dR w s.heap a es ep t)(I:dR w s.heap o c T n)
  (hz:es.size+c.size<=15) (hm:es.size≠0\/OU t.mask) (he:∀(s':ak) (Q':Unit->ak->Prop),dR w s'.heap o c T n->Q' () s'->aq (ax P w) A k Q' E s')
  (q:∀h' d es' a5 t',bX a s.heap h'->dR w h' a es' a5 t'->(∀x,x∈es'.toList.map lD↔x∈es.toList.map lD\/x∈c.toList.map lD)->(es'.size≠0\/OU t'.mask)->Q () {s with heap:=h',toks:=d}):
  aq (ax P w) A (setMerge a o k) Q E s:=by
 unfold setMerge;rw[if_neg (by simpa using ne)];refine a7 (bI I.at_ rfl I.fits ?_);dsimp only;by_cases p:c.size=0
 ·rw[if_pos (by simpa[Array.isEmpty] using p)];have e0:c=#[]:=m5 p;exact a9 (q s.heap s.toks es ep t (.refl ..) J (λx=>by rw[e0];simp) hm)
 rw[if_neg (by simpa[Array.isEmpty] using p)];refine a7 (EF J hz hm λG B M i j g p1 m1 r1=>?_);have I1:=I.but ne j;have b7:B.size=es.size:=by rw[<- au,p1.length_eq,au]
 refine a7 (bI (s:={s with heap:=G}) g.at_ rfl g.fits ?_);dsimp only;obtain⟨f1,f2⟩:=AN g.fits;have N:n.plain=false:=I.pl.resolve_left p;have u:(i.led&&n.led)=i.led:=by rw[I.led,g.led,qV]
 have kp:∀x,x∈B.toList.map lD↔x∈es.toList.map lD:=λx=>(p1.map lD).mem_iff;by_cases hf:i.fill=0
 ·have e1:es.size=0:=by
   unfold P3 at hf;omega
  have mk:OU i.mask:=m1.resolve_left ∅;have ee:es=#[]:=m5 e1;unfold P4;rw[if_neg (by rw[hf];decide)];split
  ·refine jP (s:={s with heap:=G}) g.at_ rfl ?_ (gL I.few);refine q _ s.toks _ _ _ (j.trans (bT G a _)) (⟨ub g,I.txt,I.nd,I.few,?_,?_,?_⟩:dR w _ a c (M+1) _) (λx=>by rw[ee];simp) (.inl p)
   ·exact I.fits
   ·exact u.trans g.led
   ·exact .inr (by show(i.plain&&n.plain)=false;rw[N,v5])
  ·obtain⟨b6,b,e,hp,ho⟩:=LM (finger:=i.finger) (moves:=i.moves) (led:=i.led&&n.led) (plain:=i.plain&&n.plain) (hs:=c.map (·.1)) mk (by rw[lC];exact r1);rw[lC] at hp ho;have U:=AM ho;have sz:(b.filterMap (c[·]?)).size=c.size:=by rw[<- au,U.length_eq,au]
   refine a7 ?_;rw[e];show aq _ _ (if((b.filterMap (c[·]?)).size != c.size)=true then _ else pure (b.filterMap (c[·]?),_)) _ _ _;rw[if_neg (by rw[sz];simp)];refine a9 ?_;refine jP (s:={s with heap:=G}) g.at_ rfl ?_ (by rw[sz];exact gL I.few);refine q _ s.toks _ _ _ (j.trans (bT G a _)) (⟨ub g,λx hx=>I.txt x (U.mem_iff.mp hx),(U.map lD).nodup_iff.mpr I.nd,by rw[sz];exact I.few,LN (by rw[sz];exact hp) (by rw[sz];exact r1),u.trans g.led,.inr ?_⟩:dR w _ a (b.filterMap (c[·]?)) (M+1) _) (λx=>?_) (.inl (by rw[sz];exact p))
   ·show(i.plain&&n.plain)=false;rw[N,v5]
   ·rw[(U.map lD).mem_iff,ee];simp
  ·rename_i X
   split at X<;>cases X
 ·unfold P4;rw[if_pos (by simpa using hf)];dsimp only;refine a7 (zF (s:={s with heap:=G}) I1 g λh2 O b0 t2 a0 J2 p2=>?_);rw[<- MS];have hl:O.toList.length=c.size:=by rw[p2.length_eq,au]
  refine a7 (A2 (λr s'=>∃h' d f L t',s'={s with heap:=h',toks:=d}/\bX a s.heap h'/\dR w h' a f L t'/\f.size+r.length<=15/\(∀e∈r,vz w e)/\∀x,(x∈f.toList.map lD\/x∈r.map lD)↔x∈es.toList.map lD\/x∈c.toList.map lD) ?_ ?_ O.toList _ ⟨h2,s.toks,B,b0,t2,rfl,j.trans a0,J2,by omega,λe he=>I.txt e (p2.mem_iff.mp he),λx=>by rw[kp,(p2.map lD).mem_iff]⟩)
  ·rintro e r s' ⟨h',d,f,L,t',rfl,v,J',z',z,Y⟩;obtain⟨x,tk,rfl⟩:=z e aj;simp only[aZ] at z';dsimp only;refine a7 (cC (D7 (s:={s with heap:=h',toks:=d}) (⟨f,L,t',J',.refl _⟩:mS w h' a (f.toList.map lD)) (by rw[am,au];exact aK (show f.size+1<100 by omega) ⋯) λS m H a1=>?_));obtain⟨a6,a3,a4,a2,l⟩:=a1;have K:=v.trans H;have I3:=I.but ne K;refine a7 (he _ _ I3 ?_);refine a7 (bI (s:={s with heap:=S,toks:=m}) I3.at_ rfl I3.fits ?_);dsimp only;rw[if_neg (by simp)];refine a9 ⟨rfl,S,m,a6,a3,a4,rfl,K,a2,?_,λe he=>z e (af _ he),λy=>?_⟩
   ·have:=l.length_eq;rw[am,au] at this;have l2:(if x∈f.toList.map lD then f.toList.map lD else f.toList.map lD++[x]).length<=f.size+1:=by
     split<;>simp
    omega
   ·rw[<- Y y,l.mem_iff];have ek:lD (hashStr w x,kE x tk)=x:=rfl;rw[ar,aT,ek];split
    ·rename_i hx
     constructor
     ·rintro (h|h)
      ·exact .inl h
      ·exact .inr (.inr h)
     ·rintro (h|h|h)
      ·exact .inl h
      ·rw[h];exact .inl hx
      ·exact .inr h
    ·rw[bD,bN];constructor
     ·rintro ((h|h)|h)
      ·exact .inl h
      ·exact .inr (.inl h)
      ·exact .inr (.inr h)
     ·rintro (h|h|h)
      ·exact .inl (.inl h)
      ·exact .inl (.inr h)
      ·exact .inr h
  ·rintro s' ⟨h',d,f,L,t',rfl,v,J',z',z,Y⟩;refine a9 (q h' d f L t' v J' (λx=>?_) (.inl ?_))
   ·rw[<- Y x];simp
   ·intro e0;obtain⟨e,hh⟩:∃e,e∈c.toList:=by
     cases X:c.toList with
     |nil=>rw[<- au,X] at p;exact absurd rfl p
     |cons e r=>exact⟨e,aj⟩
    have:=(Y (lD e)).mpr (.inr (bZ hh));rw[m5 e0] at this;simp at this
end L2
namespace L2
open PySem PyProof.Rows
def EG:J6 table "set.__or__"=some jQ.«frozenset.__or__»:=J7 (id':="frozenset.__or__") (by kernel_rfl) rfl ∎ (by kernel_rfl)
section
variable{P:bg}{w:bL}{A:cy}{E:ag->ak->Prop}{s:ak}
def dR.ty(I:dR w s.heap a es ep t):s.TypeIs (.ref a) "set":=⟨_,I.at_,rfl⟩
def vJ(I:dR w s.heap a es ep t)(q:Q true s):aq (ax P w) A (uN (.ref a)) Q E s:=by
 unfold uN;refine a7 (i0 I.ty OZ ?_);exact a9 q
def R8(e:h.get? a=some (gV w)):dR w h a #[] 0 (.fresh 0 0 (!w.params.followText "set-order")):=
 ⟨e,(λ_ h=>nomatch h),g6,by decide,rfl,rfl,.inl rfl⟩
def UM(T:mS w s.heap a xs)(X:mS w s.heap b ys)(ne:a≠b)(hz:xs.length+ys.length<=15)
  (q:∀h' j,bX s.heap.objs.size (s.heap.push (gV w)) h'->mS w h' s.heap.objs.size (dn xs ys)->Q (.ref s.heap.objs.size) {s with heap:=h',toks:=j}):
  aq (ax P w) A (ic .BitOr (.ref a) (.ref b)) Q E s:=by
 obtain⟨h,pa,ta,d,p⟩:=T;obtain⟨I,Y,tb,i,B⟩:=X;have sa:h.size=xs.length:=by rw[<- p.length_eq,am,au]
 have sb:I.size=ys.length:=by rw[<- B.length_eq,am,au]
 refine wpAny_binaryOp_same d.ty i.ty F.fills_set_or F.slot_set_or (bS F.slot_set_or d.ty EG ?_ (F.args_set_or_2 _ _));have n:a<s.heap.objs.size:=aw d.at_;have t:b<s.heap.objs.size:=aw i.at_;show aq _ _ (Tt "__or__" ⟨[.ref a,.ref b],[]⟩>>=_) _ _ s;refine a7 (a7 (a9 (a9 ?_)));dsimp only;refine a7 (a7 (vJ d (vJ i ?_)));rw[if_neg (by simp)];refine a7 (a9 (a7 ?_));show aq _ _ (vq a>>=_) _ _ s;refine a7 ?_;unfold vq Tu;refine a7 (a7 (i0 d.ty OZ (a9 ?_)));rw[if_pos rfl];refine a7 (q9 ?_);have N:(s.heap.push (gV w)).get? s.heap.objs.size=some (gV w):=aC _ rfl;have L:=R8 N;have m:dR w (s.heap.push (gV w)) a h pa ta:=d.keep λ_ e=>ae _ e;have u:dR w (s.heap.push (gV w)) b I Y tb:=i.keep λ_ e=>ae _ e;have na:s.heap.objs.size≠a:=dm (aL n);have v:s.heap.objs.size≠b:=dm (aL t);refine a7 (a9 (a7 (AO (s:={s with heap:=s.heap.push (gV w)}) na L m (by show 0+h.size<=15;omega) (.inr (.inl rfl)) (λ_ _ _ q=>a9 q) λk f e1 p1 t1 g K y m1=>a9 ?_)));have c:=u.but v g;have U:(e1.toList.map lD).length<=h.size:=by
  have:=(oW K.nd d.nd).mpr λx=>by rw[y];simp
  rw[this.length_eq,am,au];exact av _
 rw[am,au] at U;show aq _ _ (if(bq b != bq a)=true then _ else _) _ _ _;rw[if_pos (by simp;exact dm ne)];refine a7 (a9 (a7 (cC ?_)));show aq _ _ (kC _ s.heap.objs.size (bq b)) _ _ _;unfold kC;refine a7 (vJ (s:={s with heap:=k,toks:=f}) c ?_);rw[if_pos rfl];refine a7 (a9 ?_);unfold Tv setEpoch;refine a7 (a7 (bI (s:={s with heap:=k,toks:=f}) c.at_ rfl c.fits (a9 ?_)));refine AO (s:={s with heap:=k,toks:=f}) v K c ∅ m1 (λs' Q' G q'=>?_) λh2 o e2 M O l H S m2=>?_
 ·unfold Tw setEpoch;refine a7 (a7 (bI G.at_ rfl G.fits (a9 ?_)));dsimp only;rw[if_neg (by simp)];exact a9 q'
 ·refine a9 (a9 ⟨_,rfl,(λz=>nomatch z),q h2 o (g.trans l) ⟨e2,M,O,H,?_⟩⟩);refine(oW H.nd (jv _ _ (p.nodup_iff.mp d.nd))).mpr λx=>?_;rw[S,jB,y,p.mem_iff,B.mem_iff];simp
end
end L2
namespace L2
open PySem PyProof.Rows
def Y6:sD X (ic .BitOr) (λx y H Q=>∃a b xs ys,x=.ref a/\y=.ref b/\a≠b/\H a=some (oN X.w a xs)/\H b=some (oN X.w b ys)/\xs.length+ys.length<=15/\∀p,H p=none->Q (.ref p) (upd H p (oN X.w p (dn xs ys)))):=by
 intro d s n H x y v u Q I f l h;obtain⟨a,b,xs,ys,rfl,rfl,ne,i,j,g,q⟩:=h;cases f;cases l;have k:=(show d_ X.prog X.w H s.heap a (oN X.w a xs) from I.hok a _ i).1;have Sb:=(show d_ X.prog X.w H s.heap b (oN X.w b ys) from I.hok b _ j).1;refine UM k Sb ne g λh' c m S=>?_;refine⟨.ref s.heap.objs.size,_,I.laid (t':=c) (λb o e=>?_) (av _) (zZ S),rfl,q _ (I.hok.fresh (av _))⟩;exact(m.2 b (aL (aw e))).trans (ae _ e)
end L2
namespace J
open PySem L2
def Y7(xs ys:List Str):R (List Str):=if xs.length+ys.length<=15 then .ok (dn xs ys) else .no
def R9(a gb:aE->R (List Str)):aE->R (List Str):=λρ=>(a ρ).bind λxs=>(gb ρ).bind (J.Y7 xs)
def Y8(x:T9 c a ga)(B:T9 c b gb):T9 c (.BinOp a .BitOr b pos) (R9 ga gb):=.of λρ=>sS (VU Y6 (x ρ) (B ρ)) λK H Q h=>by
 obtain⟨L,G,la,Hs,f,q⟩:=h;refine Ls (w:=c.X.w) f q λxs p n d E s1 s y=>?_;unfold R9 at q;rw[E,bind_ok] at q;have m:cQ n d (upd n p (oN c.X.w p xs)) d:=.mine s.st.sub y;refine Ls (w:=c.X.w) (s.step m) (q.on (s1.trans m) (q':=λ_=>True) λ_ _=>trivial) λys g k e I t A o=>?_;rw[I,bind_ok] at q;unfold J.Y7 at q;by_cases i:xs.length+ys.length<=15
 ·rw[if_pos i] at q;have j:k p=some (oN c.X.w p xs):=t.all p _ bc;have ne:p≠g:=λz=>by rw[z,o] at j;cases j
  have u:cQ k e (upd k g (oN c.X.w g ys)) e:=.mine A.st.sub o;exact⟨p,g,xs,ys,rfl,rfl,ne,by rw[bh ne];exact j,bc,i,λl v=>q l _ _ (s1.trans (m.trans (t.trans u))) v⟩
 ·rw[if_neg i] at q;exact q.elim
def q1s(i j:Nat)(ρ:aE):List D->R Fl
 |[d,e]=>.ok (.nx ((ρ.set i (.shr d)).set j (.shr e)))
 |_=>.no
def Ra(i j:Nat)(a:aE->R (List D)):aE->R Fl:=λρ=>(a ρ).bind (q1s i j ρ)
def Y9(i j:Nat)(u:c.X.calm=true)(o:c.X.N.Nodup)(t:Np c [a,b] gs)(A:c.X.N[i]?=some x:=by rfl)(E:c.X.N[j]?=some y:=by rfl)(k:i≠j:=by decide)
  (I:c.X.env.scope.names.lookup x=some .local:=by rfl) (p:c.X.env.scope.names.lookup y=some .local:=by rfl) (w:zP [.Tuple [.Name x px,.Name y py] kt pt] (.Tuple [a,b] k2 pt2) c.X.env=pure (some [x,y]):=by rfl)
  (hs:zO [.Tuple [.Name x px,.Name y py] kt pt] (.Tuple [a,b] k2 pt2) pos.line c.X.env=pure false:=by rfl):JS c (.Assign [.Tuple [.Name x px,.Name y py] kt pt] (.Tuple [a,b] k2 pt2) pos) (Ra i j gs):=.of λρ=>C1 (Xj u o A E k I p (t ρ) w hs) λD K H h=>by
 obtain⟨v,m,la,Hs,f,q⟩:=h;refine⟨v,m,la,Hs,f,?_⟩;unfold Ra at q;cases l:gs ρ with
 |ok ds=>
  rw[l,bind_ok] at q;intro L H' g s r
  match ds,r,q with
  |[],_,q=>exact q.elim
  |[_],_,q=>exact q.elim
  |[d,e],.cons B (.cons G .nil),q=>exact⟨_,_,rfl,q _ _ g (((f.step s).set i B).set j G)⟩
  |_::_::_::_,_,q=>exact q.elim
 |ex z n=>
  rw[l] at q;exact λH' g s=>q H' g (f.st.trans s)
 |no=>rw[l] at q;exact q.elim
end J
namespace L2
open PySem PySem.Spec PyProof.Rows
end L2
namespace L2
open PySem PySem.Spec PyProof.Rows
end L2
namespace L2
open PySem PySem.Spec PyProof.Rows
end L2
namespace L2
open PySem PySem.Spec PyProof.Rows
end L2
namespace L2
open PySem PySem.Spec PyProof.Rows
end L2
namespace J
open PySem L2
def xi:JS c s (λ_=>.no):=.of λρ a s d H D I h=>by
 obtain⟨e,b,la,Hs,f,q⟩:=h;exact q.elim
end J
namespace J
open PySem L2 PyProof.Rows
structure En where
 P:bg
 w:bL
 K:a8
 mg:Str->Option ag
 base:cg
 cls:Str->ap
abbrev FN(e:En):=Fn e.P e.w e.K e.mg e.base e.cls
abbrev Cn(a:Str->Option ag)(x:Str)(n:Int):Prop:=∃t,a x=some (.int n t)
structure gM (K:a8) (mg:Str->Option ag) (x:Str) (st:dZ):Prop where
 ex:∃f fd,Nc K x x st f fd/\mg x=some (.ref f)
section
variable{K:a8}{h:cg}{mg:Str->Option ag}{x:Str}
def d_in{st:dZ}{A:ap}{m i:Option ap}{d:Array (Option ag)}{e kV f j b g:ag}(X:K.In h)(G:h.Ns cn mg)(a:iQ K cn x=some (some (.ref A)))
  (l:K.lookup A=some ⟨e,m,.func (h_ x x (lU st) (jh st) (az st) .none kV f j i b g),d⟩) (c:nJ K b x=true) (k:gN K (.ref A)=true):gM K mg x st:=
 ⟨_,_,PD l c k,v6 X G a⟩
def cn_in(X:K.In h)(G:h.Ns cn mg)(t:iQ K cn x=some (some (.int n tk))):Cn mg x n:=⟨_,v6 X G t⟩
inductive Zs (K:a8):List Str->Prop
 |nil:Zs K []
 |cons {x:Str}{r:List Str}:iQ K cn x=some none->Zs K r->Zs K (x::r)
theorem Zs.get(z:Zs K r):∀x∈r,iQ K cn x=some none:=by
 induction z with
 |nil=>exact λ_ h=>nomatch h
 |cons a _ b=>
  intro y c;rcases List.mem_cons.mp c with e|e
  ·rw[e];exact a
  ·exact b y e
abbrev zn:List Str:=["len","isinstance","all","any","zip","tuple","list","sorted","set","range","enumerate","dict","sum","max","min","reversed","str","int","bool","ValueError"]
theorem q0h(X:K.In h)(G:h.Ns cn mg)(z:Zs K zn):Bi mg:=by
 have q:∀x∈zn,mg x=none:=λx a=>PySem.W.mg_none_of X G (z.get x a);exact⟨q _ ⋯,q _ ⋯,q _ ⋯,q _ ⋯,q _ ⋯,q _ ⋯,q _ ⋯,q _ ⋯,q _ ⋯,q _ ⋯,q _ ⋯,q _ ⋯,q _ ⋯,q _ ⋯,q _ ⋯,q _ ⋯,q _ ⋯,q _ ⋯,q _ ⋯⟩
end
section
variable{P:bg}{w:bL}{K:a8}{mg:Str->Option ag}{base:cg}{N:List Str}{qual:Str}{scope:eM}{f:ap}{cd:ag}{A:cy}{outer:List Env}{s:ak}{H:Hp}{E:XK}
def px:sO (C0 P w) (Al (C0 P w) P w K mg base N qual scope f cd A outer s H E) E:=Gk λ_ _ h=>h
end
def jc(G:Fn c.X.prog c.X.w c.X.K c.X.mg c.X.base c.cls x k n F)(g:m9 j c.X.A)(h:sO (C0 c.X.prog c.X.w) c.X c.E)(d:Np c (e::es) gs)
  (f:k<=j:=by decide) (i:Gl c.X x:=by exact rfl) (a:(x==("__debug__" : Str))=false:=by decide) (he:aP (e::es) c.X.env=(false,eI e c.X.env)::aP es c.X.env:=by rfl) (b:(iz pos (aP es c.X.env)).any (·.1)=false:=by rfl):
  JE c (.Call (.Name x p) (e::es) [] pos) (eA n F gs):=Ux G (g.mono f) i h d a he b
abbrev Bq(x:Str)(st:dZ)(c:List ag)(r:List (Str×ag)):Prop:=∀(kV a f:ag) (d:Option ap) (b e:ag),Tc (h_ x x (lU st) (jh st) (az st) .none kV a f d b e) ⟨c,[]⟩=pure r
section
variable{K:a8}{x:Str}{st:dZ}{f:ap}{fd:ig}
def b1(F:Nc K x x st f fd)(h:∀u,Bq x st [u] [(a,u)]:=by exact λ_ _ _ _ _ _ _=>rfl):mL K fd [a] []:=F.binds λ_ _ _ _ _ _ c b=>by obtain⟨_,rfl⟩:=ln1 b;exact h ..
def b2(F:Nc K x x st f fd)(h:∀u v,Bq x st [u,v] [(a,u),(b,v)]:=by exact λ_ _ _ _ _ _ _ _=>rfl):mL K fd [a,b] []:=F.binds λ_ _ _ _ _ _ d c=>by obtain⟨_,_,rfl⟩:=ln2 c;exact h ..
def b3(F:Nc K x x st f fd)(h:∀u v w,Bq x st [u,v,w] [(a,u),(b,v),(c,w)]:=by exact λ_ _ _ _ _ _ _ _ _=>rfl):mL K fd [a,b,c] []:=F.binds λ_ _ _ _ _ _ e d=>by obtain⟨_,_,_,rfl⟩:=ln3 d;exact h ..
def b4(F:Nc K x x st f fd)(h:∀u v w z,Bq x st [u,v,w,z] [(a,u),(b,v),(c,w),(d,z)]:=by exact λ_ _ _ _ _ _ _ _ _ _=>rfl):mL K fd [a,b,c,d] []:=F.binds λ_ _ _ _ _ _ g e=>by obtain⟨_,_,_,_,rfl⟩:=ln4 e;exact h ..
def b5(F:Nc K x x st f fd)(h:∀u v w z y,Bq x st [u,v,w,z,y] [(a,u),(b,v),(c,w),(d,z),(e,y)]:=by exact λ_ _ _ _ _ _ _ _ _ _ _=>rfl):mL K fd [a,b,c,d,e] []:=F.binds λ_ _ _ _ _ _ i g=>by obtain⟨_,_,_,_,_,rfl⟩:=ln5 g;exact h ..
end
def nV{e:En}{x:Str}{st:dZ}{N c:List Str}{k:Nat}{g:aE->R Fl}(D:gM e.K e.mg x st)(S:bB N c (az st))(b:∀{f:ap}{d:ig},Nc e.K x x st f d->mL e.K d c [])
  (h:∀(f:ap) (a:ag) (A:cy) (outer:List Env) (s:ak) (H:Hp) (E:XK),m9 k (A.deeper (vm x (az st) s.heap.objs.size f a))->Lo ⟨Al (C0 e.P e.w) e.P e.w e.K e.mg e.base N x (az st) f a A outer s H E,e.cls,E⟩ (jh st) g):
  FN e x (k+1) c.length (fL N.length g):=by
 obtain⟨f,d,F,i⟩:=D.ex;exact ZV F S i (b F) (h f)
def scB(N P:List Str)(a:eM):Bool:=decide (a.kind=.function) && !a.isCoroutine && !a.isGenerator&&decide N.Nodup&&decide (N.take P.length=P)&&P.all (λx=>decide (a.names.lookup x=some .local)||decide (a.names.lookup x=some .cell))&&a.names.all λy=>decide (y.2≠.free)
def dX(h:scB N P sc=true):bB N P sc:=by
 unfold scB at h;simp only[aU,decide_eq_true_eq,yU,bY,jg] at h;obtain⟨⟨⟨⟨⟨⟨a,b⟩,c⟩,d⟩,e⟩,f⟩,g⟩:=h;exact⟨a,b,c,d,e,f,g⟩
structure Cw (K:a8) (x:Str) (C:ap):Prop where
 ns:iQ K cn x=some (some (.ref C))
 cl:∃cd,Ch K C=some cd
 ty:P5 K (.ref C)=some (.type "type")
def cw_in{K:a8}{x:Str}{C:ap}{b:ClassData}(a:iQ K cn x=some (some (.ref C)))(i:Ch K C=some b)(y:P5 K (.ref C)=some (.type "type")):Cw K x C:=⟨a,⟨_,i⟩,y⟩
inductive Sb (K:a8) (C:ap):List (ap×Bool)->Prop
 |nil:Sb K C []
 |cons {D:ap}{b:Bool}{l:List (ap×Bool)}:S_ K (.ref C) (.ref D)=some b->(b=false->C≠D)->Sb K C l->Sb K C ((D,b)::l)
structure Wy (K:a8) (C CP:ap) (l:List (ap×Bool)):Prop where
 x1:nI K (.ref C) "__getattribute__"=some (some (.builtin "BaseException.__getattribute__"))
 x2:nI K (.ref C) "__getattr__"=some none
 x3:nI K (.ref C) "__class__"=some (some (.builtin "object.__class__"))
 x4:KY K (.builtin "object.__class__") "__get__"=some (some (.builtin "getset_descriptor.__get__"))
 x5:OF K (.builtin "object.__class__")=some true
 x6:j0 K C (.type "object")=some true
 x7:j0 K C (.ref CP)=some true
 x8:S_ K (.ref C) (.type "ValueError")=some true
 x9:(bq CP==bq C)=false
 sb:Sb K C l
end J
namespace L2
open PySem PySem.Spec PyProof.Rows
def LO(b:s.heap.IsKeyIter it d i es.size c)(l:s.heap.get? d=some o)(ho:o.data=.dict es c)(he:es[i]?=some e)
  (h:∀h':cg,h'.IsKeyIter it d (i+1) es.size c->bX it s.heap h'->Q (some e.key) {s with heap:=h'}):
  aq (ax prog w) A (jY (.ref it)) Q E s:=by
 obtain⟨⟨v,z,u,y⟩,g,j,m⟩:=id b;simp only at j m;subst j m;unfold jY;refine a7 (lB ?_);refine cS (name:=iw "__next__") b.typeIs gO ?_;refine bS gO b.typeIs v7 ?_ (uO _);refine a7 (fw (a:=.ref it) rfl ?_);refine a7 (a7 (a7 (jo b.typeIs (a9 ?_))));refine a7 (J9 g rfl ?_);show aq _ _ (if(bq d==fv)=true then _ else _) _ _ s;rw[if_neg (by simp)];refine a7 (fw (a:=d) rfl ?_);refine a7 (Ci l ho ?_);show aq _ _ (if((es.size:Int) != (es.size:Int))=true then _ else _) _ _ s;rw[if_neg (by simp)];refine a7 (fw (a:=d) rfl ?_);refine a7 (FQ l ho ?_);show aq _ _ (if((c:Int) != (c:Int))=true then _ else _) _ _ s;rw[if_neg (by simp)];refine a9 ?_;have n:(if(i:Int)<0 then none else es[(i:Int).toNat]?)=some e:=by
  rw[if_neg ∅];simpa using he
 simp only[n];refine a7 (a7 (jo b.typeIs (a9 ?_)));refine a7 (T1 b.typeIs ?_);refine a7 (ii g rfl (by simp[nu]) ?_);have st:∀k x,k=1->x=cL ((i:Int)+1)->(s.heap.update it (fA (·.setIfInBounds k x))).IsKeyIter it d (i+1) es.size c:=λk x p t=>by
  subst p t;have q:=eO (fA (·.setIfInBounds 1 (cL ((i:Int)+1)))) g rfl;refine⟨_,q,rfl,?_⟩;show Data.fields ((#[.ref d,.int i 0,.int es.size 0,.int c 0]:Array ag).setIfInBounds 1 (cL ((i:Int)+1)))=_;simp[cL]
 have f:=st _ _ rfl rfl;refine a7 (cC (a7 (T1 f.typeIs ?_)));refine a9 ?_;exact a9 ⟨_,rfl,a9 (h _ f (bT ..))⟩
def Rb(l:A.handled=none)(c:s.heap.IsKeyIter it d i es.size e)(g:s.heap.get? d=some o)(ho:o.data=.dict es e)(he:es.size<=i)
  (h:∀h':cg,L0 it s.heap h'->Q none {s with heap:=h'}):
  aq (ax prog w) A (jY (.ref it)) Q E s:=by
 obtain⟨⟨q,u,t,p⟩,f,j,k⟩:=id c;simp only at j k;subst j k;unfold jY;refine a7 (lB ?_);refine cS (name:=iw "__next__") c.typeIs gO ?_;refine bS gO c.typeIs v7 ?_ (uO _);refine a7 (fw (a:=.ref it) rfl ?_);refine a7 (a7 (a7 (jo c.typeIs (a9 ?_))));refine a7 (J9 f rfl ?_);show aq _ _ (if(bq d==fv)=true then _ else _) _ _ s;rw[if_neg (by simp)];refine a7 (fw (a:=d) rfl ?_);refine a7 (Ci g ho ?_);show aq _ _ (if((es.size:Int) != (es.size:Int))=true then _ else _) _ _ s;rw[if_neg (by simp)];refine a7 (fw (a:=d) rfl ?_);refine a7 (FQ g ho ?_);show aq _ _ (if((e:Int) != (e:Int))=true then _ else _) _ _ s;rw[if_neg (by simp)];refine a9 ?_;have n:(if(i:Int)<0 then none else es[(i:Int).toNat]?)=none:=by
  rw[if_neg ∅];simpa using he
 simp only[n];refine a7 (a7 (jo c.typeIs (a9 ?_)));refine a7 (ii f rfl (by simp[nu]) ?_);show aq _ _ (vo (.type "StopIteration") []>>=_) _ _ _;refine a7 ?_;simp only[vo,Tj];refine a7 (bz ?_ (by size_fits));refine a7 (m:=mC _ _) (fw (a:=fv) ?_ ?_)
 ·first
   |rfl
   |(simp only[mC];rfl)
 refine bz ?_ (by size_fits);simp only[uL];refine a7 (MN ?_);rw[show A.in1.handled=none from l];refine a7 (a9 (Tl ?_));refine a7 (i0 (T:="StopIteration") (b:=true) ⟨_,aC _ rfl,rfl⟩ xX ?_);exact a9 (h _ (((bT ..).extBut.push _).push _))
def Rc(hs:(d==fj)=false)(b:s.heap.get? d=some o)(c:o.ExactDict)(ho:o.data=.dict es ep)
  (h:Q (.ref s.heap.objs.size) {s with heap:=s.heap.push {cls:=.type "dict_keyiterator",data:=.fields #[.ref d,.int 0 0,.int es.size 0,.int ep 0]}}):
  aq (ax prog w) A (nH (.ref d)) Q E s:=by
 have ty:s.TypeIs (.ref d) "dict":=⟨o,b,c.1⟩;refine Cb ty E8 (bS E8 ty PySem.F.entry_dict_iter ?_ (PySem.F.args_dict_iter_1 _));refine a7 (a7 (wpAny_notOrdered_dict ty (a7 (fw (a:=(bq d,[])) rfl (a9 ?_)))));refine a7 (fw (a:=d) rfl ?_);refine a7 (fw (a:=()) (by unfold Builtin.Dict.showsAll;rw[hs];rfl) ?_);refine a7 (Ci b ho ?_);refine a7 (FQ b ho ?_);refine a7 (bz ?_ (by size_fits));exact a9 ⟨_,rfl,"dict_keyiterator",_,⟨_,aC _ rfl,rfl⟩,PySem.F.slot_dict_keyiterator_next.lookup,h⟩
def Itd(a:ap)(o:Obj)(c:List (List gY×V)):It:=
 ⟨λi H=>H a=some (.frz o (.dT c))/\i<c.length,λi H x H'=>H'=H/\∃k v b,c[i]?=some (k,v)/\x=.ref b/\H b=some (.tup (k.map kV)),λi H=>H a=some (.frz o (.dT c))/\c.length<=i⟩
def NE{b c:Type}{F:b->c->Prop}{l:List b}{m:List c}(h:IV F l m):∀{i:Nat}{x:b},l[i]?=some x->∃y,m[i]?=some y/\F x y:=by
 induction h with
 |nil=>intro i x e;simp at e
 |cons a _ d=>
  intro i x e;cases i with
  |zero=>cases e;exact⟨_,rfl,a⟩
  |succ i=>exact d e
def tm(ok:sC P w H h)(e:H a=some (.frz o (.dT kvs))):(a==fj)=false/\h.get? a=some o/\o.ExactDict/\∃es c,o.data=.dict es c/\es.size=kvs.length /\
  ∀(i:Nat) (k:List gY) (v:V),kvs[i]?=some (k,v)->∃(g:uK) (b:ap),es[i]?=some g/\g.key=bq b/\H b=some (.tup (k.map kV)):=by
 obtain⟨j,z,y,xs,r,o',es,c,d,p,l,f,t⟩:=(show d_ P w H h a (.frz o (.dT kvs)) from ok a _ e);rw[j] at d;cases d;refine⟨y,j,p,es,c,l,?_,λi k v s=>?_⟩
 ·rw[<- au,f,am];exact(j6 r).symm
 ·obtain⟨q,m,n⟩:=NE r s;refine⟨entryOfKey (uJ (g9 P w)) q,q.2.1,?_,?_,n.2.1⟩
  ·rw[<- aO,f,b9,m];rfl
  ·rfl
def NF{P:bg}{w:bL}{K:a8}{tg:bj}{a it:ap}{o:Obj}{l:List (List gY×V)}{es:Array uK}{T:Nat}(N:o.data=.dict es T)(hn:es.size=l.length):
  Cm P w K tg (Itd a o l) [it] it (λi h=>h.IsKeyIter it a i es.size T) where
 mem:=by simp
 obj:=λi h st b g=>by
  have e:b=it:=by simpa using g
  subst e;obtain⟨o,e,c,d⟩:=st;exact⟨o,e,λv z=>by rw[d] at z;cases z⟩
 keep:=λi h h' st k=>st.at λo e=>k it (by simp) o e
 item:=by
  intro X y t n Q i f s S H E I m st O;subst y t n;obtain⟨q,u⟩:=O;obtain⟨_,L,_,es',G,g2,Y,U⟩:=tm I.hok q;rw[N] at g2;cases g2;obtain⟨en,b,e1,e2,e3⟩:=U i _ _ (bw u);obtain⟨M,B,f2,A,p,x⟩:=m it (by simp);refine LO st L N e1 λh' j sb=>?_;have I1:cb X f S H {s with heap:=h'}:=I.turned (t':=s.toks) (λb o g e=>(sb.2 b g).trans e) M B A p x;obtain⟨o',e,c,d⟩:=id j;refine⟨_,rfl,L9 (s:={s with heap:=h'}) e c d ⋯ ⟨.ref b,H,I1,?_,⟨rfl,_,_,b,bw u,rfl,e3⟩,j,λb g=>(m b g).1⟩⟩;rw[e2];rfl
 done:=by
  intro X y t n Q i f s S H E I m st O;subst y t n;obtain⟨q,u⟩:=O;obtain⟨_,L,_,es',G,g2,Y,U⟩:=tm I.hok q;obtain⟨M,B,f2,A,p,x⟩:=m it (by simp);exact Rb (I.ok.hd Q) st L N ∅ λh' eb=>⟨rfl,I.turned (t':=s.toks) (λb o g e=>eb b o g e) M B A p x⟩
 self:=λ_ _ _ _ _ st h=>Tx st h
def q0i(tl:TE):TI:=λd H R=>tl d H λx c=>∃a o b,x=.ref a/\c a=some (.frz o (.dT b))/\R (Itd a o b) c
def UN{X:Cx}{tg l:bj}{tl:TE}(k:PE X l tl):PI X tg l (q0i tl):=by
 intro c s n H R I h;refine fW (k c s n H _ I h) λv s1 f=>?_;obtain⟨x,g,d,u,p⟩:=f;obtain⟨a,o,z,e,m,q⟩:=p;subst e;cases u;obtain⟨y,w,i,es,A,g2,j,B⟩:=tm d.hok m;refine Rc y w i g2 ?_;refine⟨s1.heap.objs.size,[s1.heap.objs.size],_,_,g,rfl,d.kept (t':=s1.toks) λb o e=>ae _ e,NF g2 j,⟨_,aC _ rfl,rfl,rfl⟩,λb t=>?_,q⟩;rw[List.mem_singleton.mp t];exact d.fpOk (av _) (d.hok.fresh (av _))
def tD1(e g:TE):TE:=λd H Q=>∀p,H p=none->e d (upd H p (.dT [])) λy f=>g d f λv c=>∃a k b,c p=some (.dT a)/\y=.ref b/\c b=some (.tup (k.map kV))/\a.length<sizeLine/\Q (.ref p) (upd c p (.dT (mR a k v)))
def Re(hu:X.A.units+1<fZ)(hk:PE X k tk)(hv:PE X v tv):PE X (.Dict [some k] [v] pos) (tD1 tk tv):=by
 intro d s g H Q I h;refine wpAny_Dict_any rfl rfl (by simp) (by simp) ?_;have M:cb X d g (upd H s.heap.objs.size (.dT [])) {s with heap:=s.heap.push {cls:=.type "dict",data:=.dict #[]}}:=I.laid (a:=s.heap.objs.size) (o:=.dT []) (t':=s.toks) (λ_ _ q=>ae _ q) (av _) (PJ s.heap I.big);have h0:=h s.heap.objs.size (I.hok.fresh (av _));simp only[pairTrees,evalPairs];refine a7 (fW (hk d _ g _ _ M h0) λu1 s1 t=>?_);obtain⟨y,u,I1,O,K⟩:=t;refine a7 (cC (a7 (fW (hv d s1 g u _ I1 K) λu2 P Y=>?_)));obtain⟨z,H2,j,r2,S⟩:=Y;obtain⟨e,ks,b,l,e2,p,e4,q⟩:=S;refine a7 (dY (a9 ?_));refine a7 (cC (a9 (a9 ?_)));subst e2;cases O;unfold storeAll;simp only[kA,oS,bind_assoc];obtain⟨N,U,xs,f,T⟩:=W5 j.hok l;have G:xs.length<=sizeLine:=by rw[<- j6 f];exact N
 have B:(mR e ks z).length<=sizeLine:=by have:=md e ks z;omega
 refine a7 (wpAny_dictSet_heap (by show X.A.units<fZ;omega) (ye j.hok p) T (λh' i hs=>?_) G);obtain⟨o',es,L,m,g2,x,g4,_,g5⟩:=i;have E:=Eg (t':=P.toks+(uJ (g9 X.prog X.w)).draws ks) j (by rw[l];exact jH) hs ⟨o',m⟩ (ob:=.dT (mR e ks z)) ⟨B,U,_,(f.put ks p r2).keeps λc ys n=>(by rw[bh (Pf n l (λz=>nomatch z))];exact n),o',es,L,m,g2,x,g4,g5⟩;exact a9 ⟨.ref s.heap.objs.size,_,E,rfl,q⟩
end L2
namespace J
open PySem L2
def keysOf:List D->Option (List gY)
 |[]=>some []
 |d::r=>(qF d).bind λk=>(keysOf r).map (k::·)
def sg:D->Option (List gY)
 |.tuple ds=>keysOf ds
 |_=>none
theorem Dq:∀{ds:List D}{ks:List gY},keysOf ds=some ks->ds=ks.map kD
 |[],ks,h=>by cases h;rfl
 |d::r,ks,h=>by
  unfold keysOf at h;cases a:qF d with
  |none=>rw[a] at h;cases h
  |some y=>
   rw[a,OO] at h;cases b:keysOf r with
   |none=>rw[b] at h;cases h
   |some l=>
    rw[b] at h;cases h;rw[ar,<- qG a,<- Dq b]
def xj(h:sg d=some ks):d=tD ks:=by
 cases d<;>first|(cases h;done)|skip
 rename_i ds
 unfold tD;rw[<- Dq (show keysOf ds=some ks from h)]
theorem Dr:∀ks:List gY,keysOf (ks.map kD)=some ks
 |[]=>rfl
 |k::r=>by rw[ar,keysOf,keyOf_of,Dr r];rfl
def Rf(ks:List gY):sg (tD ks)=some ks:=Dr ks
theorem LP:∀a b:List gY,cG (a.map kD) (b.map kD)=decide (a=b)
 |[],[]=>by simp[cG]
 |[],_::_=>by simp[cG]
 |_::_,[]=>by simp[cG]
 |x::a,y::b=>by
  rw[ar,ar];simp only[cG];rw[EC,LP a b];by_cases h:x=y<;>by_cases c:a=b<;>simp[h,c]
def EH(a b:List gY):aR (tD a) (tD b)=decide (a=b):=by
 unfold tD;simp only[aR];exact LP a b
def RDt.any(y:List gY):∀{ds:List (D×D)},RDt K H kvs ds->(ds.any λa=>aR a.1 (tD y))=kvs.any λa=>decide (a.1=y):=by
 induction kvs with
 |nil=>intro ds h;cases h;rfl
 |cons x r b=>intro ds h;cases h with|cons h t=>rw[eT,eT,b t,EH]
def RDt.repl(y:List gY)(f:RD K H v d):∀{ds:List (D×D)},RDt K H kvs ds ->
  RDt K H (kvs.map λa=>if a.1=y then(a.1,v) else a) (ds.map λa=>if aR a.1 (tD y) then(a.1,d) else a):=by
 induction kvs with
 |nil=>intro ds h;cases h;exact .nil
 |cons x r b=>
  intro ds h;cases h with
  | @cons k _ _ _ _ h t=>
   rw[ar,ar];have e:=EH k y;by_cases c:k=y
   ·subst c;rw[show(if k=k then(k,v) else(k,_))=(k,v) from if_pos rfl,show(if aR (tD k) (tD k)=true then(tD k,d) else(tD k,_))=(tD k,d) from if_pos (by rw[e];simp)];exact .cons f (b t)
   ·simp only[e,c,if_neg,decide_false,bn,not_false_eq_true];exact .cons h (b t)
def RDt.snoc(y:List gY)(b:RD K H v d):∀{ds:List (D×D)},RDt K H kvs ds->RDt K H (kvs++[(y,v)]) (ds++[(tD y,d)]):=by
 induction kvs with
 |nil=>intro ds h;cases h;exact .cons b .nil
 |cons x r a=>intro ds h;cases h with|cons h t=>exact .cons h (a t)
def RDt.put(r:RDt K H kvs ds)(y:List gY)(a:RD K H v d):RDt K H (mR kvs y v) (t4 ds (tD y) d):=by
 unfold mR t4;rw[r.any y];split
 ·exact r.repl y a
 ·exact r.snoc y a
def Ya{b:Type}[DecidableEq b]{a:List (b×V)}{y:b}{v:V}:mR a y v≠[]:=by
 unfold mR;split
 ·rename_i h
  intro z;have:=List.map_eq_nil_iff.mp z;subst this;cases h
 ·simp
def RDt.val(y:List gY):∀{ds:List (D×D)},RDt K H kvs ds->(qA kvs y=none/\iH ds (tD y)=none)\/∃v d,qA kvs y=some v/\iH ds (tD y)=some d/\RD K H v d:=by
 induction kvs with
 |nil=>intro ds h;cases h;exact .inl ⟨rfl,rfl⟩
 |cons x r b=>
  intro ds h;cases h with
  | @cons k _ _ _ _ h t=>
   unfold qA iH;rw[bM,bM,EH];by_cases a:k=y
   ·simp only[a,decide_true,dG];exact .inr ⟨_,_,rfl,rfl,h⟩
   ·simp only[a,decide_false];exact b t
def LQ:List (D×D)->List (D×D)
 |(.none,_)::r=>r
 |l=>l
def kQ(ds:List (D×D)):Bool:=!ds.isEmpty&&ds.all λa=>(sg a.1).isSome
def RDk.notT(h:RDk K H kvs ds)(e:kQ (LQ ds)=true):False:=by
 cases h with
 |nil=>cases e
 | @cons k _ _ _ _ h t=>
  cases k<;>simp[LQ,kQ,kD,sg] at e
def RDt.un(h:RDt K H kvs ds):LQ ds=ds:=by
 cases h<;>rfl
def A3(sub:dQ Hs H)(h:RB K H Hs v (tD ks)):∃b,v=.ref b/\H b=some (.tup (ks.map kV)):=by
 rcases h with h|⟨_,o,rfl,_,_,ow⟩
 ·cases h with
  |tuple q r=>
   have:=z_ (c:=kD) (k:=kV) (λh=>AE h) r;subst this;exact⟨_,rfl,sub _ _ q⟩
 ·cases ow
def LR(sub:dQ Hs H)(h:RB K H Hs v (.dict ds))(e:kQ (LQ ds)=true):∃a c,v=.ref a/\RDt K Hs c (LQ ds)/\∀(b:ap) (k:List gY),H b=some (.tup (k.map kV))->wO H a (.ref b) (qA c k):=by
 obtain⟨a,j,i⟩:=h.dict sub;clear h;subst j;rcases i with⟨c,f,d⟩|⟨c,f,hn,d⟩|⟨o,c,es,rfl,f,hn,d⟩
 ·exact(d.notT e).elim
 ·exact⟨a,c,rfl,by rw[d.un];exact d,λb k g=>wO.t f g⟩
 ·exact⟨a,c,rfl,d,λb k g=>.inr ⟨c,k,b,.inr ⟨o,f⟩,rfl,g,rfl⟩⟩
def IU:D->D->R D
 |.dict ds,k=>match sg k with
  |some _=>if kQ (LQ ds)=true then(match iH (LQ ds) k with
   |some d=>.ok d
   |none=>.no) else .no
  |none=>.no
 |_,_=>.no
section
variable{c:C}{a b e k:bj}{ga gb g gk:aE->R D}{pos p apos:Pos}{x:Str}
theorem EI(z:c.X.A.units+1<fZ)(E:JB c a ga)(l:JB c b gb)(hs:wH b:=by exact λ_ _=>rfl):JE c (.Subscript a b pos) (g2 ga gb IU):=.of λρ=>by
 refine sS (Le z (E ρ) (l ρ) hs) λY H Q h=>?_;obtain⟨H0,S,la,Hs,f,q⟩:=h;refine one f q λd v U G L s1 I M=>?_;unfold g2 at q;rw[L,bind_ok] at q;refine one I (q.on s1 (q':=λ_=>True) λ_ _=>trivial) λy w K m T o n O=>?_;rw[T,bind_ok] at q;unfold IU at q;split at q
 ·rename_i ds
  split at q
  ·rename_i s t
   obtain rfl:=xj t;by_cases i:kQ (LQ ds)=true
   ·rw[if_pos i] at q;obtain⟨p,P,rfl,N,B⟩:=LR n.st.sub (M.step o) i;obtain⟨b,rfl,l⟩:=A3 n.st.sub O;rcases N.val s with⟨_,j⟩|⟨u,d,j,h5,h6⟩
    ·rw[j] at q;exact q.elim
    ·rw[h5] at q;exact⟨p,u,rfl,by rw[<- j];exact B b s l,q _ K m (s1.trans o) h6⟩
   ·rw[if_neg i] at q;exact q.elim
  ·exact q.elim
 ·exact q.elim
def Yb(d:Bool):D->D->R D
 |k,.dict ds=>match sg k with
  |some _=>if kQ (LQ ds)=true then .ok (.bool (if d then !(iH (LQ ds) k).isSome else(iH (LQ ds) k).isSome)) else .no
  |none=>.no
 |_,_=>.no
theorem NG(z:c.X.A.units+1<fZ):wZ c.X (bG .NotIn) (Yb true):=by
 refine⟨λl s S H x y v u Q I M N h=>?_,λx y c n=>?_⟩
 ·obtain⟨Hs,T,P,sub,w,L,d,f,q⟩:=h;unfold Yb at f;split at f
  ·rename_i ds
   split at f
   ·rename_i i t
    obtain rfl:=xj t;split at f
    ·rename_i E
     cases f;obtain⟨p,j,rfl,O,B⟩:=LR sub L E;obtain⟨b,rfl,G⟩:=A3 sub w;cases N;refine L2.Ld z I (B b i G) M λs' K=>⟨.bl _,H,K,rfl,?_⟩;have e:(qA j i).isSome=(iH (LQ ds) (tD i)).isSome:=by
      rcases O.val i with⟨m,o⟩|⟨u,d,m,o,h6⟩<;>rw[m,o]<;>rfl
     rw[e];exact q _ H Hs (.refl sub) (.bool _)
    ·cases f
   ·cases f
  ·cases f
 ·unfold Yb;split<;>(try split)<;>(try split)<;>exact λh=>by cases h
def yY(i:Nat)(gk g:aE->R D):aE->R Fl:=λρ=>match ρ[i]? with
 |some (Sl.own (.dict f))=>(g ρ).bind λd=>(gk ρ).bind λk=>match sg k with
  |some _=>if f.length<1000/\kQ f=true then .ok (.nx (ρ.set i (.own (.dict (t4 f k d))))) else .no
  |none=>.no
 |_=>.no
theorem Rg(i:Nat)(h:JE c e g)(hk:JE c k gk)(P:c.X.A.units+1<fZ)(L:c.X.N[i]?=some x:=by rfl)(hv:OR c.X.env.scope x:=by first|exact iq rfl|exact f9 (iq rfl)|exact f9 (f9 rfl))(hd:(x==("__debug__" : Str))=false:=by decide)
  (m:(x==("__classdict__" : Str))=false:=by decide) (hs:hX e (some (.Subscript (.Name x p) k apos)) pos.line c.X.env=pure false:=by rfl):JS c (.Assign [.Subscript (.Name x p) k apos] e pos) (yY i gk g):=.of λρ=>by
 refine C1 (Lf P (r9 L hv hd m) (hk ρ) (h ρ) hs) λD σ H s=>?_;obtain⟨S,B,la,Hs,f,q⟩:=s;replace q:qE c.X.K c.cls c.E S B la D (yY i gk g ρ):=q;unfold yY at q;split at q
 ·rename_i l ho
  obtain⟨a,o,G,O,k3,k4,k5⟩:=f.ow i _ ho;refine sE f q λd v H1 U e1 s1 Y r1=>?_;rw[e1,bind_ok] at q;refine⟨_,G,sE Y q λy w H2 u e2 z I r2=>?_⟩;rw[e2,bind_ok] at q;split at q
  ·rename_i ky M
   obtain rfl:=xj M;by_cases j:l.length<1000/\kQ l=true
   ·rw[if_pos j] at q;cases k5 with
    |dK r=>exact(r.notT (by cases r with|nil=>exact j.2 | @cons k _ _ _ _ _ _=>cases k<;>exact j.2)).elim
    |dF n r=>cases j.2
    |dT n r=>
     have Q:=z.all _ _ (s1.all _ _ O);have r':=(r.same s1.sh).same z.sh;obtain⟨b,rfl,T⟩:=A3 I.st.sub (.inl r2);exact⟨a,_,rfl,G4.t Q T (eX (by rw[r.length];omega)),q _ _ u (I.write i ho G (.dT Ya (r'.put ky (r1.same z.sh))))⟩
   ·rw[if_neg j] at q;exact q.elim
  ·exact q.elim
 ·exact q.elim
end
def mi(i:Nat)(ρ:aE):aE:=match ρ[i]? with
 |some (Sl.own (.dict ((.tuple ks,v)::r)))=>ρ.set i (.own (.dict ((.none,.none)::(.tuple ks,v)::r)))
 |_=>ρ
def UO(I:cb X pins σ H s)(h:H a=some (.dT kvs)):∃o,cb X pins σ (upd H a (.frz o (.dT kvs))) s:=by
 obtain⟨z,y,xs,i,o,es,f,c,j,k,d,g⟩:=(show d_ X.prog X.w H s.heap a (.dT kvs) from I.hok a _ h);have new:d_ X.prog X.w (upd H a (.frz o (.dT kvs))) s.heap a (.frz o (.dT kvs)):=
  ⟨c,z,y,xs,Paired.mapP i λp q w=>⟨w.1,by rw[bh (Pf w.2.1 h (λz=>nomatch z))];exact w.2.1,w.2.2⟩,o,es,f,c,j,k,d,g⟩
 have:=I.write (x:=a) (e:=a) (h':=s.heap) (t':=s.toks) (by rw[h];trivial) (.inl rfl) (λb u _ q=>q) ⟨o,c⟩ new;exact⟨o,this⟩
def q0j(h:PS X st t):PS X st (λD d H=>t D d H\/∃a c,H a=some (.dT c)/\∀o,t D d (upd H a (.frz o (.dT c)))):=λb s d H D I q=>by
 rcases q with q|⟨a,c,ha,q⟩
 ·exact h b s d H D I q
 ·obtain⟨o,e⟩:=UO I ha;exact h b s d _ D e (q o)
def Yc(i:Nat)(h:JS c st gs):JS c st (λρ=>gs (mi i ρ)):=.of λρ=>C1 (q0j (h (mi i ρ))) λD' u H s=>by
 obtain⟨g,d,la,Hs,f,q⟩:=s;by_cases l:∃ks v r,ρ[i]?=some (Sl.own (.dict ((.tuple ks,v)::r)))
 ·obtain⟨ks,v,r,ho⟩:=l;have e:mi i ρ=ρ.set i (.own (.dict ((.none,.none)::(.tuple ks,v)::r))):=by unfold mi;rw[ho]
  obtain⟨a,o,p,m,w,t,j⟩:=f.ow i _ ho;generalize b:IJ ((.tuple ks,v)::r)=d0 at j;cases j with
  |lst r=>cases b
  |dK rk=>
   cases b;generalize b:((.tuple ks,v)::r:List (D×D))=d1 at rk;cases rk with
   |nil=>cases b
   | @cons k _ _ _ _ _ _=>cases k<;>cases b
  |dF n r=>cases b
  |dT n r=>
   cases b;exact .inr ⟨a,_,m,λo=>⟨g,d,la,Hs,by rw[e];exact f.write i ho p (.dF n r),q⟩⟩
 ·have e:mi i ρ=ρ:=by
   unfold mi;split
   ·rename_i ks v r ho;exact(l ⟨ks,v,r,ho⟩).elim
   ·rfl
  refine .inl ⟨g,d,la,Hs,by rw[e];exact f,q⟩
def EJ:D->R (List D)
 |.dict ((.none,.none)::ds)=>.ok (ds.map (·.1))
 |_=>.no
def Rh(g:aE->R D):aE->R (List D):=λρ=>(g ρ).bind EJ
def RDt.get:∀{ds:List (D×D)}{i:Nat}{k:List gY}{v:V},RDt K H kvs ds->kvs[i]?=some (k,v)->∃d,ds[i]?=some (tD k,d):=by
 induction kvs with
 |nil=>intro ds i k v h e;simp at e
 |cons x r a=>
  intro ds i k v h e;cases h with
  |cons h t=>
   cases i with
   |zero=>cases e;exact⟨_,rfl⟩
   |succ i=>have q:=a (i:=i) t e;exact q
theorem Ri:∀ks:List gY,RDs K H (ks.map kV) (ks.map kD)
 |[]=>.nil
 |k::r=>.cons (by cases k<;>constructor) (Ri r)
def UP(h:Hn a=some (.frz o (.dT kvs)))(r:RDt K Hs kvs ds):OS K (Itd a o kvs) (ds.map (·.1)) Hn Hs:=λB g s E m=>by
 have q:=s _ _ h;have w:=r.length;refine⟨λi j=>⟨q,?_⟩,λi j=>⟨q,?_⟩,λi x A j y=>?_⟩
 ·rw[am] at j;omega
 ·rw[am] at j;omega
 ·obtain⟨rfl,k,v,b,n,rfl,l⟩:=y;obtain⟨d,p⟩:=r.get n;have same:dQ g (upd g b (.tup (k.map kV))):=λc u e=>by
   by_cases f:c=b
   ·subst f;have:=m _ _ e;rw[l] at this;cases this;exact bc
   ·rw[bh f];exact e
  refine⟨tD k,upd g b (.tup (k.map kV)),by rw[b9,p];rfl,⟨.refl _,same,λc u e=>?_,λc u e t z=>?_⟩,.tuple bc (Ri k)⟩
  ·by_cases f:c=b
   ·subst f;rw[bc] at e;cases e;exact l
   ·rw[bh f] at e;exact m _ _ e
  ·by_cases f:c=b
   ·subst f;rw[l] at e;cases e;cases t
   ·rw[bh f];exact z
def LS(h:JB c l g):JI c tg l (Rh g):=.of λρ=>by
 refine Nx (UN (h ρ)) λy H Q n=>?_;obtain⟨z,x,la,Hs,f,q⟩:=n;refine one f q λd v p m u s1 t w=>?_;unfold Rh at q;rw[u,bind_ok] at q;unfold EJ at q;split at q
 ·obtain⟨a,s,n⟩:=w.dict t.st.sub;rcases n with⟨e,i,b⟩|⟨e,i,hn,b⟩|⟨o,e,es,he,i,hn,b⟩
  ·generalize j:((.none,.none)::_:List (D×D))=d0 at b;cases b with
   |nil=>cases j
   | @cons k _ _ _ _ _ _=>cases k<;>cases j
  ·generalize j:((.none,.none)::_:List (D×D))=d0 at b;cases b<;>cases j
  ·cases he;exact⟨a,o,e,s,i,q _ p m p s1 (.refl _) (UP i b)⟩
 ·exact q.elim
def Y_(b a:aE->R D):aE->R D:=λρ=>(b ρ).bind λk=>(a ρ).bind λv=>match sg k with
 |some _=>.ok (.dict [(k,v)])
 |none=>.no
def Rj(N:c.X.A.units+1<fZ)(hk:JE c k gk)(hv:JE c v gv):JN c (.Dict [some k] [v] pos) (Y_ gk gv):=.of λρ=>by
 refine sS (Re N (hk ρ) (hv ρ)) λσ H Q U=>?_;obtain⟨H0,a0,la,Hs,f,q⟩:=U;intro p l;have s:cQ H Hs (upd H p (.dT [])) Hs:=.mine f.st.sub l;have L:Hs p=none:=f.st.sub.free l;unfold Y_ at q;refine Cz (f.step s) (q.on s (q':=λ_=>True) λ_ _=>trivial) λy w H1 S T s1 G Y=>?_;rw[T,bind_ok] at q;refine Cz G (q.on (s.trans s1) (q':=λ_=>True) λ_ _=>trivial) λz u i g e2 I O r2=>?_;rw[e2,bind_ok] at q;split at q
 ·rename_i j K
  obtain rfl:=xj K;obtain⟨b,rfl,P⟩:=A3 G.st.sub (.inl Y);have d:=s1.trans I;have E:i p=some (.dT []):=d.all _ _ bc;have B:g p=none:=d.out _ _ bc rfl L;let h:Hp:=λx=>if x=p then none else i x
  have m:∀x,x≠p->h x=i x:=λx a=>if_neg a;have st:cQ H Hs h g:=by
   refine⟨λx o e=>?_,d.sh,λx o e=>?_,λx o e t n=>?_⟩
   ·have a:=cj e l;rw[m x a];exact d.all _ _ (by rw[bh a];exact e)
   ·have a:x≠p:=λz=>by rw[z,B] at e;cases e
    rw[m x a];exact O.st.sub _ _ e
   ·have a:=cj e l;exact d.out _ _ (by rw[bh a];exact e) t n
  have:=q p (.dT [(j,u)]) h g st (if_pos rfl) (.dT (by simp) (.cons r2 .nil));have M:upd h p (.dT [(j,u)])=upd i p (.dT (mR [] j u)):=by
   funext x;by_cases a:x=p
   ·subst a;rw[bc,bc];rfl
   ·rw[bh a,bh a,m x a]
  rw[M] at this;exact⟨[],j,b,E,rfl,I.all _ _ P,by rw[iE];decide,this⟩
 ·exact q.elim
def vK(g:aE->R D):aE->R Bool:=λρ=>(g ρ).bind λd=>match d with
 |.list ds=>.ok (!ds.isEmpty)
 |_=>.no
def JV(h:JB c e g)(he:∀b,xT e c.X.env b=(do let v <- b;mv e.pos;ID [v] (truthy v)):=by intro _;rfl):JT c e (vK g):=.of λρ=>ZG (Ps (h ρ) he) λu H Q n=>by
 obtain⟨w,s,la,Hs,f,q⟩:=n;refine one f q λd v j i m s1 l o=>?_;unfold vK at q;rw[m,bind_ok] at q;split at q
 ·obtain⟨a,t,rfl,k,p⟩:=o.list l.st.sub;refine⟨_,.inl ⟨t,k,rfl⟩,?_⟩;cases p with
  |nil=>exact q j i s1
  |cons _ _=>exact q j i s1
 ·exact q.elim
end J
namespace L2
open PySem PySem.Spec PyProof.Rows
def GO{d:List Int}:∀{c:List ag},eE (d.map V.int) c->∀{i:Nat}{v:ag},c[i]?=some v->∃n t,d[i]?=some n/\v=.int n t:=by
 induction d with
 |nil=>intro c r i v e;cases r;simp at e
 |cons x r f=>
  intro c g i v e;cases g with
  |cons a b=>
   cases i with
   |zero=>cases e;obtain⟨t,rfl⟩:=a;exact⟨x,t,rfl,rfl⟩
   |succ i=>have q:=f b (i:=i) e;exact q
end L2
namespace J
open PySem L2
def vL:List D->Option (List Int)
 |[]=>some []
 |.int b::r=>(vL r).map (b::·)
 |_::_=>none
def GQ:∀{bs:List Int},vL ds=some bs->ds=bs.map e8:=by
 induction ds with
 |nil=>intro bs h;cases h;rfl
 |cons d r c=>
  intro bs h;cases d with
  |int b=>
   have h:(vL r).map (b::·)=some bs:=h;cases a:vL r with
   |none=>rw[a] at h;cases h
   |some z=>rw[a] at h;cases h;rw[c a];rfl
  |_=>cases h
theorem AQ:∀bs:List Int,vL (bs.map e8)=some bs
 |[]=>rfl
 |b::r=>by show(vL (r.map e8)).map (b::·)=_;rw[AQ r];rfl
def gFz(i:Nat)(g:aE->R Fl):aE->R Fl:=λρ=>g (mi i ρ)
def Yd(i:Nat)(h:JS c st gs):JS c st (gFz i gs):=Yc i h
def rS(i:Nat)(ρ:aE):R D:=IQ ρ i
def rB(i:Nat)(ρ:aE):R D:=IR ρ i
def kI(n:Int)(_:aE):R D:=.ok (.int n)
def kB(b:Bool)(_:aE):R D:=.ok (.bool b)
def kN(_:aE):R D:=.ok .none
def kT(_:aE):R Bool:=.ok true
def q0k(i:Nat)(ρ:aE):rS i ρ=IQ ρ i:=id rfl
def Ye(i:Nat)(ρ:aE):rB i ρ=IR ρ i:=id rfl
def q0l(n:Int)(ρ:aE):kI n ρ=.ok (.int n):=id rfl
def q0m(b:Bool)(ρ:aE):kB b ρ=.ok (.bool b):=id rfl
def q0n(ρ:aE):kN ρ=.ok .none:=id rfl
end J
namespace L2
open PySem PySem.Spec PyProof.Rows
end L2
namespace L2
open PySem PySem.Spec PyProof.Rows
section
open Builtin Builtin.ObjectAttr
inductive LU (h:cg) (bmB:List ag) (nms:List Str):List ag->Prop
 |base:LU h bmB nms bmB
 |own {A:ap}{c0:ag}{dd:Option ap}{cd:ClassData}{sl:Array (Option ag)}{mA:Str->Option ag}{tl:List ag}:
   h.get? A=some {cls:=c0,dict:=dd,data:=.cls cd,slots:=sl}->h.Ns cd.ns mA->(∀n∈nms,mA n=none)->LU h bmB nms tl->LU h bmB nms (.ref A::tl)
end
structure Yf (h:cg) (fI:ap):Prop where
 ex:∃(oI:Obj) (fd:ig) (p1 p2 p3 p4:Pos),h.get? fI=some oI/\oI.cls=.type "function"/\oI.data=.func fd/\h.CodeRec fd.code fd.qualname/\fd.scope.isCoroutine=false/\fd.scope.isGenerator=false/\fd.scope.kind=.function /\
  fd.scope.names=[(("self" : Str),sB),(("number" : Str),sB)]/\fd.body=.stmts [.Assign [.Attribute (.Name "self" p1) "number" p2] (.Name "number" p3) p4]/\∀(s:ak) (e v:ag),(∀b o,h.get? b=some o->s.heap.get? b=some o)->C5 s fd ⟨[e,v],[]⟩ [("self",e),("number",v)]
structure q1t (x:Str) (C:ap) (mg:Str->Option ag) (base:cg):Prop where
 bound:mg x=some (.ref C)
 obj:∃nm q N bs bm sn sub ab col dd k0 k1 k2 k3 k5 mN fI,base.get? C=some (excClassObj nm q C N bs bm true sn sub ab col dd k0 k1 k2 k3 k5 "ValueError.__new__")/\base.Ns N mN/\mN "__init__"=some (.ref fI)/\mN "__setattr__"=none/\mN "number"=none /\
  LU base [.type "ValueError",.type "Exception",.type "BaseException",.type "object"] ["__init__","__setattr__","number"] bm/\Yf base fI
end L2
namespace J
open PySem L2
section
open PySem.W (nsIn nsOkIn codeIn fnOf)
def q0o(X:K.In h)(G:h.Ns N mg)(e:nsIn K N n=some (some v)):mg n=some v:=by
 obtain⟨o,es,g,ho,b,_,a⟩:=G;unfold iQ at e;split at e
 ·rename_i c d es' i f q
  have:=X _ _ q;rw[ho] at this;cases this;cases b;split at e
  ·rename_i he
   rw[<- a];unfold nsFind findBy;rw[<- MG,he];cases e;rfl
  ·split at e<;>cases e
 ·cases e
structure q1u (K:a8) (x:Str) (C:ap) (st:dZ):Prop where
 ns:nsIn K cn x=some (some (.ref C))
 own:∀{h:cg}{mg:Str->Option ag},K.In h->h.Ns cn mg->q1t x C mg h
 mb:j0 K C (.type "BaseException")=some true
 ox:∀{h:cg},K.In h->∃bm,q1l h C bm/\∀v,(v==bq C)=false->j0 K C v=some true->bm.contains v=true
def topN{K:a8}{x:Str}{C Q fI t a g:ap}{st:dZ}{Y qn N E fq:Str}{bs U o j sub:List ag}{B b6:List Str}{ab a6 b0 l:Bool}{b q:Option Bool}{dd dP od dT an:Option ap}{T p m I O:Option ag}{c0 kV i pm d ct cT:ag}{a0 P y:Array (Option ag)}{nT:Nat}{p1 p2 p3 p4:Pos}{cN cM:ag}{dN dM:Option ap}{c f:Array uK}{M S:Nat}{A a5:Array (Option ag)}
  (a1:nsIn K cn x=some (some (.ref C))) (a4:j0 K C (.type "BaseException")=some true)
  (H:K.lookup C=some ⟨.type "type",dd,.cls ⟨Y,bs,[.ref C,.ref Q,.type "ValueError",.type "Exception",.type "BaseException",.type "object"],a,qn,true,B,sub,ab,b,false⟩,#[T,p,m,I,some (.builtin "ValueError.__new__"),O]⟩)
  (a3:K.lookup Q=some ⟨c0,dP,.cls ⟨N,U,o,g,E,b0,b6,j,a6,q,l⟩,a0⟩)
  (b1:nsIn K a "__init__"=some (some (.ref fI))) (b2:nsIn K a "__setattr__"=some none) (b3:nsIn K a "number"=some none)
  (c1:nsIn K g "__init__"=some none) (c2:nsIn K g "__setattr__"=some none) (c3:nsIn K g "number"=some none)
  (d1:K.lookup fI=some ⟨.type "function",od,.func (fnOf "__init__" fq (lU st) (jh st) (az st) (.ref t) kV i pm an d ct),P⟩)
  (d2:K.lookup t=some ⟨cT,dT,.seq #[.none] nT,y⟩) (d3:codeIn K d fq=true)
  (g1:K.lookup a=some ⟨cN,dN,.dict c M,A⟩) (g2:K.lookup g=some ⟨cM,dM,.dict f S,a5⟩) (g3:(c.toList.all λe=>match e.key with | .str _ _=>true|_=>false)=true) (g4:(f.toList.all λe=>match e.key with | .str _ _=>true|_=>false)=true)
  (f1:jh st=[.Assign [.Attribute (.Name "self" p1) "number" p2] (.Name "number" p3) p4]) (f2:(az st).names=[(("self" : Str),sB),(("number" : Str),sB)])
  (f3:(az st).isCoroutine=false) (f4:(az st).isGenerator=false) (f5:(az st).kind=.function)
  (f6:∀e v,∃k,Tc (fnOf "__init__" fq (lU st) (jh st) (az st) (.ref t) kV i pm an d ct) ⟨[e,v],[]⟩=uM (.ref t)>>=k/\k (some #[.none])=pure [(("self" : Str),e),(("number" : Str),v)]):q1u K x C st:=by
 have u:nsOkIn K a=true:=by unfold P6;rw[g1];show c.all _=true;rw[<- zu];exact g3
 have w:nsOkIn K g=true:=by unfold P6;rw[g2];show f.all _=true;rw[<- zu];exact g4
 refine⟨a1,λ{h mg} X G=>⟨v6 X G a1,Y,qn,a,bs,_,B,sub,ab,b,dd,T,p,m,I,O,h.nsMap a,fI,X _ _ H,.of_isNs (vt X u),?_,ij X u b2,ij X u b3,?_,⟨_,_,p1,p2,p3,p4,X _ _ d1,rfl,rfl,IY X d3,f3,f4,f5,f2,congrArg FuncBody.stmts f1,λs e v kb=>?_⟩⟩,a4,λ{h} X=>⟨_,⟨⟨Y,qn,a,bs,true,B,sub,ab,b,dd,T,p,m,I,O,_,X _ _ H⟩,rfl⟩,λv nv L=>?_⟩⟩
 ·exact q0o X (.of_isNs (vt X u)) b1
 ·refine .own (X _ _ a3) (.of_isNs (vt X w)) (λn hn=>?_) .base;rcases List.mem_cons.mp hn with z|hn
  ·rw[z];exact ij X w c1
  rcases List.mem_cons.mp hn with z|hn
  ·rw[z];exact ij X w c2
  ·rw[List.mem_singleton.mp hn];exact ij X w c3
 ·obtain⟨k,p,m⟩:=f6 e v;exact BindsTo.of_defaults rfl (kb _ _ (X _ _ d2)) rfl p m
 ·unfold j0 Ch at L;rw[H] at L;have:(bq C::[bq Q,.type "ValueError",.type "Exception",.type "BaseException",.type "object"]).contains v=true:=by simpa using L
  rw[List.contains_cons,nv,Bool.false_or] at this;exact this
end
end J
namespace L2
open PySem PySem.Spec PyProof.Rows
end L2
namespace L2
open PySem PySem.Spec PyProof.Rows
end L2
namespace J
open PySem L2
def yZ:List Int->Int
 |[]=>0
 |x::r=>r.foldl max x
theorem AR:∀(r:List Int) (x:Int),(r.foldl max x∈x::r)/\∀a∈x::r,a<=r.foldl max x
 |[],x=>⟨by simp,λa b=>by simp at b;subst b;exact Int.le_refl _⟩
 |y::r,x=>by
  obtain⟨f,d⟩:=AR r (max x y);rw[eh];refine⟨?_,λa b=>?_⟩
  ·rcases List.mem_cons.mp f with h|h
   ·rw[h];by_cases c:x<=y
    ·rw[Int.max_eq_right c];simp
    ·rw[Int.max_eq_left ∅];simp
   ·exact af _ (af _ h)
  ·have e:=d (max x y) aj;rcases List.mem_cons.mp b with h|h
   ·subst h;exact Int.le_trans (Int.le_max_left _ _) e
   ·rcases List.mem_cons.mp h with h|h
    ·subst h;exact Int.le_trans (Int.le_max_right _ _) e
    ·exact d a (af _ h)
def UQ(b:m∈ns)(e:∀a∈ns,a<=m):m=yZ ns:=by
 cases ns with
 |nil=>cases b
 |cons x r=>
  obtain⟨d,c⟩:=AR r x;exact Int.le_antisymm (c _ b) (e _ d)
def NH(i:Nat)(g:aE->R D):aE->R Fl:=λρ=>match ρ[i]? with
 |some (Sl.shr (.int a))=>(g ρ).bind λd=>match d with
  |.int b=>.ok (.nx (ρ.set i (.shr (.int (a+b)))))
  |_=>.no
 |_=>.no
def Yg(i:Nat)(h:JE c e g)(l:c.X.N.Nodup)(t:c.X.N[i]?=some x:=by rfl)(B:T6 c.X.env.scope x:=by first|exact iq rfl|exact f9 rfl)
  (s:c.X.fn x=true\/c.X.env.scope.names.lookup x=some .local:=by first|exact .inl rfl|exact .inr rfl|assumption):JS c (.AugAssign (.Name x p) .Add e pos) (NH i g):=.of λρ=>by
 refine C1 (Xk l t B (h ρ) Xl s) λD' I H y=>?_;obtain⟨o,k,la,Hs,f,q⟩:=y;replace q:qE c.X.K c.cls c.E o k la D' (NH i g ρ):=q;unfold NH at q;split at q
 ·rename_i a ho
  obtain⟨v,n,m⟩:=f.sh i _ ho;have A:v=.int a:=by cases m;rfl
  subst A;refine⟨.int a,n,?_⟩;refine sE f q λd v G j w s1 u z=>?_;rw[w,bind_ok] at q;cases z with
  |int b=>exact⟨a,b,rfl,rfl,q _ _ j (u.set i (.int _))⟩
  |list _ _=>exact q.elim
  |none=>exact q.elim
  |bool _=>exact q.elim
  |str _=>exact q.elim
  |tuple _ _=>exact q.elim
  |dictK _ _=>exact q.elim
  |dictT _ _ _=>exact q.elim
  |dictF _ _ _=>exact q.elim
 ·exact q.elim
end J
namespace L2
open PySem PySem.Spec PyProof.Rows
def EK(I:Nat->ak->Prop)
  (p:∀n s,I n s->aq (ax prog w) A (jY it) (λr a=>match r with
   |none=>R (.ok .next) a
   |some v=>aq (ax prog w) A (iB target it v) (λ_ b=>aq (ax prog w) A (mw target env v) (λ_ g=>
     aq (ax prog w) A (forIn ifs true λc r=>if r=true then do let ok <- xT c env (eI c env);pure (gZ ok) else pure (gZ r)) (λok d=>
      if ok=true then aq (ax prog w) A (eI kx env) (λx j=>aq (ax prog w) A (eI vx env) (λy i=>
       aq (ax prog w) A (dictSet Da x y) (λ_ e=>∃m,m<n/\I m e) (λ_ _=>False) i) (λ_ _=>False) j) (λ_ _=>False) d
      else ∃m,m<n/\I m d) (λ_ _=>False) g) (λ_ _=>False) b) (λ_ _=>False) a) (λ_ _=>False) s)
  (n:Nat) (h:I n s):
  eJ (ax prog w) A (.compLoop (.DictComp kx vx [⟨target,iter,ifs,0⟩] scope pos) 0 it (.ref Da) env) R s:=by
 refine codeAny_loop rfl I (λn s H=>?_) n h;show aq _ A ((compTurn (.DictComp kx vx [⟨target,iter,ifs,0⟩] scope pos) 0 it (.ref Da) env).onRaise (λx=>do E1 x env;theTreesLotGoes x)) _ _ s;refine wpAny_noted ?_;rw[compTurn_dict];have nf:∀{G:Type}{t:Sem G}{Q:G->ak->Prop}{K:ag->ak->Prop}{s:ak},aq (ax prog w) A t Q (λ_ _=>False) s->aq (ax prog w) A t Q K s:=
  λh=>bx h (λ_ _ q=>q) λ_ _ f=>f.elim
 refine a7 (dY (a7 (nf (bx (p n s H) (λr a k=>?_) λ_ _ h'=>h'))));cases r with
 |none=>exact a9 k
 |some v=>
  refine a7 (nf (bx k (λ_ b o=>?_) λ_ _ h'=>h'));refine a7 (nf (bx o (λ_ g E=>a7 (nf (bx E (λok d l=>?_) λ_ _ h'=>h'))) λ_ _ h'=>h'));cases ok with
  |false=>exact a9 ⟨rfl,l⟩
  |true=>
   exact a7 (a7 (nf (bx l (λx j u=>a7 (cC (nf (bx u (λy i B=>a7 (dY (cC (nf (bx B (λ_ e z=>a9 ⟨rfl,z⟩) λ_ _ h'=>h'))))) λ_ _ h'=>h')))) λ_ _ h'=>h')))
def Tks(H H':Hp):Prop:=∀b ys,H b=some (.tup ys)->H' b=some (.tup ys)
end L2
namespace J
open PySem L2
section
variable{c:C}{pos:Pos}{x:Str}{kx vx iter tg:bj}{ifs:List bj}{scope:eM}{N':List Str}{nt:Nat}{ix:List Nat}{gi:aE->R (List D)}{gt:aE->R Bool}{gk gv:aE->R D}
def Yh(a:List (D×D)):D->List (D×D)
 |.tuple [k,v]=>t4 a k v
 |_=>a
def Z0(ys:List D):List (D×D):=ys.foldl Yh []
def Rk(ys:List D)(k v:D):Z0 (ys++[.tuple [k,v]])=t4 (Z0 ys) k v:=by
 unfold Z0;rw[List.foldl_append];rfl
def JX(c:C)(N':List Str)(scope:eM)(nt:Nat)(tg:bj)(ifs:List bj)(kx vx:bj)(gt:aE->R Bool)(gk gv:aE->R D):Prop:=
 ∀d A a b f e,PG (c.comp N' scope d A a b f e).X tg (zE c.X.K nt)/\Wk (c.comp N' scope d A a b f e) ifs gt/\JE (c.comp N' scope d A a b f e) kx gk/\JE (c.comp N' scope d A a b f e) vx gv
def JX.at(h:JX c N' scope nt tg ifs kx vx gt gk gv):∀g A d b j i,PG (bi c.X N' scope g A d b j i) tg (zE c.X.K nt)/\Ei (bi c.X N' scope g A d b j i) ifs (λf H Q=>∃a,Cy c.X.K c.cls E0 a (gt a) f H Q) /\
  PE (bi c.X N' scope g A d b j i) kx (λf H Q=>∃a,TR c.X.K c.cls E0 a (gk a) f H Q)/\PE (bi c.X N' scope g A d b j i) vx (λf H Q=>∃a,TR c.X.K c.cls E0 a (gv a) f H Q):=λg A d b j i=>by
 obtain⟨k,n,l,m⟩:=h g A d b j i;exact⟨k,λe s f H Q I z=>by obtain⟨a,q⟩:=z;exact n a e s f H Q I q,λe s f H Q I z=>by obtain⟨a,q⟩:=z;exact l a e s f H Q I q,λe s f H Q I z=>by obtain⟨a,q⟩:=z;exact m a e s f H Q I q⟩
end
end J
namespace L2
open PySem PySem.Spec PyProof.Rows
end L2
namespace J
open PySem L2
def uW(p:HO->Bool)(H Hs:Hp):Hp:=λb=>match Hs b,H b with
 |some o,_=>some o
 |none,some o=>if p o then some o else none
 |none,none=>none
def yt(p:HO->Bool)(H Hs a:Hp):Hp:=λb=>match Hs b,H b with
 |none,some o=>if p o then none else a b
 |_,_=>a b
def nz:dQ Hs (uW p H Hs):=λb o e=>by
 unfold uW;rw[e]
def AS(h:H b=some o)(n:Hs b=none)(a:p o=true):uW p H Hs b=some o:=by
 unfold uW;rw[n,h];exact if_pos a
def AT(h:uW p H Hs b=some o):Hs b=some o\/(Hs b=none/\H b=some o/\p o=true):=by
 unfold uW at h;split at h
 ·rename_i e;exact .inl (e.trans h)
 ·rename_i u n e
  split at h
  ·rename_i a;cases h;exact .inr ⟨n,e,a⟩
  ·cases h
 ·cases h
def Rl(s:dQ Hs H):dQ (uW p H Hs) H:=λb o e=>by
 rcases AT e with h|⟨_,h,_⟩
 ·exact s b o h
 ·exact h
def UR(s:cQ H Hs H' Hs'):dQ (uW p H Hs) (uW p H' Hs'):=λb o e=>by
 rcases AT e with h|⟨n,h,hp⟩
 ·exact nz b o (s.sh b o h)
 ·have h':=s.all b o h;cases a:Hs' b with
  |none=>exact AS h' a hp
  |some u=>
   have:=s.sub b u a;rw[h'] at this;cases this;exact nz b o a
def US(n:Hs b=none)(h:H b=some o)(a:p o=true):yt p H Hs Hs1 b=none:=by
 unfold yt;rw[n,h];exact if_pos a
def EL(h:∀o,Hs b=none->H b=some o->p o=false):yt p H Hs Hs1 b=Hs1 b:=by
 unfold yt;split
 ·rename_i o n e
  rw[h o n e];rfl
 ·rfl
def Rm:dQ (yt p H Hs Hs1) Hs1:=λb o e=>by
 unfold yt at e;split at e
 ·split at e
  ·cases e
  ·exact e
 ·exact e
def Ds(sub:dQ Hs H)(s:cQ H (uW p H Hs) H' Hs1):cQ H Hs H' (yt p H Hs Hs1):=by
 refine⟨s.all,λb o e=>?_,Rm.trans s.sub,λa o e t n=>?_⟩
 ·rw[EL λo' n _=>by rw[e] at n;cases n];exact s.sh b o (nz b o e)
 ·cases c:p o with
  |true=>exact US n e c
  |false=>
   rw[EL λo' _ d=>by rw[e] at d;cases d;exact c];refine s.out a o e t ?_;unfold uW;rw[n,e];simp only[c];rfl
structure q0p (p:HO->Bool) (ok:D->Bool):Prop where
 rd:∀{K:a8}{H Hs H' Hs1:Hp},cQ H (uW p H Hs) H' Hs1->∀{v d},ok d=true->RD K Hs1 v d->RD K (yt p H Hs Hs1) v d
def zG:HO->Bool
 |.dK _=>true
 |.dT _=>true
 |.frz _ (.dT _)=>true
 |_=>false
def Dt:q0p zG oO:=.mk λ{K H Hs H' c} s {v d} l r=>by
 have f:∀(a:ap) (u:HO),zG u=false->c a=some u->yt zG H Hs c a=some u:=λa u j e=>by
  rw[EL λo n h=>?_]
  ·exact e
  ·cases g:zG o with
   |false=>rfl
   |true=>
    have:=s.sh a o (AS h n g);rw[e] at this;cases this;rw[j] at g;cases g
 have k:∀(a:ap) (xs:List V),qy K c a xs->qy K (yt zG H Hs c) a xs:=λa xs q=>by
  rcases q with (q|⟨o,q⟩)|q
  ·exact .inl (.inl (f a _ rfl q))
  ·exact .inl (.inr ⟨o,f a _ rfl q⟩)
  ·exact .inr q
 exact RD.rec (motive_1:=λv d _=>oO d=true->RD K (yt zG H Hs c) v d) (motive_2:=λv d _=>noDs d=true->RDs K (yt zG H Hs c) v d) (motive_3:=λ_ _ _=>True) (motive_4:=λ_ _ _=>True)
  (λ_=>.none) (λb _=>.bool b) (λi _=>.int i) (λx _=>.str x) (λh _ r e=>.list (k _ _ h) (r e)) (λh _ r e=>.tuple (f _ _ rfl h) (r e)) (λ_ _ _ e=>by cases e) (λ_ _ _ _ e=>by cases e) (λ_ _ _ _ e=>by cases e)
  (λ_=>.nil) (λ_ _ a b e=>.cons (a (Wb e)) (b (Wc e))) trivial (λ_ _ _ _=>trivial) trivial (λ_ _ _ _=>trivial) r l
inductive UT (p:HO->Bool) (K:a8) (cls:Str->ap) (E:XK) (ρ:aE) (r:R (List D)) (σ:St) (H:Hp) (Q:List V->Hp->Prop):Prop
 |mk (H0 Hs0:Hp) (la:Nat->Option ap) (Hs:Hp) (f:Fr K H0 Hs0 la ρ σ H Hs) (q:Fin K cls E H Hs r λd=>∀v H' Hs',cQ H Hs H' Hs'->RDs K (uW p H' Hs') v d->Q v H'):UT p K cls E ρ r σ H Q
structure JL (p:HO->Bool) (c:C) (es:List bj) (g:aE->R (List D)):Prop where of ::
 run:∀ ρ,PA c.X es (UT p c.X.K c.cls c.E ρ (g ρ))
def Yi{K:a8}{cls:Str->ap}{E:XK}{ρ:aE}{r:R (List D)}{i:Type}{k:List D->R i}{e:St}{H:Hp}{g b Hs:Hp}{la:Nat->Option ap}{Q:List V->Hp->Prop}{q:i->Prop}(f:Fr K g b la ρ e H Hs)
  (h:Fin K cls E H Hs (r.bind k) q) (m:∀d v H' a,r=.ok d->cQ H Hs H' a->Fr K g b la ρ e H' a->RDs K (uW p H' a) v d->Q v H'):UT p K cls E ρ r e H Q:=by
 refine⟨g,b,la,Hs,f,?_⟩;cases r with
 |ok d=>exact λv H' a s r=>m d v H' a rfl s (f.step s) r
 |ex c n=>exact h
 |no=>exact h
def Rn:JL p c [] aH:=.of λρ=>XX kJ λb H Q h=>by obtain⟨d,a,la,Hs,f,q⟩:=h;exact q [] H Hs (.refl f.st.sub) .nil
def LV(h:JE c e g)(i:JL p c es gs)(hs:aP (e::es) c.X.env=(false,eI e c.X.env)::aP es c.X.env:=by rfl):JL p c (e::es) (aa g gs):=.of λρ=>XX (iR (h ρ) (i.run ρ) hs) λw H Q h=>by
 obtain⟨x,s,la,Hs,f,q⟩:=h;refine Cz f q λd v u j m s1 k n=>?_;unfold aa at q;rw[m,bind_ok] at q;refine Yi k (q.on s1 (q':=λ_=>True) λ_ _=>trivial) λds z l a t b y o=>?_;rw[t,bind_ok] at q;exact q _ l a (s1.trans b) (.cons ((n.same b.sh).same nz) o)
def Du(i:Nat)(ρ:aE):R D:=match ρ[i]? with
 |some (Sl.shr d)=>.ok d
 |some (Sl.own (.dict ds))=>.ok (.dict ds)
 |_=>.no
def Ro(i:Nat)(g:JL zG c es gs)(L:c.X.N[i]?=some x:=by rfl)(Y:OR c.X.env.scope x:=by first|exact iq rfl|exact f9 (iq rfl)|exact f9 (f9 rfl))(S:(x==("__debug__" : Str))=false:=by decide)
  (k:(x==("__classdict__" : Str))=false:=by decide) (hs:aP (.Name x ps::es) c.X.env=(false,eI (.Name x ps) c.X.env)::aP es c.X.env:=by rfl):JL zG c (.Name x ps::es) (aa (Du i) gs):=.of λρ=>XX (iR (r9 L Y S k) (g.run ρ) hs) λn H Q h=>by
 obtain⟨H0,a0,la,Hs,f,q⟩:=h;have G:∀d v,Du i ρ=.ok d->n[i]?=some (some v)->RD c.X.K (uW zG H Hs) v d->∃v,n[i]?=some (some v)/\UT zG c.X.K c.cls c.E ρ (gs ρ) n H (λI H'=>Q (v::I) H'):=λd v O j P=>by
  refine⟨v,j,?_⟩;unfold aa at q;rw[O,bind_ok] at q;refine Yi f q λds I M p e2 B f2 U=>?_;rw[e2,bind_ok] at q;exact q _ M p B (.cons (P.same (UR B)) U)
 cases g:ρ[i]? with
 |none=>unfold aa at q;simp only[Du,g] at q;exact q.elim
 |some s=>
  cases s with
  |shr d=>
   obtain⟨v,j,t⟩:=f.sh i d g;obtain⟨w,m,l⟩:=G d v (by simp only[Du,g]) j (t.same nz);exact⟨w,m,l⟩
  |no=>unfold aa at q;simp only[Du,g] at q;exact q.elim
  |lck d=>unfold aa at q;simp only[Du,g] at q;exact q.elim
  |ow2 d=>unfold aa at q;simp only[Du,g] at q;exact q.elim
  |own d=>
   cases d with
   |dict ds=>
    obtain⟨a,o,j,t,y,h4,A⟩:=f.ow i _ g;have T:zG o=true:=by cases A<;>rfl
    have Z:=G _ _ (by simp only[Du,g]) j ((A.share y).same λb u e=>?_)
    ·obtain⟨w,m,l⟩:=Z;exact⟨w,m,l⟩
    by_cases z:b=a
    ·subst z;rw[bc] at e;cases e;exact AS t y T
    ·rw[bh z] at e;exact nz b u e
   |none=>unfold aa at q;simp only[Du,g] at q;exact q.elim
   |bool _=>unfold aa at q;simp only[Du,g] at q;exact q.elim
   |int _=>unfold aa at q;simp only[Du,g] at q;exact q.elim
   |str _=>unfold aa at q;simp only[Du,g] at q;exact q.elim
   |list _=>unfold aa at q;simp only[Du,g] at q;exact q.elim
   |tuple _=>unfold aa at q;simp only[Du,g] at q;exact q.elim
def okR(ok:D->Bool):R D->R D
 |.ok d=>if ok d then .ok d else .no
 |.ex c none=>.ex c none
 |_=>.no
def GR(ok:D->Bool)(n:Nat)(F:List D->R D)(a:aE->R (List D)):aE->R D:=λρ=>(a ρ).bind λds=>if ds.length=n then okR ok (F ds) else .no
def jcl(L:q0p p ok)(G:Fn c.X.prog c.X.w c.X.K c.X.mg c.X.base c.cls x k n F)(N:m9 j c.X.A)(hx:sO (C0 c.X.prog c.X.w) c.X c.E)(M:JL p c (e::es) gs)
  (Y:k<=j:=by decide) (hg:Gl c.X x:=by exact rfl) (l:(x==("__debug__" : Str))=false:=by decide) (he:aP (e::es) c.X.env=(false,eI e c.X.env)::aP es c.X.env:=by rfl) (B:(iz pos (aP es c.X.env)).any (·.1)=false:=by rfl):
  JE c (.Call (.Name x pn) (e::es) [] pos) (GR ok n F gs):=.of λρ=>by
 obtain⟨f,fd,ps,O,S,u,P⟩:=G.ex;refine sS (La (E:=c.E) O (N.mono Y) hg S u P .nil hx (M.run ρ) l he B) λσ H Q h=>?_;obtain⟨H0,a0,la,Hs,fr,q⟩:=h;refine Yi fr q λds vs I a T s1 o U=>?_;unfold GR at q;rw[T,bind_ok] at q;by_cases t:ds.length=n
 ·rw[if_pos t] at q;show Uw _ _ _ _ (vs++[]) _ _ _;rw[b_];refine⟨uW p I a,ds,Rl o.st.sub,t,U,?_⟩;cases i:F ds with
  |no=>rw[i] at q;exact q.elim
  |ex y m=>
   rw[i] at q;cases m with
   |some d=>exact q.elim
   |none=>exact λs b g=>by have z:=q s (yt p I a b) (s1.trans (Ds o.st.sub g));exact z
  |ok d=>
   rw[i] at q;unfold okR at q;simp only at q;by_cases ho:ok d=true
   ·rw[if_pos ho] at q;exact λv s b g r2=>q v s _ (s1.trans (Ds o.st.sub g)) (L.rd g ho r2)
   ·rw[if_neg ho] at q;exact q.elim
 ·rw[if_neg t] at q;exact q.elim
end J
namespace L2
open PySem PySem.Spec PyProof.Rows
end L2
namespace L2
open PySem PySem.Spec PyProof.Rows
inductive q0q (X:Cx) (CX:Pu) (E:XK) (t:TA) (σ:St) (Q:VK) (v:V) (H1:Hp):Prop
 |mk (k:Nat) (f:ap) (fd:ig) (ps:List Str) (sp:Sp) (h0:v=.ref f) (F:uS X.prog X.w X.K X.mg X.base CX k f fd ps sp) (hr:m9 k X.A) (hk:gN X.K (.ref f)=true) (hb:mL X.K fd ps []) (q:VX sp [] E t σ H1 Q):q0q X CX E t σ Q v H1
end L2
namespace J
open PySem L2
inductive GS (c:C) (n j:Nat):List bj->List (List D->R D)->List ap->Prop
 |nil:GS c n j [] [] []
 |cons {x:Str}{p:Pos}{F:List D->R D}{k:Nat}{f:ap}{fd:ig}{ps:List Str}{es:List bj}{Fs:List (List D->R D)}{as:List ap} (hf:uS c.X.prog c.X.w c.X.K c.X.mg c.X.base (C0 c.X.prog c.X.w) k f fd ps (Uw c.X.K c.cls n F)) (hm:c.X.mg x=some (.ref f)) (hk:gN c.X.K (.ref f)=true) (hb:mL c.X.K fd ps []) (hj:k<=j) (hg:Gl c.X x) (hdb:(x==("__debug__" : Str))=false) (r:GS c n j es Fs as):GS c n j (.Name x p::es) (F::Fs) (f::as)
inductive Rp (c:C) (n j:Nat) (F:List D->R D) (f:ap):Prop
 |mk (k:Nat) (fd:ig) (ps:List Str) (hf:uS c.X.prog c.X.w c.X.K c.X.mg c.X.base (C0 c.X.prog c.X.w) k f fd ps (Uw c.X.K c.cls n F)) (hk:gN c.X.K (.ref f)=true) (hb:mL c.X.K fd ps []) (hj:k<=j):Rp c n j F f
def NI(h:GS c n j es b a):∀{i:Nat}{F:List D->R D},b[i]?=some F->∃f,a[i]?=some f/\Rp c n j F f:=by
 induction h with
 |nil=>intro i F e;simp at e
 | @cons x p F k f l g es b a s v o t m w u r d=>
  intro i F e;cases i with
  |zero=>cases e;exact⟨f,rfl,k,l,g,s,o,t,m⟩
  |succ i=>have q:=d (i:=i) e;exact q
def WM(c:List (List D->R D))(n:Nat)(a:aE->R D)(b:aE->R (List D))(ρ:aE):R Fl:=(a ρ).bind λd=>match d with
 |.int k=>if 0<=k then(match c[k.toNat]? with
  |some F=>(b ρ).bind λds=>if ds.length=n then(F ds).bind λd=>.ok (.rt d) else .no
  |none=>.no) else .no
 |_=>.no
def Ek(P:GS c n j es Fs as)(S:m9 j c.X.A)(f:Fr c.X.K H0 Hs0 la ρ σ H Hs)(Q:H a=some (.lst (as.map V.ref)))(q:qE c.X.K c.cls c.E H0 Hs0 la D' (WM Fs n gi gs ρ)):
  TR c.X.K c.cls c.E ρ (gi ρ) σ H λy L=>Zq c.X.K (.ref a) y L (q0q c.X (C0 c.X.prog c.X.w) c.E (TAs c.X.K c.cls c.E ρ (gs ρ)) σ D'.rt):=by
 refine sE f q λd v L s e1 s1 o r1=>?_;unfold WM at q;rw[e1,bind_ok] at q;cases r1 with
 |int k=>
  simp only at q;by_cases B:0<=k
  ·rw[if_pos B] at q;split at q
   ·rename_i F N
    obtain⟨g,M,Y,O,ps,T,u,U,hj⟩:=NI P N;have x:IP (as.map V.ref) k=some (.ref g):=by
     have:=ua (xs:=as.map V.ref) (j:=k.toNat) (v:=V.ref g) (by rw[b9,M];rfl)
     rwa[fJ B] at this
    refine⟨a,as.map V.ref,k,.ref g,rfl,rfl,.of (s1.all _ _ Q),x,Y,g,O,ps,_,rfl,T,S.mono hj,u,U,H0,Hs0,la,s,o,?_⟩;cases G:gs ρ with
    |no=>rw[G] at q;exact q.elim
    |ex y m=>rw[G] at q;exact λI b z=>q I b (o.st.trans z)
    |ok ds=>
     rw[G,bind_ok] at q;intro vs I b z r3;have p:=o.step z;by_cases t:ds.length=n
     ·rw[if_pos t] at q;show Uw _ _ _ _ (vs++[]) _ _ _;rw[b_];refine⟨b,ds,p.st.sub,t,r3,?_⟩;cases h:F ds with
      |no=>rw[h] at q;exact q.elim
      |ex y m=>rw[h] at q;exact λl e i=>q l e (p.st.trans i)
      |ok d=>rw[h] at q;exact λv l e i r4=>q v l e (p.st.trans i) r4
     ·rw[if_neg t] at q;exact q.elim
   ·exact q.elim
  ·rw[if_neg B] at q;exact q.elim
 |list _ _=>exact q.elim
 |none=>exact q.elim
 |bool _=>exact q.elim
 |str _=>exact q.elim
 |tuple _ _=>exact q.elim
 |dictK _ _=>exact q.elim
 |dictT _ _ _=>exact q.elim
 |dictF _ _ _=>exact q.elim
end J
namespace TS
open PySem PyProof.Rows
def UU:Bool->cU->Array cU->Nat->Nat->Nat->StateT fk Sem (Option Nat):=sortPriv% PySem.Builtin.gallop
section
variable{prog:bg}{w:bL}{A:cy}{E:ag->ak->Prop}{s:ak}{kd:mD}{rk:ag->Nat}{L:List cU}
def Cp(prog:bg)(w:bL)(A:cy)(s:ak)(kd:mD)(rk:ag->Nat)(L:List cU):Prop:=
 ∀x∈L,∀y∈L,∀(Q:Bool->ak->Prop) (E:ag->ak->Prop),Q (decide (rk x.1<rk y.1)) s->aq (ax prog w) A (keyLt' kd x.1 y.1) Q E s
def Rq{x y:cU}{Q:Option Bool->fk->Prop}{st:fk}(a:Cp prog w A s kd rk L)(c:kindOf st=kd)(d:x∈L)(b:y∈L)
  (h:Q (some (decide (rk x.1<rk y.1))) st):wpS (ax prog w) A E s (lt' x y) Q st:=by
 rw[lt'_eq];refine aF (oE ?_);rw[c];exact aF (uP (lB (a x d y b _ _ ⟨rfl,aW h⟩)))
def gR{a:Array cU}{i:Nat}{p:cU}{Q:cU->fk->Prop}{st:fk}(b:a[i]?=some p)(h:Q p st):wpS (ax prog w) A E s (elem' a i) Q st:=by
 rw[elem'_eq,b];exact aW h
structure Run (rk:ag->Nat) (L:List cU) (a:Array cU) (b n:Nat) (g:Nat->Nat):Prop where
 at_:∀i,i<n->∃p,a[b+i]?=some p/\p∈L/\rk p.1=g i
 up:∀i j,i<j->j<n->g i<g j
variable{l:Bool}{k:cU}{a:Array cU}{b n h i:Nat}{g:Nat->Nat}{st:fk}
def LW(d:Cp prog w A s kd rk L)(f:kindOf st=kd)(t:Run rk L a b n g)(j:k∈L)(c:∀i,i<n->g i≠rk k.1)(q:i<n)
  (h:Q (some (decide (g i<rk k.1))) st):wpS (ax prog w) A E s (do
   let x <- elem' a (b+i)
   if l=true then lt' x k else do
    let o <- lt' k x
    pure (o.map (λx=>!x))) Q st:=by
 obtain⟨p,e,m,r⟩:=t.at_ i q;refine aF (gR e ?_);cases l with
 |true=>rw[if_pos rfl];refine Rq d f m j ?_;rw[r];exact h
 |false=>
  rw[if_neg ⋯];refine aF (Rq d f j m (aW ?_));have e:(!decide (rk k.1<rk p.1))=decide (g i<rk k.1):=by
   have:=c i q;rw[r];rcases Nat.lt_trichotomy (g i) (rk k.1) with h|h|h
   ·simp[h,cE h]
   ·exact absurd h this
   ·simp[h,Nat.not_lt.2 (cE h)]
  rw[dG,e];exact h
def qI(T:Cp prog w A s kd rk L)(U:kindOf st=kd)(P:Run rk L a b n g)(X:k∈L)(G:∀i,i<n->g i≠rk k.1)(hh:h<n)
  (q:∀m,m<=n->(∀i,i<m->g i<rk k.1)->(∀i,m<=i->i<n->rk k.1<g i)->Q (some m) st):wpS (ax prog w) A E s (UU l k a b n h) Q st:=by
 have p:∀j,j<n->g j<rk k.1->∀i,i<j+1->g i<rk k.1:=λj hj Y i O=>by
  rcases dD i j with h|h
  ·exact f_ (P.up i j h hj) Y
  ·rw[show i=j by omega];exact Y
 have o:∀j,j<n->¬ g j<rk k.1->∀i,j<=i->i<n->rk k.1<g i:=λj hj Y i O hn=>by
  have h1:=G j hj;have K:rk k.1<g j:=by omega
  rcases dD j i with h|h
  ·exact f_ K (P.up j i h hn)
  ·rw[show i=j by omega];exact K
 refine aF (LW T U P X G hh ?_);dsimp (config:={zeta:=false}) only;extract_lets jp;have J:∀x y lo O,lo<=O->O<=n->(∀i,i<lo->g i<rk k.1)->(∀i,O<=i->i<n->rk k.1<g i)->wpS (ax prog w) A E s (jp () x y lo O) Q st:=by
  intro x y lo O h1 K h3 h4;refine aF (fM (dI (I:=λx c d=>d=st/\∃l r,c=(none,l,r)/\l<=r/\r<=n/\r-l<=n-x/\(∀i,i<l->g i<rk k.1)/\(∀i,r<=i->i<n->rk k.1<g i))
   (Q:=λc d=>d=st/\∃l,c=(none,l,l)/\l<=n/\(∀i,i<l->g i<rk k.1)/\(∀i,l<=i->i<n->rk k.1<g i)) ?_ ?_ ⟨rfl,lo,O,rfl,h1,K,by omega,h3,h4⟩) ?_)
  ·rintro x c d - S ⟨rfl,l,r,rfl,B,H,z,f,t⟩;dsimp only;by_cases e:l ≥ r
   ·rw[if_pos e];have:l=r:=by omega
    subst this;exact aW ⟨rfl,l,rfl,H,f,t⟩
   ·rw[if_neg e];refine aF (LW T U P X G ∅ ?_);dsimp only;by_cases N:g (l+(r-l) / 2)<rk k.1
    ·rw[if_pos (by simpa using N)];exact aW ⟨rfl,_,r,rfl,by omega,H,by omega,p _ ∅ N,t⟩
    ·rw[if_neg (by simpa using N)];exact aW ⟨rfl,l,_,rfl,by omega,by omega,by omega,f,o _ ∅ N⟩
  ·rintro c d ⟨rfl,l,r,rfl,B,H,z,f,t⟩;have:l=r:=by omega
   subst this;exact⟨rfl,l,rfl,H,f,t⟩
  ·rintro c d ⟨rfl,l,rfl,H,f,t⟩;exact aW (q l H f t)
 by_cases N:g h<rk k.1
 ·rw[if_pos (by simpa using N)];refine aF (fM (dI (I:=λx c d=>d=st/\∃u v,c=(none,u,v)/\u<v/\x<v/\h+u<n/\g (h+u)<rk k.1)
   (Q:=λc d=>d=st/\∃u v,c=(none,u,v)/\u<v/\h+u<n/\g (h+u)<rk k.1/\(n-h<=v\/(h+v<n/\¬ g (h+v)<rk k.1))) ?_ ?_ ⟨rfl,0,1,rfl,by omega,by omega,by omega,N⟩) ?_)
  ·rintro x c d - S ⟨rfl,u,v,rfl,B,H,z,f⟩;dsimp only;by_cases e:v ≥ n-h
   ·rw[if_pos e];exact aW ⟨rfl,u,v,rfl,B,z,f,.inl e⟩
   ·rw[if_neg e];refine aF (LW T U P X G ∅ ?_);dsimp only;by_cases M:g (h+v)<rk k.1
    ·rw[if_neg (by simp[M])];exact aW ⟨rfl,v,_,rfl,by omega,by omega,by omega,M⟩
    ·rw[if_pos (by simp[M])];exact aW ⟨rfl,u,v,rfl,B,z,f,.inr ⟨by omega,M⟩⟩
  ·rintro c d ⟨rfl,u,v,rfl,B,H,z,f⟩;exact⟨rfl,u,v,rfl,B,z,f,.inl ∅⟩
  ·rintro c d ⟨rfl,u,v,rfl,B,z,f,t⟩;refine J u v (h+u+1) (h+min v (n-h)) ∅ ∅ (p _ z f) ?_;rcases Nat.le_total (n-h) v with h1|h1
   ·intro i K h3;rw[Nat.min_eq_right h1] at K;omega
   ·rcases t with t|⟨t,a6⟩
    ·intro i K h3;rw[nK h1] at K;omega
    ·rw[nK h1];exact o _ t a6
 ·rw[if_neg (by simpa using N)];refine aF (fM (dI (I:=λx c d=>d=st/\∃u v,c=(none,u,v)/\u<v/\x<v/\u<=h/\¬ g (h-u)<rk k.1)
   (Q:=λc d=>d=st/\∃u v,c=(none,u,v)/\u<v/\u<=h/\¬ g (h-u)<rk k.1/\(h+1<=v\/(v<=h/\g (h-v)<rk k.1))) ?_ ?_ ⟨rfl,0,1,rfl,by omega,by omega,by omega,N⟩) ?_)
  ·rintro x c d - S ⟨rfl,u,v,rfl,B,H,z,f⟩;dsimp only;by_cases e:v ≥ h+1
   ·rw[if_pos e];exact aW ⟨rfl,u,v,rfl,B,z,f,.inl e⟩
   ·rw[if_neg e];refine aF (LW T U P X G ∅ ?_);dsimp only;by_cases M:g (h-v)<rk k.1
    ·rw[if_pos (by simp[M])];exact aW ⟨rfl,u,v,rfl,B,z,f,.inr ⟨by omega,M⟩⟩
    ·rw[if_neg (by simp[M])];exact aW ⟨rfl,v,_,rfl,by omega,by omega,by omega,M⟩
  ·rintro c d ⟨rfl,u,v,rfl,B,H,z,f⟩;exact⟨rfl,u,v,rfl,B,z,f,.inl ∅⟩
  ·rintro c d ⟨rfl,u,v,rfl,B,z,f,t⟩;refine J u v (h+1-min v (h+1)) (h-u) ∅ ∅ ?_ (o _ ∅ f);rcases t with t|⟨t,a6⟩
   ·intro i K;omega
   ·intro i K;exact p (h-v) ∅ a6 i ∅
end
structure Mg {α:Type} (lt:α->α->Prop) (T out ra rb:List α):Prop where
 perm:(out++ra++rb).Perm T
 so:out.Pairwise lt
 sa:ra.Pairwise lt
 sb:rb.Pairwise lt
 oa:∀x∈out,∀y∈ra,lt x y
 ob:∀x∈out,∀y∈rb,lt x y
section
variable{α:Type}{lt:α->α->Prop}{T out ra rb p:List α}
def Mg.comm(h:Mg lt T out ra rb):Mg lt T out rb ra:=
 ⟨by
  refine qW ?_ h.perm;rw[fz,fz];exact List.Perm.append_left _ List.perm_append_comm,h.so,h.sb,h.sa,h.ob,h.oa⟩
def Mg.take(h:Mg lt T out (p++ra) rb)(d:∀x∈p,∀y∈rb,lt x y):Mg lt T (out++p) ra rb:=by
 have c:=iu.1 h.sa;refine⟨by simpa[fz] using h.perm,iu.2 ⟨h.so,c.1,λx a y b=>h.oa x a y (bF _ b)⟩,c.2.1,h.sb,?_,?_⟩
 ·intro x a y b;rcases bD.1 a with a|a
  ·exact h.oa x a y (aA _ b)
  ·exact c.2.2 x a y b
 ·intro x a y b;rcases bD.1 a with a|a
  ·exact h.ob x a y b
  ·exact d x a y b
def Mg.fin(h:Mg lt T out ra rb)(c:∀x∈ra,∀y∈rb,lt x y):(out++ra++rb).Perm T/\(out++ra++rb).Pairwise lt:=
 ⟨h.perm,iu.2 ⟨iu.2 ⟨h.so,h.sa,h.oa⟩,h.sb,λx a y b=>(bD.1 a).elim (λa=>h.ob x a y b) λa=>c x a y b⟩⟩
end
section
variable{a:Array cU}{i k:Nat}{x:cU}
def GT(h:x∈a.toList.drop i):∃j,i<=j/\a[j]?=some x:=by
 obtain⟨n,b⟩:=m6.1 h;rw[xP] at b;exact⟨i+n,by omega,by rw[<- aO];exact b⟩
def qh(h:x∈(a.toList.drop i).take k):∃j,i<=j/\j<i+k/\a[j]?=some x:=by
 obtain⟨n,b⟩:=m6.1 h;rw[OQ] at b;split at b
 ·rw[xP] at b;exact⟨i+n,by omega,by omega,by rw[<- aO];exact b⟩
 ·cases b
theorem GU(h:x∈a.toList.take k):∃j,j<k/\a[j]?=some x:=by
 obtain⟨j,_,c,b⟩:=qh (i:=0) (k:=k) h;exact⟨j,by omega,b⟩
def fY(h:a[i]?=some x):x∈a.toList:=by
 rw[<- aO] at h;exact ip h
def LX(h:a[i]?=some x):a.toList.drop i=[x]++a.toList.drop (i+1):=by
 rw[<- aO] at h;obtain⟨b,rfl⟩:=qr.1 h;exact E2 b
def LY(h:a[i]?=some x):a.toList.take (i+1)=a.toList.take i++[x]:=by
 rw[<- aO] at h;rw[P7,h];rfl
def Dv:a.toList.drop i=(a.toList.drop i).take k++a.toList.drop (i+k):=by
 rw[<- v8];exact(hJ k _).symm
def gS(h:i<a.size):∃p,a[i]?=some p:=⟨a[i],bC h⟩
def GV:(a.extract i (i+k)).toList=(a.toList.drop i).take k:=by
 rw[ik,fB,List.take_drop]
def ug:(a.extract i a.size).toList=a.toList.drop i:=by
 rw[ik,fB];rw[lE (by simp)]
end
def UV(rk:ag->Nat)(a:Array cU):Prop:=∀(i j:Nat) (p q:cU),i<j->a[i]?=some p->a[j]?=some q->rk p.1<rk q.1
def eL(rk:ag->Nat)(a:Array cU)(i:Nat):Nat:=(a[i]?.map λp=>rk p.1).getD 0
section
variable{rk:ag->Nat}{a:Array cU}{L:List cU}
def bR(h:a[i]?=some p):eL rk a i=rk p.1:=by unfold eL;rw[h];rfl
def UV.pw(h:UV rk a):a.toList.Pairwise λx y=>rk x.1<rk y.1:=by
 rw[qt];intro i j d c b;exact h i j _ _ b (by rw[<- aO];exact bw d) (by rw[<- aO];exact bw c)
def UV.run(h:UV rk a)(f:∀p∈a.toList,p∈L)(k:b+n<=a.size):Run rk L a b n (λi=>eL rk a (b+i)):=by
 refine⟨λi l=>?_,λi j e g=>?_⟩
 ·obtain⟨p,c⟩:=gS (a:=a) (i:=b+i) ∅;exact⟨p,c,f p (fY c),(bR c).symm⟩
 ·obtain⟨p,c⟩:=gS (a:=a) (i:=b+i) ∅;obtain⟨q,d⟩:=gS (a:=a) (i:=b+j) ∅;show eL rk a _<eL rk a _;rw[bR c,bR d];exact h _ _ p q ∅ c d
end
def Rr:Array cU->Array cU->StateT fk Sem (Array cU):=sortPriv% PySem.Builtin.mergeLo
def q0r:Nat->StateT fk Sem Unit:=sortPriv% PySem.Builtin.setMinGallop
def Sm(st a:fk):Prop:=kindOf a=kindOf st/\aV a=aV st/\c7 a=c7 st/\y0 a=y0 st
section
variable{prog:bg}{w:bL}{A:cy}{E:ag->ak->Prop}{s:ak}{kd:mD}{rk:ag->Nat}{L:List cU}{st st':fk}
def Sm.rfl:Sm st st:=⟨Tz _,Tz _,Tz _,Tz _⟩
def EM(a:Sm st0 st)(h:∀st',Sm st0 st'->Q () st'):wpS (ax prog w) A E s (q0r n) Q st:=
 q_ (h _ a)
structure Rs (rk:ag->Nat) (L:List cU) (a b:Array cU):Prop where
 sa:UV rk a
 sb:UV rk b
 la:∀p∈a.toList,p∈L
 lb:∀p∈b.toList,p∈L
 ne:∀p∈a.toList,∀q∈b.toList,rk p.1≠rk q.1
def Yj(rk:ag->Nat)(x y:cU):Prop:=rk x.1<rk y.1
def qJ(rk:ag->Nat)(a b r:Array cU):Prop:=r.toList.Perm (a.toList++b.toList)/\r.toList.Pairwise (Yj rk)
def V(rk:ag->Nat)(a b out:Array cU)(d c:Nat):Prop:=Mg (Yj rk) (a.toList++b.toList) out.toList (a.toList.drop d) (b.toList.drop c)
variable{a b out:Array cU}{ia ib k:Nat}{p q:cU}
def A4{x y:cU}(t:UV rk b)(c:b[ib]?=some q)(h:rk x.1<rk q.1)(d:y∈b.toList.drop ib):rk x.1<rk y.1:=by
 obtain⟨j,f,e⟩:=GT d;rcases dD ib j with h1|h1
 ·exact f_ h (t _ _ _ _ h1 c e)
 ·rw[show j=ib by omega,c] at e;cases e;exact h
theorem V.pushA(v:V rk a b out ia ib)(t:Rs rk L a b)(c:a[ia]?=some p)(e:b[ib]?=some q)(h:rk p.1<rk q.1):V rk a b (out.push p) (ia+1) ib:=by
 unfold V at *;rw[jj];rw[LX c] at v;exact v.take λx f y d=>by
  rw[bN.1 f];exact A4 t.sb e h d
theorem V.pushB(v:V rk a b out ia ib)(t:Rs rk L a b)(c:a[ia]?=some p)(e:b[ib]?=some q)(h:rk q.1<rk p.1):V rk a b (out.push q) ia (ib+1):=by
 unfold V at *;rw[jj];rw[LX e] at v;exact(v.comm.take λx f y d=>by
  rw[bN.1 f];exact A4 t.sa c h d).comm
theorem V.moreA(v:V rk a b out ia ib)(t:Rs rk L a b)(d:b[ib]?=some q)(h:∀i,i<k->eL rk a (ia+i)<rk q.1):V rk a b (out++a.extract ia (ia+k)) (ia+k) ib:=by
 unfold V at *;rw[cJ,GV];rw[Dv (k:=k)] at v;exact v.take λx f y c=>by
  obtain⟨j,g,l,e⟩:=qh f;refine A4 t.sb d ?_ c;have:=h (j-ia) ∅
  rwa[show ia+(j-ia)=j by omega,bR e] at this
theorem V.moreB(v:V rk a b out ia ib)(t:Rs rk L a b)(c:a[ia]?=some p)(h:∀i,i<k->eL rk b (ib+i)<rk p.1):V rk a b (out++b.extract ib (ib+k)) ia (ib+k):=by
 unfold V at *;rw[cJ,GV];rw[Dv (a:=b) (k:=k)] at v;exact(v.comm.take λx f y d=>by
  obtain⟨j,g,l,e⟩:=qh f;refine A4 t.sa c ?_ d;have:=h (j-ib) ∅
  rwa[show ib+(j-ib)=j by omega,bR e] at this).comm
theorem V.done(v:V rk a b out ia ib)(h:ib=b.size):qJ rk a b (out++a.extract ia a.size++b.extract ib b.size):=by
 unfold V at v;have e:b.toList.drop ib=[]:=IK (by simp[h]);unfold qJ;rw[cJ,cJ,ug,ug];exact v.fin λx _ y c=>by rw[e] at c;cases c
theorem V.last(v:V rk a b out ia ib)(c:a[ia]?=some p)(h:ia+1=a.size)(g:∀y∈b.toList,rk y.1<rk p.1):qJ rk a b (out++b.extract ib b.size++a.extract ia a.size):=by
 unfold V at v;unfold qJ;rw[cJ,cJ,ug,ug];refine v.comm.fin λx f y d=>?_;obtain⟨j,i,e⟩:=GT d;have:j<a.size:=by
  rcases dD j a.size with h|h
  ·exact h
  ·rw[cW h] at e;cases e
 rw[show j=ia by omega,c] at e;cases e;exact g x (List.mem_of_mem_drop f)
def fP{d:Type}{c:Prop}[Decidable c]{f e:StateT fk Sem d}{Q:d->fk->Prop}(g:c->wpS (ax prog w) A E s f Q st)(i:¬ c->wpS (ax prog w) A E s e Q st):wpS (ax prog w) A E s (if c then f else e) Q st:=by
 by_cases h:c
 ·rw[if_pos h];exact g h
 ·rw[if_neg h];exact i h
def kR{c:Type}{m n:Nat}{f d:StateT fk Sem c}{Q:c->fk->Prop}(g:m=n->wpS (ax prog w) A E s f Q st)(i:m≠n->wpS (ax prog w) A E s d Q st):wpS (ax prog w) A E s (if(m==n)=true then f else d) Q st:=
 fP (λh=>g (beq_iff_eq.1 h)) λh=>i λe=>h (beq_iff_eq.2 e)
def GP(rk:ag->Nat)(a b:Array cU)(x:Nat)(st:fk)(r:ForInStep (Option (Array cU)×Array cU×Nat×Nat×Nat×Nat×Nat))(st':fk):Prop:=Sm st st'/\match r with
 |.done c=>(∃r z,c=(some r,z)/\qJ rk a b r)\/∃out ia ib g d e,c=(none,out,ia,ib,g,d,e)/\V rk a b out ia ib/\ia+1<a.size/\ib<b.size/\x+2<=ia+ib
 |.yield c=>∃out ia ib g d e,c=(none,out,ia,ib,g,d,e)/\V rk a b out ia ib/\ia+1<a.size/\ib<b.size/\x+2<=ia+ib
theorem NJ(hC:Cp prog w A s kd rk L)(hk:kindOf st=kd)(t:Rs rk L a b)
  (M:a[0]?=some p0) (N:b[0]?=some q0) (h0:rk q0.1<rk p0.1) (hl:∀p,a[a.size-1]?=some p->∀y∈b.toList,rk y.1<rk p.1)
  (h:∀r st',Sm st st'->qJ rk a b r->Q r st'):wpS (ax prog w) A E s (Rr a b) Q st:=by
 have j:∀{ia p out ib},V rk a b out ia ib->ia+1=a.size->a[ia]?=some p->qJ rk a b (out++b.extract ib b.size++a.extract ia a.size):=λv e d=>v.last d e (hl _ (by rw[<- e];exact d));have V0:V rk a b #[q0] 0 1:=V.pushB (out:=#[]) ⟨by simp,by simp,t.sa.pw,t.sb.pw,by simp,by simp⟩ t M N h0;have c4:0<a.size:=by
  rcases hG a.size with e|e
  ·rw[cW ∅] at M;cases M
  ·exact e
 have b6:0<b.size:=by
  rcases hG b.size with e|e
  ·rw[cW ∅] at N;cases N
  ·exact e
 refine aF (uP (cK ⟨rfl,?_⟩));refine aF (gR N ?_);refine kR (m:=1) (n:=b.size) (λe1=>aW (h _ _ .rfl (V0.done e1))) λe1=>?_;refine kR (m:=0+1) (n:=a.size) (λe2=>aW (h _ _ .rfl (j V0 e2 M))) λe2=>?_;refine aF (oE ?_);refine aF (fM (dI
  (I:=λx c st'=>Sm st st'/\∃out ia ib g,c=(none,out,ia,ib,g)/\V rk a b out ia ib/\ia+1<a.size/\ib<b.size/\x+1<=ia+ib)
  (Q:=λc st'=>Sm st st'/\∃r z,c=(some r,z)/\qJ rk a b r) ?step ?fin ⟨.rfl,_,0,1,_,rfl,V0,by omega,by omega,by omega⟩) ?post)
 case fin=>
  rintro c st' ⟨_,out,ia,ib,g,rfl,v,B,u,O⟩;omega
 case post=>
  rintro c st' ⟨m,r,z,rfl,f⟩;exact aW (h r st' m f)
 case step=>
  rintro x c c0-hx ⟨m1,out,ia,ib,g,rfl,v,B,u,O⟩;refine aF (fM (dI
   (I:=λy c st'=>Sm st st'/\∃out ia ib o l,c=(none,out,ia,ib,o,l)/\V rk a b out ia ib/\ia+1<a.size/\ib<b.size/\x+1+y<=ia+ib)
   (Q:=λc st'=>Sm st st'/\((∃r z,c=(some r,z)/\qJ rk a b r)\/∃out ia ib o l,c=(none,out,ia,ib,o,l)/\V rk a b out ia ib/\ia+1<a.size/\ib<b.size/\x+2<=ia+ib))
   ?istep ?ifin ⟨m1,out,ia,ib,0,0,rfl,v,B,u,by omega⟩) ?ipost)
  case ifin=>
   rintro c st' ⟨m,out,ia,ib,o,l,rfl,v,B,u,O⟩;exact⟨m,.inr ⟨out,ia,ib,o,l,rfl,v,B,u,by omega⟩⟩
  case istep=>
   rintro y c st' - hy ⟨m,out,ia,ib,o,l,rfl,v,B,u,O⟩;dsimp only;obtain⟨p,d⟩:=gS (a:=a) (i:=ia) ∅;obtain⟨q,G⟩:=gS u;refine aF (gR G (aF (gR d (aF (Rq hC (m.1.trans hk) (t.lb q (fY G)) (t.la p (fY d)) ?_)))));dsimp only;by_cases U:rk q.1<rk p.1
   ·rw[if_pos (by simpa using U)];refine aF (gR G ?_);have S:=v.pushB t d G U;by_cases X:ib+1=b.size
    ·rw[if_pos (by simpa using X)];exact aW ⟨m,.inl ⟨_,_,rfl,S.done X⟩⟩
    rw[if_neg (by simpa using X)];by_cases e4:l+1 ≥ g
    ·rw[if_pos e4];exact aW ⟨m,.inr ⟨_,_,_,_,_,rfl,S,B,by omega,by omega⟩⟩
    ·rw[if_neg e4];exact aW ⟨m,_,_,_,_,_,rfl,S,B,by omega,by omega⟩
   ·rw[if_neg (by simpa using U)];have Y:rk p.1<rk q.1:=by have:=t.ne p (fY d) q (fY G);omega
    refine aF (gR d ?_);have S:=v.pushA t d G Y;by_cases X:ia+1+1=a.size
    ·rw[if_pos (by simpa using X)];obtain⟨p',T⟩:=gS (a:=a) (i:=ia+1) ∅;exact aW ⟨m,.inl ⟨_,_,rfl,j S X T⟩⟩
    rw[if_neg (by simpa using X)];by_cases e4:o+1 ≥ g
    ·rw[if_pos e4];exact aW ⟨m,.inr ⟨_,_,_,_,_,rfl,S,by omega,u,by omega⟩⟩
    ·rw[if_neg e4];exact aW ⟨m,_,_,_,_,_,rfl,S,by omega,u,by omega⟩
  case ipost=>
   rintro c a3 ⟨m2,⟨r,z,rfl,f⟩|⟨out,ia,ib,o,l,rfl,v,B,u,O⟩⟩
   ·exact aW ⟨m2,r,_,rfl,f⟩
   refine aF (uP (cK ⟨rfl,?_⟩));refine aF (fM (dI
    (I:=λy c st'=>Sm st st'/\∃out ia ib g o l,c=(none,out,ia,ib,g,o,l)/\V rk a b out ia ib/\ia+1<a.size/\ib<b.size/\x+2<=ia+ib)
    (Q:=λc st'=>Sm st st'/\((∃r z,c=(some r,z)/\qJ rk a b r)\/∃out ia ib g o l,c=(none,out,ia,ib,g,o,l)/\V rk a b out ia ib/\ia+1<a.size/\ib<b.size/\x+2<=ia+ib))
    ?gstep ?gfin ⟨m2,out,ia,ib,_,o,l,rfl,v,B,u,by omega⟩) ?gpost)
   case gfin=>
    rintro c st' ⟨m,out,ia,ib,g,o,l,rfl,v,B,u,O⟩;exact⟨m,.inr ⟨out,ia,ib,g,o,l,rfl,v,B,u,O⟩⟩
   case gpost=>
    rintro c a3 ⟨m2,⟨r,z,rfl,f⟩|⟨out,ia,ib,g,o,l,rfl,v,B,u,O⟩⟩
    ·exact aW ⟨m2,r,_,rfl,f⟩
    exact aF (EM m2 λst' K=>aW ⟨K,out,ia,ib,_,rfl,v,B,u,O⟩)
   case gstep=>
    rintro y c st' - hy ⟨m,out,ia,ib,g,o,l,rfl,v,B,u,O⟩;extract_lets s1 a5 s2 b8 s3 d1 s4 g' s5 a6 d0 b7 jp;have J:∀g,wpS (ax prog w) A E s (jp () g) (GP rk a b x st) st':=by
     intro g;obtain⟨q,G⟩:=gS u;have sa:=t.sa.run (b:=ia) (n:=a.size-ia) t.la ∅;have na:∀i,i<a.size-ia->eL rk a (ia+i)≠rk q.1:=λi hi=>by
      obtain⟨p,d⟩:=gS (a:=a) (i:=ia+i) ∅;rw[bR d];exact t.ne p (fY d) q (fY G)
     refine aF (EM m λst' K=>?_);refine aF (gR (a:=b) (i:=ib) G ?_);refine aF (qI (a:=a) (b:=ia) (n:=a.size-ia) (h:=0) hC (K.1.trans hk) sa (t.lb q (fY G)) na ∅ λk k1 k2 k3=>?_);have v1:=v.moreA t G k2;have k4:ia+k<a.size:=by
      obtain⟨p,d⟩:=gS (a:=a) (i:=a.size-1) ∅;rcases dD (ia+k) a.size with h|h
      ·exact h
      ·have h4:=k2 (a.size-1-ia) ∅;have h5:=hl p d q (fY G);rw[show ia+(a.size-1-ia)=a.size-1 by omega,bR d] at h4;omega
     obtain⟨p,d⟩:=gS k4;have a0:rk q.1<rk p.1:=by
      have:=k3 k ∅ ∅
      rwa[bR d] at this
     dsimp (config:={zeta:=false}) only;extract_lets nn a4;have J1:∀out,V rk a b out (ia+k) ib->ia+k+1<a.size->wpS (ax prog w) A E s (a4 () out (ia+k)) (GP rk a b x st) st':=by
      intro out v1 k5;refine aF (gR (a:=b) (i:=ib) G ?_);have v2:=v1.pushB t d G a0;refine kR (m:=ib+1) (n:=b.size) (λe=>aW ⟨K,.inl ⟨_,_,rfl,v2.done e⟩⟩) λe=>?_;refine aF (gR (a:=a) (i:=ia+k) d ?_);have sb:=t.sb.run (b:=ib+1) (n:=b.size-(ib+1)) t.lb ∅;have nb:∀i,i<b.size-(ib+1)->eL rk b (ib+1+i)≠rk p.1:=λi hi=>by
       obtain⟨q',H⟩:=gS (a:=b) (i:=ib+1+i) ∅;rw[bR H];exact λe=>t.ne p (fY d) q' (fY H) e.symm
      refine aF (qI (a:=b) (b:=ib+1) (n:=b.size-(ib+1)) (h:=0) hC (K.1.trans hk) sb (t.la p (fY d)) nb ∅ λP c1 c2 c3=>?_);have v3:=v2.moreB t d c2;dsimp (config:={zeta:=false}) only;extract_lets d2 b0 a2;have J2:∀out,V rk a b out (ia+k) (ib+1+P)->ib+1+P<b.size->wpS (ax prog w) A E s (a2 () out (ib+1+P)) (GP rk a b x st) st':=by
       intro out v3 c5;obtain⟨q',H⟩:=gS c5;have a1:rk p.1<rk q'.1:=by
        have:=c3 P ∅ ∅
        rwa[bR H] at this
       have v4:=v3.pushA t d H a1;refine aF (gR (a:=a) (i:=ia+k) d ?_);refine kR (m:=ia+k+1+1) (n:=a.size) (λe=>?_) λe=>?_
       ·obtain⟨p',T⟩:=gS (a:=a) (i:=ia+k+1) ∅;exact aW ⟨K,.inl ⟨_,_,rfl,j v4 e T⟩⟩
       ·refine fP (λ_=>aW ⟨K,.inr ⟨_,ia+k+1,ib+1+P,_,_,_,rfl,v4,by omega,by omega,by omega⟩⟩) λ_=>aW ⟨K,_,ia+k+1,ib+1+P,_,_,_,rfl,v4,by omega,by omega,by omega⟩
      refine fP (λ_=>?_) λhz=>?_
      ·refine kR (m:=ib+1+P) (n:=b.size) (λe=>aW ⟨K,.inl ⟨_,_,rfl,v3.done e⟩⟩) λe=>J2 _ v3 ∅
      ·obtain rfl:P=0:=by omega
       exact J2 _ v2 ∅
     refine fP (λ_=>?_) λhz=>?_
     ·refine kR (m:=ia+k+1) (n:=a.size) (λe=>aW ⟨K,.inl ⟨_,_,rfl,j v1 e d⟩⟩) λe=>?_;refine kR (m:=ia+k) (n:=a.size) (λe=>by omega) λe=>J1 _ v1 ∅
     ·obtain rfl:k=0:=by omega
      exact J1 _ v ∅
    exact fM (fP (λ_=>J _) λ_=>J _) λr _ hh=>by cases r<;>exact hh
end
def Rt:Array cU->Array cU->StateT fk Sem (Array cU):=sortPriv% PySem.Builtin.mergeHi
section
variable{prog:bg}{w:bL}{A:cy}{E:ag->ak->Prop}{s:ak}{kd:mD}{rk:ag->Nat}{L:List cU}{st st':fk}
def W(rk:ag->Nat)(a b out:Array cU)(c d:Nat):Prop:=Mg (λx y=>Yj rk y x) (a.toList++b.toList) out.toList (a.toList.take c).reverse (b.toList.take d).reverse
variable{a b out:Array cU}{n m k:Nat}{p q:cU}
def A5{x y:cU}(t:UV rk b)(c:b[m]?=some q)(h:rk q.1<rk x.1)(d:y∈(b.toList.take (m+1)).reverse):rk y.1<rk x.1:=by
 obtain⟨j,f,e⟩:=GU (ms.1 d);rcases dD j m with h1|h1
 ·exact f_ (t _ _ _ _ h1 e c) h
 ·rw[show j=m by omega,c] at e;cases e;exact h
theorem W.pushA(v:W rk a b out (n+1) (m+1))(t:Rs rk L a b)(d:a[n]?=some p)(f:b[m]?=some q)(h:rk q.1<rk p.1):W rk a b (out.push p) n (m+1):=by
 unfold W at *;rw[jj];rw[LY d,wv] at v;exact v.take λx c y e=>by
  rw[IL] at c;rw[bN.1 c];exact A5 t.sb f h e
theorem W.pushB(v:W rk a b out (n+1) (m+1))(t:Rs rk L a b)(d:a[n]?=some p)(f:b[m]?=some q)(h:rk p.1<rk q.1):W rk a b (out.push q) (n+1) m:=by
 unfold W at *;rw[jj];rw[LY f,wv] at v;exact(v.comm.take λx c y e=>by
  rw[IL] at c;rw[bN.1 c];exact A5 t.sa d h e).comm
def Dw{l:List cU}(h:k<=n):(l.take n).reverse=((l.take n).drop k).reverse++(l.take k).reverse:=by
 rw[<- wv];conv=>lhs;rw[<- hJ k (l.take n)]
 rw[List.take_take,nK h]
def L_:(a.extract k n).reverse.toList=((a.toList.take n).drop k).reverse:=by
 rw[uQ,ik,fB,List.take_eq_take_min]
def qK:(a.extract 0 n).toList=a.toList.take n:=by
 rw[ik,fB];simp
def vf(h:x∈(a.toList.take n).drop k):∃j,k<=j/\j<n/\a[j]?=some x:=by
 obtain⟨i,c⟩:=m6.1 h;rw[xP,OQ] at c;split at c
 ·exact⟨k+i,by omega,by omega,by rw[<- aO];exact c⟩
 ·cases c
theorem W.moreA(v:W rk a b out n (m+1))(t:Rs rk L a b)(f:b[m]?=some q)(g:k<=n)(h:∀i,k<=i->i<n->rk q.1<eL rk a (0+i)):W rk a b (out++(a.extract k n).reverse) k (m+1):=by
 unfold W at *;rw[cJ,L_];rw[Dw g] at v;exact v.take λx l y d=>by
  obtain⟨j,c,o,e⟩:=vf (ms.1 l);refine A5 t.sb f ?_ d;have:=h j c o
  rwa[fH,bR e] at this
theorem W.moreB(v:W rk a b out (n+1) m)(t:Rs rk L a b)(c:a[n]?=some p)(g:k<=m)(h:∀i,k<=i->i<m->rk p.1<eL rk b (0+i)):W rk a b (out++(b.extract k m).reverse) (n+1) k:=by
 unfold W at *;rw[cJ,L_];rw[Dw (n:=m) g] at v;exact(v.comm.take λx l y f=>by
  obtain⟨j,d,o,e⟩:=vf (ms.1 l);refine A5 t.sa c ?_ f;have:=h j d o
  rwa[fH,bR e] at this).comm
theorem W.done(v:W rk a b out n m)(h:n=0):qJ rk a b (a.extract 0 n++b.extract 0 m++out.reverse):=by
 subst h;have f:=v.comm.fin λx _ y c=>by rw[List.take_zero] at c;cases c
 unfold qJ;rw[cJ,cJ,qK,qK,uQ];refine⟨?_,?_⟩
 ·refine qW ?_ f.1;refine(qx _).symm.trans ?_;simp
 ·have:=m7.2 f.2;simpa using this
theorem W.last(v:W rk a b out n m)(d:b[0]?=some q)(h:m=1)(i:∀y∈a.toList,rk q.1<rk y.1):qJ rk a b (b.extract 0 m++a.extract 0 n++out.reverse):=by
 subst h;have f:=v.fin λx g y c=>by
  obtain⟨j,l,e⟩:=GU (ms.1 c);rw[show j=0 by omega,d] at e;cases e;exact i x (List.mem_of_mem_take (ms.1 g))
 unfold qJ;rw[cJ,cJ,qK,qK,uQ];refine⟨?_,?_⟩
 ·refine qW ?_ f.1;refine(qx _).symm.trans ?_;simp
 ·have:=m7.2 f.2;simpa using this
def HP(rk:ag->Nat)(a b:Array cU)(x:Nat)(st:fk)(r:ForInStep (Option (Array cU)×Nat×Nat×Array cU×Nat×Nat×Nat))(st':fk):Prop:=Sm st st'/\match r with
 |.done c=>(∃r z,c=(some r,z)/\qJ rk a b r)\/∃out d e g f h,c=(none,d+1,e+2,out,g,f,h)/\W rk a b out (d+1) (e+2)/\d+1<=a.size/\e+2<=b.size/\d+e+3+x+2<=a.size+b.size
 |.yield c=>∃out d e g f h,c=(none,d+1,e+2,out,g,f,h)/\W rk a b out (d+1) (e+2)/\d+1<=a.size/\e+2<=b.size/\d+e+3+x+2<=a.size+b.size
theorem NK(hC:Cp prog w A s kd rk L)(hk:kindOf st=kd)(t:Rs rk L a b)
  (P:a[a.size-1]?=some p0) (U:b[b.size-1]?=some q0) (h0:rk q0.1<rk p0.1) (M:b[0]?=some q1) (hl:∀y∈a.toList,rk q1.1<rk y.1)
  (h:∀r st',Sm st st'->qJ rk a b r->Q r st'):wpS (ax prog w) A E s (Rt a b) Q st:=by
 have d5:0<a.size:=by
  rcases hG a.size with e|e
  ·rw[cW ∅] at P;cases P
  ·exact e
 have d2:0<b.size:=by
  rcases hG b.size with e|e
  ·rw[cW ∅] at U;cases U
  ·exact e
 have V0:W rk a b #[p0] (a.size-1) b.size:=by
  have e:b.size=b.size-1+1:=by omega
  rw[e];refine W.pushA (out:=#[]) ?_ t P U h0;rw[<- e,show a.size-1+1=a.size by omega];unfold W;rw[lE (by simp),lE (by simp)];refine⟨?_,by simp,m7.2 t.sa.pw,m7.2 t.sb.pw,by simp,by simp⟩;exact(qx _).append (qx _)
 refine aF (uP (cK ⟨rfl,?_⟩));refine aF (gR P ?_);refine kR (m:=a.size-1) (n:=0) (λe1=>aW (h _ _ .rfl (V0.done e1))) λe1=>?_;refine kR (m:=b.size) (n:=1) (λe2=>aW (h _ _ .rfl (V0.last M e2 hl))) λe2=>?_;refine aF (oE ?_);refine aF (fM (dI
  (I:=λx c st'=>Sm st st'/\∃out l d g,c=(none,l+1,d+2,out,g)/\W rk a b out (l+1) (d+2)/\l+1<=a.size/\d+2<=b.size/\l+d+3+x+1<=a.size+b.size)
  (Q:=λc st'=>Sm st st'/\∃r z,c=(some r,z)/\qJ rk a b r) ?step ?fin ⟨.rfl,#[p0],a.size-2,b.size-2,gallopOf st,?e1,?e2,by omega,by omega,by omega⟩) ?post)
 case e1=>rw[show a.size-2+1=a.size-1 by omega,show b.size-2+2=b.size by omega]
 case e2=>rw[show a.size-2+1=a.size-1 by omega,show b.size-2+2=b.size by omega];exact V0
 case fin=>
  rintro c st' ⟨_,out,l,d,g,rfl,v,K,H,S⟩;omega
 case post=>
  rintro c st' ⟨m,r,z,rfl,f⟩;exact aW (h r st' m f)
 case step=>
  rintro x c d3-hx ⟨m1,out,l,d,g,rfl,v,K,H,S⟩;refine aF (fM (dI
   (I:=λy c st'=>Sm st st'/\∃out l d B u,c=(none,l+1,d+2,out,B,u)/\W rk a b out (l+1) (d+2)/\l+1<=a.size/\d+2<=b.size/\l+d+3+x+1+y<=a.size+b.size)
   (Q:=λc st'=>Sm st st'/\((∃r z,c=(some r,z)/\qJ rk a b r)\/∃out l d B u,c=(none,l+1,d+2,out,B,u)/\W rk a b out (l+1) (d+2)/\l+1<=a.size/\d+2<=b.size/\l+d+3+x+2<=a.size+b.size))
   ?istep ?ifin ⟨m1,out,l,d,0,0,rfl,v,K,H,by omega⟩) ?ipost)
  case ifin=>
   rintro c st' ⟨m,out,l,d,B,u,rfl,v,K,H,S⟩;exact⟨m,.inr ⟨out,l,d,B,u,rfl,v,K,H,by omega⟩⟩
  case istep=>
   rintro y c st' - hy ⟨m,out,l,d,B,u,rfl,v,K,H,S⟩;dsimp only;obtain⟨p,o⟩:=gS (a:=a) (i:=l) ∅;obtain⟨q,G⟩:=gS (a:=b) (i:=d+1) ∅;refine aF (gR G (aF (gR o (aF (Rq hC (m.1.trans hk) (t.lb q (fY G)) (t.la p (fY o)) ?_)))));dsimp only;by_cases Y:rk q.1<rk p.1
   ·rw[if_pos (by simpa using Y)];refine aF (gR o ?_);have X:=v.pushA t o G Y;refine kR (m:=l) (n:=0) (λe3=>aW ⟨m,.inl ⟨_,_,rfl,X.done e3⟩⟩) λe3=>?_;obtain⟨l,rfl⟩:∃n,l=n+1:=⟨l-1,by omega⟩;exact fP (λ_=>aW ⟨m,.inr ⟨_,l,d,_,_,rfl,X,by omega,by omega,by omega⟩⟩) λ_=>aW ⟨m,_,l,d,_,_,rfl,X,by omega,by omega,by omega⟩
   ·rw[if_neg (by simpa using Y)];have a0:rk p.1<rk q.1:=by have:=t.ne p (fY o) q (fY G);omega
    refine aF (gR G ?_);have X:=v.pushB t o G a0;refine kR (m:=d+1) (n:=1) (λe3=>aW ⟨m,.inl ⟨_,_,rfl,X.last M e3 hl⟩⟩) λe3=>?_;obtain⟨d,rfl⟩:∃n,d=n+1:=⟨d-1,by omega⟩;exact fP (λ_=>aW ⟨m,.inr ⟨_,l,d,_,_,rfl,X,by omega,by omega,by omega⟩⟩) λ_=>aW ⟨m,_,l,d,_,_,rfl,X,by omega,by omega,by omega⟩
  case ipost=>
   rintro c a4 ⟨m2,⟨r,z,rfl,f⟩|⟨out,l,d,B,u,rfl,v,K,H,S⟩⟩
   ·exact aW ⟨m2,r,_,rfl,f⟩
   refine aF (uP (cK ⟨rfl,?_⟩));refine aF (fM (dI
    (I:=λy c st'=>Sm st st'/\∃out l d g B u,c=(none,l+1,d+2,out,g,B,u)/\W rk a b out (l+1) (d+2)/\l+1<=a.size/\d+2<=b.size/\l+d+3+x+2<=a.size+b.size)
    (Q:=λc st'=>Sm st st'/\((∃r z,c=(some r,z)/\qJ rk a b r)\/∃out l d g B u,c=(none,l+1,d+2,out,g,B,u)/\W rk a b out (l+1) (d+2)/\l+1<=a.size/\d+2<=b.size/\l+d+3+x+2<=a.size+b.size))
    ?gstep ?gfin ⟨m2,out,l,d,_,B,u,rfl,v,K,H,by omega⟩) ?gpost)
   case gfin=>
    rintro c st' ⟨m,out,l,d,g,B,u,rfl,v,K,H,S⟩;exact⟨m,.inr ⟨out,l,d,g,B,u,rfl,v,K,H,S⟩⟩
   case gpost=>
    rintro c a4 ⟨m2,⟨r,z,rfl,f⟩|⟨out,l,d,g,B,u,rfl,v,K,H,S⟩⟩
    ·exact aW ⟨m2,r,_,rfl,f⟩
    exact aF (EM m2 λst' O=>aW ⟨O,out,l,d,_,rfl,v,K,H,by omega⟩)
   case gstep=>
    rintro y c st' - hy ⟨m,out,l,d,g,B,u,rfl,v,K,H,S⟩;extract_lets s1 b8 s2 d4 s3 b7 s4 g' s5 d0 d6 c0 jp;have J:∀g,wpS (ax prog w) A E s (jp () g) (HP rk a b x st) st':=by
     intro g;obtain⟨q,G⟩:=gS (a:=b) (i:=d+1) ∅;have sa:=t.sa.run (b:=0) (n:=l+1) t.la ∅;have b0:∀i,i<l+1->eL rk a (0+i)≠rk q.1:=λi hi=>by
      obtain⟨p,o⟩:=gS (a:=a) (i:=0+i) ∅;rw[bR o];exact t.ne p (fY o) q (fY G)
     refine aF (EM m λst' O=>?_);refine aF (gR (a:=b) (i:=d+1) G ?_);refine aF (qI (a:=a) (b:=0) (n:=l+1) (h:=l) hC (O.1.trans hk) sa (t.lb q (fY G)) b0 ∅ λk k1 k2 k3=>?_);have v1:=v.moreA t G k1 k3;dsimp (config:={zeta:=false}) only;extract_lets kk nn a5;have J1:∀out i,k=i+1->W rk a b out (i+1) (d+2)->wpS (ax prog w) A E s (a5 () (i+1) out) (HP rk a b x st) st':=by
      intro out i ei v1;obtain⟨p,o⟩:=gS (a:=a) (i:=i) ∅;have a1:rk p.1<rk q.1:=by
       have:=k2 i ∅
       rwa[fH,bR o] at this
      refine aF (gR (a:=b) (i:=d+1) G ?_);have v2:=v1.pushB t o G a1;refine kR (m:=d+1) (n:=1) (λe=>aW ⟨O,.inl ⟨_,_,rfl,v2.last M e hl⟩⟩) λe=>?_;refine aF (gR (a:=a) (i:=i) o ?_);have sb:=t.sb.run (b:=0) (n:=d+1) t.lb ∅;have b6:∀i,i<d+1->eL rk b (0+i)≠rk p.1:=λi hi=>by
       obtain⟨q',N⟩:=gS (a:=b) (i:=0+i) ∅;rw[bR N];exact λe=>t.ne p (fY o) q' (fY N) e.symm
      refine aF (qI (a:=b) (b:=0) (n:=d+1) (h:=d) hC (O.1.trans hk) sb (t.la p (fY o)) b6 ∅ λT c1 c2 c3=>?_);have v3:=v2.moreB t o c1 c3;have c4:0<T:=by
       rcases hG T with e|e
       ·have h4:=c3 0 ∅ ∅;rw[bR M] at h4;have h5:=hl p (fY o);omega
       ·exact e
      dsimp (config:={zeta:=false}) only;extract_lets c5 d7 d1 a3;have J2:∀out j,T=j+2->W rk a b out (i+1) (j+2)->wpS (ax prog w) A E s (a3 () (j+2) out) (HP rk a b x st) st':=by
       intro out j ej v3;obtain⟨q',N⟩:=gS (a:=b) (i:=j+1) ∅;have a2:rk q'.1<rk p.1:=by
        have:=c2 (j+1) ∅
        rwa[fH,bR N] at this
       have v4:=v3.pushA t o N a2;refine aF (gR (a:=a) (i:=i) o ?_);refine kR (m:=i) (n:=0) (λe=>aW ⟨O,.inl ⟨_,_,rfl,v4.done e⟩⟩) λe=>?_;obtain⟨i,rfl⟩:∃n,i=n+1:=⟨i-1,by omega⟩;exact fP (λ_=>aW ⟨O,.inr ⟨_,i,j,_,_,_,rfl,v4,by omega,by omega,by omega⟩⟩) λ_=>aW ⟨O,_,i,j,_,_,_,rfl,v4,by omega,by omega,by omega⟩
      refine fP (λ_=>?_) λhz=>?_
      ·refine kR (m:=T) (n:=1) (λe=>aW ⟨O,.inl ⟨_,_,rfl,v3.last M e hl⟩⟩) λe=>?_;refine kR (m:=T) (n:=0) (λe=>by omega) λe=>?_;obtain⟨j,rfl⟩:∃j,T=j+2:=⟨T - 2,by omega⟩;exact J2 _ j rfl v3
      ·have a6:¬ d+1-T > 0:=hz;obtain⟨j,rfl⟩:∃j,d=j+1:=⟨d-1,by omega⟩;exact J2 _ j ∅ v2
     refine fP (λ_=>?_) λhz=>?_
     ·refine kR (m:=k) (n:=0) (λe=>aW ⟨O,.inl ⟨_,_,rfl,v1.done e⟩⟩) λe=>?_;obtain⟨j,rfl⟩:∃j,k=j+1:=⟨k-1,by omega⟩;exact J1 _ j rfl v1
     ·have a6:¬ l+1-k > 0:=hz;exact J1 _ l ∅ v
    exact fM (fP (λ_=>J _) λ_=>J _) λr _ hh=>by cases r<;>exact hh
end
def Yk:Nat->Nat->StateT fk Sem (Option Nat):=sortPriv% PySem.Builtin.countRun
def q1v:Nat->Nat->Nat->StateT fk Sem Bool:=sortPriv% PySem.Builtin.binarySort
structure Bs (kd:mD) (L:List cU) (st:fk):Prop where
 kind:kindOf st=kd
 perm:(aV st).toList.Perm L
 ok:y0 st=none
def Up(rk:ag->Nat)(a:Array cU)(lo n:Nat):Prop:=∀i j,lo<=i->i<j->j<lo+n->eL rk a i<eL rk a j
def Dn(rk:ag->Nat)(a:Array cU)(lo n:Nat):Prop:=∀i j,lo<=i->i<j->j<lo+n->eL rk a j<eL rk a i
section
variable{prog:bg}{w:bL}{A:cy}{E:ag->ak->Prop}{s:ak}{kd:mD}{rk:ag->Nat}{L:List cU}{st:fk}{a:Array cU}
def Bs.size(B:Bs kd L st):(aV st).size=L.length:=by rw[<- B.perm.length_eq];simp
theorem Bs.get(B:Bs kd L st)(c:i<L.length):∃p,(aV st)[i]?=some p/\p∈L:=by
 obtain⟨p,b⟩:=gS (a:=aV st) (i:=i) (by rw[B.size];exact c);exact⟨p,b,B.perm.mem_iff.1 (fY b)⟩
def Bs.ne(B:Bs kd L st)(l:(L.map λp=>rk p.1).Nodup)(m:i<L.length)(k:j<L.length)(h:i≠j):eL rk (aV st) i≠eL rk (aV st) j:=by
 have c:=(B.perm.map λp=>rk p.1).nodup_iff.2 l;obtain⟨p,f,_⟩:=B.get m;obtain⟨q,g,_⟩:=B.get k;rw[bR f,bR g];intro e;have b:((aV st).toList.map λp=>rk p.1)[i]?=some (rk p.1):=by rw[b9,aO,f];rfl
 have d:((aV st).toList.map λp=>rk p.1)[j]?=some (rk p.1):=by rw[b9,aO,g,e];rfl
 obtain⟨o,b⟩:=qr.1 b;obtain⟨n,d⟩:=qr.1 d;exact h ((SU c).1 (b.trans d.symm))
def Bs.put(B:Bs kd L st)(h:xs.Perm (aV st)):Bs kd L (setArr st xs):=⟨B.kind,(Array.perm_iff_toList_perm.1 h).trans B.perm,B.ok⟩
def yu(d:Cp prog w A s kd rk L)(B:Bs kd L st)(k:i<L.length)(e:j<L.length)
  (h:Q (some (decide (eL rk (aV st) i<eL rk (aV st) j))) st):wpS (ax prog w) A E s (ltAt' i j) Q st:=by
 obtain⟨p,b,f⟩:=B.get k;obtain⟨q,c,g⟩:=B.get e;rw[bR b,bR c] at h;rw[ltAt'_eq];exact aF (oE (aF (gR b (aF (gR c (Rq d B.kind f g h))))))
def k8(h:a[i]?=b[j]?):eL rk a i=eL rk b j:=by unfold eL;rw[h]
def y_(b:j<=a.size)(k:Nat):eL rk (Jf a i j ((j-i) / 2)) k=if i<=k/\k<j then eL rk a (i+j-1-k) else eL rk a k:=by
 have e:=getElem?_mirror_all (i:=i) b k;by_cases h:i<=k/\k<j
 ·rw[if_pos h] at e ⊢;exact k8 e
 ·rw[if_neg h] at e ⊢;exact k8 e
def z0(hs:src<a.size)(c:d<=src)(k:Nat):
  eL rk (bubble a src d) k=if k=src-d then eL rk a src else if src-d<k/\k<=src then eL rk a (k-1) else eL rk a k:=by
 have e:=getElem?_bubble hs d c k;by_cases h:k=src-d
 ·rw[if_pos h] at e ⊢;exact k8 e
 ·rw[if_neg h] at e ⊢;by_cases b:src-d<k/\k<=src
  ·rw[if_pos b] at e ⊢;exact k8 e
  ·rw[if_neg b] at e ⊢;exact k8 e
def Up.more{lo n:Nat}(u:Up rk a lo n)(h:1<=n->eL rk a (lo+n-1)<eL rk a (lo+n)):Up rk a lo (n+1):=by
 intro i j b c d;rcases dD j (lo+n) with h4|h4
 ·exact u i j b c h4
 ·obtain rfl:j=lo+n:=by omega
  rcases dD i (lo+n-1) with h5|h5
  ·exact f_ (u i (lo+n-1) b h5 ∅) (h ∅)
  ·rw[show i=lo+n-1 by omega];exact h ∅
def Dn.more{lo n:Nat}(u:Dn rk a lo n)(h:1<=n->eL rk a (lo+n)<eL rk a (lo+n-1)):Dn rk a lo (n+1):=by
 intro i j b c d;rcases dD j (lo+n) with h4|h4
 ·exact u i j b c h4
 ·obtain rfl:j=lo+n:=by omega
  rcases dD i (lo+n-1) with h5|h5
  ·exact f_ (h ∅) (u i (lo+n-1) b h5 ∅)
  ·rw[show i=lo+n-1 by omega];exact h ∅
def Kp(lo:Nat)(a b:Array cU):Prop:=∀i,i<lo->b[i]?=a[i]?
def M0{lo r:Nat}{Q:Option Nat->fk->Prop}(y:Cp prog w A s kd rk L)(O:(L.map λp=>rk p.1).Nodup)(B:Bs kd L st)(o:1<=r)(X:lo+r<=L.length)
  (h:∀n b,Bs kd L b->c7 b=c7 st->Kp lo (aV st) (aV b)->1<=n->n<=r->Up rk (aV b) lo n->Q (some n) b):
  wpS (ax prog w) A E s (Yk lo r) Q st:=by
 refine aF (fM (dI (I:=λx c b=>b=st/\c=(none,x)/\Up rk (aV st) lo x)
  (Q:=λc b=>b=st/\∃n,c=(none,n)/\1<=n/\n<=r/\Up rk (aV st) lo n/\(n=r\/eL rk (aV st) (lo+n)<eL rk (aV st) (lo+n-1))) ?_ ?_ ⟨rfl,rfl,λi j o T S=>by omega⟩) ?_)
 ·rintro x c b l z ⟨rfl,rfl,u⟩;refine aF (yu (i:=lo+x) (j:=lo+x-1) y B ∅ ∅ ?_);by_cases k:eL rk (aV b) (lo+x)<eL rk (aV b) (lo+x-1)
  ·exact fP (λ_=>aW ⟨rfl,x,rfl,l,by omega,u,.inr k⟩) λh=>absurd (by simpa using k) h
  ·refine fP (λh=>absurd (by simpa using h) k) λ_=>aW ⟨rfl,rfl,u.more λ_=>?_⟩;have:=B.ne O (i:=lo+x) (j:=lo+x-1) ∅ ∅ ∅;omega
 ·rintro c b ⟨rfl,rfl,u⟩;rw[show max 1 r=r by omega] at u ⊢;exact⟨rfl,r,rfl,o,av _,u,.inl rfl⟩
 rintro c b ⟨rfl,n,rfl,t,v,u,e⟩;refine kR (m:=n) (n:=r) (λe=>aW (h n b B rfl (λ_ _=>rfl) t v u)) λne=>?_;have e:=e.resolve_left ne;extract_lets U;refine fP (λH=>?_) λH=>?_
 ·refine aF (yu (i:=lo) (j:=lo+n-1) y B ∅ ∅ ?_);have k:eL rk (aV b) lo<eL rk (aV b) (lo+n-1):=u lo (lo+n-1) (av _) (by have:n > 1:=H;omega) (by have:n > 1:=H;omega);exact fP (λ_=>aW (h n b B rfl (λ_ _=>rfl) t v u)) λh=>absurd (by simpa using k) h
 obtain rfl:n=1:=by have:¬ n > 1:=H;omega
 refine aF (uP (cK ⟨rfl,?_⟩));refine aF (fM (dI (I:=λx c g=>g=b/\c=(none,x,0)/\Dn rk (aV b) lo x)
  (Q:=λc g=>g=b/\∃n,c=(none,n,0)/\1<=n/\n<=r/\Dn rk (aV b) lo n) ?_ ?_ ⟨rfl,rfl,Dn.more (n:=1) (λi j o T S=>by omega) λ_=>e⟩) ?_)
 ·rintro x c g l z ⟨rfl,rfl,u⟩;refine aF (yu (i:=lo+x) (j:=lo+x-1) y B ∅ ∅ ?_);by_cases k:eL rk (aV g) (lo+x)<eL rk (aV g) (lo+x-1)
  ·refine fP (λ_=>?_) λh=>absurd (by simpa using k) h;exact fP (λh=>absurd h (cO 0)) λ_=>aW ⟨rfl,rfl,u.more λ_=>k⟩
  ·refine fP (λh=>absurd (by simpa using h) k) λ_=>?_;refine aF (yu (i:=lo+x-1) (j:=lo+x) y B ∅ ∅ ?_);have:=B.ne O (i:=lo+x) (j:=lo+x-1) ∅ ∅ ∅;have N:eL rk (aV g) (lo+x-1)<eL rk (aV g) (lo+x):=by omega
   exact fP (λ_=>aW ⟨rfl,x,rfl,by omega,by omega,u⟩) λh=>absurd (by simpa using N) h
 ·rintro c g ⟨rfl,rfl,u⟩;rw[show max (1+1) r=r by omega] at u ⊢;exact⟨rfl,r,rfl,o,av _,u⟩
 rintro c g ⟨rfl,n,rfl,t,v,d⟩;refine fP (λh=>absurd h (cO 0)) λ_=>?_;refine aF (q_ (f:=λs=>setArr s (Jf (aV s) lo (lo+n) ((lo+n-lo) / 2))) ?_);have hsz:lo+n<=(aV g).size:=by rw[B.size];omega
 have G:Bs kd L (setArr g (Jf (aV g) lo (lo+n) ((lo+n-lo) / 2))):=B.put (mirror_perm _ _ _ _);have kp:Kp lo (aV g) (Jf (aV g) lo (lo+n) ((lo+n-lo) / 2)):=λi Y=>by
  rw[getElem?_mirror_all hsz,if_neg ∅]
 have P:Up rk (Jf (aV g) lo (lo+n) ((lo+n-lo) / 2)) lo n:=by
  intro i j o T S;rw[y_ hsz,y_ hsz,if_pos ∅,if_pos ∅];exact d _ _ ∅ ∅ ∅
 generalize q:setArr g (Jf (aV g) lo (lo+n) ((lo+n-lo) / 2))=st3 at G;have M:aV st3=Jf (aV g) lo (lo+n) ((lo+n-lo) / 2):=by rw[<- q]
 have K:c7 st3=c7 g:=by rw[<- q]
 rw[<- M] at kp P;refine aF (fM (dI (I:=λx c b=>b=st3/\c=(none,x)/\Up rk (aV st3) lo x)
  (Q:=λc b=>b=st3/\∃n,c=(none,n)/\1<=n/\n<=r/\Up rk (aV st3) lo n) ?_ ?_ ⟨rfl,rfl,P⟩) ?_)
 ·rintro x c b l z ⟨rfl,rfl,u⟩;have l:n<=x:=l;refine aF (yu (i:=lo+x) (j:=lo+x-1) y G ∅ ∅ ?_);by_cases k:eL rk (aV b) (lo+x)<eL rk (aV b) (lo+x-1)
  ·exact fP (λ_=>aW ⟨rfl,x,rfl,by omega,by omega,u⟩) λh=>absurd (by simpa using k) h
  ·refine fP (λh=>absurd (by simpa using h) k) λ_=>aW ⟨rfl,rfl,u.more λ_=>?_⟩;have:=G.ne O (i:=lo+x) (j:=lo+x-1) ∅ ∅ ∅;omega
 ·rintro c b ⟨rfl,rfl,u⟩;rw[show max n r=r by omega] at u ⊢;exact⟨rfl,r,rfl,o,av _,u⟩
 rintro c b ⟨rfl,n,rfl,t,v,u⟩;exact aW (h n b G K kp t v u)
def WN{lo n m:Nat}{Q:Bool->fk->Prop}(U:Cp prog w A s kd rk L)(T:(L.map λp=>rk p.1).Nodup)(B:Bs kd L st)(Y:lo+n<=L.length)(hk:1<=m)(P:m<=n)(u:Up rk (aV st) lo m)
  (h:∀b,Bs kd L b->c7 b=c7 st->Kp lo (aV st) (aV b)->Up rk (aV b) lo n->Q true b):
  wpS (ax prog w) A E s (q1v lo n m) Q st:=by
 refine aF (fM (dI (I:=λk c b=>c=(none,())/\Bs kd L b/\c7 b=c7 st/\Kp lo (aV st) (aV b)/\Up rk (aV b) lo k)
  (Q:=λc b=>c=(none,())/\Bs kd L b/\c7 b=c7 st/\Kp lo (aV st) (aV b)/\Up rk (aV b) lo n) ?step ?fin ⟨rfl,B,rfl,λ_ _=>rfl,by rw[show max m 1=m by omega];exact u⟩) ?post)
 case post=>
  rintro c b ⟨rfl,g,t,kp,u⟩;exact aW (h b g t kp u)
 case fin=>
  rintro c b ⟨rfl,g,t,kp,u⟩;rw[show max (max m 1) n=n by omega] at u;exact⟨rfl,g,t,kp,u⟩
 case step=>
  rintro k c d X S ⟨rfl,g,t,kp,u⟩;refine aF (fM (dI (I:=λx c e=>e=d/\∃l r,c=(none,l,r)/\l<=r/\r<=k/\r-l<=k-x /\
    (∀i,i<l->eL rk (aV d) (lo+i)<eL rk (aV d) (lo+k))/\(∀i,r<=i->i<k->eL rk (aV d) (lo+k)<eL rk (aV d) (lo+i)))
   (Q:=λc e=>e=d/\∃l r,c=(none,l,r)/\l<=k /\
    (∀i,i<l->eL rk (aV d) (lo+i)<eL rk (aV d) (lo+k))/\(∀i,l<=i->i<k->eL rk (aV d) (lo+k)<eL rk (aV d) (lo+i))) ?_ ?_ ⟨rfl,0,k,rfl,by omega,by omega,by omega,λi K=>by omega,λi H M=>by omega⟩) ?_)
  ·rintro x c b - hx ⟨rfl,l,r,rfl,O,G,N,q,o⟩;refine fP (λy=>?_) λy=>?_
   ·have y:l ≥ r:=y;obtain rfl:l=r:=by omega
    exact aW ⟨rfl,l,l,rfl,G,q,o⟩
   have y:¬ l ≥ r:=y;refine aF (yu (i:=lo+k) (j:=lo+(l+r) / 2) U g ∅ ∅ ?_);by_cases z:eL rk (aV b) (lo+k)<eL rk (aV b) (lo+(l+r) / 2)
   ·refine fP (λ_=>aW ⟨rfl,l,(l+r) / 2,rfl,by omega,by omega,by omega,q,λi H M=>?_⟩) λh=>absurd (by simpa using z) h;rcases dD ((l+r) / 2) i with h3|h3
    ·exact f_ z (u _ _ ∅ ∅ ∅)
    ·rw[show i=(l+r) / 2 by omega];exact z
   ·refine fP (λh=>absurd (by simpa using h) z) λ_=>aW ⟨rfl,(l+r) / 2+1,r,rfl,by omega,by omega,by omega,λi H=>?_,o⟩;have ne:=g.ne T (i:=lo+k) (j:=lo+(l+r) / 2) ∅ ∅ ∅;have v:eL rk (aV b) (lo+(l+r) / 2)<eL rk (aV b) (lo+k):=by omega
    rcases dD i ((l+r) / 2) with h3|h3
    ·exact f_ (u _ _ ∅ ∅ ∅) v
    ·rw[show i=(l+r) / 2 by omega];exact v
  ·rintro c b ⟨rfl,l,r,rfl,O,G,N,q,o⟩;obtain rfl:l=r:=by omega
   exact⟨rfl,l,l,rfl,G,q,o⟩
  ·rintro c b ⟨rfl,l,r,rfl,G,q,o⟩;refine aF (q_ (f:=λs=>setArr s (bubble (aV s) (lo+k) (lo+k-(lo+l)))) (aW ⟨rfl,g.put (bubble_perm _ _ _),t,?_,?_⟩))
   ·intro i K;rw[<- kp i K];show(bubble (aV b) (lo+k) (lo+k-(lo+l)))[i]?=_;rw[getElem?_bubble (by rw[g.size];omega) _ ∅,if_neg ∅,if_neg ∅]
   ·intro i j H M h3;show eL rk (bubble (aV b) (lo+k) (lo+k-(lo+l))) i<eL rk (bubble (aV b) (lo+k) (lo+k-(lo+l))) j;have hs:lo+k<(aV b).size:=by rw[g.size];omega
    rw[z0 hs ∅,z0 hs ∅,show lo+k-(lo+k-(lo+l))=lo+l by omega]
    repeat' split
    all_goals first
     |(exfalso;omega)
     |exact u _ _ ∅ ∅ ∅
     |(have:=o (j-1-lo) ∅ ∅;rwa[show lo+(j-1-lo)=j-1 by omega] at this)
     |(have:=q (i-lo) ∅;rwa[show lo+(i-lo)=i by omega] at this)
end
def Yl:Nat->StateT fk Sem Bool:=sortPriv% PySem.Builtin.mergeAt
section
variable{prog:bg}{w:bL}{A:cy}{E:ag->ak->Prop}{s:ak}{kd:mD}{rk:ag->Nat}{L:List cU}{st:fk}{a:Array cU}
theorem M1(c:Nat):∀(l:List cU) (i:Nat) (a:Array cU),c+i+l.length<=a.size ->
  ((l.zipIdx i).foldl (λa x=>match x with|(p,j)=>a.setIfInBounds (c+j) p) a).toList=a.toList.take (c+i)++l++a.toList.drop (c+i+l.length)
 |[],i,a,_=>by simp
 |p::l,i,a,h=>by
  have b:(p::l).length=l.length+1:=rfl;rw[zT,eh,M1 c l (i+1) _ (by rw[E7];omega)];dsimp only;rw[Cg,show c+(i+1)=c+i+1 by omega,b,show c+i+(l.length+1)=c+i+1+l.length by omega];rw[List.drop_set_of_lt ∅];have e:List.take (c+i+1) (a.toList.set (c+i) p)=a.toList.take (c+i)++[p]:=by
   rw[P7,List.take_set_of_le (av _),aN (by simp;omega)];rfl
  rw[e];simp
def q0s(h:Q ⟨⟩ b):wpS (ax prog w) A E s (set b:StateT fk Sem PUnit) Q st:=by
 unfold wpS;exact a9 ⟨rfl,h⟩
def JY(h:(a.extract i j)[k]?=some p):i+k<j/\a[i+k]?=some p:=by
 rw[iZ] at h;split at h
 ·exact⟨by omega,h⟩
 ·cases h
def Up.srt{i j lo n:Nat}(u:Up rk a lo n)(h:lo<=i)(k:j<=lo+n):UV rk (a.extract i j):=by
 intro x y p q d e f;obtain⟨l,b⟩:=JY e;obtain⟨g,c⟩:=JY f;rw[<- bR (rk:=rk) b,<- bR (rk:=rk) c];exact u _ _ ∅ ∅ ∅
def kS(h:p∈(a.extract i j).toList):∃k,i<=k/\k<j/\a[k]?=some p:=by
 obtain⟨k,b⟩:=m6.1 h;rw[aO] at b;obtain⟨c,d⟩:=JY b;exact⟨i+k,by omega,c,d⟩
def Bs.ne'(B:Bs kd L st)(e:(L.map λp=>rk p.1).Nodup){i j:Nat}{p q:cU}(c:(aV st)[i]?=some p)(b:(aV st)[j]?=some q)(h:i≠j):rk p.1≠rk q.1:=by
 have f:i<L.length:=by rw[<- B.size];exact(gX.1 c).1
 have d:j<L.length:=by rw[<- B.size];exact(gX.1 b).1
 have:=B.ne e f d h
 rwa[bR c,bR b] at this
def Ru(x y z:Nat×Nat×Nat):((#[x,y].setIfInBounds 0 z).eraseIdxIfInBounds (0+1)).size=1:=by
 simp[Array.eraseIdxIfInBounds]
def q0t(h:a.toList.Pairwise (Yj rk)):Up rk a 0 a.size:=by
 intro i j _ d e;obtain⟨p,b⟩:=gS (a:=a) (i:=i) ∅;obtain⟨q,c⟩:=gS (a:=a) (i:=j) ∅;rw[bR b,bR c];rw[qt] at h;have:=h i j (by simp;omega) (by simp;omega) d;obtain⟨_,rfl⟩:=gX.1 b;obtain⟨_,rfl⟩:=gX.1 c;exact this
theorem NL{n m pw:Nat}{Q:Bool->fk->Prop}(hC:Cp prog w A s kd rk L)(hn:(L.map λp=>rk p.1).Nodup)(B:Bs kd L st)
  (pe:c7 st=#[(0,n,pw),(n,m,0)]) (h1:0<n) (h2:0<m) (hr:n+m=L.length) (S:Up rk (aV st) 0 n) (I:Up rk (aV st) n m)
  (h:∀c,Bs kd L c->(c7 c).size=1->Up rk (aV c) 0 L.length->Q true c):wpS (ax prog w) A E s (Yl 0) Q st:=by
 have sz:=B.size;obtain⟨T,d,a2⟩:=B.get (i:=n) ∅;have mem:∀{i p},(aV st)[i]?=some p->p∈L:=λe=>B.perm.mem_iff.1 (fY e);refine aF (oE ?_);rw[show(sortPriv% PySem.Builtin.SortState.pending) st=#[(0,n,pw),(n,m,0)] from pe];refine aF (q0s ?_);refine aF (gR d ?_);have r1:Run rk L (aV st) 0 n (λi=>eL rk (aV st) (0+i)):=⟨λi hi=>by
  obtain⟨p,o,lp⟩:=B.get (i:=0+i) ∅;exact⟨p,o,lp,(bR o).symm⟩,λi j G hj=>S _ _ ∅ ∅ ∅⟩
 have r2:Run rk L (aV st) n m (λi=>eL rk (aV st) (n+i)):=⟨λi hi=>by
  obtain⟨p,o,lp⟩:=B.get (i:=n+i) ∅;exact⟨p,o,lp,(bR o).symm⟩,λi j G hj=>I _ _ ∅ ∅ ∅⟩
 refine aF (qI (a:=aV st) (b:=0) (n:=n) (h:=0) hC B.kind r1 a2 (λi hi=>?_) h1 λk k1 k2 k3=>?_)
 ·have:=B.ne hn (i:=0+i) (j:=n) ∅ ∅ ∅
  rwa[bR d] at this
 refine kR (m:=n-k) (n:=0) (λe=>aW (h _ ⟨B.kind,B.perm,B.ok⟩ (Ru ..) ?_)) λe=>?_
 ·intro i j _ G hj;rcases dD j n with c1|c1
  ·exact S i j ∅ G ∅
  ·rcases dD i n with c2|c2
   ·have K:=k2 i ∅;rw[fH] at K;show eL rk (aV st) i<eL rk (aV st) j;rcases dD n j with c4|c4
    ·have c5:=I n j ∅ c4 ∅;rw[bR d] at c5;omega
    ·rw[show j=n by omega,bR d];exact K
   ·exact I i j ∅ G ∅
 obtain⟨p0,u,a0⟩:=B.get (i:=n-1) ∅;refine aF (gR (i:=0+k+(n-k)-1) (by rw[show 0+k+(n-k)-1=n-1 by omega];exact u) ?_);refine aF (qI (a:=aV st) (b:=n) (n:=m) (h:=m-1) hC B.kind r2 a0 (λi hi=>?_) ∅ λg c1 c2 K=>?_)
 ·have:=B.ne hn (i:=n+i) (j:=n-1) ∅ ∅ ∅
  rwa[bR u] at this
 have c0:0<g:=by
  rcases hG g with e0|e0
  ·have c4:=K 0 ∅ ∅;have c5:=k3 (n-1) ∅ ∅;rw[fH,bR u] at c5;rw[oK,bR d] at c4;omega
  ·exact e0
 refine kR (m:=g) (n:=0) (λe=>by omega) λ_=>?_;have t:Rs rk L ((aV st).extract (0+k) n) ((aV st).extract n (n+g)):=by
  refine⟨S.srt ∅ ∅,I.srt ∅ ∅,λp o=>?_,λp o=>?_,λp o q hq=>?_⟩
  ·obtain⟨_,_,_,e⟩:=kS o;exact mem e
  ·obtain⟨_,_,_,e⟩:=kS o;exact mem e
  ·obtain⟨_,_,_,e1⟩:=kS o;obtain⟨_,_,_,X⟩:=kS hq;exact B.ne' hn e1 X ∅
 have za:((aV st).extract (0+k) n).size=n-k:=by rw[MT];omega
 have zb:((aV st).extract n (n+g)).size=g:=by rw[MT];omega
 obtain⟨pk,M,_⟩:=B.get (i:=0+k) ∅;obtain⟨ql,a1,_⟩:=B.get (i:=n+(g - 1)) ∅;have e1:((aV st).extract (0+k) n)[0]?=some pk:=by rw[iZ,if_pos ∅];exact M
 have X:((aV st).extract n (n+g))[0]?=some T:=by rw[iZ,if_pos ∅];exact d
 have e3:((aV st).extract (0+k) n)[((aV st).extract (0+k) n).size-1]?=some p0:=by
  rw[za,iZ,if_pos ∅,show 0+k+(n-k-1)=n-1 by omega];exact u
 have e4:((aV st).extract n (n+g))[((aV st).extract n (n+g)).size-1]?=some ql:=by
  rw[zb,iZ,if_pos ∅];exact a1
 have g1:rk T.1<rk pk.1:=by
  have:=k3 k (av _) ∅
  rwa[bR M] at this
 have g2:∀y∈((aV st).extract n (n+g)).toList,rk y.1<rk p0.1:=λy z=>by
  obtain⟨j,j1,j2,e⟩:=kS z;have:=c2 (j-n) ∅
  rwa[show n+(j-n)=j by omega,bR e] at this
 have g3:∀y∈((aV st).extract (0+k) n).toList,rk T.1<rk y.1:=λy z=>by
  obtain⟨j,j1,j2,e⟩:=kS z;have:=k3 j ∅ ∅
  rwa[fH,bR e] at this
 extract_lets x y jp;have J:∀r c,kindOf c=kd->aV c=aV st->y0 c=none->(c7 c).size=1->qJ rk ((aV st).extract (0+k) n) ((aV st).extract n (n+g)) r->wpS (ax prog w) A E s (jp r) Q c:=by
  rintro r c z1 z2 z3 z4 ⟨Y,f2⟩;have rl:r.toList.length=n-k+g:=by rw[Y.length_eq,aI,au,au,za,zb]
  have U:=M1 (0+k) r.toList 0 (aV c) (by rw[z2,rl];omega);refine aF (q_ (aF (oE (aW ?_))));have e5:(y0 c).isNone=true:=by rw[z3];rfl
  show Q ((y0 c).isNone) _;rw[e5];generalize hb:List.foldl (λa x=>match x with|(p,j)=>a.setIfInBounds (0+k+j) p) (aV c) r.toList.zipIdx=nw at U;have hT:(aV c).toList.take (0+k+0)=((aV st).extract 0 k).toList:=by rw[z2,qK,oK,fH]
  have hD:(aV c).toList.drop (0+k+0+r.toList.length)=((aV st).extract (n+g) (aV st).size).toList:=by
   rw[z2,ug,rl];congr 1;omega
  rw[hT,hD] at U;have P:nw.toList.Perm L:=by
   refine qW ?_ B.perm;rw[U];refine((Y.append_left _).append_right _).trans (L5 ?_);rw[qK,ug,ik,ik,fB,fB];conv=>rhs;rw[<- hJ k (aV st).toList,<- hJ (n-k) ((aV st).toList.drop k),v8,<- hJ g ((aV st).toList.drop (k+(n-k))),v8]
   rw[show k+(n-k)=n by omega,List.drop_take,List.drop_take,show n+g - n=g by omega,fH];simp[fz]
  have N:∀x∈((aV st).extract 0 k).toList,rk x.1<rk T.1:=λx v=>by
   obtain⟨i,_,i2,e⟩:=kS v;have:=k2 i i2
   rwa[fH,bR e] at this
  have H:∀{j y},n<=j->(aV st)[j]?=some y->rk T.1<=rk y.1:=λ{j y} hj e=>by
   have lj:j<(aV st).size:=(gX.1 e).1;rcases dD n j with h|h
   ·have:=I n j (av _) h ∅;rw[bR d,bR e] at this;omega
   ·rw[show j=n by omega,d] at e;cases e;exact av _
  refine h _ ⟨z1,P,z3⟩ z4 ?_;have up:=q0t (a:=nw) (rk:=rk) ?_
  ·have:nw.size=L.length:=by rw[<- P.length_eq];simp
   rwa[this] at up
  rw[U];refine iu.2 ⟨iu.2 ⟨(S.srt ∅ ∅).pw,f2,λx v y z=>?_⟩,(I.srt ∅ ∅).pw,λx v y z=>?_⟩
  ·have l:=N x v;rcases bD.1 (Y.mem_iff.1 z) with z|z
   ·exact f_ l (g3 y z)
   ·obtain⟨j,j1,_,e⟩:=kS z;exact aK l (H j1 e)
  ·obtain⟨j,j1,j2,e⟩:=kS z;rcases bD.1 v with v|v
   ·exact aK (N x v) (H ∅ e)
   ·rcases bD.1 (Y.mem_iff.1 v) with v|v
    ·obtain⟨i,i1,i2,O⟩:=kS v;have l:=K (j-n) ∅ ∅;rw[show n+(j-n)=j by omega,bR e] at l;rcases dD i (n-1) with h|h
     ·have:=S i (n-1) ∅ h ∅;rw[bR u,bR O] at this;exact f_ this l
     ·rw[show i=n-1 by omega,u] at O;cases O;exact l
    ·obtain⟨i,i1,i2,O⟩:=kS v;have:=I i j ∅ ∅ ∅
     rwa[bR e,bR O] at this
 refine fP (λ_=>aF (NJ hC B.kind t e1 X g1 (λp o=>?_) λr c m f=>?_)) λ_=>aF (NK hC B.kind t e3 e4 (g2 ql (fY e4)) X g3 λr c m f=>?_)
 ·rw[e3] at o;cases o;exact g2
 ·exact J r c (m.1.trans B.kind) m.2.1 (m.2.2.2.trans B.ok) (by rw[m.2.2.1];exact Ru ..) f
 ·exact J r c (m.1.trans B.kind) m.2.1 (m.2.2.2.trans B.ok) (by rw[m.2.2.1];exact Ru ..) f
end
section
variable{prog:bg}{w:bL}{A:cy}{E:ag->ak->Prop}{s:ak}{kd:mD}{rk:ag->Nat}{L:List cU}{st:fk}{a:Array cU}
def NM(d:2<=N)(b:N<=64):1<=IM N N 0/\IM N N 0<=N/\N<=2*IM N N 0:=by
 obtain⟨f,c⟩:∃f,N=f+1:=⟨N-1,by omega⟩;by_cases h:N<64
 ·have:IM (f+1) N 0=N:=by rw[minRun'_succ,if_pos h];rfl
  rw[<- c] at this;rw[this];omega
 ·obtain rfl:N=64:=by omega
  have:IM 64 64 0=32:=by rfl
  rw[this];omega
def Ym(U:Cp prog w A s kd rk L)(S:(L.map λp=>rk p.1).Nodup)(B:Bs kd L st)(pe:c7 st=#[])(h2:2<=L.length)(a2:L.length<=64)
  (h:∀st',Bs kd L st'->Up rk (aV st') 0 L.length->Q () st'):wpS (ax prog w) A E s sortRuns' Q st:=by
 obtain⟨m1,m2,m3⟩:=NM h2 a2;refine aF (oE ?_);extract_lets size g lo;have hsz:size=L.length:=B.size;have a1:g=IM L.length L.length 0:=by rw[<- hsz];rfl
 rw[<- a1] at m1 m2 m3
 clear_value size g;subst hsz;refine aF (fM (dI
  (I:=λx c st'=>Bs kd L st'/\((x=0/\c=(none,0)/\c7 st'=#[])\/(x=1/\∃n,c=(none,n)/\c7 st'=#[(0,n,0)]/\g<=n/\n<=L.length/\Up rk (aV st') 0 n) \/
   (∃n m pw,c=(none,L.length)/\c7 st'=#[(0,n,pw),(n,m,0)]/\0<n/\0<m/\n+m=L.length/\Up rk (aV st') 0 n/\Up rk (aV st') n m)))
  (Q:=λc st'=>Bs kd L st'/\((∃n,c=(none,n)/\(c7 st').size=1/\Up rk (aV st') 0 L.length) \/
   (∃n m pw,c=(none,L.length)/\c7 st'=#[(0,n,pw),(n,m,0)]/\0<n/\0<m/\n+m=L.length/\Up rk (aV st') 0 n/\Up rk (aV st') n m))) ?step ?fin ⟨B,.inl ⟨rfl,rfl,pe⟩⟩) ?post)
 case fin=>
  rintro c st' ⟨f,⟨e,_⟩|⟨e,_⟩|c3⟩
  ·omega
  ·omega
  ·exact⟨f,.inr c3⟩
 case step=>
  rintro x c X-hx ⟨M,⟨rfl,rfl,k⟩|⟨rfl,n,rfl,k,K,P,u⟩|⟨n,m,pw,rfl,k,K,P,n3,T,q⟩⟩
  ·refine fP (λl=>?_) λ_=>?_
   ·have l:0 ≥ L.length:=l;omega
   refine aF (M0 (lo:=0) (r:=L.length-0) U S M ∅ ∅ λn t H z k2 K P q=>?_);dsimp (config:={zeta:=false}) only;extract_lets nn jp;have J:∀n st',Bs kd L st'->c7 st'=#[]->g<=n->n<=L.length->Up rk (aV st') 0 n->wpS (ax prog w) A E s (jp () n) (λr st'=>∃c,r=.yield c/\Bs kd L st'/\∃n,c=(none,n)/\c7 st'=#[(0,n,0)]/\g<=n/\n<=L.length/\Up rk (aV st') 0 n) st':=by
    intro n st' f y N O u;refine aF (oE ?_);extract_lets a0;rw[show(sortPriv% PySem.Builtin.SortState.pending) st'=#[] from y];refine aF (q_ (aW ⟨_,rfl,⟨f.kind,f.perm,f.ok⟩,n,?_,?_,N,O,u⟩))
    ·show((none,0+n):Option Unit×Nat)=(none,n);rw[fH]
    ·show(c7 st').push _=_;rw[y];rfl
   refine fM (Q:=λr st'=>∃c,r=.yield c/\Bs kd L st'/\∃n,c=(none,n)/\c7 st'=#[(0,n,0)]/\g<=n/\n<=L.length/\Up rk (aV st') 0 n) (fP (λo=>?_) λo=>?_) ?_
   ·have o:n<g:=o;refine aF (uP (cK ⟨rfl,?_⟩));have hf:min (L.length-0) g=g:=by omega
    refine aF (WN (lo:=0) (n:=min (L.length-0) g) U S H ∅ K ∅ q λG B3 p3 k3 Y=>?_);refine fP (λh=>by cases h) λ_=>?_;rw[hf] at Y;exact J (min (L.length-0) g) G B3 (p3.trans (z.trans k)) ∅ ∅ (by rw[hf];exact Y)
   ·have o:¬ n<g:=o;exact J n t H (z.trans k) ∅ ∅ q
   ·rintro r st' ⟨c,rfl,f,n,rfl,y,N,O,u⟩;exact⟨f,.inr (.inl ⟨rfl,n,rfl,y,N,O,u⟩)⟩
  ·refine fP (λl=>aW ⟨M,.inl ⟨n,rfl,by rw[k];rfl,?_⟩⟩) λl=>?_
   ·have l:n ≥ L.length:=l;rw[show L.length=n by omega];exact u
   have l:¬ n ≥ L.length:=l;refine aF (M0 (lo:=n) (r:=L.length-n) U S M ∅ ∅ λm t H z k2 m1 m2 q=>?_);dsimp (config:={zeta:=false}) only;extract_lets nn jp;have up:∀{st':fk},Kp n (aV X) (aV st')->Up rk (aV st') 0 n:=λ{st'} kp i j h1 h2 h3=>by
    rw[k8 (rk:=rk) (kp i ∅),k8 (rk:=rk) (kp j ∅)];exact u i j h1 h2 h3
   have J:∀m st',Bs kd L st'->c7 st'=#[(0,n,0)]->n+m=L.length->0<m->Up rk (aV st') 0 n->Up rk (aV st') n m->wpS (ax prog w) A E s (jp () m) (λr st'=>∃c,r=.yield c/\Bs kd L st'/\∃n m pw,c=(none,L.length)/\c7 st'=#[(0,n,pw),(n,m,0)]/\0<n/\0<m/\n+m=L.length/\Up rk (aV st') 0 n/\Up rk (aV st') n m) st':=by
    intro m st' f y N O T q;refine aF (oE ?_);extract_lets a0;rw[show(sortPriv% PySem.Builtin.SortState.pending) st'=#[(0,n,0)] from y];refine aF (fM (dI (I:=λ_ c d=>d=st'/\c=(none,())) (Q:=λc d=>d=st'/\c=(none,())) ?_ (λ_ _ v=>v) ⟨rfl,rfl⟩) ?_)
    ·rintro x c d - _ ⟨rfl,rfl⟩;refine aF (oE ?_);rw[show(sortPriv% PySem.Builtin.SortState.pending) d=#[(0,n,0)] from y];exact aW ⟨rfl,rfl⟩
    ·rintro c d ⟨rfl,rfl⟩;refine aF (q_ (aF (q_ (aW ⟨_,rfl,⟨f.kind,f.perm,f.ok⟩,n,m,(sortPriv% PySem.Builtin.power) L.length (2*0+n) (2*0+n+n+m) L.length,?_,?_,by omega,O,N,T,q⟩))))
     ·show((none,n+m):Option Unit×Nat)=(none,L.length);rw[N]
     ·show Array.push (Array.modify (c7 d) ((c7 d).size-1) _) _=_;rw[y];rfl
   refine fM (Q:=λr st'=>∃c,r=.yield c/\Bs kd L st'/\∃n m pw,c=(none,L.length)/\c7 st'=#[(0,n,pw),(n,m,0)]/\0<n/\0<m/\n+m=L.length/\Up rk (aV st') 0 n/\Up rk (aV st') n m) (fP (λo=>?_) λo=>?_) ?_
   ·have o:m<g:=o;refine aF (uP (cK ⟨rfl,?_⟩));have hf:min (L.length-n) g=L.length-n:=by omega
    refine aF (WN (lo:=n) (n:=min (L.length-n) g) U S H ∅ m1 ∅ q λG B3 p3 k3 Y=>?_);refine fP (λh=>by cases h) λ_=>?_;exact J (min (L.length-n) g) G B3 (p3.trans (z.trans k)) ∅ ∅ (up λi hi=>(k3 i hi).trans (k2 i hi)) Y
   ·have o:¬ m<g:=o;exact J m t H (z.trans k) ∅ ∅ (up k2) q
   ·rintro r st' ⟨c,rfl,f,v⟩;exact⟨f,.inr (.inr v)⟩
  ·exact fP (λ_=>aW ⟨M,.inr ⟨n,m,pw,rfl,k,K,P,n3,T,q⟩⟩) λl=>absurd (av _) l
 case post=>
  have fin:∀{st'},Bs kd L st'->(c7 st').size=1->Up rk (aV st') 0 L.length->Bs kd L st'/\(c7 st').size=1/\Up rk (aV st') 0 L.length:=λb p u=>⟨b,p,u⟩;rintro c X ⟨M,v⟩;obtain⟨lo,rfl⟩:∃lo,c=(none,lo):=by
   rcases v with⟨n,rfl,_⟩|⟨n,m,pw,rfl,_⟩
   ·exact⟨_,rfl⟩
   ·exact⟨_,rfl⟩
  refine aF (fM (dI
   (I:=λx c st'=>c=(none,())/\Bs kd L st'/\(((c7 st').size=1/\Up rk (aV st') 0 L.length)\/(x=0/\∃n m pw,c7 st'=#[(0,n,pw),(n,m,0)]/\0<n/\0<m/\n+m=L.length/\Up rk (aV st') 0 n/\Up rk (aV st') n m)))
   (Q:=λc st'=>c=(none,())/\Bs kd L st'/\Up rk (aV st') 0 L.length) ?_ ?_ ⟨rfl,M,?_⟩) ?_)
  ·rintro x c st' - hx ⟨rfl,f,⟨k,u⟩|⟨rfl,n,m,pw,k,K,P,n3,T,q⟩⟩
   ·refine aF (oE (fP (λ_=>aW ⟨rfl,f,u⟩) λl=>absurd ?_ l));show(c7 st').size<=1;omega
   ·refine aF (oE ?_);rw[show(sortPriv% PySem.Builtin.SortState.pending) st'=#[(0,n,pw),(n,m,0)] from k];refine fP (λh=>?_) λ_=>?_
    ·have h:(2:Nat)<=1:=h;omega
    refine aF (NL U S f k K P n3 T q λt H z u=>?_);exact fP (λh=>by cases h) λ_=>aW ⟨rfl,H,.inl ⟨z,u⟩⟩
  ·rintro c st' ⟨rfl,f,⟨k,u⟩|⟨e,_⟩⟩
   ·exact⟨rfl,f,u⟩
   ·omega
  ·rcases v with⟨n,_,p,u⟩|⟨n,m,pw,_,v⟩
   ·exact .inl ⟨p,u⟩
   ·exact .inr ⟨rfl,n,m,pw,v⟩
  ·rintro c st' ⟨rfl,f,u⟩;exact aW (h st' f u)
end
end TS
namespace TS
open PySem PyProof.Rows PySem.W
def Ss:List ag->List Str->Prop
 |[],[]=>True
 |v::a,x::xs=>(∃t,v=.str x t)/\Ss a xs
 |_,_=>False
def tl:List Str->List Str->Bool
 |[],[]=>false
 |[],_::_=>true
 |_::_,[]=>false
 |x::xs,y::ys=>if x=y then tl xs ys else decide (x.cps.toList<y.cps.toList)
def Tk(h:cg)(v:ag)(x:List Str):Prop:=∃a o b n,v=.ref a/\h.get? a=some o/\o.cls=.type "tuple"/\o.data=.seq b n/\Ss b.toList x
section
variable{prog:bg}{w:bL}{A:cy}{E:ag->ak->Prop}{s:ak}
def xk:tl (x::xs) (y::ys)=if x=y then tl xs ys else decide (x.cps.toList<y.cps.toList):=rfl
theorem M2:∀{c b:List ag}{x y:List Str}{i:Nat},Ss c x->Ss b y->fin=decide (c.length<b.length)->Q (tl x y) s->KatLex prog w A true fin Q (c.zip b) i s
 |[],[],[],[],_,_,_,e,q=>by subst e;exact q
 |[],_::_,[],_::_,_,_,_,e,q=>by subst e;rw[List.zip_nil_left];refine kat_nil ?_;simpa[tl] using q
 |_::_,[],_::_,[],_,_,_,e,q=>by subst e;rw[List.zip_nil_right];refine kat_nil ?_;simpa[tl] using q
 |v::c,u::b,x::xs,y::ys,i,f,g,e,q=>by
  obtain⟨⟨t,rfl⟩,f⟩:=f;obtain⟨⟨t',rfl⟩,g⟩:=g;rw[xQ];refine kat_cons (DZ ?_);rw[xk] at q;by_cases a:x=y
  ·rw[if_pos a] at q;have d:(x==y)=true:=by simp[a]
   first|rw[d]|(rw[show decide (x=y)=true by simp[a]])
   exact kat_yes (M2 f g (by rw[e];simp) q)
  ·rw[if_neg a] at q;have d:(x==y)=false:=by simp[a]
   first|rw[d]|(rw[show decide (x=y)=false by simp[a]])
   refine kat_no ?_;cases(true&&i==0) with
   |true=>exact oneLt_str q
   |false=>exact kat_one _ _ (lt_str q)
 |[],_,_::_,_,_,h,_,_,_=>h.elim
 |_::_,_,[],_,_,h,_,_,_=>h.elim
 |_,[],_,_::_,_,_,h,_,_=>h.elim
 |_,_::_,_,[],_,_,h,_,_=>h.elim
def UW(c:Tk s.heap v x)(f:Tk s.heap u y)(q:Q (tl x y) s):aq (ax prog w) A (keyLt' (tuples' true) v u) Q E s:=by
 obtain⟨a,o,k,n,rfl,e,_,h,i⟩:=c;obtain⟨b,o',l,m,rfl,d,_,g,j⟩:=f;exact kat_lt e h d g (M2 i j (by simp) q)
def vg(hx:Tk s.heap (.ref a) x)(N:Tk s.heap (.ref b) y)(h:P (.done (.ret (.bool (tl x y)))) s):
  aq (ax prog w) A (jQ.«tuple.__lt__» ⟨[.ref a,.ref b],[]⟩) P E s:=by
 obtain⟨_,oa,xs,na,O,L,X,M,K⟩:=hx;obtain⟨_,ob,ys,nb,Y,p,H,G,z⟩:=N;cases O;cases Y;show aq _ _ (isInstance (.ref b) (.type "tuple")>>=_) _ _ s;refine a7 (i0 (T:="tuple") ⟨_,p,H⟩ isSubtype_tuple_tuple ?_);simp only[kg,bn,if_false];refine a7 (wpAny_tupleItemsOf L M ?_);refine a7 (wpAny_tupleItemsOf p G ?_);refine a7 ?_;refine wpAny_forIn_list _
  (λbu r s'=>r.1=none/\s'=s/\∃k l e d,bu=List.zip e d/\Ss e k/\Ss d l/\tl k l=tl x y/\(decide (e.length<d.length))=(decide (xs.size<ys.size)))
  _ ?_ ?_ _ _ ⟨rfl,rfl,x,y,xs.toList,ys.toList,rfl,K,z,rfl,by simp⟩
 ·rintro⟨u,v⟩ bu r s' ⟨B,rfl,k,l,e,d,g,i,j,c,f⟩
  match k,l,e,d,g,i,j,c,f with
  |o::k,n::l,Q::e,S::d,g,⟨⟨t,U⟩,i⟩,⟨⟨t',e2⟩,j⟩,c,f=>
   rw[xQ] at g;obtain⟨e3,rfl⟩:=oM g;obtain⟨rfl,rfl⟩:=Prod.mk.inj e3;subst U;subst e2;refine a7 (DZ ?_);rw[xk] at c;by_cases m:o=n
   ·rw[if_pos m] at c;have I:(o==n)=true:=by simp[m]
    first|rw[I]|(rw[show decide (o=n)=true by simp[m]])
    simp only[kg,bn,if_false];refine a9 ⟨rfl,rfl,k,l,e,d,rfl,i,j,c,by simpa using f⟩
   ·rw[if_neg m] at c;have I:(o==n)=false:=by simp[m]
    first|rw[I]|(rw[show decide (o=n)=false by simp[m]])
    simp only[jJ,if_true];rw[<- c] at h;refine a7 (cK (a7 (lt_str ?_)));exact a7 (a9 (a9 (a9 h)))
  |[],_,Q::e,_,_,h,_,_,_=>exact h.elim
  |_::_,_,[],_,g,h,_,_,_=>exact h.elim
  |[],_,[],_,g,_,_,_,_=>simp at g
  |_::_,[],_::_,S::d,g,_,h,_,_=>exact h.elim
  |_::_,_::_,_::_,[],g,_,h,_,_=>exact h.elim
  |_::_,[],_::_,[],g,_,_,_,_=>simp at g
 ·rintro⟨r1,r2⟩ s' ⟨B,rfl,k,l,e,d,g,i,j,c,f⟩;simp only at B;subst B;refine a9 ?_;have q:decide (xs.size<ys.size)=tl x y:=by
   rw[<- c,<- f]
   match k,l,e,d,g,i,j with
   |[],[],[],[],_,_,_=>simp[tl]
   |[],_::_,[],_::_,_,_,_=>simp[tl]
   |_::_,[],_::_,[],_,_,_=>simp[tl]
   |_::_,_::_,_::_,_::_,g,_,_=>simp at g
   |[],_,_::_,_,_,h,_=>exact h.elim
   |_::_,_,[],_,_,h,_=>exact h.elim
   |_,[],_,_::_,_,_,h=>exact h.elim
   |_,_::_,_,[],_,_,h=>exact h.elim
  show P (.done (.ret (.bool (decide (xs.size<ys.size))))) s';rw[q];exact h
def Tk.typeIs(h:Tk s.heap v x):s.TypeIs v "tuple":=by
 obtain⟨a,o,d,n,rfl,b,c,_⟩:=h;exact⟨_,b,c⟩
def Yn(h:A.units<fZ)(c:Tk s.heap v x)(g:Tk s.heap u y)(q:Q (tl x y) s):aq (ax prog w) A (keyLt' general' v u) Q E s:=by
 have f:=c;have d:=g;obtain⟨a,_,_,_,rfl,_⟩:=f;obtain⟨b,_,_,_,rfl,_⟩:=d;refine kat_one _ _ (wpAny_richCompare_same_room (op:=.Lt) c.typeIs g.typeIs v9
  (bS v9 c.typeIs F.entry_tuple_lt (vg c g ⟨_,rfl,(λe=>nomatch e),q⟩) (F.args_tuple_lt_2 _ _)) h)
def Yo(g:A.units<fZ)(c:Tk s.heap v x)(f:Tk s.heap u y)(q:Q (tl x y) s):aq (ax prog w) A (keyLt' oneType' v u) Q E s:=by
 have e:=c;have d:=f;obtain⟨a,_,_,_,rfl,_⟩:=e;obtain⟨b,_,_,_,rfl,_⟩:=d;rw[keyLt'_oneType,oneLt'_eq];simp only[if_true];refine a7 (wpAny_cRoomFor_or (.inr g) ?_);refine a7 (wpAny_callSpecialIfBound?_slot c.typeIs v9 (bS v9 c.typeIs F.entry_tuple_lt (vg c f ⟨_,rfl,?_⟩) (F.args_tuple_lt_2 _ _)));exact dA q
end
def Yp{x y:Str}(h:x.cps.toList=y.cps.toList):x=y:=by
 cases x;cases y;exact congrArg _ (zw.1 h)
theorem tl_irrefl:∀x:List Str,tl x x=false
 |[]=>rfl
 |x::xs=>by rw[xk,if_pos rfl];exact tl_irrefl xs
theorem tl_total:∀x y:List Str,tl x y=false->tl y x=false->x=y
 |[],[],_,_=>rfl
 |[],_::_,h,_=>by cases h
 |_::_,[],_,h=>by cases h
 |x::xs,y::ys,a,b=>by
  rw[xk] at a b;by_cases e:x=y
  ·subst e;rw[if_pos rfl] at a b;rw[tl_total xs ys a b]
  ·rw[if_neg e] at a;rw[if_neg (dm e)] at b;exact absurd (Yp (PyProof.Rows.strKind.total x.cps.toList y.cps.toList a b)) e
theorem tl_trans:∀x y z:List Str,tl x y=true->tl y z=true->tl x z=true
 |[],_,[],b,a=>by
  rename_i y
  cases y with
  |nil=>cases b
  |cons=>cases a
 |[],_,_::_,_,_=>rfl
 |_::_,[],_,h,_=>by cases h
 |_::_,_::_,[],_,h=>by cases h
 |x::xs,y::ys,z::f,b,a=>by
  rw[xk] at b a ⊢;by_cases e:x=y
  ·subst e;rw[if_pos rfl] at b;by_cases c:x=z
   ·subst c;rw[if_pos rfl] at a ⊢;exact tl_trans xs ys f b a
   ·rw[if_neg c] at a ⊢;exact a
  ·rw[if_neg e] at b;by_cases c:y=z
   ·subst c;rw[if_neg e];exact b
   ·rw[if_neg c] at a;have d:=PyProof.Rows.strKind.trans x.cps.toList y.cps.toList z.cps.toList b a;rw[if_neg λg=>by subst g;rw[PyProof.Rows.strKind.irrefl] at d;cases d];exact d
theorem Dx{c:Type}{p q:c->Bool}:∀{l:List c}{a:c},(∀z∈l,p z=true->q z=true)->a∈l->p a=false->q a=true->l.countP p<l.countP q
 |b::l,a,h,ha,g,f=>by
  rw[T3,T3];have mono:l.countP p<=l.countP q:=List.countP_mono_left λz e=>h z (af _ e);rcases aT.1 ha with rfl|ha
  ·rw[if_neg (by simp[g]),if_pos f];omega
  ·have:=Dx (λz e=>h z (af _ e)) ha g f;have i:=h b (aj ..);cases d:p b with
   |false=>simp;split<;>omega
   |true=>rw[i d];simp;omega
def GW(xs:List (List Str))(x:List Str):Nat:=xs.countP λy=>tl y x
def M3(a:x∈xs)(h:tl x y=true):GW xs x<GW xs y:=
 Dx (λz _ b=>tl_trans z x y b h) a (tl_irrefl x) h
def xl(c:x∈xs)(b:y∈xs):decide (GW xs x<GW xs y)=tl x y:=by
 cases h:tl x y with
 |true=>exact decide_eq_true (M3 c h)
 |false=>
  refine decide_eq_false λd=>?_;cases a:tl y x with
  |true=>have:=M3 b a;omega
  |false=>rw[tl_total x y h a] at d;omega
def Rv(a:x∈xs)(b:y∈xs)(h:GW xs x=GW xs y):x=y:=by
 refine tl_total x y ?_ ?_
 ·rw[<- xl a b];simp[h]
 ·rw[<- xl b a];simp[h]
theorem Ss.inj:∀{c:List ag}{x y:List Str},Ss c x->Ss c y->x=y
 |[],[],[],_,_=>rfl
 |v::c,x::xs,y::ys,a,b=>by
  obtain⟨⟨t,rfl⟩,a⟩:=a;obtain⟨⟨t',e⟩,b⟩:=b;cases e;rw[Ss.inj a b]
 |[],_::_,_,h,_=>h.elim
 |[],[],_::_,_,h=>h.elim
 |_::_,[],_,h,_=>h.elim
 |_::_,_::_,[],_,h=>h.elim
def Tk.inj(d:Tk h v x)(g:Tk h v y):x=y:=by
 obtain⟨a,o,l,n,rfl,e,_,i,j⟩:=d;obtain⟨_,o',p,m,f,b,_,c,k⟩:=g;cases f;rw[e] at b;cases b;rw[i] at c;cases c;exact j.inj k
def Tks(h:cg):List ag->List (List Str)->Prop
 |[],[]=>True
 |v::a,x::xs=>Tk h v x/\Tks h a xs
 |_,_=>False
theorem Tks.len:∀{a:List ag}{xs:List (List Str)},Tks h a xs->a.length=xs.length
 |[],[],_=>rfl
 |_::_,_::_,t=>congrArg (· + 1) t.2.len
 |[],_::_,t=>t.elim
 |_::_,[],t=>t.elim
theorem Tks.mem:∀{a:List ag}{xs:List (List Str)},Tks h a xs->v∈a->∃x∈xs,Tk h v x
 |c::a,x::xs,t,hm=>by
  rcases aT.1 hm with rfl|hm
  ·exact⟨x,aj ..,t.1⟩
  ·obtain⟨y,b,e⟩:=Tks.mem t.2 hm;exact⟨y,af _ b,e⟩
 |[],_,_,hm=>by cases hm
 |_::_,[],t,_=>t.elim
theorem Tks.keep(k:∀v x,Tk h v x->Tk h' v x):∀{a:List ag}{xs:List (List Str)},Tks h a xs->Tks h' a xs
 |[],[],_=>trivial
 |_::_,_::_,t=>⟨k _ _ t.1,Tks.keep k t.2⟩
 |[],_::_,t=>t.elim
 |_::_,[],t=>t.elim
def Tks.perm:∀{d a:List ag}{xs:List (List Str)},d.Perm a->Tks h a xs->∃ys,Tks h d ys/\ys.Perm xs:=by
 intro d a xs p;induction p generalizing xs with
 |nil=>exact λt=>⟨xs,t,.refl _⟩
 |cons v p e=>
  intro t;cases xs with
  |nil=>exact t.elim
  |cons x xs=>
   obtain⟨ys,c,b⟩:=e t.2;exact⟨x::ys,⟨t.1,c⟩,b.cons x⟩
 |swap v u l=>
  intro t
  match xs,t with
  |x::y::xs,t=>exact⟨y::x::xs,⟨t.2.1,t.1,t.2.2⟩,.swap x y xs⟩
  |[_],t=>exact t.2.elim
  |[],t=>exact t.elim
 |trans p q ih1 ih2=>
  intro t;obtain⟨ys,c,b⟩:=ih2 t;obtain⟨f,i,g⟩:=ih1 c;exact⟨f,i,g.trans b⟩
open Classical in
noncomputable def NN (h:cg) (xs:List (List Str)) (v:ag):Nat:=if e:∃x,Tk h v x then GW xs e.choose else 0
def uh(t:Tk h v x):NN h xs v=GW xs x:=by
 have e:∃x,Tk h v x:=⟨x,t⟩;unfold NN;rw[dif_pos e,e.choose_spec.inj t]
def Kd(kd:mD):Prop:=kd=tuples' true\/kd=general'\/kd=oneType'
def q0u(d:A.units<fZ)(k:Kd kd)(t:Tks s.heap vs xs):Cp prog w A s kd (NN s.heap xs) (vs.zip vs):=by
 intro x i y e Q E q;obtain⟨l,j⟩:=Cj i;obtain⟨m,g⟩:=Cj e;obtain⟨a,f,c⟩:=t.mem j;obtain⟨b,h,tb⟩:=t.mem g;rw[uh c,uh tb,xl f h] at q;rcases k with rfl|rfl|rfl
 ·exact UW c tb q
 ·exact Yn d c tb q
 ·exact Yo d c tb q
theorem GX:∀{a:List ag}{xs ys:List (List Str)}{h:cg},Tks h a xs->(∀x∈xs,x∈ys)->xs.Nodup->((a.zip a).map λp=>NN h ys p.1).Nodup
 |[],[],_,_,_,_,_=>g6
 |v::a,x::xs,ys,h,t,s,n=>by
  rw[xQ,ar,gx];refine⟨λc=>?_,GX t.2 (λx f=>s x (af _ f)) (gx.1 n).2⟩;obtain⟨p,d,e⟩:=cq.1 c;obtain⟨y,b,ty⟩:=t.2.mem (Cj d).2;rw[uh ty,uh t.1] at e;rw[Rv (s y (af _ b)) (s x (aj ..)) e] at b;exact(gx.1 n).1 b
 |[],_::_,_,_,t,_,_=>t.elim
 |_::_,[],_,_,t,_,_=>t.elim
def Rw(t:Tk s.heap v x)(q:∀o,(o=none\/∃b u,o=some (.str b u))->Q o s):aq (ax prog w) A (firstOfTuple' v) Q E s:=by
 obtain⟨a,o,d,n,rfl,c,f,g,e⟩:=t;rw[kas_first_eq];refine a7 (Looks.here (show Looks (ax prog w) s.heap (typeOf (.ref a)) o.cls from(Looks.ld c).andThen .now) ?_);rw[f,if_neg (by first|decide|simp)];refine a7 (listItems_at c g (a9 (q _ ?_)));rw[<- aO]
 match d.toList,x,e with
 |[],[],_=>exact .inl rfl
 |v::d,x::xs,h=>obtain⟨⟨t,rfl⟩,_⟩:=h;exact .inr ⟨x,t,rfl⟩
theorem Dy:∀{d:List ag}{xs:List (List Str)}{Q:List (Option ag)->ak->Prop},Tks s.heap d xs->(∀c:List (Option ag),c.length=d.length->(∀o∈c,o=none\/∃b u,o=some (.str b u))->Q c s)->aq (ax prog w) A (d.mapM firstOfTuple') Q E s
 |[],[],_,_,q=>by rw[List.mapM_nil];exact a9 (q [] rfl (by simp))
 |v::d,x::xs,Q,t,q=>by
  rw[List.mapM_cons];refine a7 (Rw t.1 λo ho=>a7 (Dy t.2 λc e f=>a9 (q _ (by simp[e]) ?_)));intro o' a;rcases aT.1 a with rfl|a
  ·exact ho
  ·exact f _ a
 |[],_::_,_,t,_=>t.elim
 |_::_,[],_,t,_=>t.elim
def Rx{b:List ag}{T:ag}{Q:Option ag->ak->Prop}(e:0<b.length)(f:∀v∈b,Looks (ax prog w) s.heap (typeOf v) T)(c:(T==T)=true)(q:Q (some T) s):aq (ax prog w) A (oneTypeOnly' b.toArray) Q E s:=by
 match b,e with
 |v::b,_=>
  rw[oneTypeOnly'_eq,P8,map_eq_pure_bind];refine a7 (a7 (kas_mapM (r:=T) _ (λv g i d=>(f v g).here d) (a9 ?_)));have a:((lF (λ_=>T) (v::b)).toArray.all λx=>x==T)=true:=by
   simp only[List.all_toArray,oF,bY];intro _ _;exact c
  have h:(lF (λ_=>T) (v::b)).toArray[0]?=some T:=by simp
  rw[h];simp only[a,if_true];exact a9 q
def UX{i:List ag}{xs:List (List Str)}{Q:mD->ak->Prop}(z:2<=i.length)(t:Tks s.heap i xs)(q:∀kd,Kd kd->Q kd s):aq (ax prog w) A (keyKind' i.toArray) Q E s:=by
 rw[kat_kind_eq,P8,map_eq_pure_bind];refine a7 (a7 (Dy t λc B p=>a9 ?_));by_cases d:(c.toArray.all λx=>x.isSome)=true
 ·rw[if_pos d];refine a7 (cK ?_);have hs:∀o∈c,∃b u,o=some (.str b u):=λo ho=>by
   rcases p o ho with rfl|h
   ·simp at d;have:=d _ ho;cases this
   ·exact h
  have f:c.toArray.filterMap id=(c.filterMap id).toArray:=by simp
  rw[f];have y:(c.filterMap id).length=c.length:=by
   have:∀c:List (Option ag),(∀o∈c,∃b u,o=some (.str b u))->(c.filterMap id).length=c.length:=by
    intro c;induction c with
    |nil=>intro _;rfl
    |cons o c k=>
     intro hs;obtain⟨b,u,rfl⟩:=hs o (aj ..);rw[nG];simp only[id];rw[aZ,k λo ho=>hs o (af _ ho)];rfl
   exact this c hs
  refine a7 (Rx (T:=.type "str") ∅ (λv g=>?_) (by rfl) (a9 (q _ (.inl rfl))));obtain⟨o,ho,e⟩:=List.mem_filterMap.1 g;obtain⟨b,u,rfl⟩:=hs o ho;cases e;exact .now
 ·rw[if_neg d];by_cases j:(c.toArray[0]?.bind id).isSome=true
  ·rw[if_pos j];exact a9 (q _ (.inr (.inl rfl)))
  ·rw[if_neg j];refine a7 (Rx (T:=.type "tuple") ∅ (λv g=>?_) (by rfl) (a9 (q _ (.inr (.inr rfl)))));obtain⟨x,_,a,o,G,n,rfl,l,m,_⟩:=t.mem g;rw[<- m];exact(Looks.ld l).andThen .now
theorem Tks.inj:∀{c:List ag}{xs ys:List (List Str)},Tks h c xs->Tks h c ys->xs=ys
 |[],[],[],_,_=>rfl
 |_::_,_::_,_::_,b,a=>by rw[b.1.inj a.1,Tks.inj b.2 a.2]
 |[],_::_,_,t,_=>t.elim
 |[],[],_::_,_,t=>t.elim
 |_::_,[],_,t,_=>t.elim
 |_::_,_::_,[],_,t=>t.elim
def Tk.keepNe(g:h.get? a=some (jL "list" vs n))(k:∀b o,b≠a->h.get? b=some o->h'.get? b=some o)(v:ag)(x:List Str)(t:Tk h v x):Tk h' v x:=by
 obtain⟨b,o,f,m,rfl,c,d,i⟩:=t;refine⟨b,o,f,m,rfl,k b o (λe=>?_) c,d,i⟩;subst e;rw[g] at c;cases c;simp at d
def UY{a:List ag}{xs:List cU}(p:xs.Perm (a.zip a)):(xs.map (·.2)).Perm a/\xs.map (·.1)=xs.map (·.2):=by
 refine⟨?_,eG λc b=>(Cj (p.mem_iff.1 b)).1⟩;have:=p.map (·.2)
 rwa[T4 (av _)] at this
theorem AU:∀{xs:List cU}{e:List (List Str)},Tks h (xs.map (·.1)) e->(∀z∈e,z∈ys)->xs.Pairwise (Yj (NN h ys))->e.Pairwise (λa b=>tl a b=true)
 |[],[],_,_,_=>sG
 |x::xs,z::e,t,f,p=>by
  have g:=kF.1 p;refine kF.2 ⟨λb hb=>?_,AU t.2 (λz m=>f z (af _ m)) g.2⟩;have:∀{d:List cU}{c:List (List Str)},Tks h (d.map (·.1)) c->b∈c->∃u∈d,Tk h u.1 b:=by
   intro d;induction d with
   |nil=>intro c t hb;cases c with
    |nil=>cases hb
    |cons=>exact t.elim
   |cons u d i=>intro c t hb;cases c with
    |nil=>cases hb
    |cons w c=>
     rcases aT.1 hb with rfl|hb
     ·exact⟨u,aj ..,t.1⟩
     ·obtain⟨q,j,n⟩:=i t.2 hb;exact⟨q,af _ j,n⟩
  obtain⟨u,o,k⟩:=this t.2 hb;have l:=g.1 u o;unfold Yj at l;rw[uh t.1,uh k] at l;rw[<- xl (f z (aj ..)) (f b (af _ hb))];exact decide_eq_true l
 |[],_::_,t,_,_=>t.elim
 |_::_,[],t,_,_=>t.elim
def q0v(u:Up rk a 0 a.size):a.toList.Pairwise (Yj rk):=by
 rw[qt];intro i j f e c;have b:i<a.size:=by simpa using f
 have d:j<a.size:=by simpa using e
 have:=u i j (cH _) c ∅;rw[bR (bC b),bR (bC d)] at this;exact this
def GY{a:ap}{c:List ag}{xs:List (List Str)}{n:Nat}{P:Fin->ak->Prop}(O:A.units<fZ)(ho:s.heap.get? a=some (jL "list" c.toArray n))
  (t:Tks s.heap c xs) (hx:xs.Nodup) (X:c.length<=64)
  (h:∀(g:List ag) (i:List (List Str)),g.Perm c->Tks s.heap g i->i.Perm xs->i.Pairwise (λa b=>tl a b=true)->P (.done (.ret .none)) {s with heap:=sortedHeap s.heap a c g.toArray}):
  aq (ax prog w) A (jQ.«list.sort» ⟨[.ref a],[]⟩) P E s:=by
 rw[list_sort_plain];have I:a<s.heap.objs.size:=aw ho;have B:c.length<=sizeLine:=by rw[iE];omega
 refine a7 (listItems_at ho rfl ?_);refine a7 (MU ho rfl ?_ (by simpa using B) (cH _));obtain⟨G,k⟩:∃G,(s.heap.update a (iA λ_=>#[])).get? a=some (jL "list" #[] G):=⟨_,get?_update_seq ho (λ_=>#[])⟩;refine a7 (TC k rfl ?_);refine a7 (wpAny_newTuple ?_ (by simpa using B));refine a7 (MO ?_ (cH _));refine cC ?_;have f:(((s.heap.update a (iA λ_=>#[])).push (jL "tuple" c.toArray 0)).push (jL "list" #[] 0)).get? a=some (jL "list" #[] G):=by
  rw[P9 _ _ _ (by rw[size_push',zX];exact aL (fG I)),P9 _ _ _ (by rw[zX];exact aL I)];exact k
 have p:Tks (((s.heap.update a (iA λ_=>#[])).push (jL "tuple" c.toArray 0)).push (jL "list" #[] 0)) c xs:=
  t.keep (Tk.keepNe ho λb o x e=>ae _ (ae _ ((cx _ _ (dm x)).trans e)))
 show aq (ax prog w) A _ P E {s with heap:=((s.heap.update a (iA λ_=>#[])).push (jL "tuple" c.toArray 0)).push (jL "list" #[] 0)};dsimp only;have hsz:c.toArray.size=c.length:=by simp
 by_cases v:c.toArray.size<2
 ·rw[if_pos v,if_pos v];refine a7 (a9 ?_);rw[StateT.run_pure];refine a7 (a9 ?_);dsimp only;refine a7 (TC f rfl ?_);refine a7 (MU f rfl ?_ (hsz2:=by rw[lC,Array.size_zip,a_,Jg];exact zx B));simp only[bne_self_eq_false,bn,if_false];have e:(c.toArray.zip c.toArray).map (·.2)=c.toArray:=by
   apply zw.1;rw[Array.toList_map,Pa,T4 (av _)]
  refine a9 ?_;have:=h c xs (.refl _) t (.refl _) (by
   have:=t.len
   match xs,this with
   |[],_=>exact .nil
   |[_],_=>exact FR ..
   |_::_::_,e=>simp at e;omega)
  rw[<- e] at this;exact this
 ·rw[if_neg v,if_neg v];refine a7 (UX ∅ p λkd Y=>?_);refine a7 (bx (Ym (kd:=kd) (L:=c.zip c) (st:=SortSt.mk' kd (c.toArray.zip c.toArray) #[] 7 none)
   (Q:=λ_ d=>(aV d).toList.Perm (c.zip c)/\y0 d=none/\Up (NN _ xs) (aV d) 0 (c.zip c).length)
   (q0u O Y p) (GX p (λ_ h=>h) hx) ⟨rfl,by rw[Pa],rfl⟩ rfl (by rw[sJ];omega) (by rw[sJ];omega) λd b u=>⟨b.perm,b.ok,u⟩) ?_ λ_ _ e=>e)
  rintro⟨⟨⟩,d⟩ s' ⟨rfl,M,U,hs⟩;dsimp only;have l:(aV d).size=c.length:=by
   have:=M.length_eq;rw[au,sJ,Jg] at this;exact this
  refine a7 (TC f rfl ?_);refine a7 (MU f rfl ?_ (hsz2:=by rw[lC];show(aV d).size<=_;rw[l,iE];omega));rw[U];simp only[bne_self_eq_false,bn,if_false];refine a9 ?_;obtain⟨y,K⟩:=UY M;obtain⟨ys,q,N⟩:=p.perm y;obtain⟨j,H,S⟩:=t.perm y;rw[<- K] at q;have m:(c.zip c).length=(aV d).size:=by rw[sJ,l,Jg]
  rw[m] at hs;have so:=AU (ys:=xs) q (λz T=>N.mem_iff.1 T) (q0v hs);have:j=ys:=by
   rw[K] at q;exact Tks.inj (H.keep (Tk.keepNe ho λb o x e=>ae _ (ae _ ((cx _ _ (dm x)).trans e)))) q
  subst this;have:=h _ j y H S so;have e:(aV d).map (·.2)=((aV d).toList.map (·.2)).toArray:=by apply zw.1;simp
  rw[<- e] at this;exact this
def sorted_T(N:A.units+2<fZ)(u:aq (ax prog w) A.in1 (Cd x) (λf s1=>∃xs,Tks s1.heap f xs/\xs.Nodup/\f.length<=64 /\
   ∀(h':cg) (c:List ag) (d:List (List Str)) (e:Nat),(∀b o,s1.heap.get? b=some o->h'.get? b=some o)->h'.get? s1.heap.objs.size=some (jL "list" c.toArray e)->c.Perm f->Tks s1.heap c d->d.Perm xs->d.Pairwise (λa b=>tl a b=true) ->
    Q (.ref s1.heap.objs.size) {s1 with heap:=h'}) E s):aq (ax prog w) A (call (.builtin "sorted") [x]) Q E s:=by
 refine pY kind_sorted plain_sorted entry_sorted (args_sorted1 _) ?_;unfold jQ.«sorted»;refine a7 (m:=checkCount "sorted" 1 1 _) (a9 ?_);refine a7 (bx u (λf s1 z=>?_) λ_ _ z=>z);obtain⟨xs,t,L,h,y⟩:=z;refine a7 (MO ?_ (by rw[iE];omega));have g:(s1.heap.push (jL "list" f.toArray 0)).get? s1.heap.objs.size=some (jL "list" f.toArray 0):=aC _ rfl;show aq _ _ _ _ _ {s1 with heap:=s1.heap.push (jL "list" f.toArray 0)};have k:∀v x,Tk s1.heap v x->Tk (s1.heap.push (jL "list" f.toArray 0)) v x:=λv x ⟨b,o,I,m,B,G,M⟩=>⟨b,o,I,m,B,ae _ G,M⟩;refine a7 (cC (bS slot_list_sort ⟨_,g,rfl⟩ entry_list_sort (GY (by show A.units+1+1<fZ;omega) g (t.keep k) L h λc d j H p K=>⟨_,rfl,?_⟩) (args_list_sort _)));obtain⟨e,i⟩:=sortedHeap_at (out:=c.toArray) g;obtain⟨ys,n,O⟩:=t.perm j;obtain rfl:ys=d:=(n.keep k).inj H;refine a9 ⟨_,rfl,y _ _ ys e (λb o q=>?_) i j n p K⟩;have l:=aw q;rw[sortedHeap_old (aL l) (by rw[size_push'];exact fG l)];exact ae _ q
end TS
namespace L2
open PySem PySem.Spec PyProof.Rows PySem.W
def NO(x:List Str):List (List Str)->List (List Str)
 |[]=>[x]
 |y::l=>if TS.tl x y=true then x::y::l else y::NO x l
def jW:List (List Str)->List (List Str)
 |[]=>[]
 |x::l=>NO x (jW l)
theorem yv(x:List Str):∀l,(NO x l).Perm (x::l)
 |[]=>.refl _
 |y::l=>by
  unfold NO;split
  ·exact .refl _
  ·exact((yv x l).cons y).trans (.swap x y l)
theorem nW:∀l,(jW l).Perm l
 |[]=>.refl _
 |x::l=>(yv x _).trans ((nW l).cons x)
abbrev Z1(l:List (List Str)):Prop:=l.Pairwise λa b=>TS.tl a b=true
theorem M4:∀{l:List (List Str)},Z1 l->x∉l->Z1 (NO x l)
 |[],_,_=>FR ..
 |y::l,h,b=>by
  have h':=kF.1 h;unfold NO;split
  ·rename_i e
   refine kF.2 ⟨λz a=>?_,h⟩;rcases aT.1 a with rfl|a
   ·exact e
   ·exact TS.tl_trans x y z e (h'.1 z a)
  ·rename_i e
   refine kF.2 ⟨λz a=>?_,M4 h'.2 λq=>b (af _ q)⟩;rcases aT.1 ((yv x l).mem_iff.1 a) with rfl|a
   ·cases q:TS.tl y z with
    |true=>rfl
    |false=>exact absurd (aT.2 (.inl (TS.tl_total z y (by simpa using e) q))) b
   ·exact h'.1 z a
theorem GZ:∀{l:List (List Str)},l.Nodup->Z1 (jW l)
 |[],_=>.nil
 |x::l,h=>M4 (GZ (gx.1 h).2) λq=>(gx.1 h).1 ((nW l).mem_iff.1 q)
def Yq(e:Z1 l)(d:Z1 m)(p:l.Perm m):l=m:=
 List.Perm.eq_of_pairwise (le:=λa b=>TS.tl a b=true) (λa b _ _ c f=>by
  have:=TS.tl_trans a b a c f;rw[TS.tl_irrefl] at this;cases this) e d p
def Ry(n:l.Nodup)(p:l'.Perm l)(h:Z1 l'):l'=jW l:=Yq h (GZ n) (p.trans (nW l).symm)
def Dz(H:Hp):List ap->List (List Str)->Prop
 |[],[]=>True
 |a::b,x::xs=>H a=some (.tup (x.map V.str))/\Dz H b xs
 |_,_=>False
def WO{pins σ H s}(I:cb X pins σ H s)(h:H a=some (.tup (x.map V.str))):TS.Tk s.heap (.ref a) x:=by
 obtain⟨b,r,⟨o,d,g,n,f⟩,_⟩:=I.tuple (.inl (.of h));refine⟨a,o,b.toArray,n,rfl,d,g,f,?_⟩;have:∀{c:List ag}{x:List Str},sx c x->TS.Ss c x:=by
  intro c x q;induction q with
  |nil=>trivial
  |cons x t _ e=>exact⟨⟨t,rfl⟩,e⟩
 exact this (kK r)
theorem JZ{pins σ H s}(I:cb X pins σ H s):∀{a:List ap}{xs:List (List Str)},Dz H a xs->TS.Tks s.heap (a.map bq) xs
 |[],[],_=>trivial
 |_::_,_::_,t=>⟨WO I t.1,JZ I t.2⟩
 |[],_::_,t=>t.elim
 |_::_,[],t=>t.elim
theorem Dz.mem:∀{c:List ap}{xs:List (List Str)},Dz H c xs->a∈c->∃x:List Str,H a=some (.tup (x.map V.str))
 |b::c,x::xs,t,h=>by
  rcases aT.1 h with rfl|h
  ·exact⟨x,t.1⟩
  ·exact Dz.mem t.2 h
 |[],_,_,h=>by cases h
 |_::_,[],t,_=>t.elim
theorem WP{pins σ H s}(I:cb X pins σ H s)(t:Dz H as xs):∀{bs:List ap}{ys:List (List Str)},(∀b∈bs,b∈as)->TS.Tks s.heap (bs.map bq) ys->Dz H bs ys
 |[],[],_,_=>trivial
 |b::bs,y::ys,h,q=>by
  obtain⟨x,e⟩:=t.mem (h b (aj ..));rw[(WO I e).inj q.1] at e;exact⟨e,WP I t (λb a=>h b (af _ a)) q.2⟩
 |[],_::_,_,q=>q.elim
 |_::_,[],_,q=>q.elim
theorem M5:∀{a:List ap}{b:List ag},eE (a.map V.ref) b->b=a.map bq
 |[],_,.nil=>rfl
 |_::_,_,.cons r t=>by cases r;rw[M5 t];rfl
theorem yw:∀b:List ap,eE (b.map V.ref) (b.map bq)
 |[]=>.nil
 |a::b=>.cons rfl (yw b)
def NQ(p:us.Perm (as.map bq)):∃bs:List ap,us=bs.map bq/\bs.Perm as:=by
 refine⟨us.map λv=>match v with | .ref a=>a|_=>0,?_,?_⟩
 ·rw[c9];refine(vc us).symm.trans (eG λv b=>?_);obtain⟨a,_,rfl⟩:=cq.1 (p.mem_iff.1 b);rfl
 ·have:=p.map λv=>match v with | .ref a=>a|_=>(0:ap)
  rw[c9] at this;refine this.trans (L5 ?_);exact(eG λa _=>rfl).trans (vc as)
def AV{pins σ H s}(K:X.A.units+2<fZ)(I:cb X pins σ H s)(t:Dz H as xs)(z:xs.Nodup)(p:as.length<=64)
  (N:∀(P:List ag->ak->Prop),(∀(h':cg) (j:Nat),(∀b o,s.heap.get? b=some o->h'.get? b=some o)->s.heap.objs.size<=h'.objs.size->P (as.map bq) {s with heap:=h',toks:=j})->aq (ax X.prog X.w) X.A.in1 (Cd v) P X.xe s)
  (q:∀l bs,H l=none->bs.Perm as->Dz H bs (jW xs)->Q (.ref l) (upd H l (.lst (bs.map V.ref)))):
  aq (ax X.prog X.w) X.A (call (.builtin "sorted") [v]) (EP X pins σ Q) X.xe s:=by
 refine TS.sorted_T K (N _ λh' j kp sz=>⟨xs,(JZ I t).keep ?_,z,by rw[am];exact p,λB L ys e a g n G E u=>?_⟩)
 ·exact λv x ⟨b,o,h,m,d,f,k⟩=>⟨b,o,h,m,d,kp b o f,k⟩
 ·obtain⟨bs,rfl,c⟩:=NQ n;obtain rfl:=Ry z E u;obtain⟨ys,y,_⟩:=(JZ I t).perm n;have:=(y.keep λv x ⟨b,o,h,m,d,f,k⟩=>(⟨b,o,h,m,d,kp b o f,k⟩:TS.Tk h' v x)).inj G;subst this;have M:∀b o,s.heap.get? b=some o->B.get? b=some o:=λb o e=>a b o (kp b o e);have i:d_ X.prog X.w (upd H h'.objs.size (.lst (bs.map V.ref))) B h'.objs.size (.lst (bs.map V.ref)):=
   ⟨by rw[am,c.length_eq];exact ca p (by rw[iE];decide),bs.map bq,e,yw bs,g⟩
  exact⟨.ref h'.objs.size,_,I.laid (t':=j) M sz i,rfl,q _ bs (I.hok.fresh sz) c (WP I t (λb O=>c.mem_iff.1 O) y)⟩
def M6(hs:(d==fj)=false)(f:o.ExactDict)(ho:o.data=.dict es ep):
  KdlSrc prog w "dict" d d es.size (λi v=>∃e,es[i]?=some e/\v=e.key) (λh=>h.get? d=some o) where
 type:=λs e=>⟨o,e,f.1⟩
 there:=λh e=>⟨aw e,aw e⟩
 keep:=λh h' e k=>k d (.inl rfl) o e
 notList:=by decide
 notTuple:=by decide
 hint:=λA E s Q e q=>kdl_hint_dict ⟨o,e,f.1⟩ q
 iter:=λA s l e=>by
  refine⟨{cls:=.type "dict_keyiterator",data:=.fields #[.ref d,.int 0 0,.int es.size 0,.int ep 0]},λi h=>h.IsKeyIter s.heap.objs.size d i es.size ep/\h.get? d=some o,λE Q q=>Rc hs e f ho q,?_,⟨_,aC _ rfl,rfl,rfl⟩,ae _ e⟩;have ne:d≠s.heap.objs.size:=aL (aw e);refine⟨by simp,λi h h' st k=>⟨st.1.at λo q=>k _ (by simp) o q,k _ (by simp) o st.2⟩,λi s' Q E g st q=>?_,λs' Q E st q=>?_,λi s' Q E st q=>Tx st.1 q⟩
  ·refine LO st.1 st.2 ho (bC g) λh' c j=>q _ h' s'.toks ⟨_,bC g,rfl⟩ ⟨c,(j.2 d ne).trans st.2⟩ λb o a e=>(j.2 b (by simpa using a)).trans e
  ·exact Rb l st.1 st.2 ho (av _) λh' m=>q h' s'.toks λb o a e=>m b o (by simpa using a) e
def EN(x:A.handled=none)(hs:(d==fj)=false)(B:o.ExactDict)(ho:o.data=.dict es ep)(p:s.heap.get? d=some o)(z:es.size<=sizeLine)
  (h:∀(t:List ag) (h':cg) (m:Nat),t=es.toList.map (·.key)->(∀b o,s.heap.get? b=some o->h'.get? b=some o)->s.heap.objs.size<=h'.objs.size->Q t {s with heap:=h',toks:=m}):
  aq (ax prog w) A (Cd (.ref d)) Q E s:=by
 have i:=aw p;unfold Cd;refine a7 (J5 (fg OJ ?_));rw[du OK _];show aq _ A.in1 (IF []>>=λl=>again (.builtin "list.__iadd__" ⟨[l,.ref d],[]⟩)) _ _ s;refine a7 (bz ?_);refine a9 ⟨iP r_ _,fg F.entry_list_iadd ?_⟩;rw[du r_ _];have k:(s.heap.push {cls:=.type "list",data:=.seq ([]:List ag).toArray}).get? s.heap.objs.size=some {cls:=.type "list",data:=.seq ([]:List ag).toArray}:=aC _ rfl;show aq _ A.in1 (lS (.ref s.heap.objs.size) (.ref d) (.ref s.heap.objs.size)) _ _ {s with heap:=s.heap.push {cls:=.type "list",data:=.seq ([]:List ag).toArray}};refine kdl_extend (R:=λr s'=>match r with | .ok (.ret v)=>aq (ax prog w) A (match v with | .ref a=>(do let o <- load a;match o.data with | .seq xs _=>pure xs.toList|_=>xW "internal:collect")|_=>xW "internal:collect") Q E s' | .ok _=>False | .error e=>E e s') (s:={s with heap:=s.heap.push {cls:=.type "list",data:=.seq ([]:List ag).toArray}}) (M6 hs B ho) (by simpa using x) (ae _ p) s.heap.objs.size (fF i) (fF i) _ 0 k (λh' m f c kp g n=>?_) z;show aq _ A (load s.heap.objs.size>>=_) _ _ _;refine a7 (wpAny_load g (a9 ?_));refine h _ h' m ?_ (λb o e=>kp b o (aL (aw e)) (ae _ e)) (cE (aw g));apply yT;intro j;rw[aO,b9,aO];by_cases q:j<f.size
 ·obtain⟨e,u,y⟩:=n.2 j f[j] (bC q);rw[u,bC q,y];rfl
 ·rw[cW ∅,cW (by rw[<- n.1];omega)];rfl
theorem AW{P:bg}{w:bL}{H:Hp}{es:Array uK}:∀{a:List (List gY×V)}{xs:List (List Str)}{l:List uK},l.length=a.length->a.map (·.1)=xs.map (λx=>x.map j5) ->
  (∀(i:Nat) (k:List gY) (v:V),a[i]?=some (k,v)->∃(f:uK) (b:ap),l[i]?=some f/\f.key=bq b/\H b=some (.tup (k.map kV)))->∃e:List ap,l.map (·.key)=e.map bq/\Dz H e xs
 |[],[],[],_,_,_=>⟨[],rfl,trivial⟩
 |(k,v)::a,x::xs,f::l,d,c,h=>by
  obtain⟨o,b,n,s,t⟩:=h 0 k v rfl;cases n;rw[ar,ar] at c;obtain⟨j,g⟩:=oM c;have j:k=x.map j5:=j;subst j;obtain⟨e,m,p⟩:=AW (P:=P) (w:=w) (H:=H) (es:=es) (l:=l) (by simpa using d) g λi k v q=>h (i+1) k v q;refine⟨b::e,by rw[ar,ar,s,m],?_,p⟩;rw[t,c9];rfl
 |[],_::_,_,_,c,_=>by cases c
 |_::_,[],_,_,c,_=>by cases c
 |[],[],_::_,d,_,_=>by cases d
 |_::_,_::_,[],d,_,_=>by cases d
def AX(j:X.A.units+2<fZ):ki X (.builtin "sorted") (λxs H Q=>∃p a c,xs=[.ref p]/\qy X.K H p (a.map V.ref)/\Dz H a c/\c.Nodup/\a.length<=64/\∀l bs,H l=none->bs.Perm a->Dz H bs (jW c)->Q (.ref l) (upd H l (.lst (bs.map V.ref)))):=by
 intro f s y H xs z Q I r h;obtain⟨p,a,c,rfl,k,t,v,i,q⟩:=h;obtain⟨u,rfl,g⟩:=lG r;cases g;obtain⟨m,x,pl,d⟩:=I.list k;obtain rfl:=M5 x;refine AV j I t v i (λP w=>collect_list pl.isList ?_ (by rw[am] at d ⊢;exact d)) q;refine w _ s.toks (λb o e=>?_) ?_
 ·have n:=aw e;exact(cx _ _ (fF n)).trans (ae _ e)
 ·rw[zX,cY];exact lA _
def AY(G:X.calm=true)(B:X.A.units+2<fZ):ki X (.builtin "sorted") (λxs H Q=>∃p o a c,xs=[.ref p]/\H p=some (.frz o (.dT a))/\a.map (·.1)=c.map (λx=>x.map j5)/\c.Nodup/\c.length<=64/\∀l bs,H l=none->Dz H bs (jW c)->Q (.ref l) (upd H l (.lst (bs.map V.ref)))):=by
 intro f s σ H xs us Q I r h;obtain⟨p,o,a,c,rfl,K,j,O,hz,q⟩:=h;obtain⟨u,rfl,t⟩:=lG r;cases t;obtain⟨y,Y,z,es,ep,g2,d,g4⟩:=tm I.hok K;have g:a.length=c.length:=by simpa using congrArg jI j
 obtain⟨U,e,T⟩:=AW (P:=X.prog) (w:=X.w) (es:=es) (H:=H) (l:=es.toList) (by rw[au];exact d) j λi k v M=>by
  obtain⟨N,b,S,e2⟩:=g4 i k v M;exact⟨N,b,by rw[aO];exact S,e2⟩
 have la:U.length=c.length:=by
  have:=congrArg jI e;rw[am,am,au,d,g] at this;exact this.symm
 refine AV B I T O ∅ (λP hp=>EN (by simpa using I.ok.hd G) y z g2 Y (by rw[d,g,iE];omega) λvs h' n E kp sz=>?_) λl bs m _ L=>q l bs m L;subst E;rw[e];exact hp h' n kp sz
end L2
namespace J
open PySem L2
def ro:List D->Option (List (List Str))
 |[]=>some []
 |.tuple ds::r=>(eU ds).bind λx=>(ro r).map (x::·)
 |_::_=>none
def xm(x:List Str):D:=.tuple (x.map .str)
theorem vM:∀xs:List (List Str),ro (xs.map xm)=some xs
 |[]=>rfl
 |x::xs=>by
  show(eU (x.map ay)).bind (λy=>(ro (xs.map xm)).map (y::·))=_;rw[strsOf_map,vM xs];rfl
theorem pc:∀{ds:List D}{xs:List (List Str)},ro ds=some xs->ds=xs.map xm
 |[],xs,h=>by cases h;rfl
 |d::ds,xs,h=>by
  cases d with
  |tuple c=>
   have h:(eU c).bind (λy=>(ro ds).map (y::·))=some xs:=h;cases a:eU c with
   |none=>rw[a] at h;cases h
   |some x=>
    cases b:ro ds with
    |none=>rw[a,b] at h;cases h
    |some ys=>
     rw[a,b] at h;cases h;rw[ar,<- pc b,oZ a];rfl
  |_=>cases h
def qL(a:List (List Str)):R D:=if a.Nodup/\a.length<=64 then .ok (.list ((jW a).map xm)) else .no
def ui:D->R D
 |.list ds=>match ro ds with
  |some a=>qL a
  |none=>.no
 |.dict ((.none,.none)::ds)=>match ro (ds.map (·.1)) with
  |some a=>qL a
  |none=>.no
 |_=>.no
theorem G_:∀{c:List V}{xs:List (List Str)},RDs K H c (xs.map xm)->∃b:List ap,c=b.map V.ref/\Dz H b xs
 |_,[],.nil=>⟨[],rfl,trivial⟩
 |_,x::xs,.cons h t=>by
  obtain⟨b,e,d⟩:=G_ t;subst e;unfold xm at h;cases h with
  | @tuple a ys _ q r=>
   rw[mT r] at q;exact⟨a::b,rfl,q,d⟩
theorem vN:∀{bs:List ap}{ys:List (List Str)}{Hs:Hp},Dz H bs ys->dQ Hs H->∃f,cQ H Hs H f/\RDs K f (bs.map V.ref) (ys.map xm)
 |[],[],Hs,_,s=>⟨Hs,.refl s,.nil⟩
 |b::bs,y::ys,Hs,t,s=>by
  obtain⟨d,st,r⟩:=vN (K:=K) t.2 s;have sub:=st.sub;have same:dQ d (upd d b (.tup (y.map V.str))):=λc u e=>by
   by_cases a:c=b
   ·subst a;have:=sub _ _ e;rw[t.1] at this;cases this;exact bc
   ·rw[bh a];exact e
  refine⟨upd d b (.tup (y.map V.str)),st.trans ⟨.refl _,same,λc u e=>?_,λc u e n z=>?_⟩,.cons (.tuple bc (wX y)) (r.same same)⟩
  ·by_cases a:c=b
   ·subst a;rw[bc] at e;cases e;exact t.1
   ·rw[bh a] at e;exact sub _ _ e
  ·by_cases a:c=b
   ·subst a;rw[t.1] at e;cases e;cases n
   ·rw[bh a];exact z
 |[],_::_,_,t,_=>t.elim
 |_::_,[],_,t,_=>t.elim
theorem M7(s:dQ Hs H):∀{a:List ap}{xs:List (List Str)},Dz Hs a xs->Dz H a xs
 |[],[],_=>trivial
 |_::_,_::_,t=>⟨s _ _ t.1,M7 s t.2⟩
 |[],_::_,t=>t.elim
 |_::_,[],t=>t.elim
theorem M8:∀{a:List ap}{xs:List (List Str)},Dz H a xs->a.length=xs.length
 |[],[],_=>rfl
 |_::_,_::_,t=>congrArg (· + 1) (M8 t.2)
 |[],_::_,t=>t.elim
 |_::_,[],t=>t.elim
theorem Hb:∀{k:List gY}{x:List Str},k.map kD=x.map ay->k=x.map j5
 |[],[],_=>rfl
 |.inr a::k,x::xs,h=>by
  simp only[ar,y8] at h;obtain⟨b,c⟩:=h;cases b;rw[Hb c];rfl
 |.inl _::_,_::_,h=>by
  simp only[ar,y8] at h;cases h.1
 |[],_::_,h=>by cases h
 |_::_,[],h=>by cases h
theorem AZ:∀{b:List (List gY×V)}{ds:List (D×D)}{xs:List (List Str)},RDt K H b ds->ds.map (·.1)=xs.map xm->b.map (·.1)=xs.map λx=>x.map j5
 |_,_,[],.nil,_=>rfl
 |_,_,x::xs,.cons h t,e=>by
  rw[ar,ar] at e;obtain⟨a,c⟩:=oM e;rw[ar,ar,AZ t c];have a:tD _=xm x:=a;unfold tD xm at a;injection a with a;rw[Hb a]
 |_,_,_::_,.nil,e=>by cases e
 |_,_,[],.cons _ _,e=>by cases e
def J_(P:X.calm=true)(y:X.A.units+64<fZ):Nu X (.builtin "sorted") (iT ui):=by
 have y:X.A.units+2<fZ:=by omega
 refine sX (λd c n=>?_) λg s B H x u Q Hs d d' I L sub z b q=>?_
 ·unfold ui qL;split<;>(try split)<;>(try split)<;>exact λh=>by cases h
 ·have fin:∀{f:List (List Str)}{l:ap}{bs:List ap},H l=none->Dz H bs (jW f)->Q (.ref l) (upd H l (.lst (bs.map V.ref)))\/d'≠.list ((jW f).map xm):=λ{f l bs} m tb=>by
   by_cases e:d'=.list ((jW f).map xm)
   ·subst e;obtain⟨t,st,r⟩:=vN (K:=X.K) tb sub;have G:cQ H t (upd H l (.lst (bs.map V.ref))) (upd t l (.lst (bs.map V.ref))):=.new st.sub m;exact .inl (q _ _ _ (st.trans G) (.list (.inl (.of bc)) (r.same G.sh)))
   ·exact .inr e
  unfold ui at b;split at b
  ·split at b
   ·rename_i f w
    unfold qL at b;split at b
    ·rename_i p
     cases b;obtain⟨a,U,rfl,N,M⟩:=z.list sub;rw[pc w] at M;obtain⟨T,rfl,E⟩:=G_ M;exact AX y g s B H _ _ Q I (.cons L .nil) ⟨a,T,f,rfl,N,M7 sub E,p.1,by rw[M8 E];exact p.2,λl bs m _ tb=>(fin m tb).resolve_right λh=>h rfl⟩
    ·cases b
   ·cases b
  ·split at b
   ·rename_i f w
    unfold qL at b;split at b
    ·rename_i p
     cases b;obtain⟨a,O,S⟩:=z.dict sub;subst O;rcases S with⟨j,v,i⟩|⟨j,v,hn,i⟩|⟨o,j,es,he,v,hn,i⟩
     ·generalize b:((.none,.none)::_:List (D×D))=d0 at i;cases i with
      |nil=>cases b
      | @cons k _ _ _ _ _ _=>cases k<;>cases b
     ·generalize b:((.none,.none)::_:List (D×D))=d0 at i;cases i<;>cases b
     ·cases he;exact AY P y g s B H _ _ Q I (.cons L .nil) ⟨a,o,j,f,rfl,v,AZ i (pc w),p.1,p.2,λl bs m tb=>(fin m tb).resolve_right λh=>h rfl⟩
    ·cases b
   ·cases b
  ·cases b
end J
namespace L2
open PySem PySem.Spec PyProof.Rows PySem.W
def EO(U:X.calm=true):ki X (.type "list") (λxs H Q=>∃p o a g,xs=[.ref p]/\H p=some (.frz o (.dT a))/\a.map (·.1)=g.map (λx=>x.map j5)/\g.length<=64/\∀l bs,H l=none->Dz H bs g->Q (.ref l) (upd H l (.lst (bs.map V.ref)))):=by
 intro E s σ H xs us Q I r h;obtain⟨p,o,a,g,rfl,Y,M,hz,q⟩:=h;obtain⟨u,rfl,O⟩:=lG r;cases O;obtain⟨y,g1,S,es,ep,g2,m,g4⟩:=tm I.hok Y;have G:a.length=g.length:=by simpa using congrArg jI M
 obtain⟨f,B,ta⟩:=AW (P:=X.prog) (w:=X.w) (es:=es) (H:=H) (l:=es.toList) (by rw[au];exact m) M λi k v hi=>by
  obtain⟨en,b,n,A⟩:=g4 i k v hi;exact⟨en,b,by rw[aO];exact n,A⟩
 refine kdl_call (M6 y S g2) (I.ok.hd U) g1 (by rw[m,G,iE];omega) λh' N d c kp t K=>?_;have T:d.toList=f.map bq:=by
  rw[<- B];apply yT;intro j;rw[aO,b9,aO];by_cases L:j<d.size
  ·obtain⟨e,n,A⟩:=K.2 j d[j] (bC L);rw[n,bC L,A];rfl
  ·rw[cW ∅,cW (by rw[<- K.1];omega)];rfl
 have la:f.length=g.length:=by
  have:=congrArg jI B;rw[am,am,au,m,G] at this;exact this.symm
 have z:d_ X.prog X.w (upd H s.heap.objs.size (.lst (f.map V.ref))) h' s.heap.objs.size (.lst (f.map V.ref)):=
  ⟨by rw[am,la,iE];omega,f.map bq,c,yw f,by rw[<- T];exact t⟩
 exact⟨.ref s.heap.objs.size,_,I.laid (t':=N) kp (av _) z,rfl,q _ f (I.hok.fresh (av _)) ta⟩
end L2
namespace J
open PySem L2
def DA:D->R D
 |.dict ((.none,.none)::ds)=>match ro (ds.map (·.1)) with
  |some a=>if a.length<=64 then .ok (.list (a.map xm)) else .no
  |none=>.no
 |_=>.no
def Rz(z:X.calm=true):Nu X (.type "list") (iT DA):=by
 refine sX (λd c n=>?_) λg s A H x u Q Hs d d' I G sub p b q=>?_
 ·unfold DA;split<;>(try split)<;>(try split)<;>exact λh=>by cases h
 ·unfold DA at b;split at b
  ·split at b
   ·rename_i B t
    split at b
    ·rename_i y
     cases b;obtain⟨a,v,E⟩:=p.dict sub;subst v;rcases E with⟨f,j,e⟩|⟨f,j,hn,e⟩|⟨o,f,es,he,j,hn,e⟩
     ·generalize b:((.none,.none)::_:List (D×D))=d0 at e;cases e with
      |nil=>cases b
      | @cons k _ _ _ _ _ _=>cases k<;>cases b
     ·generalize b:((.none,.none)::_:List (D×D))=d0 at e;cases e<;>cases b
     ·cases he;refine EO z g s A H _ _ Q I (.cons G .nil) ⟨a,o,f,B,rfl,j,AZ e (pc t),y,λl bs w tb=>?_⟩;obtain⟨i,st,r⟩:=vN (K:=X.K) tb sub;have m:cQ H i (upd H l (.lst (bs.map V.ref))) (upd i l (.lst (bs.map V.ref))):=.new st.sub w;exact q _ _ _ (st.trans m) (.list (.inl (.of bc)) (r.same m.sh))
    ·cases b
   ·cases b
  ·cases b
end J
namespace J
open PySem PySem.Spec PyProof.Rows L2
def RA(a:Bool):D->D->R D
 |x,.list ys=>if x.canLay0&&bW ys&&decide (x.depth<=60) then .ok (.bool (if a then !(ys.any λy=>aR y x) else ys.any λy=>aR y x)) else .no
 |_,_=>.no
def q1w(o:X.A.units+64<fZ):wZ X (bG .In) (RA false):=by
 refine⟨λe s p H x y v u Q I i j ⟨Hs,t,m,sub,f,g,d,a,q⟩=>?_,λx y c n=>?_⟩
 ·unfold RA at a;split at a
  ·split at a
   ·rename_i b
    simp only[aU,decide_eq_true_eq] at b;cases a;obtain⟨w,l⟩:=kj I ((f.full sub).rep (rf _ b.1.1)) i;obtain⟨bs,k⟩:=kj I ((g.full sub).rep (rf _ (by simp only[dk];exact b.1.2))) j;exact PySem.SeqAt.in_list_reads k l b.1.2 b.1.1 ∅ ⟨.bl _,H,I,rfl,q _ H Hs (.refl sub) (.bool _)⟩
   ·cases a
  ·cases a
 ·unfold RA;split<;>(try split)<;>exact λh=>by cases h
def NR(o:X.A.units+64<fZ):wZ X (bG .NotIn) (RA true):=by
 refine⟨λe s p H x y v u Q I i j ⟨Hs,t,m,sub,f,g,d,a,q⟩=>?_,λx y c n=>?_⟩
 ·unfold RA at a;split at a
  ·split at a
   ·rename_i b
    simp only[aU,decide_eq_true_eq] at b;cases a;obtain⟨w,l⟩:=kj I ((f.full sub).rep (rf _ b.1.1)) i;obtain⟨bs,k⟩:=kj I ((g.full sub).rep (rf _ (by simp only[dk];exact b.1.2))) j;exact PySem.SeqAt.notIn_list_reads k l b.1.2 b.1.1 ∅ ⟨.bl _,H,I,rfl,q _ H Hs (.refl sub) (.bool _)⟩
   ·cases a
  ·cases a
 ·unfold RA;split<;>(try split)<;>exact λh=>by cases h
end J
namespace L2
open PySem PySem.Spec PyProof.Rows
end L2
namespace L2
open PySem PySem.Spec PyProof.Rows
section
variable{prog:bg}{w:bL}{A:cy}{R:Ae->ak->Prop}{s:ak}
def UZ{b tg iter:bj}{c:List bj}{f:Comprehension}{scope:eM}{d:Pos}{it a:ag}{env:Env}
  (g:eJ (ax prog w) A (.compLoop (.ListComp b [f,⟨tg,iter,c,0⟩] scope d) 1 it a env) R s)
  (h:aq (ax prog w) A (nH it) (λe s'=>eJ (ax prog w) A (.compLoop (.ListComp b [f,⟨tg,iter,c,0⟩] scope d) 1 e a env) R s') (OX (ax prog w) A env λx s'=>R (.error x) s') s):
  eJ (ax prog w) A (.compStart (.ListComp b [f,⟨tg,iter,c,0⟩] scope d) 1 it a env) R s:=by
 refine pW ?_
 show aq _ _ ((compStart (.ListComp b [f,⟨tg,iter,c,0⟩] scope d) 1 it a env).onRaise (λx=>do E1 x env;mv FP)) _ _ s
 refine MP ?_
 unfold compStart
 show aq _ _ (ask>>=_) _ _ s
 refine a7 (gf (wpAny_ite ?_))
 split
 ·first
   |exact a7 (a9 (a9 (ir rfl g)))
   |exact a9 (ir rfl g)
 ·first
   |exact a7 (cK (a7 (dY (a7 (bx h (λe s' h'=>a9 (ir rfl h')) λ_ _ x=>x)))))
   |(refine a7 (cK ?_);show aq _ _ (mv iter.pos>>=_) _ _ s;exact a7 (dY (a7 (bx h (λe s' h'=>a9 (ir rfl h')) λ_ _ x=>x))))
end
inductive GL2 (Y:Cx) {α:Type} (P:ap->Obj->α->Prop) (pl:List (ap×Obj)) (D:ap) (σ:St) (fp:List ap) (tn:Nat->cg->Prop) (W:Nat->Nat->α->Hp->Prop) (n:Nat) (s':ak):Prop
 |mk (i:Nat) (acc:α) (o:Obj) (H':Hp) (I:cb Y ((D,o)::pl) σ H' s') (p:P D o acc) (t:tn i s'.heap) (f:∀b∈fp,H' b=none) (w:W i n acc H'):GL2 Y P pl D σ fp tn W n s'
inductive GE2 (Y:Cx) {α:Type} (P:ap->Obj->α->Prop) (pl:List (ap×Obj)) (D:ap) (σ:St) (Z:α->Hp->Prop) (r:Ae) (s':ak):Prop
 |mk (acc:α) (o:Obj) (H':Hp) (h0:r=.ok .next) (I:cb Y ((D,o)::pl) σ H' s') (p:P D o acc) (z:Z acc H'):GE2 Y P pl D σ Z r s'
inductive GIn {α:Type} (nt:Nat) (tt:TT) (L:α->Prop) (U:St->Hp->α->Nat->(Nat->α->Hp->Prop)->Prop) (σ:St) (acc:α) (Z:α->Hp->Prop) (J:It) (H1:Hp):Prop
 |mk (W:Nat->Nat->α->Hp->Prop) (w0:∃m,W 0 m acc H1) (turn:∀i m acc H,W i m acc H->(J.stop i H/\Z acc H)\/(J.go i H/\L acc/\∀x H',J.yld i H x H'->tt (σ.set nt (some x)) H' λb H3=>
   if b=true then U (σ.set nt (some x)) H3 acc m (W (i+1)) else ∃m',m'<m/\W (i+1) m' acc H3)):GIn nt tt L U σ acc Z J H1
def Yr{X:Cx}{N:Type}{N':List Str}{scope:eM}{k:List (Str×ap)}{C:ap}{a:ak}{f:Hp}{h:List ap}{l:List (ap×Obj)}{P:ap->Obj->N->Prop}{L:N->Prop}{U:St->Hp->N->Nat->(Nat->N->Hp->Prop)->Prop}{Bd:Env->ap->(ak->Prop)->ak->Prop}{e0 tg:bj}{b8:List bj}{tt:TT}{nt:Nat}{pl:List (ap×Obj)}{D:ap}{q:St}{it:ap}{B:List ap}{tn:Nat->cg->Prop}{J:It}{Z:N->Hp->Prop}{W:Nat->Nat->N->Hp->Prop}{s:ak}
  (hc:X.calm=true) (O:G6 X e0 tg b8 it 1 Bd) (step:G7 X N' scope (λ_=>True) P L U Bd) (pg:PG (bi X N' scope k C a f h l) tg (mK nt)) (pt:Ei (bi X N' scope k C a f h l) b8 tt) (d0:q[nt]?=some none) (T:Cm X.prog X.w X.K tg J B it tn)
  (ok:∀b∈B,b≠(bi X N' scope k C a f h l).env.locals/\b∉(bi X N' scope k C a f h l).fs/\(b∈h\/a.heap.objs.size<=b)/\(∀x c,k.lookup x=some c->c≠b)/\(∀p∈l++pl,p.1≠b)/\D≠b)
  (h1:D∈h\/a.heap.objs.size<=D) (h2:∀x c,k.lookup x=some c->c≠D) (h3:∀p∈l++pl,p.1≠D)
  (Y:∀i m g H,W i m g H->(J.stop i H/\Z g H)\/(J.go i H/\L g/\∀x H',J.yld i H x H'->tt (q.set nt (some x)) H' λb E=>if b=true then U (q.set nt (some x)) E g m (W (i+1)) else ∃G,G<m/\W (i+1) G g E))
  (n:Nat) (st:GL2 (bi X N' scope k C a f h l) P pl D q B tn W n s):
  eJ (ax X.prog X.w) X.A (.compLoop e0 1 (.ref it) (.ref D) (bi X N' scope k C a f h l).env) (GE2 (bi X N' scope k C a f h l) P pl D q Z) s:=by
 have t:∀{H':Hp}{o:Obj},(∀b∈B,H' b=none)->∀b∈B,vw (bi X N' scope k C a f h l) ((D,o)::pl) H' b:=λhn b M=>by
  obtain⟨a1,a2,a3,a4,a5,a6⟩:=ok b M
  refine⟨hn b M,a1,a2,a3,a4,λp hp=>?_⟩
  rcases bD.1 hp with z|z
  ·exact a5 p (bF _ z)
  ·rcases aT.1 z with y|y
   ·rw[y];exact a6
   ·exact a5 p (aA _ y)
 refine O _ _ _ (GL2 (bi X N' scope k C a f h l) P pl D q B tn W) ?_ n _ st
 rintro n s3 ⟨i,g,o,E,J3,p3,b7,b0,w3⟩
 rcases Y i n g E w3 with⟨S,z⟩|⟨go,hlt,LF⟩
 ·refine fW (T.done (bi X N' scope k C a f h l) rfl rfl rfl hc i _ s3 _ E _ J3 (t b0) b7 S) λr s4 c3=>?_
  obtain⟨hr,I4⟩:=c3
  subst hr
  exact⟨g,o,E,rfl,I4,p3,z⟩
 ·refine fW (T.item (bi X N' scope k C a f h l) rfl rfl rfl hc i _ s3 _ E _ J3 (t b0) b7 go) λr s4 d4=>?_
  obtain⟨u,hr,h4⟩:=d4
  subst hr
  refine fW h4 λ_ s5 c4=>?_
  obtain⟨x,H5,I5,r5,y5,I,d2⟩:=c4
  have c1:=I5.pinned (t d2) (T.obj _ _ I)
  have c2:mK nt x q H5 (λd3 H2=>d3=q.set nt (some x)/\tt (q.set nt (some x)) H2 λb E=>if b=true then U (q.set nt (some x)) E g n (W (i+1)) else ∃G,G<n/\W (i+1) G g E):=⟨rfl,LF x H5 y5⟩
  refine fW (pg _ s5 _ H5 x u _ c1 r5 c2) λ_ s6 c5=>?_
  obtain⟨d5,H6,I6,e6,q6⟩:=c5
  subst e6
  have hw:∀(j:Nat) v,q[j]?=some (some v)->(q.set nt (some x))[j]?=some (some v):=λj v e=>by
   by_cases hj:nt=j
   ·rw[<- hj,d0] at e;cases e
   ·rw[ao hj];exact e
  refine fW (pt _ s6 _ H6 _ I6 q6) λb s7 d1=>?_
  obtain⟨H7,I7,q7⟩:=d1
  have c0:∀{o':Obj}{s8:ak}{b6:St}{H8:Hp},cb (bi X N' scope k C a f h l) (((D,o')::pl)++sM B s5.heap) b6 H8 s8->tn (i+1) s8.heap/\∀b∈B,H8 b=none:=λ{o' s8 b6 H8} Q=>by
   refine⟨T.keep _ _ _ I λb M o e=>(Q.pin (b,o) (aA _ (aA _ (ju M e)))).1,λb M=>?_⟩
   obtain⟨o,e,d⟩:=T.obj _ _ I b M
   exact(Q.pin (b,o) (aA _ (aA _ (ju M e)))).2.1
  cases b with
  |false=>
   simp only[bn,if_false] at q7 ⊢
   obtain⟨G,hm,w7⟩:=q7
   obtain⟨t7,f7⟩:=c0 I7
   exact⟨G,hm,i+1,g,o,H7,(I7.weak (by simp) hw).unpinned,p3,t7,f7,w7⟩
  |true=>
   simp only[if_true] at q7 ⊢
   refine step _ _ _ _ _ _ _ (pl++sM B s5.heap) _ _ _ _ _ _ _ _ h1 h2 (λp hp z=>?_) trivial hlt p3 I7 q7 λa0 o' H8 s8 G Q p8 hm w8=>?_
   ·rcases bD.1 hp with y|y
    ·exact h3 p (bF _ y) z
    ·rcases bD.1 y with y|y
     ·exact h3 p (aA _ y) z
     ·exact(ok p.1 (yc y).1).2.2.2.2.2 z.symm
   ·obtain⟨t8,f8⟩:=c0 (o':=o') Q
    exact⟨G,hm,i+1,a0,o',H8,((show cb _ (((D,o')::pl)++sM B s5.heap) _ _ _ from Q).weak (σ':=q) (by simp) hw).unpinned,p8,t8,f8,w8⟩
def Bd2(X:Cx)(c a:bj)(it:ap)(env:Env)(D:ap)(K:ak->Prop)(s:ak):Prop:=aq (ax X.prog X.w) X.A (do
   let x <- eI a env
   mv a.pos
   let x <- bf a env x
   let _ <- runOwn (.compStart c 1 (<- ID [x] (nH x)) (.ref D) env) env
   again (.compLoop c 0 (.ref it) (.ref D) env)) (λf b=>f=.again (.compLoop c 0 (.ref it) (.ref D) env)/\K b) (λ_ _=>False) s
def q0w{X:Cx}{N':List Str}{scope:eM}{nt:Nat}{ix:List Nat}{j tg l c:bj}{a6 k:List bj}{i:Sem ag}{u:Type}{O:ap->u->HO}{a0:u}{L:u->Prop}{U:St->Hp->u->Nat->(Nat->u->Hp->Prop)->Prop}{P:ap->Obj->u->Prop}{o0:Obj}{Bd:Env->ap->(ak->Prop)->ak->Prop}{Y:TI}{y:TT}
  (nd:∀{D o a},P D o a->∀v,o.data≠.cell v) (of:o0.isFreed=false) (p0:∀D,P D o0 a0) (tr:∀{H h D o a},fj<D->P D o a->h.get? D=some o->d_ X.prog X.w H h D (O D a))
  (T:∀{E s2}{Q:ag->ak->Prop},Q (.ref s2.heap.objs.size) {s2 with heap:=s2.heap.push o0}->aq (ax X.prog X.w) X.A i Q E s2) (t:∀it,G6 X j tg a6 it 0 (Bd2 X j c it)) (q:∀it,G6 X j l k it 1 Bd)
  (I:∀{d it a env R s},d=0\/d=1->eJ (ax X.prog X.w) X.A (.compLoop j d (.ref it) a env) R s->aq (ax X.prog X.w) X.A (nH (.ref it)) (λc0 s'=>eJ (ax X.prog X.w) X.A (.compLoop j d c0 a env) R s') (OX (ax X.prog X.w) X.A env λx s'=>R (.error x) s') s->eJ (ax X.prog X.w) X.A (.compStart j d (.ref it) a env) R s)
  (step:G7 X N' scope (λ_=>True) P L U Bd) (hc:X.calm=true) (c2:∀(env:Env) x,bf c env x=pure x)
  (hb:∀M C e f G N,PI (bi X N' scope M C e f G N) l c Y/\PG (bi X N' scope M C e f G N) l (mK nt)/\Ei (bi X N' scope M C e f G N) k y):
  G8 X N' scope nt (nt+1) ix j tg a6 i O a0 (λ_=>True) (λS H a m V=>Y S H (GIn nt y L U S a λg H'=>∃m',m'<m/\V m' g H')):=by
 refine⟨P,o0,Bd2 X j c,λS=>S[nt]?=some none,nd,of,p0,tr,T,t,I (.inl rfl),⟨lA _,λS B h=>?_⟩,λit=>?_⟩
 ·rw[h nt (av _)]
  unfold lL
  rw[c8 (by simp),cF,if_pos ∅]
 intro M C e f G N D pl o a B H7 s7 K m V h1 h2 h3 d3 _ hP I7 q7 fin
 obtain⟨c5,d1,c3⟩:=hb M C e f G N
 refine a7 (fW (c5 _ s7 B H7 _ I7 q7) λv s8 d2=>a7 (dY (a7 (fw (c2 _ v) (a7 (cC (fW d2 λd8 s9 b7=>a7 (wpAny_runOwn ?_))))))))
 obtain⟨b8,d9,d7,J2,H9,e9,I9,T2,t9,b6,W2,⟨m2,w2⟩,n⟩:=b7
 subst e9
 have b0:=Yr (pl:=pl) hc (q b8) step d1 c3 d3 T2 (λb hb=>by
  obtain⟨a0,a1,a2,a3,a4,a5⟩:=b6 b hb
  exact⟨a1,a2,a3,a4,λp hp=>a5 p ((bD.1 hp).elim (λz=>bF _ z) λz=>aA _ (af _ z)),a5 (D,o) (aA _ aj)⟩) h1 h2 h3 n m2 ⟨0,a,o,H9,I9,hP,t9,λb hb=>(b6 b hb).1,w2⟩
 refine qv (I (.inr rfl) b0 (T2.self _ 0 _ _ _ t9 b0)) λr d5 d4=>?_
 obtain⟨g,o',d6,rfl,c4,d0,m',hm,c1⟩:=d4
 exact a9 ⟨rfl,fin g o' d6 d5 m' c4 d0 hm c1⟩
section
variable{prog:bg}{w:bL}{A:cy}{R:Ae->ak->Prop}{s:ak}
def U_{b tg iter:bj}{c:List bj}{f:Comprehension}{scope:eM}{d:Pos}{it a:ag}{env:Env}
  (g:eJ (ax prog w) A (.compLoop (.SetComp b [f,⟨tg,iter,c,0⟩] scope d) 1 it a env) R s)
  (h:aq (ax prog w) A (nH it) (λe s'=>eJ (ax prog w) A (.compLoop (.SetComp b [f,⟨tg,iter,c,0⟩] scope d) 1 e a env) R s') (OX (ax prog w) A env λx s'=>R (.error x) s') s):
  eJ (ax prog w) A (.compStart (.SetComp b [f,⟨tg,iter,c,0⟩] scope d) 1 it a env) R s:=by
 refine pW ?_
 show aq _ _ ((compStart (.SetComp b [f,⟨tg,iter,c,0⟩] scope d) 1 it a env).onRaise (λx=>do E1 x env;mv FP)) _ _ s
 refine MP ?_
 unfold compStart
 show aq _ _ (ask>>=_) _ _ s
 refine a7 (gf (wpAny_ite ?_))
 split
 ·first
   |exact a7 (a9 (a9 (ir rfl g)))
   |exact a9 (ir rfl g)
 ·first
   |exact a7 (cK (a7 (dY (a7 (bx h (λe s' h'=>a9 (ir rfl h')) λ_ _ x=>x)))))
   |(refine a7 (cK ?_);show aq _ _ (mv iter.pos>>=_) _ _ s;exact a7 (dY (a7 (bx h (λe s' h'=>a9 (ir rfl h')) λ_ _ x=>x))))
end
abbrev SIn(nt:Nat)(b:TT)(c:TE)(d:St)(a:List Str)(Z:List Str->Hp->Prop)(J:It)(e:Hp):Prop:=GIn nt b (λa=>a.length+1<iD) (XV c) d a Z J e
def RC{X:Cx}{p tg iter n g:bj}{u k:List bj}{y:TI}{q:TT}{scope:eM}{L:Pos}{O:TE}{N':List Str}{nt:Nat}{ix:List Nat}(S:X.calm=true)(I:∀(env:Env) x,bf g env x=pure x)
  (E:∀A C j i G B,PI (bi X N' scope A C j i G B) n g y/\PG (bi X N' scope A C j i G B) n (mK nt)/\Ei (bi X N' scope A C j i G B) k q/\PE (bi X N' scope A C j i G B) p O):
  G8 X N' scope nt (nt+1) ix (.SetComp p [⟨tg,iter,u,0⟩,⟨n,g,k,0⟩] scope L) tg u (P1 (.type "set")) (oN X.w) [] (λ_=>True) (λM H l m V=>y M H (SIn nt q O M l λt H'=>∃N,N<m/\V N t H')):=
 q0w (o0:=gV X.w) (P:=(λD o l=>(∀v,o.data≠.cell v)/\ZB X.w D o l)) (Bd:=Um X p) (λh=>h.1) rfl (λ_=>⟨λ_ z=>(nomatch z),λ_ e=>yg X.w e⟩) (λ_ h e=>zZ (h.2 _ e)) q9 (λit=>D6 (iter:=iter) (λ_ _=>rfl) λenv D K s h=>h) (λit=>D6 (iter:=g) (λ_ _=>rfl) λa b c d h=>Go rfl a b c d h) (λT Q h=>by
  rcases T with rfl|rfl
  ·exact lH Q h
  ·exact U_ Q h) (Gn λa b c d e f=>(E a b c d e f).2.2.2) S I λa b c d e f=>⟨(E a b c d e f).1,(E a b c d e f).2.1,(E a b c d e f).2.2.1⟩
inductive RE (w:bL) (nt:Nat) (ix:List Nat) (g:TG) (tt:TT) (wi2:TI) (tt2:TT) (te:TE) (σ:St) (Q:VK) (J:It) (H1:Hp):Prop
 |mk (W:Nat->Nat->List Str->Hp->Prop) (w0:∃m,W 0 m [] H1) (turn:∀i m acc H,W i m acc H->(J.stop i H/\∀p,H p=none->Q (.ref p) (upd H p (oN w p acc))) \/
   (J.go i H/\∀x H',J.yld i H x H'->g x (lL (nt+1) ix σ) H' λσ2 H2=>tt σ2 H2 λb H3=>
    if b=true then wi2 σ2 H3 (SIn nt tt2 te σ2 acc λacc' H'=>∃m',m'<m/\W (i+1) m' acc' H') else ∃m',m'<m/\W (i+1) m' acc H3)):RE w nt ix g tt wi2 tt2 te σ Q J H1
def M9(w:bL)(nt:Nat)(ix:List Nat)(f:TI)(g:TG)(e:TT)(b:TI)(a:TT)(d:TE):TE:=λc H Q=>f c H (RE w nt ix g e b a d c Q)
def Hc{X:Cx}{E tg iter o j:bj}{p l:List bj}{scope:eM}{B:Pos}{wi N:TI}{g:TG}{tt M:TT}{te:TE}{N':List Str}{nt:Nat}{ix:List Nat}
  (hc:X.calm=true) (S:jZ X scope N' (nt+1) ix) (lo:T7 nt g) (hi:PI X tg iter wi)
  (U:∀z C k n K G,PG (bi X N' scope z C k n K G) tg g/\Ei (bi X N' scope z C k n K G) p tt/\PI (bi X N' scope z C k n K G) o j N/\PG (bi X N' scope z C k n K G) o (mK nt)/\Ei (bi X N' scope z C k n K G) l M/\PE (bi X N' scope z C k n K G) E te)
  (P:∀(env:Env) x,bf j env x=pure x) (hs:∀x,bf iter X.env x=pure x:=by intro _;rfl):PE X (.SetComp E [⟨tg,iter,p,0⟩,⟨o,j,l,0⟩] scope B) (M9 X.w nt ix wi g tt N M te):=by
 intro u s σ H Q I h
 obtain⟨z,Y,c1,c2⟩:=lK (scope:=scope) (env:=X.env) λy hy hf=>I.ok.has y.1 (S.free y hy hf)
 show aq _ _ (sH (.SetComp E [⟨tg,iter,p,0⟩,⟨o,j,l,0⟩] scope B) scope X.env (P2 [⟨tg,iter,p,0⟩,⟨o,j,l,0⟩] B) (P1 (.type "set")) (firstAsync [⟨tg,iter,p,0⟩,⟨o,j,l,0⟩]) (firstIter [⟨tg,iter,p,0⟩,⟨o,j,l,0⟩] X.env)) _ _ _
 refine gm (use:=none) rfl hs Y S.kind S.loc (fW (hi u s σ H _ I h) λv s1 h1=>fW h1 λa0 s2 h2=>?_)
 obtain⟨it,fp,tn,J,H2,e,I2,T,O,f2,W,w0,L⟩:=h2
 subst e
 refine yf (RR:=λt C=>C8 (ax X.prog X.w) X.A X.xe none (EP X u σ Q) t C) (RC hc P λa b c d e f=>(U a b c d e f).2.2) hc S lo (λa b c d e f=>⟨(U a b c d e f).1,(U a b c d e f).2.1⟩) c1 c2 I2 T O f2 w0 (λi m t H w=>(L i m t H w).imp id λh=>⟨h.1,trivial,h.2⟩) ?_
 intro D C m s' t H' hD _ q hn hI
 exact⟨m,hn,λh' sb=>⟨.ref D,_,hI h' sb,rfl,q⟩⟩
end L2
namespace J
open PySem L2
def RF(nt:Nat)(ρ:aE)(gt:aE->R Bool)(ge:aE->R D):D->R (Option D):=λd=>Ay ((gt (ρ.set nt (.shr d))).bind λb=>if b then(ge (ρ.set nt (.shr d))).bind λy=>.ok (some y) else .ok none)
def kU(nt:Nat)(ρ:aE)(gt:aE->R Bool)(e:aE->R (List D))(c:aE->R Bool)(ge:aE->R D):D->R (List D):=λd=>Ay ((UD nt d ρ).bind λa=>(gt a).bind λb=>if b then(e a).bind λes=>fE (RF nt a c ge) es else .ok [])
def kW(f:D->R (List D)):List D->R (List D)
 |[]=>.ok []
 |d::r=>(f d).bind λxs=>(kW f r).bind λys=>.ok (xs++ys)
def A_{f:D->R (List D)}{d:D}{r ys:List D}(h:kW f (d::r)=.ok ys):∃xs a,f d=.ok xs/\kW f r=.ok a/\ys=xs++a:=by
 unfold kW at h
 cases c:f d with
 |ok o=>
  rw[c,bind_ok] at h
  cases b:kW f r with
  |ok a=>rw[b,bind_ok] at h;cases h;exact⟨_,a,rfl,rfl,rfl⟩
  |ex x n=>rw[b] at h;cases h
  |no=>rw[b] at h;cases h
 |ex x n=>rw[c] at h;cases h
 |no=>rw[c] at h;cases h
def DB(nt:Nat)(ρ:aE)(gt:aE->R Bool)(b:aE->R (List D))(a:aE->R Bool)(ge:aE->R D)(d:D)(c:Str)(n):kU nt ρ gt b a ge d≠.ex c n:=by
 unfold kU;intro h;revert h;generalize R.bind _ _=r;cases r<;>exact λh=>by cases h
theorem B0{f:D->R (List D)}(e:∀d c n,f d≠.ex c n):∀(l:List D) c n,kW f l≠.ex c n
 |[],c,n=>λh=>by cases h
 |d::r,c,n=>λh=>by
  unfold kW at h
  cases b:f d with
  |no=>rw[b] at h;cases h
  |ex x y=>exact e _ _ _ b
  |ok o=>
   rw[b,bind_ok] at h
   cases a:kW f r with
   |ok g=>rw[a,bind_ok] at h;cases h
   |ex x n=>exact B0 e _ _ _ a
   |no=>rw[a] at h;cases h
def uj(nt:Nat)(ix:List Nat)(c:aE->R (List D))(gt:aE->R Bool)(b:aE->R (List D))(a:aE->R Bool)(ge:aE->R D):aE->R (List Str):=λρ=>(c ρ).bind λds=>(kW (kU nt (jM (nt+1) ix ρ) gt b a ge) ds).bind λys=>match eU ys with
 |some ss=>if ss.length<=60 then .ok (dn [] ss) else .no
 |none=>.no
inductive scJ (f:D->R (Option D)) (ds:List D) (ss tl:List Str) (H1 Hs1:Hp) (i m:Nat) (acc:List Str) (H':Hp):Prop
 |mk (done bu zs sa sz Hs':_) (h0:ds=done++bu) (h1:done.length=i) (h2:bu.length=m) (h3:cQ H1 Hs1 H' Hs') (h4:acc=dn [] sa) (h6:fE f bu=.ok zs) (h7:eU zs=some sz) (h8:ss=sa++(sz++tl)):scJ f ds ss tl H1 Hs1 i m acc H'
inductive scK (f:D->R (List D)) (ds:List D) (ss:List Str) (H1 Hs1:Hp) (i m:Nat) (acc:List Str) (H':Hp):Prop
 |mk (done bu zs sa sz Hs':_) (h0:ds=done++bu) (h1:done.length=i) (h2:bu.length=m) (h3:cQ H1 Hs1 H' Hs') (h4:acc=dn [] sa) (h6:kW f bu=.ok zs) (h7:eU zs=some sz) (h8:ss=sa++sz):scK f ds ss H1 Hs1 i m acc H'
section
variable{K:a8}{cls:Str->ap}{w:bL}{E:XK}{σ:St}{H:Hp}{Q:VK}{ρ ρ':aE}{H0 Hs0 H1 Hs1 Hn:Hp}{la:Nat->Option ap}{nt:Nat}{ix:List Nat}{gi gi2:aE->R (List D)}{gt gt2:aE->R Bool}{ge:aE->R D}{J:It}{es zs:List D}{ss sa sz tl:List Str}
def q0x{Z:List Str->Hp->Prop}(f:Fr K H0 Hs0 la ρ' σ H1 Hs1)(sn:dQ Hn H1)(it:OS K J es Hn Hs1)(hm:fE (RF nt ρ' gt2 ge) es=.ok zs)(I:eU zs=some sz)(hl:ss.length<=60)(k:ss=sa++(sz++tl))
  (q:∀sb H' g,ss=sb++tl->cQ H1 Hs1 H' g->Z (dn [] sb) H'):
  SIn nt (λσ H Q=>∃ ρ',Cy K cls E0 ρ' (gt2 ρ') σ H Q) (λσ H Q=>∃ ρ',TR K cls E0 ρ' (ge ρ') σ H Q) σ (dn [] sa) Z J H1:=by
 refine⟨scJ (RF nt ρ' gt2 ge) es ss tl H1 Hs1,⟨es.length,[],es,zs,sa,sz,Hs1,rfl,rfl,rfl,.refl f.st.sub,rfl,hm,I,k⟩,?_⟩
 rintro i m a0 H' ⟨done,bu,zs,sa,sz,g,e,h,G,st,rfl,I,A,k⟩
 obtain⟨O,j,p⟩:=it H' g (sn.trans st.all) st.sh st.sub
 cases bu with
 |nil=>
  left;cases I;cases A;rw[b_] at e;subst e
  exact⟨j i ∅,q sa H' g k st⟩
 |cons d bu=>
  right
  have s:i<es.length:=by rw[e,aI,aZ];omega
  have Y:=gy sa []
  simp at Y
  have a1:sa.length<=ss.length:=by rw[k,aI];omega
  refine⟨O i s,pV (show(dn [] sa).length+1<=61 by omega) ⋯,λx H2 X=>?_⟩
  obtain⟨d',P,U,T,r2⟩:=p i x H2 s X
  have M:d'=d:=by
   rw[e,aY ∅] at U;simp[h] at U;exact U.symm
  subst M
  obtain⟨o,u,c,t,rfl⟩:=nR I
  have c:=rm c
  obtain⟨so,B,a,hsz,rfl⟩:=qg A
  have f2:=((f.step st).step T).set nt r2
  refine⟨_,_,_,_,P,f2,?_⟩
  cases L:gt2 (ρ'.set nt (.shr d')) with
  |no=>rw[L] at c;cases c
  |ex x n=>rw[L] at c;cases c
  |ok b=>
   rw[L,bind_ok] at c;intro H3 l S
   cases b with
   |false=>
    rw[if_neg ba] at c;cases c;cases a
    exact wM ⟨bu.length,by rw[<- G];simp,done++[d'],bu,u,sa,B,l,by rw[e];simp,by simp[h],rfl,(st.trans T).trans S,rfl,t,hsz,by simpa using k⟩
   |true=>
    rw[if_pos rfl] at c
    refine wN ⟨_,_,_,_,l,f2.step S,?_⟩
    cases he:ge (ρ'.set nt (.shr d')) with
    |no=>rw[he] at c;cases c
    |ex x n=>rw[he] at c;cases c
    |ok y=>
     rw[he,bind_ok] at c;cases c;intro v H4 N s4 r4
     cases r4 with
     |str z=>
      cases a
      exact⟨z,bu.length,rfl,by rw[<- G];simp,done++[d'],bu,u,sa++[z],B,N,by rw[e];simp,by simp[h],rfl,((st.trans T).trans S).trans s4,(vI z sa []).symm,t,hsz,by rw[k];simp⟩
     |none=>cases a
     |bool _=>cases a
     |int _=>cases a
     |list _ _=>cases a
     |tuple _ _=>cases a
     |dictK _ _=>cases a
     |dictT _ _ _=>cases a
     |dictF _ _ _=>cases a
theorem RG(S:nt=1\/nt=2)
  (q:ZU K w cls E ρ (uj nt ix gi gt gi2 gt2 ge ρ) σ H Q):
  M9 w nt ix (Uz K cls E ρ (gi ρ)) (zE K nt) (λσ H Q=>∃ ρ',Cy K cls E0 ρ' (gt ρ') σ H Q) (λσ H Q=>∃ ρ',Uz K cls E0 ρ' (gi2 ρ') σ H Q) (λσ H Q=>∃ ρ',Cy K cls E0 ρ' (gt2 ρ') σ H Q) (λσ H Q=>∃ ρ',TR K cls E0 ρ' (ge ρ') σ H Q) σ H Q:=by
 obtain⟨H0,Hs0,la,Hs,f,q⟩:=q;refine⟨H0,Hs0,la,Hs,f,?_⟩;unfold uj at q
 cases hi:gi ρ with
 |no=>rw[hi] at q;exact q
 |ex x n=>rw[hi] at q;exact q
 |ok ds=>
  rw[hi,bind_ok] at q;intro J H1 Hs1 Hn s1 sn it
  cases B:kW (kU nt (jM (nt+1) ix ρ) gt gi2 gt2 ge) ds with
  |no=>rw[B] at q;exact q.elim
  |ex x n=>exact(B0 (DB _ _ _ _ _ _) _ _ _ B).elim
  |ok ys=>
   rw[B,bind_ok] at q
   cases hs:eU ys with
   |none=>rw[hs] at q;exact q.elim
   |some ss=>
    rw[hs] at q
    by_cases N:ss.length<=60
    ·simp only[if_pos N] at q
     obtain⟨lb,fb⟩:=(f.step s1).block (nt+1) ix
     refine⟨scK (kU nt (jM (nt+1) ix ρ) gt gi2 gt2 ge) ds ss H1 Hs1,
      ⟨ds.length,[],ds,ys,[],ss,Hs1,rfl,rfl,rfl,.refl s1.sub,rfl,B,hs,rfl⟩,?_⟩
     rintro i m a2 H' ⟨done,bu,zs,sa,sz,l,c,g,s,st,rfl,hz,v,G⟩
     obtain⟨a0,h,t⟩:=it H' l (sn.trans st.all) st.sh st.sub
     cases bu with
     |nil=>
      left;cases hz;cases v;rw[b_] at c G;subst G c
      exact⟨h i ∅,λp hp=>q p H' l (s1.trans st) hp⟩
     |cons d bu=>
      right
      have y:i<ds.length:=by rw[c,aI,aZ];omega
      refine⟨a0 i y,λx H2 U=>?_⟩
      obtain⟨d',T,hd,s2,r2⟩:=t i x H2 y U
      have O:d'=d:=by
       rw[c,aY ∅] at hd;simp[g] at hd;exact hd.symm
      subst O
      obtain⟨o,u,a,z,rfl⟩:=A_ hz
      have a:=rm a
      obtain⟨so,e,j,hsz,rfl⟩:=qg v
      cases I:UD nt d' (jM (nt+1) ix ρ) with
      |no=>rw[I] at a;cases a
      |ex x n=>rw[I] at a;cases a
      |ok ρ'=>
       rw[I,bind_ok] at a
       refine s_ S ((fb.step st).step s2) r2 I λa4 P=>⟨ρ',?_⟩
       refine⟨_,_,_,T,P,?_⟩
       cases ht:gt ρ' with
       |no=>rw[ht] at a;cases a
       |ex x n=>rw[ht] at a;cases a
       |ok b=>
        rw[ht,bind_ok] at a;intro H3 k A
        cases b with
        |false=>
         rw[if_neg ba] at a;cases a;cases j
         exact wM ⟨bu.length,by rw[<- s];simp,done++[d'],bu,u,sa,e,k,by rw[c];simp,by simp[g],rfl,(st.trans s2).trans A,rfl,z,hsz,by simpa using G⟩
        |true=>
         rw[if_pos rfl] at a
         refine wN ⟨ρ',_,_,_,k,P.step A,?_⟩
         cases he:gi2 ρ' with
         |no=>rw[he] at a;cases a
         |ex x n=>rw[he] at a;cases a
         |ok es=>
          rw[he,bind_ok] at a;intro J2 H4 a1 a3 s4 Y X
          refine q0x (tl:=e) (ss:=ss) (sa:=sa) ((P.step A).step s4) Y X a j N G λsb H5 L M s5=>?_
          exact⟨bu.length,by rw[<- s];simp,done++[d'],bu,u,sb,e,L,by rw[c];simp,by simp[g],rfl,(((st.trans s2).trans A).trans s4).trans s5,rfl,z,hsz,M⟩
    ·simp only[if_neg N] at q;exact q.elim
end
section
variable{c:C}{elt tg iter tg2 iter2:bj}{ifs ifs2:List bj}{scope:eM}{pos:Pos}{N':List Str}{nt:Nat}{ix:List Nat}{gi gi2:aE->R (List D)}{gt gt2:aE->R Bool}{ge:aE->R D}
def Hd(c:C)(N':List Str)(scope:eM)(nt:Nat)(tg:bj)(ifs:List bj)(tg2 iter2:bj)(ifs2:List bj)(elt:bj)(gt:aE->R Bool)(gi2:aE->R (List D))(gt2:aE->R Bool)(ge:aE->R D):Prop:=
 ∀d A a b f e,PG (c.comp N' scope d A a b f e).X tg (zE c.X.K nt)/\Wk (c.comp N' scope d A a b f e) ifs gt/\JI (c.comp N' scope d A a b f e) tg2 iter2 gi2/\PG (c.comp N' scope d A a b f e).X tg2 (mK nt)/\Wk (c.comp N' scope d A a b f e) ifs2 gt2/\JE (c.comp N' scope d A a b f e) elt ge
def NS(nt:Nat)(e:nt=1\/nt=2)(n:c.X.calm=true)(S:jZ c.X scope N' (nt+1) ix)(o:JI c tg iter gi)(t:Hd c N' scope nt tg ifs tg2 iter2 ifs2 elt gt gi2 gt2 ge)
  (i:∀(env:Env) x,bf iter2 env x=pure x:=by intro _ _;rfl) (hs:∀x,bf iter c.X.env x=pure x:=by intro _;rfl):
  T9 c (.SetComp elt [⟨tg,iter,ifs,0⟩,⟨tg2,iter2,ifs2,0⟩] scope pos) (uj nt ix gi gt gi2 gt2 ge):=.of λρ=>
 sS (Hc n S (uf e) (o ρ) (λk A g f y l=>by
  obtain⟨j,w,m,p,v,u⟩:=t k A g f y l
  exact⟨j,λa s d H Q I h=>by obtain⟨b,q⟩:=h;exact w b a s d H Q I q,λa s d H Q I h=>by obtain⟨b,q⟩:=h;exact m b a s d H Q I q,p,λa s d H Q I h=>by obtain⟨b,q⟩:=h;exact v b a s d H Q I q,λa s d H Q I h=>by obtain⟨b,q⟩:=h;exact u b a s d H Q I q⟩) i hs) λd H Q q=>RG e q
end
def Ma(b:Bool):D->D->R D
 |k,.dict a=>match qF k with
  |some _=>if fo a=true then .ok (.bool (if b then !(iH a k).isSome else(iH a k).isSome)) else .no
  |none=>.no
 |_,_=>.no
section
variable{c:C}
def Mb{K:a8}{H Hs:Hp}{v:V}{b:gY}(a:RB K H Hs v (kD b)):v=kV b:=by
 rcases a with a|⟨_,o,rfl,_,_,ow⟩
 ·exact AE a
 ·cases b<;>cases ow
def He{K:a8}{H Hs:Hp}{v:V}{ds:List (D×D)}(sub:dQ Hs H)(h:RB K H Hs v (.dict ds))(g:fo ds=true)(e:gY):∃p o,v=.ref p/\wO H p (kV e) o/\o.isSome=(iH ds (kD e)).isSome:=by
 obtain⟨p,rfl,l⟩:=h.dict sub
 rcases l with⟨j,b,a⟩|⟨j,b,hn,a⟩|⟨o,j,es,rfl,b,hn,a⟩
 ·refine⟨p,_,rfl,wO.k b,?_⟩
  rcases a.val e with⟨f,i⟩|⟨u,d,f,i,h5⟩<;>rw[f,i]<;>rfl
 ·exact(hn (a.flat g).1).elim
 ·cases g
def RH(g:c.X.A.units+1<fZ):wZ c.X (bG .In) (Ma false):=by
 refine⟨λb s E H x y v u Q I m t h=>?_,λx y c n=>?_⟩
 ·obtain⟨Hs,G,B,sub,f,l,d,a,q⟩:=h;unfold Ma at a;split at a
  ·rename_i ds
   split at a
   ·rename_i w e
    obtain rfl:=qG e;split at a
    ·rename_i j
     cases a;obtain⟨p,o,rfl,z,i⟩:=He sub l j w;obtain rfl:=Mb f;cases t
     refine L2.d_in g I z m λs' k=>⟨.bl _,H,k,rfl,?_⟩
     rw[i];exact q _ H Hs (.refl sub) (.bool _)
    ·cases a
   ·cases a
  ·cases a
 ·unfold Ma;split<;>(try split)<;>(try split)<;>exact λh=>by cases h
def NT(g:c.X.A.units+1<fZ):wZ c.X (bG .NotIn) (Ma true):=by
 refine⟨λb s E H x y v u Q I m t h=>?_,λx y c n=>?_⟩
 ·obtain⟨Hs,G,B,sub,f,l,d,a,q⟩:=h;unfold Ma at a;split at a
  ·rename_i ds
   split at a
   ·rename_i w e
    obtain rfl:=qG e;split at a
    ·rename_i j
     cases a;obtain⟨p,o,rfl,z,i⟩:=He sub l j w;obtain rfl:=Mb f;cases t
     refine L2.Ld g I z m λs' k=>⟨.bl _,H,k,rfl,?_⟩
     rw[i];exact q _ H Hs (.refl sub) (.bool _)
    ·cases a
   ·cases a
  ·cases a
 ·unfold Ma;split<;>(try split)<;>(try split)<;>exact λh=>by cases h
end
end J
namespace L2
open PySem PySem.Spec PyProof.Rows
def q0y(P:bg)(w:bL)(o:Obj)(a:List (gY×ag)):Prop:=o.ExactDict/\∃es b,o.data=.dict es b/\KeysOf (g9 P w) es/\Pairs (g9 P w) es.toList a/\(a.map (·.1)).Nodup
abbrev Mc:=List (gY×V)
def q1x(X:Cx)(_:ap)(o:Obj)(a:Mc):Prop:=∃xs,q0y X.prog X.w o xs/\KV a xs/\a.length<=sizeLine
def q1y(X:Cx)(d e:bj)(env:Env)(D:ap)(K:ak->Prop)(s:ak):Prop:=aq (ax X.prog X.w) X.A (eI d env) (λx b=>aq (ax X.prog X.w) X.A (eI e env) (λy c=>aq (ax X.prog X.w) X.A (dictSet D x y) (λ_ a=>K a) (λ_ _=>False) c) (λ_ _=>False) b) (λ_ _=>False) s
def RI{X:Cx}{U O tg iter:bj}{f:List bj}{scope:eM}{T:Pos}{Y tv:TE}{N':List Str}{nt:Nat}{ix:List Nat}(hu:X.A.units<fZ)(pe:∀j C a b i l,PE (bi X N' scope j C a b i l) U Y/\PE (bi X N' scope j C a b i l) O tv):
  G8 X N' scope nt nt ix (.DictComp U O [⟨tg,iter,f,0⟩] scope T) tg f newDict (λ_=>HO.dK) ([]:Mc) (λc=>c.length<sizeLine) (λσ H c m V=>Y σ H λy H4=>tv σ H4 λv H5=>∃k q,y=kV k/\q<m/\V q (mR c k v) H5):=by
 refine⟨q1x X,_,λ_=>q1y X U O,λ_=>True,λ⟨xs,⟨_,es,p,g,_⟩,_⟩ v z=>(by rw[g] at z;cases z),rfl,λ_=>⟨[],⟨⟨rfl,rfl,rfl⟩,#[],0,rfl,λe he=>(nomatch he),.nil,g6⟩,.nil,cH _⟩,λhD ⟨xs,⟨P,es,p,E,x,S,u⟩,kt,ls⟩ e=>⟨ls,by simp only[beq_eq_false_iff_ne];exact fF hD,xs,kt,_,es,p,e,P,E,x,S,u⟩,bz,λ_ env D R I h n s=>EK I h n,codeAny_compStart_dict,⟨av _,λ_ _ _=>trivial⟩,λ_=>?_⟩
 intro j C a b i l D pl o c d H7 s7 K m V h1 h2 h3 _ hl hP I7 q7 fin
 obtain⟨xs,⟨P,es,p,E,x,S,u⟩,kt,ls⟩:=hP
 obtain⟨pk,pv⟩:=pe j C a b i l
 refine fW (pk _ s7 d H7 _ I7 q7) λu8 s8 G=>?_
 obtain⟨y,Ha,Ia,ra,qa⟩:=G
 refine fW (pv _ s8 d Ha _ Ia qa) λu9 s9 t=>?_
 obtain⟨v,H8,I8,r8,k,q,hy,hm,w8⟩:=t
 obtain⟨pD,pN,_⟩:=I8.pin (D,_) (aA _ aj)
 subst hy
 have dd:s9.heap.DictOf (g9 X.prog X.w) D xs:=⟨o,es,p,pD,P,E,x,S,u⟩
 have lx:xs.length=c.length:=(j6 kt).symm
 refine wpAny_dictSet_pairs (D3 ra) dd (λh9 M B=>?_) ∅
 obtain⟨o9,Q,L,N,y1,g,y3,y5,y4⟩:=M
 exact fin _ o9 H8 _ q ((I8.swap B N (λv z=>by rw[g] at z;cases z) h1 h2 h3).tok _) ⟨_,⟨y1,Q,L,g,y3,y5,y4⟩,kt.put k r8,by have:=md c k v;omega⟩ hm w8
inductive RJ (nt:Nat) (ix:List Nat) (g:TG) (tt:TT) (te tv:TE) (σ:St) (Q:VK) (J:It) (H1:Hp):Prop
 |mk (W:Nat->Nat->Mc->Hp->Prop) (w0:∃m,W 0 m [] H1) (turn:∀i m acc H,W i m acc H ->
 (J.stop i H/\∀p,H p=none->Q (.ref p) (upd H p (.dK acc))) \/
 (J.go i H/\acc.length<sizeLine/\∀x H',J.yld i H x H'->g x (lL nt ix σ) H' λσ2 H2=>tt σ2 H2 λb H3=>
  if b=true then te σ2 H3 λy H4=>tv σ2 H4 λv H5=>∃k m',y=kV k/\m'<m/\W (i+1) m' (mR acc k v) H5 else ∃m',m'<m/\W (i+1) m' acc H3)):RJ nt ix g tt te tv σ Q J H1
def Md(nt:Nat)(ix:List Nat)(e:TI)(g:TG)(c:TT)(b d:TE):TE:=λa H Q=>e a H (RJ nt ix g c b d a Q)
end L2
namespace J
open PySem L2
section
variable{c:C}{pos:Pos}{x:Str}{kx vx iter tg:bj}{ifs:List bj}{scope:eM}{N':List Str}{nt:Nat}{ix:List Nat}{gi:aE->R (List D)}{gt:aE->R Bool}{gk gv:aE->R D}
def V1(gk gv:aE->R D):aE->R D:=λρ=>(gk ρ).bind λk=>(gv ρ).bind λv=>match qF k with
 |some _=>.ok (.tuple [k,v])
 |none=>.no
def rq(nt:Nat)(ix:List Nat)(gi:aE->R (List D))(gt:aE->R Bool)(gk gv:aE->R D):aE->R D:=λρ=>(gi ρ).bind λds=>if ds.length<=1000 then(fE (iG nt (jM nt ix ρ) gt (V1 gk gv)) ds).bind λys=>.ok (.dict (Z0 ys)) else .no
inductive dcK (K:a8) (f:D->R (Option D)) (ds ys:List D) (H1 Hs1:Hp) (i m:Nat) (acc:Mc) (H':Hp):Prop
 |mk (done bu zs ya Hs':_) (h0:ds=done++bu) (h1:done.length=i) (h2:bu.length=m) (h3:cQ H1 Hs1 H' Hs') (h4:RDk K Hs' acc (Z0 ya)) (h5:acc.length<=i) (h6:fE f bu=.ok zs) (h7:ys=ya++zs):dcK K f ds ys H1 Hs1 i m acc H'
theorem NU(a2:nt=1\/nt=2)
  (q:TN K cls E ρ (rq nt ix gi gt gk gv ρ) j H Q):
  Md nt ix (Uz K cls E ρ (gi ρ)) (zE K nt) (λj H Q=>∃a,Cy K cls E0 a (gt a) j H Q) (λj H Q=>∃a,TR K cls E0 a (gk a) j H Q) (λj H Q=>∃a,TR K cls E0 a (gv a) j H Q) j H Q:=by
 obtain⟨H0,a6,la,Hs,f,q⟩:=q;refine⟨H0,a6,la,Hs,f,?_⟩;unfold rq at q;cases hi:gi ρ with
 |no=>rw[hi] at q;exact q
 |ex x n=>rw[hi] at q;exact q
 |ok ds=>
  rw[hi,bind_ok] at q;intro J H1 t Hn s1 sn it;by_cases hl:ds.length<=1000
  ·rw[if_pos hl] at q;cases M:fE (iG nt (jM nt ix ρ) gt (V1 gk gv)) ds with
   |no=>rw[M] at q;exact q.elim
   |ex x n=>exact(xc (Az _ _ _ _) _ _ _ M).elim
   |ok ys=>
    rw[M,bind_ok] at q;obtain⟨lb,fb⟩:=(f.step s1).block nt ix;refine⟨dcK K (iG nt (jM nt ix ρ) gt (V1 gk gv)) ds ys H1 t,
     ⟨ds.length,[],ds,ys,[],t,rfl,rfl,rfl,.refl s1.sub,.nil,cH _,M,rfl⟩,?_⟩
    rintro i m a0 H' ⟨done,bu,zs,ya,w,g,h,A,st,X,yl,hz,N⟩;obtain⟨a5,k,B⟩:=it H' w (sn.trans st.all) st.sh st.sub;cases bu with
    |nil=>
     left;cases hz;rw[b_] at g N;subst N g;exact⟨k i ∅,λp hp=>q p _ H' w (s1.trans st) hp (.dK X)⟩
    |cons d bu=>
     right;have I:i<ds.length:=by rw[g,aI,aZ];omega
     refine⟨a5 i I,eX ∅,λx H2 a4=>?_⟩;obtain⟨d',a3,hd,S,r2⟩:=B i x H2 I a4;have a1:d'=d:=by
      rw[g,aY ∅] at hd;simp[h] at hd;exact hd.symm
     subst a1;obtain⟨o,G,e,L,rfl⟩:=nR hz;have e:=rm e;cases P:UD nt d' (jM nt ix ρ) with
     |no=>rw[P] at e;cases e
     |ex x n=>rw[P] at e;cases e
     |ok a=>
      rw[P,bind_ok] at e;refine s_ a2 ((fb.step st).step S) r2 P λb0 f2=>⟨a,?_⟩;refine⟨_,_,_,a3,f2,?_⟩;cases ht:gt a with
      |no=>rw[ht] at e;cases e
      |ex x n=>rw[ht] at e;cases e
      |ok b=>
       rw[ht,bind_ok] at e;intro H3 s l;cases b with
       |false=>
        rw[if_neg ba] at e;cases e;refine wM ⟨bu.length,by rw[<- A];simp,done++[d'],bu,G,ya,s,by rw[g];simp,by simp[h],rfl,(st.trans S).trans l,X.same (S.trans l).sh,by omega,L,by simpa using N⟩
       |true=>
        rw[if_pos rfl] at e;refine wN ⟨a,_,_,_,s,f2.step l,?_⟩;unfold V1 at e;cases he:gk a with
        |no=>rw[he] at e;cases e
        |ex x n=>rw[he] at e;cases e
        |ok y=>
         rw[he,bind_ok] at e;intro v H4 U s4 r4;refine⟨a,_,_,_,U,(f2.step l).step s4,?_⟩;cases Y:gv a with
         |no=>rw[Y] at e;cases e
         |ex x n=>rw[Y] at e;cases e
         |ok z=>
          rw[Y,bind_ok] at e;intro u H5 T s5 r5;cases hk:qF y with
          |none=>rw[hk] at e;cases e
          |some O=>
           rw[hk] at e;cases e;obtain rfl:=qG hk;obtain rfl:=AE r4;have sA:=((S.trans l).trans s4).trans s5;exact⟨O,bu.length,rfl,by rw[<- A];simp,done++[d'],bu,G,ya++[.tuple [kD O,z]],T,by rw[g];simp,by simp[h],rfl,st.trans sA,by rw[Rk];exact(X.same sA.sh).put O r5,by have:=md a0 O u;omega,L,by rw[N];simp⟩
  ·rw[if_neg hl] at q;exact q.elim
end
end J
namespace L2
open PySem PySem.Spec PyProof.Rows
def NV
  (hu:X.A.units<fZ) (hN:X.N.Nodup) (M:X.N[i]?=some y) (E:X.env.scope.names.lookup y=some .local)
  (hc:X.calm=true) (S:jZ X scope N' nt ix) (lo:T7 nt g) (hi:PI X tg iter wi)
  (u:∀t C j k B G,PG (bi X N' scope t C j k B G) tg g/\Ei (bi X N' scope t C j k B G) ifs tt/\PE (bi X N' scope t C j k B G) kx te/\PE (bi X N' scope t C j k B G) vx tv)
  (O:hX (.DictComp kx vx [⟨tg,iter,ifs,0⟩] scope pos) (some (.Name y py)) spos.line X.env=pure true:=by rfl)
  (hs:∀x,bf iter X.env x=pure x:=by intro _;rfl):PS X (.Assign [.Name y py] (.DictComp kx vx [⟨tg,iter,ifs,0⟩] scope pos) spos) (W8 i (Md nt ix wi g tt te tv)):=by
 intro l s U H D I h;obtain⟨t,a0,c1,c2⟩:=lK (scope:=scope) (env:=X.env) λy E hf=>I.ok.has y.1 (S.free y E hf);rw[SY _ _ _ _ O];refine a7 (dY (a7 ?_));show aq _ X.A (do let _ <- sH (.DictComp kx vx [⟨tg,iter,ifs,0⟩] scope pos) scope X.env _ newDict false (eI iter X.env) (some (mw (.Name y py) X.env))) _ _ s;refine a7 (bx (gm (use:=some (mw (.Name y py) X.env)) (Q:=λ_ s'=>SP X l D .next s') rfl hs a0 S.kind S.loc
  (fW (hi l s U H _ I h) λv s1 h1=>fW h1 λa1 s2 h2=>?_)) (λ_ s' hq=>a9 (a9 hq)) λ_ _ e=>e)
 obtain⟨it,fp,tn,J,H2,e,I2,T,Y,f2,W,w0,p⟩:=h2;subst e;refine yf (Q:=λx H1=>D.nx (U.set i (some x)) H1) (RR:=λn C=>C8 (ax X.prog X.w) X.A X.xe (some (mw (.Name y py) X.env)) (λ_ s'=>SP X l D .next s') n C) (RI hu λa b c d e f=>(u a b c d e f).2.2) hc S lo (λa b c d e f=>⟨(u a b c d e f).1,(u a b c d e f).2.1⟩) c1 c2 I2 T Y f2 w0 p ?_;intro L C m s' n H' hD fC q hn hI;show aq _ X.A (mw (.Name y py) X.env (.ref L)) _ _ _;have I3:cb X l U (upd H' L (.dK n)) s':=hI s'.heap (.refl ..);refine C4 (y9 I3 hN M (.inl E) (v:=.ref L) rfl (λs4 I4 ⟨a,sb,ha⟩=>?_) (.inr E));obtain⟨g0,g1,g2,g3,g4,g5⟩:=fC;have K:C≠a:=by
  rcases ha with z|z
  ·rw[z];exact g1
  ·exact λe=>g4 y a z e.symm
 refine⟨m,hn.sameBut sb K,λh5 P=>?_⟩;exact⟨_,_,I4.turned (t':=s4.toks) (λb o u e=>(P.2 b u).trans e) g0 g1 g3 g4 g5,q⟩
end L2
namespace J
open PySem L2
def EQ(i:Nat)(nt:Nat)(b:nt=1\/nt=2)(B:c.X.A.units+1<fZ)(l:c.X.N.Nodup)(n:c.X.calm=true)(S:jZ c.X scope N' nt ix)(t:JI c tg iter gi)(u:JX c N' scope nt tg ifs kx vx gt gk gv)
  (j:c.X.N[i]?=some x:=by rfl) (m:c.X.env.scope.names.lookup x=some .local:=by rfl)
  (h:hX (.DictComp kx vx [⟨tg,iter,ifs,0⟩] scope pos) (some (.Name x py)) spos.line c.X.env=pure true:=by rfl)
  (hs:∀x,bf iter c.X.env x=pure x:=by intro _;rfl):JS c (.Assign [.Name x py] (.DictComp kx vx [⟨tg,iter,ifs,0⟩] scope pos) spos) (fD i (rq nt ix gi gt gk gv)):=.of λρ=>C1 (NV ∅ l j m n S (uf b) (t ρ) u.at h hs) λD p H e=>by
 obtain⟨E,z,la,Hs,f,q⟩:=e;refine NU (Q:=λx k=>D.nx (p.set i (some x)) k) b (sN f q λd a o k g w v s y=>?_);unfold fD at q;rw[w,bind_ok] at q;exact q _ _ g (v.setO i s y)
end J
namespace L2
open PySem PySem.Spec PyProof.Rows PySem.W
end L2
namespace L2
open PySem PySem.Spec PyProof.Rows PySem.W
end L2
namespace L2
open PySem PySem.Spec PyProof.Rows
section
variable{prog:bg}{w:bL}{A:cy}{R:Ae->ak->Prop}{I:ap}{fp wr:List ap}{n:Nat}{P:Nat->ag->Prop}{St:Nat->cg->Prop}{d:ag}
def Me:(toString "max"++toString ".loop" : String)="max.loop":=by decide
def V2(W:FH prog w A.in1 I fp wr n P St)(B:Nat->Nat->Bool)(K:CmpOf prog w A.in1 .Gt P B)(S:ap)(E:S∉fp):∀(k j:Nat) (s:ak) (q:ag) (c:Nat),n-(j+1)=k->j+1<=n->St (j+1) s.heap->P (yV B j) q->s.heap.get? S=some {cls:=.type "list",dict:=none,data:=.seq #[q,q] c,slots:=#[]} ->
  (∀v h' N,P (yV B (n-1)) v->(∀b o,b∉wr->b≠S->s.heap.get? b=some o->h'.get? b=some o)->R (.ok (.ret v)) {s with heap:=h',toks:=N})->eJ (ax prog w) A (.builtin "max.loop" ⟨[.ref I,.none,.ref S],[("default",d)]⟩) R s:=by
 intro k;have G:S∉wr:=λh=>E (W.sub _ h)
 induction k with
 |zero=>
  intro j s q c hk Y u p H M;have L:j+1=n:=by omega
  refine fg Ck ?_;rw[du i_ _];show aq _ A.in1 (uM (.ref S)>>=_) _ _ s
  refine a7 (eB H rfl ?_);show aq _ A.in1 (tryCatch (jY (.ref I)) _>>=_) _ _ s
  refine a7 (r6 (W.done s _ _ (L ▸ u) λh' N g=>?_));have m:=g S _ G H;show aq _ A.in1 (OL S (λ_=>#[])>>=_) _ _ _
  refine a7 ?_;refine pX m rfl (a7 (oJ (a9 ?_)))
  exact M q _ N (by rw[<- L];exact p) λb o a f e=>(cx _ _ (dm f)).trans (g b o a e)
 |succ k T=>
  intro j s q c hk Y u p H M;have z:j+1<n:=by omega
  refine fg Ck ?_;rw[du i_ _];show aq _ A.in1 (uM (.ref S)>>=_) _ _ s
  refine a7 (eB H rfl ?_);show aq _ A.in1 (tryCatch (jY (.ref I)) _>>=_) _ _ s
  refine a7 (r6 (W.item (j+1) s _ _ z u λv h' N X t g=>?_));have m:=g S _ G H;show aq _ A.in1 (tryCatch (ID [v,v] (richCompare .Gt v q>>=_)) _>>=_) _ _ _
  refine a7 (r6 (cC (a7 (K (j+1) (yV B j) v q _ _ _ X p ?_))));refine a7 (cC (dA ?_));refine a7 (oJ (a9 ?_))
  cases U:B (j+1) (yV B j) with
  |true=>
   simp only[if_true];refine a7 ?_;refine pX m rfl (a7 (oJ ?_));rw[Me]
   refine a9 ⟨iP i_ _,T (j+1) _ v _ ∅ z (W.frame _ _ _ t λb O o e=>(cx _ _ (λh:S=b=>E (by rw[h];exact O))).trans e) (by simp only[yV,U,if_true];exact X) (eO _ m rfl) λQ x i y l=>M Q x i y λb o a f e=>l b o a f ((cx _ _ (dm f)).trans (g b o a e))⟩
  |false=>
   simp only[bn,if_false];refine a7 (oJ ?_);rw[Me]
   exact a9 ⟨iP i_ _,T (j+1) _ q c ∅ z t (by simp only[yV,U,bn,if_false];exact p) m λQ x i y l=>M Q x i y λb o a f e=>l b o a f (g b o a e)⟩
def RK(W:FH prog w A.in1 I fp wr n P St)(B:Nat->Nat->Bool)(p:CmpOf prog w A.in1 .Gt P B)(S:ap)(f:S∉fp){s:ak}{c:Nat}(g:St 0 s.heap)(G:s.heap.get? S=some {cls:=.type "list",dict:=none,data:=.seq #[] c,slots:=#[]})
  (H:∀v h' t,(if n=0 then v=d else P (yV B (n-1)) v)->(∀b o,b∉wr->b≠S->s.heap.get? b=some o->h'.get? b=some o)->R (.ok (.ret v)) {s with heap:=h',toks:=t}):eJ (ax prog w) A (.builtin "max.loop" ⟨[.ref I,.none,.ref S],[("default",d)]⟩) R s:=by
 have x:S∉wr:=λh=>f (W.sub _ h)
 refine fg Ck ?_;rw[du i_ _];show aq _ A.in1 (uM (.ref S)>>=_) _ _ s
 refine a7 (eB G rfl ?_);show aq _ A.in1 (tryCatch (jY (.ref I)) _>>=_) _ _ s
 by_cases E:n=0
 ·subst E
  refine a7 (r6 (W.done s _ _ g λh' t a=>?_))
  show aq _ A.in1 (rule _>>=_) _ _ _
  exact a7 (cK (a9 (H d h' t (by simp) λb o K _ e=>a b o K e)))
 ·refine a7 (r6 (W.item 0 s _ _ ∅ g λv h' t L q a=>?_));have k:=a S _ x G;show aq _ A.in1 (OL S (λ_=>#[v,v])>>=_) _ _ _
  refine a7 ?_;refine pX k rfl ?_;rw[Me]
  refine a9 ⟨iP i_ _,V2 W B p S f _ 0 _ v _ rfl ∅ (W.frame _ _ _ q λb y o e=>(cx _ _ (λh:S=b=>f (by rw[h];exact y))).trans e) L (eO _ k rfl) λM u i z j=>H M u i (by rw[if_neg E];exact z) λb o l m e=>j b o l m ((cx _ _ (dm m)).trans (a b o l e))⟩
end
section
variable{prog:bg}{w:bL}{A:cy}{E:ag->ak->Prop}{s:ak}
def V3(a d:ag):E3 "max" ⟨[a],[("default",d)]⟩:=by unfold E3;kernel_rfl
def V4{id:String}{b:jQ}{a:List ag}{d:List (Str×ag)}{Q:ag->ak->Prop}(m:builtinKind id=none)(k:plainId id=true)(n:J6 table id=some b)(l:E3 id ⟨a,d⟩)
  (h:aq (ax prog w) A.in1 (b ⟨a,d⟩) (λfin s'=>match fin with
   |.done f=>(match (Except.ok f:Ae) with | .ok (.ret v)=>Q v s' | .ok _=>False | .error e=>E e s')
   |.again i=>i.quiet=true/\eJ (ax prog w) A i (λr s'=>match r with | .ok (.ret v)=>Q v s' | .ok _=>False | .error e=>E e s') s') E s):aq (ax prog w) A (call (.builtin id) a d) Q E s:=by
 refine wpAny_call (Ti k n ?_);simp only[checkBuiltinCall,m]
 cases c:Manifest.signature? id with
 |none=>exact a9 h
 |some g=>
  have j:Bind.checkArgs id g ⟨a,d⟩=pure ():=by simpa only[E3,c] using l
  simp only[j];exact a9 h
def V5{x d:ag}{Q:ag->ak->Prop}
  (h:aq (ax prog w) A.in1 (nH x) (λit a=>∃I g p n P St i,it=.ref I/\FH prog w A.in1 I g p n P St/\St 0 a.heap/\(∀b∈g,b<a.heap.objs.size)/\CmpOf prog w A.in1 .Gt P i/\∀v h' j,(if n=0 then v=d else P (yV i (n-1)) v)->(∀b o,b∉p->a.heap.get? b=some o->h'.get? b=some o)->Q v {a with heap:=h',toks:=j}) E s):
  aq (ax prog w) A (call (.builtin "max") [x] [("default",d)]) Q E s:=by
 refine V4 F.kind_max F.plain_max F.entry_max (V3 _ _) ?_
 show aq _ A.in1 (uR "max" ["key","default"] 0 ⟨[],[("default",d)]⟩>>=_) _ _ s
 refine a7 (fw (show uR "max" ["key","default"] 0 ⟨[],[("default",d)]⟩=pure [none,some d] from rfl) ?_)
 refine a7 (a9 ?_);refine a7 (bx h (λit a f=>?_) λ_ _ e=>e)
 obtain⟨I,g,p,n,P,St,i,rfl,W,k,q,c,y⟩:=f
 refine a7 (bz ?_)
 have l:a.heap.objs.size∉g:=λu=>cO _ (q _ u)
 rw[Me]
 exact a9 ⟨iP i_ _,RK W i c a.heap.objs.size l (W.frame _ _ _ k λb _ o e=>ae _ e) (aC _ rfl) λv h' j t z=>y v h' j t λb o m e=>z b o m (aL (aw e)) (ae _ e)⟩
end
end L2
namespace J
open PySem L2
section
variable{X:Cx}{c:C}
def K0:D->R D
 |.list ds=>match vL ds with
  |some a=>.ok (.int (yZ a))
  |none=>.no
 |_=>.no
def NW{t:Tok}(M:X.calm=true){d:List (ap×Obj)}{s:ak}{m:St}{H:Hp}{p:ap}{f:List Int}{B:List ag}{Q:VK}(I:cb X d m H s)(r:eE [.ref p] B)(L:qy X.K H p (f.map V.int))(q:Q (.int (yZ f)) H):
  aq (ax X.prog X.w) X.A (call (.builtin "max") B [("default",.int 0 t)]) (EP X d m Q) X.xe s:=by
 obtain⟨u,rfl,G⟩:=lG r;cases G;obtain⟨g,x,pl,U⟩:=I.list L
 have T:g.toArray.size=f.length:=by have:=x.length;simp at this ⊢;omega
 obtain⟨o,ho,Y⟩:=pl.isList
 refine V5 (mx pl.isList ⟨_,_,_,_,_,_,λi j=>decide (f.getD i 0 > f.getD j 0),rfl,C9 (by simpa using I.ok.hd M) _ p (aL (aw ho)) g.toArray,⟨⟨_,aC _ rfl,rfl,rfl⟩,pl.isList.push _⟩,?_,?_,λv h' E h kp=>?_⟩)
 ·intro b z;simp only[aT,br,or_false] at z;have P:=aw ho;have hs:(s.heap.push {cls:=.type "list_iterator",data:=.fields #[bq p,oC 0 0]}).objs.size=s.heap.objs.size+1:=Array.size_push ..
  rcases z with rfl|rfl
  ·exact Pb (gW _) hs.symm
  ·exact Pb (fG P) hs.symm
 ·refine CmpOf.ints_gt (λi=>f.getD i 0) λi v O=>?_;obtain⟨n,t,k,rfl⟩:=GO x (i:=i) (by simpa using O);exact⟨t,by simp[eg,k]⟩
 ·have y:cb X d m H {s with heap:=h',toks:=E}:=I.kept (t':=E) λb o e=>kp b o (by simp only[bN];exact aL (aw e)) (ae _ e)
  rw[T] at h
  by_cases l:f.length=0
  ·rw[if_pos l] at h;subst h;rw[List.length_eq_zero_iff.1 l] at q;exact⟨.int 0,H,y,⟨t,rfl⟩,q⟩
  ·rw[if_neg l] at h;obtain⟨b1,b2⟩:=argBest_gt (λi=>f.getD i 0) (f.length-1);obtain⟨n,t,k,rfl⟩:=GO x (by simpa using h)
   refine⟨.int n,H,y,⟨t,rfl⟩,?_⟩
   rw[UQ (ip k) λa N=>?_]
   ·exact q
   ·obtain⟨j,S,e⟩:=wu N;have:=b2 j ∅;simpa[eg,k,S,e] using this
def V6{e:bj}{t:TA}{p b L kp:Pos}{j:Nat}(v:X.calm=true)(G:Gl X "max")(z:X.mg "max"=none)(u:PA X [e] t)(he:iz b (aP [e] X.env)=(false,eI e X.env)::iz b (aP [] X.env):=by rfl)(k:(iz b (aP [e] X.env)).any (·.1)=false:=by rfl):
  PE X (.Call (.Name "max" p) [e] [⟨some "default",.Constant (.int 0) j L,kp⟩] b) (YW (rC X.K (iT K0)) t):=by
 intro g s w H Q I h
 refine qX (vv I G z PyProof.Rows.boot_max ?_ ⋯ ⋯)
 refine PyProof.Rows.callWith_kw (fW (u b g s w H _ I h) λO s1 i=>?_) he k
 obtain⟨M,o,E,A,y⟩:=i
 obtain⟨Hs,ds,sub,B,d,f,q⟩:=y
 refine PyProof.Rows.kws_cons (wpAny_Constant_int (PyProof.Rows.kws_nil ?_))
 unfold iT at f;split at f
 ·obtain⟨x,rfl,n⟩:=B.one
  unfold K0 at f;split at f
  ·split at f
   ·rename_i N hs
    cases f;obtain⟨a,M,rfl,l,m⟩:=n.list sub;rw[GQ hs] at m;rw[Et m] at l
    exact NW v (E.tok _) A l (q _ o Hs (.refl sub) (.int _))
   ·cases f
  ·cases f
 ·cases f
def V7{e:bj}{d:aE->R (List D)}{p a l kp:Pos}{j:Nat}(i:c.X.calm=true)(g:Uq c [e] d)(k:Gl c.X "max")(f:c.X.mg "max"=none)(he:iz a (aP [e] c.X.env)=(false,eI e c.X.env)::iz a (aP [] c.X.env):=by rfl)(b:(iz a (aP [e] c.X.env)).any (·.1)=false:=by rfl):
  JE c (.Call (.Name "max" p) [e] [⟨some "default",.Constant (.int 0) j l,kp⟩] a) (cw d (iT K0)):=.of λρ=>sS (V6 i k f (g ρ) he b) λm H Q q=>Qj (λx c n=>by
 unfold iT;split
 ·unfold K0;split<;>(try split)<;>exact λh=>by cases h
 ·exact λh=>by cases h) q
end
end J
namespace L2
open PySem PySem.Spec PyProof.Rows
abbrev q1z(c:TE)(e:St)(H:Hp)(a:List L2.V)(m:Nat)(R:Nat->List L2.V->Hp->Prop):Prop:=c e H λy d=>∃b,b<m/\R b (a++[y]) d
abbrev LIn(nt:Nat)(b:TT)(c:TE)(d:St)(a:List V)(Z:List V->Hp->Prop)(J:It)(e:Hp):Prop:=GIn nt b (λa=>a.length<sizeLine) (q1z c) d a Z J e
def RL{X:Cx}{n tg iter l g:bj}{q k:List bj}{t:TI}{o:TT}{scope:eM}{G:Pos}{M:TE}{N':List Str}{nt:Nat}{ix:List Nat}(Q:X.calm=true)(A:∀(env:Env) x,bf g env x=pure x)
  (w:∀u C j i y v,PI (bi X N' scope u C j i y v) l g t/\PG (bi X N' scope u C j i y v) l (mK nt)/\Ei (bi X N' scope u C j i y v) k o/\PE (bi X N' scope u C j i y v) n M):
  G8 X N' scope nt (nt+1) ix (.ListComp n [⟨tg,iter,q,0⟩,⟨l,g,k,0⟩] scope G) tg q (IF []) (λ_=>HO.lst) [] (λ_=>True) (λI H B m V=>t I H (LIn nt o M I B λp H'=>∃L,L<m/\V L p H')):=
 q0w (o0:=XM [] 0) (P:=XN) (Bd:=Ug X n) (λ⟨_,_,h,_⟩ _ z=>(by rw[h] at z;cases z)) rfl (λ_=>⟨[],0,rfl,.nil,cH _⟩) (λ_ ⟨E,U,h,S,O⟩ e=>⟨O,E,U,S,by rw[e,h]⟩) bz (λit=>D6 (iter:=iter) (λ_ _=>rfl) λenv D K s h=>h) (λit=>D6 (iter:=g) (λ_ _=>rfl) λa b c d h=>Ga rfl a b c d h) (λT N h=>by
  rcases T with rfl|rfl
  ·exact OY N h
  ·exact UZ N h) (G9 λa b c d e f=>(w a b c d e f).2.2.2) Q A λa b c d e f=>⟨(w a b c d e f).1,(w a b c d e f).2.1,(w a b c d e f).2.2.1⟩
inductive RM (nt:Nat) (ix:List Nat) (g:TG) (tt:TT) (wi2:TI) (tt2:TT) (te:TE) (σ:St) (Q:VK) (J:It) (H1:Hp):Prop
 |mk (W:Nat->Nat->List V->Hp->Prop) (w0:∃m,W 0 m [] H1) (turn:∀i m acc H,W i m acc H->(J.stop i H/\∀p,H p=none->Q (.ref p) (upd H p (.lst acc))) \/
   (J.go i H/\∀x H',J.yld i H x H'->g x (lL (nt+1) ix σ) H' λσ2 H2=>tt σ2 H2 λb H3=>
    if b=true then wi2 σ2 H3 (LIn nt tt2 te σ2 acc λacc' H'=>∃m',m'<m/\W (i+1) m' acc' H') else ∃m',m'<m/\W (i+1) m' acc H3)):RM nt ix g tt wi2 tt2 te σ Q J H1
def Mf(nt:Nat)(ix:List Nat)(f:TI)(g:TG)(e:TT)(b:TI)(a:TT)(d:TE):TE:=λc H Q=>f c H (RM nt ix g e b a d c Q)
def ER{X:Cx}{E tg iter o j:bj}{p l:List bj}{scope:eM}{B:Pos}{wi N:TI}{g:TG}{tt M:TT}{te:TE}{N':List Str}{nt:Nat}{ix:List Nat}
  (hc:X.calm=true) (S:jZ X scope N' (nt+1) ix) (lo:T7 nt g) (hi:PI X tg iter wi)
  (U:∀z C k n K G,PG (bi X N' scope z C k n K G) tg g/\Ei (bi X N' scope z C k n K G) p tt/\PI (bi X N' scope z C k n K G) o j N/\PG (bi X N' scope z C k n K G) o (mK nt)/\Ei (bi X N' scope z C k n K G) l M/\PE (bi X N' scope z C k n K G) E te)
  (P:∀(env:Env) x,bf j env x=pure x) (hs:∀x,bf iter X.env x=pure x:=by intro _;rfl):PE X (.ListComp E [⟨tg,iter,p,0⟩,⟨o,j,l,0⟩] scope B) (Mf nt ix wi g tt N M te):=by
 intro u s σ H Q I h
 obtain⟨z,Y,c1,c2⟩:=lK (scope:=scope) (env:=X.env) λy hy hf=>I.ok.has y.1 (S.free y hy hf)
 show aq _ _ (sH (.ListComp E [⟨tg,iter,p,0⟩,⟨o,j,l,0⟩] scope B) scope X.env (P2 [⟨tg,iter,p,0⟩,⟨o,j,l,0⟩] B) (IF []) (firstAsync [⟨tg,iter,p,0⟩,⟨o,j,l,0⟩]) (firstIter [⟨tg,iter,p,0⟩,⟨o,j,l,0⟩] X.env)) _ _ _
 refine gm (use:=none) rfl hs Y S.kind S.loc (fW (hi u s σ H _ I h) λv s1 h1=>fW h1 λa0 s2 h2=>?_)
 obtain⟨it,fp,tn,J,H2,e,I2,T,O,f2,W,w0,L⟩:=h2
 subst e
 refine yf (RR:=λt C=>C8 (ax X.prog X.w) X.A X.xe none (EP X u σ Q) t C) (RL hc P λa b c d e f=>(U a b c d e f).2.2) hc S lo (λa b c d e f=>⟨(U a b c d e f).1,(U a b c d e f).2.1⟩) c1 c2 I2 T O f2 w0 (λi m t H w=>(L i m t H w).imp id λh=>⟨h.1,trivial,h.2⟩) ?_
 intro D C m s' t H' hD _ q hn hI
 exact⟨m,hn,λh' sb=>⟨.ref D,_,hI h' sb,rfl,q⟩⟩
end L2
namespace J
open PySem L2
def yx(nt:Nat)(ix:List Nat)(c:aE->R (List D))(gt:aE->R Bool)(b:aE->R (List D))(a:aE->R Bool)(ge:aE->R D):aE->R D:=λρ=>(c ρ).bind λds=>(kW (kU nt (jM (nt+1) ix ρ) gt b a ge) ds).bind λys=>if ys.length<=900 then .ok (.list ys) else .no
inductive lcJ (K:a8) (f:D->R (Option D)) (ds ys tl:List D) (H1 Hs1:Hp) (i m:Nat) (acc:List V) (H':Hp):Prop
 |mk (done bu zs ya Hs':_) (h0:ds=done++bu) (h1:done.length=i) (h2:bu.length=m) (h3:cQ H1 Hs1 H' Hs') (h4:RDs K Hs' acc ya) (h6:fE f bu=.ok zs) (h8:ys=ya++(zs++tl)):lcJ K f ds ys tl H1 Hs1 i m acc H'
inductive lcK (K:a8) (f:D->R (List D)) (ds ys:List D) (H1 Hs1:Hp) (i m:Nat) (acc:List V) (H':Hp):Prop
 |mk (done bu zs ya Hs':_) (h0:ds=done++bu) (h1:done.length=i) (h2:bu.length=m) (h3:cQ H1 Hs1 H' Hs') (h4:RDs K Hs' acc ya) (h6:kW f bu=.ok zs) (h8:ys=ya++zs):lcK K f ds ys H1 Hs1 i m acc H'
section
variable{K:a8}{cls:Str->ap}{E:XK}{σ:St}{H:Hp}{Q:VK}{ρ ρ':aE}{H0 Hs0 H1 Hs1 Hn:Hp}{la:Nat->Option ap}{nt:Nat}{ix:List Nat}{gi gi2:aE->R (List D)}{gt gt2:aE->R Bool}{ge:aE->R D}{J:It}{es zs ys ya tl:List D}{va:List V}
def Ys{Z:List V->Hp->Prop}(f:Fr K H0 Hs0 la ρ' σ H1 Hs1)(sn:dQ Hn H1)(it:OS K J es Hn Hs1)(hm:fE (RF nt ρ' gt2 ge) es=.ok zs)(hl:ys.length<=900)(k:RDs K Hs1 va ya)(j:ys=ya++(zs++tl))
  (q:∀U Y H' e,ys=Y++tl->cQ H1 Hs1 H' e->RDs K e U Y->Z U H'):
  LIn nt (λσ H Q=>∃ ρ',Cy K cls E0 ρ' (gt2 ρ') σ H Q) (λσ H Q=>∃ ρ',TR K cls E0 ρ' (ge ρ') σ H Q) σ va Z J H1:=by
 refine⟨lcJ K (RF nt ρ' gt2 ge) es ys tl H1 Hs1,⟨es.length,[],es,zs,ya,Hs1,rfl,rfl,rfl,.refl f.st.sub,k,hm,j⟩,?_⟩
 rintro i m B H' ⟨done,bu,zs,ya,e,c,g,A,st,k,T,j⟩
 obtain⟨M,h,p⟩:=it H' e (sn.trans st.all) st.sh st.sub
 cases bu with
 |nil=>
  left;cases T;rw[b_] at c;subst c
  exact⟨h i ∅,q B ya H' e j st k⟩
 |cons d bu=>
  right
  have s:i<es.length:=by rw[c,aI,aZ];omega
  have a0:ya.length<=ys.length:=by rw[j,aI];omega
  refine⟨M i s,eX (by rw[k.length];omega),λx H2 P=>?_⟩
  obtain⟨d',N,O,z,r2⟩:=p i x H2 s P
  have I:d'=d:=by
   rw[c,aY ∅] at O;simp[g] at O;exact O.symm
  subst I
  obtain⟨o,u,a,t,rfl⟩:=nR T
  have a:=rm a
  have X:=((f.step st).step z).set nt r2
  refine⟨_,_,_,_,N,X,?_⟩
  cases G:gt2 (ρ'.set nt (.shr d')) with
  |no=>rw[G] at a;cases a
  |ex x n=>rw[G] at a;cases a
  |ok b=>
   rw[G,bind_ok] at a;intro H3 l w
   cases b with
   |false=>
    rw[if_neg ba] at a;cases a
    exact wM ⟨bu.length,by rw[<- A];simp,done++[d'],bu,u,ya,l,by rw[c];simp,by simp[g],rfl,(st.trans z).trans w,k.same (z.trans w).sh,t,by simpa using j⟩
   |true=>
    rw[if_pos rfl] at a
    refine wN ⟨_,_,_,_,l,X.step w,?_⟩
    cases he:ge (ρ'.set nt (.shr d')) with
    |no=>rw[he] at a;cases a
    |ex x n=>rw[he] at a;cases a
    |ok y=>
     rw[he,bind_ok] at a;cases a;intro v H4 L S r4
     exact⟨bu.length,by rw[<- A];simp,done++[d'],bu,u,ya++[y],L,by rw[c];simp,by simp[g],rfl,((st.trans z).trans w).trans S,(k.same ((z.trans w).trans S).sh).append (.cons r4 .nil),t,by rw[j];simp⟩
theorem V8(P:nt=1\/nt=2)
  (q:TN K cls E ρ (yx nt ix gi gt gi2 gt2 ge ρ) σ H Q):
  Mf nt ix (Uz K cls E ρ (gi ρ)) (zE K nt) (λσ H Q=>∃ ρ',Cy K cls E0 ρ' (gt ρ') σ H Q) (λσ H Q=>∃ ρ',Uz K cls E0 ρ' (gi2 ρ') σ H Q) (λσ H Q=>∃ ρ',Cy K cls E0 ρ' (gt2 ρ') σ H Q) (λσ H Q=>∃ ρ',TR K cls E0 ρ' (ge ρ') σ H Q) σ H Q:=by
 obtain⟨H0,Hs0,la,Hs,f,q⟩:=q;refine⟨H0,Hs0,la,Hs,f,?_⟩;unfold yx at q
 cases hi:gi ρ with
 |no=>rw[hi] at q;exact q
 |ex x n=>rw[hi] at q;exact q
 |ok ds=>
  rw[hi,bind_ok] at q;intro J H1 Hs1 Hn s1 sn it
  cases y:kW (kU nt (jM (nt+1) ix ρ) gt gi2 gt2 ge) ds with
  |no=>rw[y] at q;exact q.elim
  |ex x n=>exact(B0 (DB _ _ _ _ _ _) _ _ _ y).elim
  |ok ys=>
   rw[y,bind_ok] at q
   by_cases M:ys.length<=900
   ·rw[if_pos M] at q
    obtain⟨lb,fb⟩:=(f.step s1).block (nt+1) ix
    refine⟨lcK K (kU nt (jM (nt+1) ix ρ) gt gi2 gt2 ge) ds ys H1 Hs1,
     ⟨ds.length,[],ds,ys,[],Hs1,rfl,rfl,rfl,.refl s1.sub,.nil,y,rfl⟩,?_⟩
    rintro i m a2 H' ⟨done,bu,zs,ya,l,c,e,s,st,I,hz,z⟩
    obtain⟨a0,g,t⟩:=it H' l (sn.trans st.all) st.sh st.sub
    cases bu with
    |nil=>
     left;cases hz;rw[b_] at c z;subst z c
     exact⟨g i ∅,λp hp=>q p _ H' l (s1.trans st) hp (.lst I)⟩
    |cons d bu=>
     right
     have u:i<ds.length:=by rw[c,aI,aZ];omega
     refine⟨a0 i u,λx H2 T=>?_⟩
     obtain⟨d',S,hd,w,r2⟩:=t i x H2 u T
     have N:d'=d:=by
      rw[c,aY ∅] at hd;simp[e] at hd;exact hd.symm
     subst N
     obtain⟨o,h,a,v,rfl⟩:=A_ hz
     have a:=rm a
     cases A:UD nt d' (jM (nt+1) ix ρ) with
     |no=>rw[A] at a;cases a
     |ex x n=>rw[A] at a;cases a
     |ok ρ'=>
      rw[A,bind_ok] at a
      refine s_ P ((fb.step st).step w) r2 A λa4 O=>⟨ρ',?_⟩
      refine⟨_,_,_,S,O,?_⟩
      cases Y:gt ρ' with
      |no=>rw[Y] at a;cases a
      |ex x n=>rw[Y] at a;cases a
      |ok b=>
       rw[Y,bind_ok] at a;intro H3 k j
       cases b with
       |false=>
        rw[if_neg ba] at a;cases a
        exact wM ⟨bu.length,by rw[<- s];simp,done++[d'],bu,h,ya,k,by rw[c];simp,by simp[e],rfl,(st.trans w).trans j,I.same (w.trans j).sh,v,by simpa using z⟩
       |true=>
        rw[if_pos rfl] at a
        refine wN ⟨ρ',_,_,_,k,O.step j,?_⟩
        cases he:gi2 ρ' with
        |no=>rw[he] at a;cases a
        |ex x n=>rw[he] at a;cases a
        |ok es=>
         rw[he,bind_ok] at a;intro J2 H4 a1 a3 L X U
         refine Ys (tl:=h) (ys:=ys) (ya:=ya) ((O.step j).step L) X U a M (I.same ((w.trans j).trans L).sh) z λvb yb H5 B G s5 rb=>?_
         exact⟨bu.length,by rw[<- s];simp,done++[d'],bu,h,yb,B,by rw[c];simp,by simp[e],rfl,(((st.trans w).trans j).trans L).trans s5,rb,v,G⟩
   ·rw[if_neg M] at q;exact q.elim
end
section
variable{c:C}{elt tg iter tg2 iter2:bj}{ifs ifs2:List bj}{scope:eM}{pos:Pos}{N':List Str}{nt:Nat}{ix:List Nat}{gi gi2:aE->R (List D)}{gt gt2:aE->R Bool}{ge:aE->R D}
def RN(nt:Nat)(e:nt=1\/nt=2)(n:c.X.calm=true)(S:jZ c.X scope N' (nt+1) ix)(o:JI c tg iter gi)(t:Hd c N' scope nt tg ifs tg2 iter2 ifs2 elt gt gi2 gt2 ge)
  (i:∀(env:Env) x,bf iter2 env x=pure x:=by intro _ _;rfl) (hs:∀x,bf iter c.X.env x=pure x:=by intro _;rfl):
  JN c (.ListComp elt [⟨tg,iter,ifs,0⟩,⟨tg2,iter2,ifs2,0⟩] scope pos) (yx nt ix gi gt gi2 gt2 ge):=.of λρ=>
 sS (ER n S (uf e) (o ρ) (λk A g f y l=>by
  obtain⟨j,w,m,p,v,u⟩:=t k A g f y l
  exact⟨j,λa s d H Q I h=>by obtain⟨b,q⟩:=h;exact w b a s d H Q I q,λa s d H Q I h=>by obtain⟨b,q⟩:=h;exact m b a s d H Q I q,p,λa s d H Q I h=>by obtain⟨b,q⟩:=h;exact v b a s d H Q I q,λa s d H Q I h=>by obtain⟨b,q⟩:=h;exact u b a s d H Q I q⟩) i hs) λd H Q q=>V8 e q
end
end J
namespace Z
open PySem L2 J
def kX:aE->R Fl:=(dv (Db (cw (aa (de 1 [1] (gE (rB 0)) kT (g2 (rB 0) (rB 1) (oG false))) aH) (iT (fm λbs=>bs.any id)))))
def dz:List D->R D:=fL 2 kX
def uk:aE->R Fl:=(dv (cw (aa (de 1 [1] (gE (rB 0)) (eQ (g2 (rB 0) (rB 1) (oG true))) (rS 0)) aH) (iT j9)))
def nA:List D->R D:=fL 2 uk
def xn:aE->R Fl:=(dv (cw (aa (mh (R9 (tf (rB 0)) (tf (rB 1)))) aH) (iT j9)))
def xo:List D->R D:=fL 2 xn
def ul:aE->R Fl:=(aQ (fK (IS (ji (eQ (Ax (rB 0) "str"))) (ji (eQ (sV (kI 1) (cw (aa (rB 0) aH) (iT mf)) (kI 6) Wf Wf)))) (dv (kB false)) (λρ=>.ok (.nx ρ))) (dv (cw (aa (de 1 [] (gE (rB 0)) kT (sV (λ_=>.ok (.str "a")) (rB 0) (λ_=>.ok (.str "z")) Wf Wf)) aH) (iT (fm λbs=>bs.all id)))))
def qM:List D->R D:=fL 1 ul
def iV:aE->R Fl:=(aQ (fK (IS (ji (eQ (Ax (rB 0) "tuple"))) (ji (eQ (cw (aa (de 1 [] (gE (rB 0)) kT (eA 1 qM (aa (rS 0) aH))) aH) (iT (fm λbs=>bs.all id)))))) (dv (kB false)) (λρ=>.ok (.nx ρ))) (dv (cw (aa (de 2 [] (UA (aa (rS 0) (aa (FM (rB 0) (Ew (kI 1)) IT) aH))) kT (g2 (rB 0) (rB 1) JH)) aH) (iT (fm λbs=>bs.all id)))))
def gT:List D->R D:=fL 1 iV
def pd:aE->R Fl:=(dv (mM (eA 1 gT (aa (rS 1) aH)) (cw (aa (de 1 [0] (gE (rB 1)) kT (g2 (rB 0) (rB 1) (oG false))) aH) (iT (fm λbs=>bs.all id)))))
def gF:List D->R D:=fL 2 pd
def rz:aE->R Fl:=(aQ (fK (IS (ji (eQ (Ax (rB 0) "int"))) (eQ (Ax (rB 0) "bool"))) (dv (kB false)) (λρ=>.ok (.nx ρ))) (dv (sV (rB 1) (rB 0) (rB 2) Wf Wf)))
def rA:List D->R D:=fL 3 rz
def pf:aE->R Fl:=(aQ (fK (IS (ji (eQ (Ax (rB 1) "tuple"))) (eQ (g2 (cw (aa (rB 1) aH) (iT mf)) (kI 6) (mF true)))) (dv (kB false)) (λρ=>.ok (.nx ρ))) (aQ (xa (rS 1) (mG 6 (cP (bO 2) (cP (bO 3) (cP (bO 4) (cP (bO 5) (cP (bO 6) (cP (bO 7) nP)))))))) (aQ (fK (IS (ji (eQ (eA 1 qM (aa (rS 2) aH)))) (ji (eQ (eA 3 rA (aa (rS 7) (aa (kI 0) (aa (kI 9) aH))))))) (dv (kB false)) (λρ=>.ok (.nx ρ))) (aQ (fK (ji (eQ (cw (aa (de 1 [0] (gE (eZ (aa (rS 3) (aa (rS 4) (aa (rS 5) (aa (rS 6) aH)))) .tuple)) kT (eA 2 gF (aa (rS 1) (aa (rS 0) aH)))) aH) (iT (fm λbs=>bs.all id))))) (dv (kB false)) (λρ=>.ok (.nx ρ))) (dv (mM (eA 2 dz (aa (rS 3) (aa (rS 4) aH))) (eA 2 dz (aa (rS 5) (aa (rS 6) aH)))))))))
def ph:List D->R D:=fL 8 pf
def um:aE->R Fl:=(aQ (fK (IS (ji (eQ (Ax (rB 0) "tuple"))) (eQ (g2 (cw (aa (rB 0) aH) (iT mf)) (kI 2) (mF true)))) (dv (kB false)) (λρ=>.ok (.nx ρ))) (aQ (xa (rS 0) (mG 2 (cP (bO 1) (cP (bO 2) nP)))) (aQ (fK (IS (ji (eQ (eA 1 gT (aa (rS 1) aH)))) (eQ (g2 (cw (aa (rB 1) aH) (iT mf)) (kI 6) YY))) (dv (kB false)) (λρ=>.ok (.nx ρ))) (aQ (fK (IS (ji (eQ (Ax (rB 2) "tuple"))) (eQ (g2 (cw (aa (rB 2) aH) (iT mf)) (kI 6) YY))) (dv (kB false)) (λρ=>.ok (.nx ρ))) (aQ (fK (ji (eQ (cw (aa (de 1 [1] (gE (rB 2)) kT (eA 2 ph (aa (rS 1) (aa (rS 0) aH)))) aH) (iT (fm λbs=>bs.all id))))) (dv (kB false)) (λρ=>.ok (.nx ρ))) (dv (g2 (xg (yq 1 [] (gE (rB 2)) kT (g2 (rB 0) (kI 0) aX))) (cw (aa (rB 2) aH) (iT mf)) (mF false))))))))
def uo:List D->R D:=fL 3 um
def uq:aE->R Fl:=(aQ (fK (IS (ji (eQ (Ax (rB 1) "tuple"))) (eQ (g2 (cw (aa (rB 1) aH) (iT mf)) (kI 2) (mF true)))) (dv (kB false)) (λρ=>.ok (.nx ρ))) (aQ (xa (rS 1) (mG 2 (cP (bO 2) (cP (bO 3) nP)))) (dv (mM (eA 2 gF (aa (g2 (rB 0) (kI 0) aX) (aa (rS 2) aH))) (mM (eA 2 gF (aa (g2 (rB 0) (kI 0) aX) (aa (rS 3) aH))) (eA 2 dz (aa (rS 2) (aa (rS 3) aH))))))))
def ur:List D->R D:=fL 4 uq
def lW:aE->R Fl:=(fK (ji (eQ (eA 2 gF (aa (g2 (rB 0) (kI 0) aX) (aa (rS 1) aH))))) (λ_=>.no) (λρ=>.ok (.nx ρ)))
def lX:List D->R D:=fL 2 lW
def mW:aE->R Fl:=(fK (ji (eQ (eA 2 ur (aa (rS 0) (aa (rS 1) aH))))) (λ_=>.no) (λρ=>.ok (.nx ρ)))
def mX:List D->R D:=fL 2 mW
def ut:aE->R Fl:=(aQ (xa (rS 1) (mG 2 (cP (bO 2) (cP (bO 3) nP)))) (dv (mM (cw (aa (de 1 [0] (gE (rB 2)) kT (g2 (rB 0) (rB 1) (oG false))) aH) (iT (fm λbs=>bs.all id))) (eA 2 dz (aa (rS 3) (aa (rS 0) aH))))))
def nB:List D->R D:=fL 4 ut
def pi:aE->R Fl:=(dv (eA 2 nB (aa (rS 1) (aa (eZ (aa (g2 (rB 0) (kI 1) aX) (aa (g2 (rB 0) (kI 2) aX) aH)) .tuple) aH))))
def mj:List D->R D:=fL 2 pi
def kY:aE->R Fl:=(aQ (Ra 2 3 (aa (g2 (rB 0) (kI 3) aX) (aa (g2 (rB 0) (kI 4) aX) aH))) (dv (eA 2 xo (aa (eA 2 nA (aa (rS 1) (aa (rS 3) aH))) (aa (rS 2) aH)))))
def kZ:List D->R D:=fL 4 kY
def uu:aE->R Fl:=(aQ (fK (ji (eQ (eA 1 uo (aa (rS 0) aH)))) (λ_=>.no) (λρ=>.ok (.nx ρ))) (dv (rS 0)))
def uv:List D->R D:=fL 1 uu
def lY:aE->R Fl:=(aQ (mP (eA 1 uv (aa (rS 0) aH))) (mP (eA 2 lX (aa (rS 0) (aa (rS 1) aH)))))
def fi:List D->R D:=fL 2 lY
def pj:aE->R Fl:=(aQ (mP (eA 2 fi (aa (rS 0) (aa (rS 1) aH)))) (mP (eA 2 mX (aa (rS 0) (aa (rS 2) aH)))))
def ko:List D->R D:=fL 3 pj
def pp:aE->R Fl:=(dv (yx 2 [0] (CA (aa (rS 0) aH)) kT (gE (FM (rB 3) (Ew (rS 0)) IT)) kT (eZ (aa (rS 1) (aa (rS 2) aH)) .tuple)))
def iI:List D->R D:=fL 1 pp
def pq:aE->R Fl:=(dv (mM (g2 (g2 (rB 0) (kI 0) aX) (rB 1) (oG false)) (g2 (g2 (rB 0) (kI 1) aX) (rB 1) (oG false))))
def iJ:List D->R D:=fL 2 pq
def xp:aE->R Fl:=(aQ (xa (FM (rB 0) (Ew (kI 1)) (Ew (kI 5))) (mG 4 (cP (bO 3) (cP (bO 4) (cP (bO 5) (cP (bO 6) nP)))))) (aQ (fN 7 (eA 2 nA (aa (rS 1) (aa (rS 5) aH)))) (aQ (fK (IS (eQ (g2 (cw (aa (rB 7) aH) (iT mf)) (kI 2) (mF false))) (IS (ji (eQ (eA 2 dz (aa (rS 1) (aa (rS 6) aH))))) (ji (eQ (eA 2 dz (aa (rS 7) (aa (rS 4) aH))))))) (dv (kB false)) (λρ=>.ok (.nx ρ))) (aQ (fN 8 (g2 (rB 3) (rB 7) fS)) (dv (Db (cw (aa (de 1 [8] (gE (rB 2)) kT (eA 2 iJ (aa (rS 0) (aa (rS 1) aH)))) aH) (iT (fm λbs=>bs.any id)))))))))
def xq:List D->R D:=fL 9 xp
def mY:aE->R Fl:=(dv (cw (aa (de 1 [1,2] (gE (g2 (rB 0) (kI 1) aX)) kT (eA 3 xq (aa (rS 0) (aa (rS 1) (aa (rS 2) aH))))) aH) (iT (fm λbs=>bs.any id))))
def gz:List D->R D:=fL 3 mY
def A6:aE->R Fl:=(aQ (mP (eA 2 fi (aa (rS 0) (aa (rS 1) aH)))) (aQ (fD 2 (de 1 [1] (gE (eA 1 iI (aa (g2 (rB 0) (kI 0) aX) aH))) (ji (eQ (eA 2 iJ (aa (rS 0) (aa (rS 1) aH))))) (rS 0))) (aQ (NA 2 (fD 3 (de 1 [0,2] (gE (rB 2)) (ji (eQ (eA 3 gz (aa (rS 1) (aa (rS 0) (aa (rS 2) aH)))))) (rS 0)))) (aQ (hU (eQ (g2 (rB 3) (rB 2) (mF true))) (aQ (NA 3 (fN 2 (rS 3))) (NA 2 (fD 3 (de 1 [0,2] (gE (rB 2)) (ji (eQ (eA 3 gz (aa (rS 1) (aa (rS 0) (aa (rS 2) aH)))))) (rS 0))))) 100000) (dv (rS 3))))))
def k_:List D->R D:=fL 4 A6
def mZ:aE->R Fl:=(dv (de 1 [1] (gE (g2 (rB 0) (kI 1) aX)) (eQ (eA 2 mj (aa (rS 0) (aa (rS 1) aH)))) (eZ (aa (rS 0) (aa (eA 2 kZ (aa (rS 0) (aa (rS 1) aH))) aH)) .tuple)))
def l5:List D->R D:=fL 2 mZ
def m_:aE->R Fl:=(aQ (fD 2 (Y_ (rS 1) (eZ aH .list))) (aQ (fD 3 (eZ (aa (rS 1) aH) .list)) (aQ (hU (vK (rB 3)) (aQ (fD 4 (eZ aH .list)) (aQ (sf 3 (bO 5) (qf (gE (eA 2 l5 (aa (rS 0) (aa (rS 5) aH)))) (mG 2 (cP (bO 6) (cP (bO 7) nP))) (fK (eQ (g2 (rB 7) (rB 2) (Yb true))) (aQ (yY 2 (rS 7) (g2 (g2 (rB 2) (rB 5) IU) (eZ (aa (g2 (rB 6) (kI 0) aX) aH) .list) fS)) (AD 4 (rS 7))) (λρ=>.ok (.nx ρ))))) (NA 4 (fN 3 (rS 4))))) 100000) (gFz 2 (dv (rS 2))))))
def iW:List D->R D:=fL 8 m_
def uw:aE->R Fl:=(aQ (fD 2 (de 1 [1] (Rh (rB 0)) (eQ (eA 2 nB (aa (rS 0) (aa (rS 1) aH)))) (rS 0))) (dv (de 1 [0,2] (gE (rB 2)) (eQ (g2 (cw (aa (g2 (rB 1) (rB 0) IU) aH) (iT mf)) (cw (aa (g2 (rB 1) (g2 (rB 2) (kI 0) aX) IU) aH) (iT mf)) (mF false))) (rS 0))))
def nC:List D->R D:=fL 3 uw
def ux:aE->R Fl:=(aQ (mP (eA 2 fi (aa (rS 0) (aa (rS 1) aH)))) (dv (cw (aa (eA 2 iW (aa (rS 0) (aa (rS 1) aH))) aH) (iT ui))))
def lN:List D->R D:=fL 2 ux
def nX:aE->R Fl:=(aQ (mP (eA 3 ko (aa (rS 0) (aa (rS 1) (aa (rS 2) aH))))) (aQ (fN 3 (eA 2 iW (aa (rS 0) (aa (rS 1) aH)))) (aQ (fN 4 (eA 2 nC (aa (rS 3) (aa (rS 2) aH)))) (dv (ZI (vK (rB 4)) (g2 (rB 3) (g2 (rB 4) (kI 0) aX) IU) kN)))))
def jw:List D->R D:=fL 5 nX
def Hf:aE->R Fl:=(aQ (fN 3 (eA 3 jw (aa (rS 0) (aa (rS 1) (aa (rS 2) aH))))) (dv (ZI (eQ (g2 (rB 3) kN (Gp false))) kN (cw (aa (rB 3) aH) (iT mf)))))
def vh:List D->R D:=fL 4 Hf
def pz:aE->R Fl:=(dv (cw (aa (de 1 [2] (Rh (eA 2 iW (aa (rS 0) (aa (rS 1) aH)))) kT (eA 2 nB (aa (rS 0) (aa (rS 1) aH)))) aH) (iT (fm λbs=>bs.any id))))
def ml:List D->R D:=fL 3 pz
def l7:aE->R Fl:=(aQ (mP (eA 3 ko (aa (rS 0) (aa (rS 1) (aa (rS 2) aH))))) (fK (ji (eQ (eA 3 ml (aa (rS 0) (aa (rS 1) (aa (rS 2) aH)))))) (λ_=>.no) (λρ=>.ok (.nx ρ))))
def l8:List D->R D:=fL 3 l7
def l9:aE->R Fl:=(aQ (fN 4 (cw (aa (de 1 [3] (gE (g2 (rB 0) (kI 1) aX)) (eQ (g2 (g2 (rB 0) (kI 0) aX) (rB 1) (mF true))) (rS 0)) aH) (iT j9))) (dv (Db (eA 3 ml (aa (eZ (aa (g2 (rB 0) (kI 0) aX) (aa (rS 4) aH)) .tuple) (aa (rS 1) (aa (rS 2) aH)))))))
def lc:List D->R D:=fL 5 l9
def uy:aE->R Fl:=(aQ (mP (eA 3 l8 (aa (rS 0) (aa (rS 1) (aa (rS 2) aH))))) (dv (de 1 [0,1,2] (gE (g2 (rB 0) (kI 1) aX)) (eQ (eA 4 lc (aa (rS 1) (aa (rS 2) (aa (rS 3) (aa (g2 (rB 0) (kI 0) aX) aH)))))) (g2 (rB 0) (kI 0) aX))))
def qN:List D->R D:=fL 3 uy
def ES:aE->R Fl:=(aQ (mP (eA 2 fi (aa (rS 0) (aa (rS 1) aH)))) (aQ (fN 2 (cw (aa (eA 2 iW (aa (rS 0) (aa (rS 1) aH))) aH) (iT DA))) (dv (de 1 [2] (gE (g2 (rB 0) (kI 1) aX)) (ji (eQ (cw (aa (de 1 [0] (gE (rB 1)) kT (eA 2 mj (aa (rS 1) (aa (rS 0) aH)))) aH) (iT (fm λbs=>bs.any id))))) (g2 (rB 0) (kI 0) aX)))))
def vO:List D->R D:=fL 3 ES
def pA:aE->R Fl:=(aQ (fD 2 (de 1 [1] (gE (g2 (rB 0) (kI 1) aX)) (eQ (cw (aa (de 1 [1] (gE (g2 (rB 0) (kI 1) aX)) kT (g2 (rB 0) (rB 1) (Ma false))) aH) (iT (fm λbs=>bs.all id)))) (rS 0))) (dv (mh (uj 1 [1] (gE (rB 2)) kT (gE (g2 (rB 0) (kI 3) aX)) (eQ (g2 (rB 1) (rB 2) (Ma true))) (rS 1)))))
def gG:List D->R D:=fL 3 pA
def li:aE->R Fl:=(aQ (fD 2 (rq 1 [] (gE (rB 1)) kT (rS 0) (kI 0))) (aQ (fN 3 (kI 1)) (aQ (fN 4 (GR oO 2 gG (aa (rS 0) (aa (Du 2) aH)))) (aQ (hU (vK (rB 4)) (aQ (sf 4 (bO 5) (uV 2 (rS 5) (rS 3))) (aQ (NH 3 (kI 1)) (fN 4 (GR oO 2 gG (aa (rS 0) (aa (Du 2) aH)))))) 100000) (dv (rS 2))))))
def ll:List D->R D:=fL 6 li
def ET:aE->R Fl:=(aQ (mP (eA 3 ko (aa (rS 0) (aa (rS 1) (aa (rS 2) aH))))) (aQ (xa (rS 2) (mG 2 (cP (bO 3) (cP (bO 4) nP)))) (aQ (fN 5 (eA 2 ll (aa (rS 0) (aa (rS 1) aH)))) (aQ (fK (ji (eQ (cw (aa (de 1 [5] (gE (rB 3)) kT (g2 (rB 0) (rB 1) (Ma false))) aH) (iT (fm λbs=>bs.all id))))) (dv kN) (λρ=>.ok (.nx ρ))) (aQ (fN 6 (cw (aa (de 1 [5] (gE (rB 3)) kT (g2 (rB 1) (rB 0) aX)) aH) (iT K0))) (aQ (fK (qB (eQ (g2 (rB 6) (kI 0) (mF false))) (ji (eQ (eA 2 dz (aa (rS 4) (aa (rS 1) aH)))))) (dv (kI 1)) (λρ=>.ok (.nx ρ))) (dv (rS 6))))))))
def qi:List D->R D:=fL 7 ET
def lZ:aE->R Fl:=(aQ (fK (eQ (g2 (rB 1) (cw (aa (rB 0) aH) (iT mf)) JH)) (dv (g2 (rB 0) (rB 1) aX)) (λρ=>.ok (.nx ρ))) (aQ (fK (eQ (g2 (rB 0) (eZ aH .list) (mF false))) (dv (kI 0)) (λρ=>.ok (.nx ρ))) (dv (g2 (g2 (g2 (rB 0) (g2 (rB 1) (cw (aa (rB 0) aH) (iT mf)) Nr) aX) (kI 31) zC) (rB 1) fS))))
def l_:List D->R D:=fL 2 lZ
def pB:aE->R Fl:=(aQ (fN 3 (g2 (g2 (g2 (g2 (eA 2 l_ (aa (rS 0) (aa (rS 1) aH))) (g2 (kI 7919) (rB 1) zC) fS) (kI 1) fS) (kI 48271) zC) (kI 2147483647) Nr)) (dv (g2 (g2 (g2 (g2 (g2 (rB 3) (rB 3) zC) (g2 (kI 7) (rB 3) zC) fS) (rB 1) fS) (kI 2147483629) Nr) (rB 2) Nr)))
def bJ:List D->R D:=fL 4 pB
def rE:aE->R Fl:=(aQ (fN 2 (λ_=>.ok (.str ""))) (aQ (qf (Di (aa (g2 (eZ (aa (kI 1) (aa (kI 2) (aa (kI 3) (aa (kI 6) (aa (kI 1) (aa (kI 4) aH)))))) .list) (eA 3 bJ (aa (rS 0) (aa (rS 1) (aa (kI 6) aH)))) aX) aH)) (bO 3) (fN 2 (g2 (rB 2) (g2 (λ_=>.ok (.str "abcdefghijklmnopqrstuvwxyz")) (eA 3 bJ (aa (rS 0) (aa (g2 (g2 (rB 1) (kI 1) fS) (rB 3) fS) (aa (kI 26) aH)))) aX) fS))) (dv (rS 2))))
def lO:List D->R D:=fL 4 rE
def pC:aE->R Fl:=(aQ (fD 3 (λ_=>.ok (.dict []))) (aQ (qf (Di (aa (eA 3 bJ (aa (rS 0) (aa (rS 1) (aa (g2 (rB 2) (kI 1) fS) aH)))) aH)) (bO 4) (uV 3 (eA 2 lO (aa (rS 0) (aa (g2 (g2 (rB 1) (kI 1) fS) (g2 (kI 8) (rB 4) zC) fS) aH))) (kB true))) (dv (cw (aa (cw (aa (cw (aa (rB 3) aH) (iT o_)) aH) (iT ue)) aH) (iT j9)))))
def pE:List D->R D:=fL 5 pC
def rF:aE->R Fl:=(dv (cw (aa (de 2 [0,1,3] (CA (aa (rS 2) aH)) (eQ (g2 (eA 3 bJ (aa (rS 2) (aa (g2 (rB 3) (rB 0) fS) (aa (kI 12) aH)))) (rB 4) JH)) (rS 1)) aH) (iT j9)))
def rG:List D->R D:=fL 4 rF
def rH:aE->R Fl:=(aQ (fN 4 (g2 (rB 2) (eA 3 bJ (aa (rS 0) (aa (g2 (rB 1) (kI 10) fS) (aa (cw (aa (rB 2) aH) (iT mf)) aH)))) aX)) (aQ (fN 5 (g2 (rB 2) (eA 3 bJ (aa (rS 0) (aa (g2 (rB 1) (kI 11) fS) (aa (cw (aa (rB 2) aH) (iT mf)) aH)))) aX)) (aQ (fN 6 (g2 (rB 2) (eA 3 bJ (aa (rS 0) (aa (g2 (rB 1) (kI 12) fS) (aa (cw (aa (rB 2) aH) (iT mf)) aH)))) aX)) (aQ (fN 7 (FM (eZ (aa (rS 4) (aa (rS 5) aH)) .list) IT (Ew (g2 (kI 1) (g2 (eA 3 bJ (aa (rS 0) (aa (g2 (rB 1) (kI 13) fS) (aa (kI 3) aH)))) (kI 2) Qe) fS)))) (aQ (fD 8 (de 1 [7,0,1] (gE (eZ (aa (rS 6) aH) .list)) (qB (eQ (g2 (rB 0) (rB 1) (oG true))) (eQ (g2 (eA 3 bJ (aa (rS 2) (aa (g2 (rB 3) (kI 14) fS) (aa (kI 4) aH)))) (kI 0) (mF false)))) (rS 0))) (aQ (fD 9 (de 1 [6,0,1] (gE (eZ (aa (rS 4) aH) .list)) (qB (eQ (g2 (rB 0) (rB 1) (mF true))) (eQ (g2 (eA 3 bJ (aa (rS 2) (aa (g2 (rB 3) (kI 15) fS) (aa (kI 3) aH)))) (kI 0) (mF false)))) (rS 0))) (aQ (NA 8 (NA 9 (fD 10 (de 1 [] (gE (eZ (aa (rS 7) (aa (rS 8) (aa (eZ (aa (rS 6) aH) .list) (aa (rS 9) aH)))) .tuple)) kT (cw (aa (mh (tf (rB 0))) aH) (iT j9)))))) (dv (eZ (aa (rS 3) (aa (g2 (rB 10) (kI 0) aX) (aa (g2 (rB 10) (kI 1) aX) (aa (g2 (rB 10) (kI 2) aX) (aa (g2 (rB 10) (kI 3) aX) (aa (eA 3 bJ (aa (rS 0) (aa (rS 1) (aa (kI 5) aH)))) aH)))))) .tuple)))))))))
def rJ:List D->R D:=fL 11 rH
def jD:aE->R Fl:=(aQ (fK (qB (eQ (g2 (rB 2) (eZ aH .tuple) (mF true))) (eQ (g2 (eA 3 bJ (aa (rS 0) (aa (kI 97) (aa (kI 2) aH)))) (kI 0) (mF false)))) (dv (eA 4 rJ (aa (rS 0) (aa (rS 1) (aa (rS 2) (aa (rS 3) aH)))))) (λρ=>.ok (.nx ρ))) (aQ (UF 4) (aQ (qf (CA (aa (rS 2) aH)) (mG 2 (cP (bO 5) (cP (bO 6) nP))) (aQ (fN 7 (eA 3 bJ (aa (rS 0) (aa (g2 (g2 (rB 1) (kI 10) fS) (rB 5) fS) (aa (kI 8) aH))))) (aQ (fK (eQ (g2 (rB 7) (kI 3) JH)) (qH 4 (g2 (eZ (aa (kI 0) (aa (kI 0) (aa (kI 1) aH))) .list) (rB 7) aX) (rS 6)) (λρ=>.ok (.nx ρ))) (aQ (fN 7 (eA 3 bJ (aa (rS 0) (aa (g2 (g2 (rB 1) (kI 20) fS) (rB 5) fS) (aa (kI 8) aH))))) (fK (eQ (g2 (rB 7) (kI 4) JH)) (qH 4 (g2 (eZ (aa (kI 2) (aa (kI 2) (aa (kI 3) (aa (kI 3) aH)))) .list) (rB 7) aX) (rS 6)) (λρ=>.ok (.nx ρ))))))) (aQ (λρ=>(fD 8 (de 1 [] (gE (rB 4)) kT (cw (aa (rB 0) aH) (iT j9)))) (gQ ρ)) (dv (eZ (aa (rS 3) (aa (g2 (rB 8) (kI 0) aX) (aa (g2 (rB 8) (kI 1) aX) (aa (g2 (rB 8) (kI 2) aX) (aa (g2 (rB 8) (kI 3) aX) (aa (eA 3 bJ (aa (rS 0) (aa (rS 1) (aa (kI 5) aH)))) aH)))))) .tuple))))))
def jE:List D->R D:=fL 9 jD
def nY:aE->R Fl:=(aQ (fN 4 (eA 3 pE (aa (rS 0) (aa (rS 1) (aa (rS 2) aH))))) (aQ (fD 5 (λ_=>.ok (.dict []))) (aQ (qf (Di (aa (eA 3 bJ (aa (rS 0) (aa (g2 (rB 1) (kI 60) fS) (aa (g2 (rB 3) (kI 1) fS) aH)))) aH)) (bO 6) (aQ (fN 7 (eA 2 lO (aa (rS 0) (aa (g2 (g2 (rB 1) (kI 70) fS) (g2 (kI 40) (rB 6) zC) fS) aH)))) (uV 5 (rS 7) (eA 4 jE (aa (rS 0) (aa (g2 (g2 (rB 1) (kI 80) fS) (g2 (kI 40) (rB 6) zC) fS) (aa (rS 4) (aa (rS 7) aH)))))))) (aQ (fN 8 (cw (aa (rB 5) aH) (iT o_))) (aQ (fN 9 (eA 3 bJ (aa (rS 0) (aa (g2 (rB 1) (kI 61) fS) (aa (g2 (cw (aa (rB 8) aH) (iT mf)) (kI 1) fS) aH))))) (dv (eZ (aa (rS 4) (aa (cw (aa (de 1 [5] (gE (g2 (FM (rB 8) (Ew (rS 9)) IT) (FM (rB 8) IT (Ew (rS 9))) fS)) kT (g2 (rB 1) (rB 0) aX)) aH) (iT j9)) aH)) .tuple)))))))
def nZ:List D->R D:=fL 10 nY
def n_:aE->R Fl:=(aQ (fD 3 (eZ aH .list)) (aQ (fD 4 (eZ aH .list)) (aQ (qf (CA (aa (rS 2) aH)) (mG 2 (cP (bO 5) (cP (bO 6) nP))) (aQ (fN 7 (eA 3 bJ (aa (rS 0) (aa (g2 (rB 1) (rB 5) fS) (aa (kI 8) aH))))) (fK (eQ (g2 (rB 7) (kI 2) JH)) (AD 3 (rS 6)) (fK (eQ (g2 (rB 7) (kI 2) (mF false))) (AD 4 (rS 6)) (λρ=>.ok (.nx ρ)))))) (dv (eZ (aa (cw (aa (rB 3) aH) (iT j9)) (aa (cw (aa (rB 4) aH) (iT j9)) aH)) .tuple)))))
def vP:List D->R D:=fL 8 n_
def rK:aE->R Fl:=(aQ (fN 3 (eA 4 nZ (aa (rS 0) (aa (kI 100) (aa (rS 1) (aa (rS 2) aH)))))) (aQ (fN 4 (eA 4 rG (aa (rS 0) (aa (kI 20) (aa (g2 (rB 3) (kI 0) aX) (aa (g2 (eZ (aa (kI 2) (aa (kI 4) aH)) .list) (eA 3 bJ (aa (rS 0) (aa (kI 97) (aa (kI 2) aH)))) aX) aH)))))) (dv (eZ (aa (rS 3) (aa (rS 4) (aa (eA 3 vP (aa (rS 0) (aa (kI 30) (aa (g2 (rB 3) (kI 0) aX) aH)))) aH))) .tuple))))
def k9:List D->R D:=fL 5 rK
def Mh:aE->R Fl:=(aQ (xa (eA 3 k9 (aa (rS 0) (aa (kI 6) (aa (kI 6) aH)))) (mG 3 (cP (bO 1) (cP (bO 2) (cP (bO 3) nP))))) (aQ (fN 4 (eA 3 vh (aa (rS 1) (aa (rS 2) (aa (rS 3) aH))))) (aQ (fK (eQ (g2 (rB 4) kN (Gp true))) (aQ (fK (eQ (g2 (eA 3 qi (aa (rS 1) (aa (rS 2) (aa (rS 3) aH)))) kN (Gp false))) (dv (kB false)) (λρ=>.ok (.nx ρ))) (aQ (fK (eQ (cw (aa (de 2 [3] (gE (eA 2 k_ (aa (rS 1) (aa (rS 2) aH)))) kT (mM (g2 (rB 0) (g2 (rB 2) (kI 0) aX) (oG false)) (g2 (rB 1) (g2 (rB 2) (kI 0) aX) (oG false)))) aH) (iT (fm λbs=>bs.any id)))) (dv (kB false)) (λρ=>.ok (.nx ρ))) (qf (gE (g2 (rB 3) (kI 0) aX)) (bO 5) (aQ (fD 6 (de 1 [5] (gE (g2 (rB 1) (kI 1) aX)) (eQ (g2 (rB 1) (g2 (rB 0) (kI 3) aX) (oG false))) (g2 (rB 0) (kI 0) aX))) (aQ (fK (qB (eQ (g2 (rB 5) (rB 2) (oG true))) (eQ (g2 (rB 6) (eZ aH .list) (mF false)))) (dv (kB false)) (λρ=>.ok (.nx ρ))) (fK (qB (eQ (g2 (rB 5) (rB 2) (oG true))) (qB (eQ (g2 (cw (aa (rB 6) aH) (iT mf)) (kI 1) (mF false))) (eQ (g2 (g2 (rB 6) (kI 0) aX) (eA 3 qN (aa (rS 1) (aa (rS 2) (aa (rS 3) aH)))) (oG true))))) (dv (kB false)) (λρ=>.ok (.nx ρ)))))))) (λρ=>.ok (.nx ρ))) (aQ (fN 7 (eA 2 lN (aa (rS 1) (aa (rS 2) aH)))) (aQ (fN 8 (eA 2 vO (aa (rS 1) (aa (rS 2) aH)))) (aQ (qf (gE (g2 (rB 1) (kI 0) aX)) (bO 5) (aQ (fD 6 (de 1 [5,8] (gE (g2 (rB 1) (kI 1) aX)) (qB (eQ (g2 (rB 1) (g2 (rB 0) (kI 3) aX) (oG false))) (eQ (g2 (g2 (rB 0) (kI 0) aX) (rB 2) (oG true)))) (g2 (rB 0) (kI 0) aX))) (fK (qB (eQ (g2 (rB 6) (eZ aH .list) (mF false))) (eQ (g2 (rB 5) (rB 2) (oG true)))) (fK (IS (eQ (cw (aa (de 1 [5] (gE (rB 7)) kT (g2 (rB 1) (rB 0) (oG false))) aH) (iT (fm λbs=>bs.any id)))) (qB (eQ (g2 (eZ (aa (rS 5) (aa (rS 5) aH)) .tuple) (eA 2 k_ (aa (rS 1) (aa (rS 2) aH))) (RA true))) (eQ (g2 (rB 8) (eZ aH .list) (mF false))))) (dv (kB false)) (λρ=>.ok (.nx ρ))) (λρ=>.ok (.nx ρ))))) (dv (kB true))))))))
def F_law:List D->R D:=fL 9 Mh
end Z
section
set_option hygiene false
namespace Z
open PySem L2 J
local macro_rules | `(tactic| left)=>`(tactic| simp only[q0k,Ye,q0l,q0m,q0n,GC,xh,GD,ZZ,Qu,Qv,Wm,Z_,Lu,GE,Lv,GF,GG,GH,Qw,Qx,Qy,Lw,Qz,Lx,q01,Wo,Wp,QA,Wq,QB,Wr,q04,QC,Ws,QD,Ly,QE,Lz,Wv,QF,LA,QG,QH,QI,QL,GI,GJ,Ww,QM,LB,QN,q09,Wz,WA,QO,WB,QP,QQ,WC,WD,QR,q0d,QS,QT,WE,WF,QU,Y5,QV,WG,WH,QW,LC,LD,WK,Dj,Dk,Dl,QX,q0f,QZ,Q_,R0,R1,R4,R5,Dm,AI,fS,zC,Nr,Qe,JD,JH,Wf,YY,Nt,mf,ar,dW,aZ,dH,am,T5,ny,MV,MW,xR,xS,Nat.reduceSub,Nat.reduceAdd,TD,TF,Nat.sub_self,if_true,if_false,ite_true,ite_false,bn,decide_true,decide_false,cond_true,cond_false,kg,jJ,av,cH,Jh,Int.reduceLE,Int.reduceAdd,Int.reduceMul,Nat.reduceLT,Int.reduceNeg,reduceIte])
local macro_rules | `(tactic| walk_at "yy")=>`(tactic| simp only[q0k,Ye,q0l,q0m,q0n,GC,xh,GD,Wm,Z_,Lu,GE,Lv,GF,GG,GH,Qw,Qx,Qy,Lw,Qz,Lx,q01,Wo,Wp,QA,Wq,QB,Wr,q04,QC,Ws,QD,Ly,QE,Lz,Wv,QF,LA,QG,QH,QI,QL,GI,GJ,Ww,QM,LB,QN,q09,Wz,WA,QO,WB,QP,QQ,WC,WD,QR,q0d,QS,QT,WE,WF,QU,Y5,QV,WG,WH,QW,LC,LD,WK,Dj,Dk,Dl,QX,q0f,QZ,Q_,R0,R1,R4,R5,Dm,AI,fS,mf,ar,dW,aZ,dH,am,T5,ny,MV,MW,xR,xS,Nat.reduceSub,Nat.reduceAdd,TD,TF,Nat.sub_self,if_true,if_false,ite_true,ite_false,bn,decide_true,decide_false,cond_true,cond_false,kg,jJ,av,cH,Jh,Int.reduceLE,Int.reduceAdd,Int.reduceMul,Nat.reduceLT,Int.reduceNeg,reduceIte])
def cA(h:g (bV n ds)=.ok (.rt d)):fL n g ds=.ok d:=by unfold fL;rw[h]
def Mi(a:List Int)(k:Int):Int:=if k<a.length then a.getD k.toNat 0 else if a=[] then 0 else a.getD (k % a.length).toNat 0*31+k
def RO(a:List Int):bW (a.map .int)=true:=by
 induction a with
 |nil=>rfl
 |cons x r b=>simp[bW,dk,b]
def V9(a:List Int):aR (.list (a.map .int)) (.list [])=decide (a=[]):=by
 cases a with
 |nil=>rfl
 |cons x r=>simp[aR,cG]
def Yt(a:List Int):mF false (.list (a.map .int)) (.list [])=.ok (.bool (decide (a=[]))):=by
 unfold mF;have b:(eY (a.map .int)).canLay0=true:=by simp only[dk];exact RO a
 have d:(eY []).canLay0=true:=rfl;have c:min (eY (a.map .int)).depth (eY []).depth<=60:=ca (sr _ _) ⋯;rw[b,d,decide_eq_true c,V9];rfl
def Yu(a:List Int)(k:Int)(c:0<=k)(d:k<a.length):IP (a.map e8) k=some (.int (a.getD k.toNat 0)):=by
 have b:k.toNat<a.length:=by omega
 have:=ua (xs:=a.map e8) (j:=k.toNat) (v:=.int (a.getD k.toNat 0)) (by rw[b9,bw b];simp[b])
 rwa[fJ c] at this
def RP(a:List Int)(k:Int)(c:0<=k)(b:k<a.length):aX (.list (a.map .int)) (.int k)=.ok (.int (a.getD k.toNat 0)):=by
 have e:∀xs k,aX (.list xs) k=JM (.list xs) k:=λ_ _=>rfl;rw[e];unfold JM;simp only[Yu a k c b]
def Mj(a:-(2 ^ 64)<j)(b:j<2 ^ 64):Dc i j=true:=by
 unfold Dc;simp only[jg,aU,decide_eq_true_eq];exact .inr ⟨a,b⟩
def uz(a:-(2 ^ 64)<i)(b:i<2 ^ 64):Dc i j=true:=by
 unfold Dc;simp only[jg,aU,decide_eq_true_eq];exact .inl ⟨a,b⟩
def Va(a:List Int)(k:Int)(d:0<=k):l_ [.list (a.map .int),.int k]=.ok (.int (Mi a k)):=by
 unfold l_;refine cA ?_;unfold lZ bV Mi;left;by_cases h:k<a.length
 ·simp only[h,decide_true,cond_true,if_true,RP a k d h,bind_ok];left
 ·simp only[h,decide_false,cond_false,if_false];left;rw[Yt];left;by_cases b:a=[]
  ·simp only[b,decide_true,cond_true,if_true];left
  ·have c:(0:Int)<a.length:=by have:0<a.length:=List.length_pos_iff.mpr b;omega
   simp only[b,decide_false,cond_false,if_false,c,decide_true];left;simp only[b,decide_false,cond_false,if_false,c,decide_true,if_true];left;rw[RP a _ (u5 _ ∅) (pZ _ c)];left;rw[Mj ⋯ ⋯];left
def B4(a:List Int)(k:Int):Int:=(Mi a k+7919*k+1)*48271 % 2147483647
def gK(a:List Int)(k m:Int):Int:=(B4 a k*B4 a k+7*B4 a k+k) % 2147483629 % m
def i4(a:List Int)(k m:Int)(h:0<m):0<=gK a k m:=u5 _ ∅
def iX(a:List Int)(k m:Int)(h:0<m):gK a k m<m:=pZ _ h
def hV(a:List Int)(k m:Int)(c:0<=k)(b:0<m):bJ [.list (a.map .int),.int k,.int m]=.ok (.int (gK a k m)):=by
 have e:0<=B4 a k:=u5 _ ⋯;have d:B4 a k<2147483647:=pZ _ ⋯;unfold bJ;refine cA ?_;unfold pB bV;left;rw[Va a k c];left;rw[uz ⋯ ⋯];left;rw[Mj ⋯ ⋯];left;rw[show(Mi a k+7919*k+1)*48271 % 2147483647=B4 a k from rfl,uz (i:=B4 a k) ∅ ∅];left;rw[uz (i:=7) ⋯ ⋯];left;rw[decide_eq_true b];left;rfl
theorem tq{d e:Type}{kt:D->aE->R aE}{gb:aE->R Fl}(c:d->D)(f:e->d->e)(P:List d->e->aE->Prop)(h:∀x bu b ρ,P (x::bu) b ρ->∃ ρ1 a,kt (c x) ρ=.ok ρ1/\gb ρ1=.ok (.nx a)/\P bu (f b x) a):
  ∀(xs:List d) (b:e) (ρ:aE),P xs b ρ->∃a,k7 kt gb (xs.map c) ρ=.ok (.nx a)/\P [] (xs.foldl f b) a
 |[],b,ρ,p=>⟨ρ,rfl,p⟩
 |x::r,b,ρ,p=>by
  obtain⟨ρ1,g,j,l,m⟩:=h x r b ρ p;obtain⟨i,n,k⟩:=tq c f P h r (f b x) g m;refine⟨i,?_,k⟩;rw[ar];unfold k7;rw[j];simp only[l];exact n
def Mk{d g:Type}{kt:D->aE->R aE}{gb i:aE->R Fl}{r:R Fl}(c:d->D)(f:g->d->g)(P:List d->g->aE->Prop){xs:List d}(b:g){ρ:aE}
  (h:∀x bu b ρ,P (x::bu) b ρ->∃ ρ1 a,kt (c x) ρ=.ok ρ1/\gb ρ1=.ok (.nx a)/\P bu (f b x) a) (j:P xs b ρ) (k:∀a,P [] (xs.foldl f b) a->i a=r):(k7 kt gb (xs.map c) ρ).bind (UH i)=r:=by
 obtain⟨a,e,p⟩:=tq c f P h xs b ρ j;rw[e,bind_ok,xh];exact k a p
def EU(n:Nat)(h:n<=1000):JP [.int (n:Int)]=.ok ((bQ n).map λ(i:Nat)=>e8 (i:Int)):=by
 have e:JP [.int (n:Int)]=.ok (sZ 0 (n:Int).toNat):=UJ ∅ ∅;rw[e];unfold sZ;rw[lI];exact congrArg R.ok (eG λa _=>congrArg e8 (Int.zero_add _))
def C2(x:Str):Bool:=decide (1<=x.cps.size)&&decide (x.cps.size<=6/\x.cps.size≠5)&&x.cps.toList.all λc=>decide (97<=c)&&decide (c<=122)
def vi(a:List Int)(k:Int):Nat:=[1,2,3,6,1,4].getD (gK a k 6).toNat 0
def EV(a:List Int)(k:Int)(i:Nat):Nat:=97+(gK a (k+1+i) 26).toNat
def mn(a:List Int)(k:Int):Str:=⟨((bQ (vi a k)).map (EV a k)).toArray⟩
def Ml(a:List Int)(k:Int):1<=vi a k/\(vi a k<=6/\vi a k≠5):=by
 have c:=i4 a k 6 ⋯;have b:=iX a k 6 ⋯;unfold vi;have:∀j:_root_.Fin 6,1<=[1,2,3,6,1,4].getD j.val 0/\([1,2,3,6,1,4].getD j.val 0<=6/\[1,2,3,6,1,4].getD j.val 0≠5):=by decide
 exact this ⟨(gK a k 6).toNat,by omega⟩
def Vb(a:List Int)(k:Int)(i:Nat):97<=EV a k i/\EV a k i<=122:=by
 have c:=i4 a (k+1+i) 26 ⋯;have b:=iX a (k+1+i) 26 ⋯;unfold EV;omega
def Hg(a:List Int)(k:Int):C2 (mn a k)=true:=by
 have⟨h1,h2⟩:=Ml a k;unfold C2 mn;simp only[a_,am,gn,aU,decide_eq_true_eq,bY];refine⟨⟨h1,h2⟩,λc b=>?_⟩;obtain⟨i,_,rfl⟩:=List.mem_map.mp b;exact Vb a k i
def RQ(j:Int)(d:0<=j)(g:j<26):aX (.str "abcdefghijklmnopqrstuvwxyz") (.int j)=.ok (.str ⟨#[97+j.toNat]⟩):=by
 have e:∀x k,aX (.str x) k=JM (.str x) k:=λ_ _=>rfl;rw[e];unfold JM;have c:("abcdefghijklmnopqrstuvwxyz" : Str).cps.toList=(bQ 26).map (97 + ·):=by decide +kernel
 have f:("abcdefghijklmnopqrstuvwxyz" : Str).length<=1000:=by decide +kernel
 have b:j.toNat<26:=by omega
 have a:=ua (xs:=(bQ 26).map (97 + ·)) (j:=j.toNat) (v:=97+j.toNat) (by rw[b9,MQ b];rfl);rw[fJ d] at a;simp only[f,if_true,c,a]
def Vc(j:Int)(a:0<=j)(c:j<6):aX (.list [.int 1,.int 2,.int 3,.int 6,.int 1,.int 4]) (.int j)=.ok (.int (([1,2,3,6,1,4].getD j.toNat 0:Nat):Int)):=by
 obtain⟨n,rfl⟩:=Int.eq_ofNat_of_zero_le a;have b:n<6:=by omega
 match n,b with
 | 0,_=>rfl
 | 1,_=>rfl
 | 2,_=>rfl
 | 3,_=>rfl
 | 4,_=>rfl
 | 5,_=>rfl
def EW(l:List Nat):∀(b:Str),l.foldl (λ(a:Str) c=>a++⟨#[c]⟩) b=⟨(b.cps.toList++l).toArray⟩:=by
 induction l with
 |nil=>intro b;simp
 |cons c r d=>
  intro b;rw[eh,d];show(⟨((b.cps++#[c]).toList++r).toArray⟩:Str)=_;simp
def NX:("" : Str).cps.toList=[]:=by decide +kernel
def Mm(b:List Int)(k:Int)(f:0<=k):lO [.list (b.map .int),.int k]=.ok (.str (mn b k)):=by
 have h:=i4 b k 6 ⋯;have d:=iX b k 6 ⋯;have⟨w1,w2⟩:=Ml b k;unfold lO;refine cA ?_;unfold rE bV;left;rw[AK (ds:=(bQ (vi b k)).map λ(i:Nat)=>e8 i)]
 ·refine Mk (λ(i:Nat)=>e8 i) (λ(a:Str) i=>a++⟨#[EV b k i]⟩) (λbu a ρ=>a.length+bu.length<=900/\∃z,ρ=[.shr (.list (b.map .int)),.shr (.int k),.shr (.str a),z]) "" ?_ ⟨by rw[gn,show("" : Str).length=0 by decide];omega,_,rfl⟩ ?_
  ·rintro i bu a ρ ⟨j,z,rfl⟩;simp only[aZ] at j;refine⟨_,[.shr (.list (b.map .int)),.shr (.int k),.shr (.str (a++⟨#[EV b k i]⟩)),.shr (.int i)],rfl,?_,?_,_,rfl⟩
   ·left;rw[hV b _ 26 ∅ ⋯];left;rw[RQ _ (i4 _ _ _ ⋯) (iX _ _ _ ⋯)];left;have l:a.length+(⟨#[97+(gK b (k+1+i) 26).toNat]⟩:Str).length<=1000:=by
     show a.length+1<=1000;omega
    rw[if_pos l];left;rw[show 97+(gK b (k+1+i) 26).toNat=EV b k i from rfl]
   ·show(a.cps++#[_]).size+bu.length<=900;rw[Array.size_append];show a.cps.size+1+bu.length<=900;have:a.length=a.cps.size:=rfl
    omega
  ·rintro e ⟨_,z,rfl⟩;left;have:(bQ (vi b k)).foldl (λ(a:Str) i=>a++⟨#[EV b k i]⟩) ""=mn b k:=by
    have:=EW ((bQ (vi b k)).map (EV b k)) "";rw[List.foldl_map] at this;rw[this,NX];unfold mn;rw[ny]
   rw[this]
 ·left;rw[hV b k 6 f ⋯];left;have c:=Vc (gK b k 6) h d;have g:[1,2,3,6,1,4].getD (gK b k 6).toNat 0=vi b k:=rfl;rw[g] at c;rw[c];left;rw[EU (vi b k) ∅]
def n5(l:List (Str×D)):List (D×D):=l.map λp=>(.str p.1,p.2)
def xr(l:List (Str×D))(x:Str)(d:D):List (Str×D):=if l.any (λp=>decide (p.1=x)) then l.map (λp=>if p.1=x then(p.1,d) else p) else l++[(x,d)]
def xt(x y:Str):aR (.str x) (.str y)=decide (x=y):=by
 show(x==y)=_;rw[u0]
def Vd(l:List (Str×D))(x:Str)(d:D):t4 (n5 l) (.str x) d=n5 (xr l x d):=by
 unfold t4 xr n5;rw[j3];have e:((λa:D×D=>aR a.1 (.str x))∘λp:Str×D=>(ay p.1,p.2))=λp=>decide (p.1=x):=by
  funext p;exact xt p.1 x
 rw[e];split
 ·rw[c9,c9];apply eG;intro p _;simp only[Function.comp,xt];by_cases h:p.1=x
  ·simp[h]
  ·simp[h]
 ·simp
def B5(l:List (Str×D)):fo (n5 l)=true:=by
 unfold fo n5;rw[oF,bY];intro p _;rfl
def Hh(l:List (Str×D))(x:Str)(d:D):(xr l x d).length<=l.length+1:=by
 unfold xr;split<;>simp
def DC(l:List (Str×D))(x:Str)(d:D):(xr l x d).map (·.1)=if x∈l.map (·.1) then l.map (·.1) else l.map (·.1)++[x]:=by
 unfold xr;have e:(l.any λp=>decide (p.1=x))=decide (x∈l.map (·.1)):=by
  rw[jf];simp only[jR,decide_eq_true_eq,cq]
 rw[e];by_cases h:x∈l.map (·.1)
 ·rw[decide_eq_true h,if_pos rfl,if_pos h,c9];apply eG;intro p _;by_cases a:p.1=x<;>simp[a]
 ·rw[decide_eq_false h,if_neg ba,if_neg h,c6];rfl
def RS{Q:Str->D->Prop}{l:List (Str×D)}{x:Str}{d:D}(h:∀p∈l,Q p.1 p.2)(c:Q x d):∀p∈xr l x d,Q p.1 p.2:=by
 unfold xr;split
 ·intro p a;obtain⟨f,b,rfl⟩:=List.mem_map.mp a;by_cases e:f.1=x
  ·rw[if_pos e];rw[e];exact c
  ·rw[if_neg e];exact h f b
 ·intro p a;rcases List.mem_append.mp a with a|a
  ·exact h p a
  ·rw[List.mem_singleton.mp a];exact c
def NY{l:List Str}{x:Str}(h:l.Nodup):(if x∈l then l else l++[x]).Nodup:=by
 by_cases a:x∈l
 ·rw[if_pos a];exact h
 ·rw[if_neg a];exact Eh h a
def WQ(c:ρ[i]?=some (Sl.own (.dict (n5 l))))(f:g ρ=.ok d)(b:gk ρ=.ok (.str x))(h:l.length<1000):uV i gk g ρ=.ok (.nx (ρ.set i (.own (.dict (n5 (xr l x d)))))):=by
 have a:(n5 l).length<1000:=by unfold n5;rw[am];exact h
 have e:uV i gk g ρ=(g ρ).bind λd=>(gk ρ).bind λk=>match qF k with
  |some _=>if(n5 l).length<1000/\fo (n5 l)=true then .ok (.nx (ρ.set i (.own (.dict (t4 (n5 l) k d))))) else .no
  |none=>.no:=by
  unfold uV;simp only[c];try rfl
 rw[e,f,AI,b,AI];simp only[qF,if_pos (ir a (B5 l)),Vd]
def Hi(l:List (Str×D)):o_ (.dict (n5 l))=.ok (.list ((l.map (·.1)).map .str)):=by
 have e:∀a,o_ (.dict a)=if fo a=true then .ok (.list (a.map (·.1))) else .no:=λ_=>rfl
 rw[e,if_pos (B5 l)];unfold n5;rw[c9,c9];rfl
def sorted_strs(ss:List Str)(h:ss.length<64):ue (.list (ss.map .str))=.ok (.list ((jU ss).map .str)):=by
 have e:∀ds,ue (.list ds)=match eU ds with
  |some ss=>if ss.length<64 then .ok (.list ((jU ss).map .str)) else .no
  |none=>.no:=λ_=>rfl
 rw[e,strsOf_map];simp only[if_pos h]
def il(ds:List D):j9 (.list ds)=.ok (.tuple ds):=id rfl
def EX(a:List Int)(k:Int)(n:Nat):List Str:=(bQ n).map λ(i:Nat)=>mn a (k+1+8*(i:Int))
def EY(a:List Int)(k m:Int):List Str:=jU (dn [] (EX a k (gK a k (m+1)).toNat))
structure RT (fs:List Str) (n:Nat):Prop where
 ok:∀x∈fs,C2 x=true
 up:fs.Pairwise λa b=>sd a b=true
 len:fs.length<=n
def RU{c:Type}{a b:List c}(h:a.Perm b):a.length=b.length:=h.length_eq
def K1(b:List Int)(k m:Int)(e:0<=m):RT (EY b k m) m.toNat:=by
 have f:=i4 b k (m+1) ∅;have d:=iX b k (m+1) ∅;have c:=iS (dn [] (EX b k (gK b k (m+1)).toNat));refine⟨λx a=>?_,?_,?_⟩
 ·have a:=c.mem_iff.mp a;rw[jB] at a;rcases a with a|a
  ·cases a
  ·obtain⟨i,_,rfl⟩:=List.mem_map.mp a;exact Hg _ _
 ·exact yk (sR _) (c.nodup_iff.mpr (jv _ [] g6))
 ·unfold EY;rw[RU c];have:=gy (EX b k (gK b k (m+1)).toNat) [];unfold EX at this ⊢;simp at this;omega
def NZ(f:Nat->Str)(l:List Nat):∀b:List (Str×D),((l.foldl (λ(a:List (Str×D)) i=>xr a (f i) (.bool true)) b).map (·.1))=dn (b.map (·.1)) (l.map f):=by
 induction l with
 |nil=>intro b;rfl
 |cons i r c=>
  intro b;rw[eh,c,ar,DC];rfl
def RV(b:List Int)(k m:Int)(h:0<=k)(o:0<=m)(f:m<=20):pE [.list (b.map .int),.int k,.int m]=.ok (.tuple ((EY b k m).map .str)):=by
 have j:=i4 b k (m+1) ∅;have n:=iX b k (m+1) ∅;unfold pE;refine cA ?_;unfold pC bV;left;rw[AK (ds:=(bQ (gK b k (m+1)).toNat).map λ(i:Nat)=>e8 i)]
 ·refine Mk (λ(i:Nat)=>e8 i) (λ(a:List (Str×D)) i=>xr a (mn b (k+1+8*(i:Int))) (.bool true)) (λbu a ρ=>a.length+bu.length<=60/\∃z,ρ=[.shr (.list (b.map .int)),.shr (.int k),.shr (.int m),.own (.dict (n5 a)),z]) [] ?_ ⟨by simp;omega,_,rfl⟩ ?_
  ·rintro i bu a ρ ⟨c,z,rfl⟩;simp only[aZ] at c;refine⟨_,[.shr (.list (b.map .int)),.shr (.int k),.shr (.int m),.own (.dict (n5 (xr a (mn b (k+1+8*(i:Int))) (.bool true)))),.shr (.int i)],rfl,?_,?_,_,rfl⟩
   ·refine(WQ (l:=a) (x:=mn b (k+1+8*(i:Int))) (d:=.bool true) rfl rfl ?_ ∅).trans rfl;left;rw[uz ⋯ ⋯];left;rw[Mm b _ ∅]
   ·have:=Hh a (mn b (k+1+8*(i:Int))) (.bool true);omega
  ·rintro g ⟨c,z,rfl⟩;simp only[dH] at c;left;rw[Hi];left;have e:=NZ (λi=>mn b (k+1+8*(i:Int))) (bQ (gK b k (m+1)).toNat) [];rw[e,sorted_strs]
   ·left;rw[il];left;rfl
   ·rw[<- e,am];omega
 ·left;rw[hV b k (m+1) h ∅];left;have:=EU (gK b k (m+1)).toNat ∅;rw[fJ j] at this;exact this
structure gd where
 name:Str
 needs:List Str
 bars:List Str
 makes:List Str
 ends:List Str
 price:Int
abbrev aB(xs:List Str):D:=.tuple (xs.map .str)
def e_(e:gd):D:=.tuple [.str e.name,aB e.needs,aB e.bars,aB e.makes,aB e.ends,.int e.price]
structure qu (fs xs:List Str):Prop where
 up:xs.Pairwise λa b=>sd a b=true
 mem:∀x∈xs,x∈fs
structure tw (fs:List Str) (e:gd):Prop where
 name:C2 e.name=true
 needs:qu fs e.needs
 bars:qu fs e.bars
 makes:qu fs e.makes
 ends:qu fs e.ends
 nb:∀x∈e.needs,x∉e.bars
 me:∀x∈e.makes,x∉e.ends
 p0:0<=e.price
 p9:e.price<=9
def srt(xs:List Str):List Str:=jU (dn [] xs)
def n6:x∈srt xs↔x∈xs:=by
 unfold srt;rw[(iS _).mem_iff,jB];simp
def EZ(xs:List Str):(srt xs).Pairwise λa b=>sd a b=true:=yk (sR _) ((iS _).nodup_iff.mpr (jv _ [] g6))
def A7(h:∀x∈xs,x∈fs):qu fs (srt xs):=⟨EZ xs,λx a=>h x (n6.mp a)⟩
def E_(fs:List Str)(j:Int)(c:0<=j)(d:j<fs.length):∃x,x∈fs/\aX (aB fs) (.int j)=.ok (.str x):=by
 have a:j.toNat<fs.length:=by omega
 refine⟨fs[j.toNat],mq a,?_⟩;have e:∀xs k,aX (.tuple xs) k=JM (.tuple xs) k:=λ_ _=>rfl;rw[e];have b:=ua (xs:=fs.map ay) (j:=j.toNat) (v:=.str fs[j.toNat]) (by rw[b9,bw a];rfl);rw[fJ c] at b;unfold JM;simp only[b]
theorem B6(x:Str):∀ys:List Str,((ys.map ay).any λy=>aR y (.str x))=decide (x∈ys)
 |[]=>rfl
 |y::r=>by
  rw[ar,eT,B6 x r,xt];by_cases h:y=x
  ·subst h;simp
  ·simp[h,dm h]
def B7(ys:List Str):(ys.map ay).all mO=true:=by
 rw[oF,bY];intro _ _;rfl
def F1(a:Bool)(x:Str)(ys:List Str):oG a (.str x) (.list (ys.map .str))=.ok (.bool (if a then !decide (x∈ys) else decide (x∈ys))):=by
 have e:oG a (.str x) (.list (ys.map .str))=if mO (.str x)&&(ys.map ay).all mO then .ok (.bool (if a then !((ys.map ay).any λy=>aR y (.str x)) else(ys.map ay).any λy=>aR y (.str x))) else .no:=rfl
 rw[e,B7,B6];rfl
def jN(a:Bool)(x:Str)(ys:List Str):oG a (.str x) (aB ys)=.ok (.bool (if a then !decide (x∈ys) else decide (x∈ys))):=by
 have e:oG a (.str x) (aB ys)=if mO (.str x)&&(ys.map ay).all mO then .ok (.bool (if a then !((ys.map ay).any λy=>aR y (.str x)) else(ys.map ay).any λy=>aR y (.str x))) else .no:=rfl
 rw[e,B7,B6];rfl
def lm(c:Bool)(a b:Int):mF c (.int a) (.int b)=.ok (.bool (if c then !decide (a=b) else decide (a=b))):=by
 have e:mF c (.int a) (.int b)=.ok (.bool (if c then !(a==b) else(a==b))):=rfl;rw[e,u0]
def n8(h:C2 x=true):(ay x).canLay0=true:=by
 unfold C2 at h;simp only[aU,bY,decide_eq_true_eq] at h;show PyData.strOk x=true;unfold PyData.strOk;rw[<- zu,bY];intro c a;have:=h.2 c a;exact decide_eq_true ∅
def Mn(a:Bool)(b:C2 x=true)(c:C2 y=true):mF a (.str x) (.str y)=.ok (.bool (if a then !decide (x=y) else decide (x=y))):=by
 unfold mF;rw[n8 b,n8 c,xt];rfl
def K2(ss:List Str)(h:ss.length<60):vG (.list (ss.map .str))=.ok (dn [] ss):=by
 have e:∀ds,vG (.list ds)=match eU ds with
  |some ss=>if ss.length<60 then .ok (dn [] ss) else .no
  |none=>.no:=λ_=>rfl
 rw[e,strsOf_map];simp only[if_pos h]
def Ve(g:aE->R D)(s:Sl)(ρ:aE):tf g (s::ρ)=(g (s::ρ)).bind vG:=id rfl
def WR:List Str->R D:=λss=>if ss.length<64 then .ok (.list ((jU ss).map .str)) else .no
def yy(g:aE->R (List Str))(s:Sl)(ρ:aE):mh g (s::ρ)=(g (s::ρ)).bind WR:=id rfl
def B8(ss:List Str)(h:ss.length<64):WR ss=.ok (.list ((jU ss).map .str)):=if_pos h
def N_(ss:List Str)(h:ss.length<60)(ρ:aE):(cw (J.aa (mh (tf (rB 0))) J.aH) (iT j9)) (.shr (.list (ss.map .str))::ρ)=.ok (aB (srt ss)):=by
 left;rw[yy,Ve];left;rw[K2 ss h];left;rw[B8 _ (by have:=gy ss [];simp at this;omega)];left;rw[il];rfl
def Hj(a:ρ=s::r)(h:gt (.shr (.str x)::r)=.ok b):fE (iG 1 ρ gt (rS 0)) [.str x]=.ok ((if b then [x] else []).map .str):=by
 subst a;have e:=jC (ρ:=s::r) (gt:=gt) (ge:=(rS 0)) (d:=.str x) (y:=.str x) (b:=b) h λ_=>rfl;unfold fE;rw[e,AI];unfold fE;rw[AI];cases b<;>rfl
def Yv(p q r t:List Str)(a:p.length<60)(b:q.length<60)(d:r.length<60)(c:t.length<60):fE (iG 1 [Sl.no] kT (cw (J.aa (mh (tf (rB 0))) J.aH) (iT j9))) [.list (p.map .str),.list (q.map .str),.list (r.map .str),.list (t.map .str)]=.ok [aB (srt p),aB (srt q),aB (srt r),aB (srt t)]:=
 dE _ (λss:List Str=>eY (ss.map .str)) (λss=>aB (srt ss)) [p,q,r,t] λss hs=>fU rfl (N_ ss (by simp at hs;rcases hs with h|h|h|h<;>(rw[h];assumption)) _)
def WS(a b c d:D):aX (.list [a,b,c,d]) (.int 0)=.ok a:=id rfl
def WT(a b c d:D):aX (.list [a,b,c,d]) (.int 1)=.ok b:=id rfl
def WU(a b c d:D):aX (.list [a,b,c,d]) (.int 2)=.ok c:=id rfl
def WV(a b c d:D):aX (.list [a,b,c,d]) (.int 3)=.ok d:=id rfl
def Vf(d:List Int)(k:Int)(P:0<=k)(fs:List Str)(B:∀x∈fs,C2 x=true)(T:0<fs.length)(t:Str)(N:C2 t=true):
  ∃e,rJ [.list (d.map .int),.int k,aB fs,.str t]=.ok (e_ e)/\tw fs e/\e.name=t:=by
 have l:(0:Int)<(fs.length:Int):=by omega
 obtain⟨a,s,L⟩:=E_ fs (gK d (k+10) fs.length) (i4 _ _ _ l) (iX _ _ _ l);obtain⟨b,M,O⟩:=E_ fs (gK d (k+11) fs.length) (i4 _ _ _ l) (iX _ _ _ l);obtain⟨c,w,Q⟩:=E_ fs (gK d (k+12) fs.length) (i4 _ _ _ l) (iX _ _ _ l);have I:=i4 d (k+13) 3 ⋯;have G:=iX d (k+13) 3 ⋯;obtain⟨i,v,y,o⟩:∃i:List Str,(∀x∈i,x∈fs)/\i.length<60/\Ln (.list [.str a,.str b]) none (some (1+gK d (k+13) 3 / 2))=.ok (.list (i.map .str)):=by
  by_cases h:gK d (k+13) 3=2
  ·exact⟨[a,b],by simp[s,M],by simp,by rw[h];rfl⟩
  ·have:gK d (k+13) 3 / 2=0:=by omega
   exact⟨[a],by simp[s],by simp,by rw[this];rfl⟩
 let m:Bool:=!decide (c∈i)&&decide (gK d (k+14) 4=0)
 let j:Bool:=!decide (a=c)&&decide (gK d (k+15) 3=0)
 have K:=i4 d k 5 ⋯;have S:=iX d k 5 ⋯;refine⟨⟨t,srt i,srt (if m then [c] else []),srt [c],srt (if j then [a] else []),gK d k 5⟩,?_,⟨N,A7 v,A7 ?_,A7 (by simp[w]),A7 ?_,λx u h=>?_,λx u h=>?_,K,by show gK d k 5<=9;omega⟩,rfl⟩
 ·unfold rJ;refine cA ?_;unfold rH bV;left;rw[hV d _ _ ∅ l];left;rw[L];left;rw[hV d (k+11) _ ∅ l];left;rw[O];left;rw[hV d (k+12) _ ∅ l];left;rw[Q];left;rw[hV d (k+13) 3 ∅ ⋯];left;simp only[Jh,decide_true,qV,if_true];left;rw[o];left;rw[Hj (b:=m) rfl]
  ·left;rw[Hj (b:=j) rfl]
   ·left;simp only[NA];rw[EE rfl,EE rfl];left;have z:=Yv i (if m then [c] else []) [c] (if j then [a] else []) y (by cases m<;>simp) (by simp) (by cases j<;>simp);rw[show([c].map ay)=[ay c] from rfl] at z;rw[z];left;rw[WS];left;rw[WT];left;rw[WU];left;rw[WV];left;rw[hV d k 5 P ⋯];left;rfl
   ·left;rw[Mn true (B a s) (B c w)];left;by_cases q:a=c
    ·simp only[j,q,decide_true,kg,CU,if_true,cond_false]
    ·simp only[j,q,decide_false,jJ,wC,if_true,cond_true];rw[hV d (k+15) 3 ∅ ⋯];left;rw[lm];left
  ·left;rw[F1];left;by_cases p:c∈i
   ·simp only[m,p,decide_true,kg,CU,if_true,cond_false]
   ·simp only[m,p,decide_false,jJ,wC,if_true,cond_true];rw[hV d (k+14) 4 ∅ ⋯];left;rw[lm];left
 ·intro x n;cases f:m
  ·simp[f] at n
  ·simp[f] at n;rw[n];exact w
 ·intro x n;cases g:j
  ·simp[g] at n
  ·simp[g] at n;rw[n];exact s
 ·have h:x∈(if m then [c] else []):=n6.mp h;cases f:m
  ·simp[f] at h
  ·simp[f] at h;subst h;have:(!decide (x∈i))=true:=by
    have:(!decide (x∈i)&&decide (gK d (k+14) 4=0))=true:=f
    simp only[aU] at this;exact this.1
   simp at this;exact this (n6.mp u)
 ·cases g:j
  ·have h:x∈(if j then [a] else []):=n6.mp h;simp[g] at h
  ·skip;have E:x∈[c]:=n6.mp u;have H:x∈(if j then [a] else []):=n6.mp h;simp only[bN] at E;simp only[g,if_true,bN] at H;have:(!decide (a=c)&&decide (gK d (k+15) 3=0))=true:=g
   simp only[aU] at this;have A:=this.1;simp at A;exact A (H.symm.trans E)
def F2(a:ρ[i]?=some (Sl.ow2 dss))(c:gi ρ=.ok (.int j))(e:0<=j)(h:dss[j.toNat]?=some ds)(b:g ρ=.ok d)(f:ds.length<1000):qH i gi g ρ=.ok (.nx (ρ.set i (.ow2 (dss.set j.toNat (ds++[d]))))):=by
 unfold qH;simp only[a,c,bind_ok,if_pos e,h,b,if_pos f]
def pG(n:Nat):List Str->List (Nat×Str)
 |[]=>[]
 |x::r=>(n,x)::pG (n+1) r
abbrev cI(p:Nat×Str):D:=.tuple [.int (p.1:Nat),.str p.2]
theorem A8:∀(xs:List Str) (n:Nat),nQ n (xs.map .str)=(pG n xs).map cI
 |[],_=>rfl
 |x::r,n=>by
  show ft [.int n,.str x]::nQ (n+1) (r.map .str)=cI (n,x)::(pG (n+1) r).map cI;rw[A8 r (n+1)]
theorem uA:∀(xs:List Str) (n:Nat),(pG n xs).map (·.2)=xs
 |[],_=>rfl
 |x::r,n=>by
  show x::(pG (n+1) r).map (·.2)=x::r;rw[uA r]
theorem Hk:∀(fs:List Str),(∀x∈fs,C2 x=true)->bW (fs.map .str)=true
 |[],_=>rfl
 |x::r,h=>by
  have a:=n8 (h x aj);have c:=Hk r λy b=>h y (af _ b);simp only[ar,bW,a,c,qV]
def Mo(fs:List Str)(c:∀x∈fs,C2 x=true):mF true (aB fs) (.tuple [])=.ok (.bool (!decide (fs=[]))):=by
 unfold mF;have a:(aB fs).canLay0=true:=by simp only[dk];exact Hk fs c
 have e:(ft []).canLay0=true:=rfl;have b:min (aB fs).depth (ft []).depth<=60:=ca (sr _ _) ⋯;have d:aR (aB fs) (.tuple [])=decide (fs=[]):=by
  cases fs with
  |nil=>rfl
  |cons x r=>simp[aR,cG]
 rw[a,e,decide_eq_true b,d];rfl
structure qj (pre p q:List Str):Prop where
 sp:p.Sublist pre
 sq:q.Sublist pre
 d:∀x∈p,x∉q
def qj.skip(h:qj pre p q)(x:Str):qj (pre++[x]) p q:=⟨h.sp.trans (kh _ _),h.sq.trans (kh _ _),h.d⟩
def qj.left(h:qj pre p q)(x:Str)(c:x∉pre):qj (pre++[x]) (p++[x]) q:=⟨h.sp.append (fR _),h.sq.trans (kh _ _),λy b a=>by
 rcases List.mem_append.mp b with h1|h1
 ·exact h.d y h1 a
 ·rw[List.mem_singleton.mp h1] at a;exact c (h.sq.subset a)⟩
def qj.right(h:qj pre p q)(x:Str)(c:x∉pre):qj (pre++[x]) p (q++[x]):=⟨h.sp.trans (kh _ _),h.sq.append (fR _),λy a b=>by
 rcases List.mem_append.mp b with h1|h1
 ·exact h.d y a h1
 ·rw[List.mem_singleton.mp h1] at a;exact c (h.sp.subset a)⟩
abbrev o4(p q r t:List Str):Sl:=.ow2 [p.map .str,q.map .str,r.map .str,t.map .str]
def q0z(j:Int)(c:0<=j)(a:j<3):∃b:Bool,aX (.list [.int 0,.int 0,.int 1]) (.int j)=.ok (.int (if b then 0 else 1)):=by
 have:j=0\/j=1\/j=2:=by omega
 rcases this with h|h|h<;>subst h
 ·exact⟨true,rfl⟩
 ·exact⟨true,rfl⟩
 ·exact⟨false,rfl⟩
def q0A(j:Int)(c:0<=j)(a:j<4):∃b:Bool,aX (.list [.int 2,.int 2,.int 3,.int 3]) (.int j)=.ok (.int (if b then 2 else 3)):=by
 have:j=0\/j=1\/j=2\/j=3:=by omega
 rcases this with h|h|h|h<;>subst h
 ·exact⟨true,rfl⟩
 ·exact⟨true,rfl⟩
 ·exact⟨false,rfl⟩
 ·exact⟨false,rfl⟩
def xu(p:List Str)(x:Str):(p++[x]).map ay=p.map .str++[.str x]:=by simp
def RW(g:qj pre p q)(i:x∉pre)(u:pre.length<900)(s:0<=j):
  ∃k q',qj (pre++[x]) k q'/\fK (eQ (g2 (rB 7) (kI 3) JH)) (qH 4 (g2 (eZ (J.aa (kI 0) (J.aa (kI 0) (J.aa (kI 1) J.aH))) .list) (rB 7) aX) (rS 6)) (λρ=>.ok (.nx ρ)) [a,b,c,d,o4 p q r t,e,.shr (.str x),.shr (.int j),f]=.ok (.nx [a,b,c,d,o4 k q' r t,e,.shr (.str x),.shr (.int j),f]):=by
 by_cases h:j<3
 ·obtain⟨m,l⟩:=q0z j s h;have n:p.length<1000:=by have:=g.sp.length_le;omega
  have o:q.length<1000:=by have:=g.sq.length_le;omega
  cases m
  ·refine⟨p,q++[x],g.right x i,?_⟩;left;rw[decide_eq_true h];left;simp only[o4,xu];refine(F2 (j:=1) (ds:=q.map .str) (d:=.str x) rfl ?_ ⋯ rfl rfl (by rw[am];exact o)).trans rfl;left;rw[l];rfl
  ·refine⟨p++[x],q,g.left x i,?_⟩;left;rw[decide_eq_true h];left;simp only[o4,xu];refine(F2 (j:=0) (ds:=p.map .str) (d:=.str x) rfl ?_ ⋯ rfl rfl (by rw[am];exact n)).trans rfl;left;rw[l];rfl
 ·refine⟨p,q,g.skip x,?_⟩;left;rw[decide_eq_false h];left
def RX(g:qj pre r t)(k:x∉pre)(u:pre.length<900)(s:0<=j):
  ∃i t',qj (pre++[x]) i t'/\fK (eQ (g2 (rB 7) (kI 4) JH)) (qH 4 (g2 (eZ (J.aa (kI 2) (J.aa (kI 2) (J.aa (kI 3) (J.aa (kI 3) J.aH)))) .list) (rB 7) aX) (rS 6)) (λρ=>.ok (.nx ρ)) [a,b,c,d,o4 p q r t,e,.shr (.str x),.shr (.int j),f]=.ok (.nx [a,b,c,d,o4 p q i t',e,.shr (.str x),.shr (.int j),f]):=by
 by_cases h:j<4
 ·obtain⟨m,l⟩:=q0A j s h;have n:r.length<1000:=by have:=g.sp.length_le;omega
  have o:t.length<1000:=by have:=g.sq.length_le;omega
  cases m
  ·refine⟨r,t++[x],g.right x k,?_⟩;left;rw[decide_eq_true h];left;simp only[o4,xu];refine(F2 (j:=3) (ds:=t.map .str) (d:=.str x) rfl ?_ ⋯ rfl rfl (by rw[am];exact o)).trans rfl;left;rw[l];rfl
  ·refine⟨r++[x],t,g.left x k,?_⟩;left;rw[decide_eq_true h];left;simp only[o4,xu];refine(F2 (j:=2) (ds:=r.map .str) (d:=.str x) rfl ?_ ⋯ rfl rfl (by rw[am];exact n)).trans rfl;left;rw[l];rfl
 ·refine⟨r,t,g.skip x,?_⟩;left;rw[decide_eq_false h];left
def q0B(i:Nat)(ρ:aE):UF i ρ=.ok (.nx ((clear2 ρ).set i (.ow2 [[],[],[],[]]))):=id rfl
def qj.sub(d:fs.Pairwise λa b=>sd a b=true)(h:qj fs p q):qu fs p/\qu fs q:=⟨⟨d.sublist h.sp,λx c=>h.sp.subset c⟩,⟨d.sublist h.sq,λx c=>h.sq.subset c⟩⟩
def RY(p:List Str)(ρ:aE):(cw (J.aa (rB 0) J.aH) (iT j9)) (.shr (.list (p.map .str))::ρ)=.ok (aB p):=by
 left;rw[il]
def q0C(p q r t:List Str):fE (iG 1 [Sl.no] kT (cw (J.aa (rB 0) J.aH) (iT j9))) [.list (p.map .str),.list (q.map .str),.list (r.map .str),.list (t.map .str)]=.ok [aB p,aB q,aB r,aB t]:=
 dE _ (λss:List Str=>eY (ss.map .str)) (λss=>aB ss) [p,q,r,t] λss hs=>fU rfl (RY ss _)
def O0(g:List Int)(k:Int)(P:0<=k)(fs:List Str)(I:∀x∈fs,C2 x=true)(L:fs.Pairwise λa b=>sd a b=true)(M:fs.Nodup)(hl:fs.length<=6)(m:Str)(N:C2 m=true):
  ∃e,jE [.list (g.map .int),.int k,aB fs,.str m]=.ok (e_ e)/\tw fs e/\e.name=m:=by
 have Q:=i4 g k 5 ⋯;have p1:=iX g k 5 ⋯;have go:∀ ρ:aE,ρ=[.shr (.list (g.map .int)),.shr (.int k),.shr (aB fs),.shr (.str m),.no,.no,.no,.no,.no]->(!decide (fs=[])&&decide (gK g 97 2=0))=false->∃e,jD ρ=.ok (.rt (e_ e))/\tw fs e/\e.name=m:=by
  rintro ρ rfl s;obtain⟨o,u,p,q,r,t,n,v,z⟩:∃o,(qf (CA (J.aa (rS 2) J.aH)) (mG 2 (cP (bO 5) (cP (bO 6) nP))) (aQ (fN 7 (eA 3 bJ (J.aa (rS 0) (J.aa (g2 (g2 (rB 1) (kI 10) fS) (rB 5) fS) (J.aa (kI 8) J.aH))))) (aQ (fK (eQ (g2 (rB 7) (kI 3) JH)) (qH 4 (g2 (eZ (J.aa (kI 0) (J.aa (kI 0) (J.aa (kI 1) J.aH))) .list) (rB 7) aX) (rS 6)) (λρ=>.ok (.nx ρ))) (aQ (fN 7 (eA 3 bJ (J.aa (rS 0) (J.aa (g2 (g2 (rB 1) (kI 20) fS) (rB 5) fS) (J.aa (kI 8) J.aH))))) (fK (eQ (g2 (rB 7) (kI 4) JH)) (qH 4 (g2 (eZ (J.aa (kI 2) (J.aa (kI 2) (J.aa (kI 3) (J.aa (kI 3) J.aH)))) .list) (rB 7) aX) (rS 6)) (λρ=>.ok (.nx ρ))))))) [.shr (.list (g.map .int)),.shr (.int k),.shr (aB fs),.shr (.str m),o4 [] [] [] [],.no,.no,.no,.no]=.ok (.nx o)/\∃p q r t,qj fs p q/\qj fs r t/\∃A E w,o=[.shr (.list (g.map .int)),.shr (.int k),.shr (aB fs),.shr (.str m),o4 p q r t,A,E,w,.no]:=by
   rw[AK (ds:=(pG 0 fs).map cI)]
   ·have H:=tq cI (λ(a:Unit) (_:Nat×Str)=>a) (λbu _ ρ=>∃l,l++bu.map (·.2)=fs/\∃p q r t,qj l p q/\qj l r t/\∃A E w,ρ=[.shr (.list (g.map .int)),.shr (.int k),.shr (aB fs),.shr (.str m),o4 p q r t,A,E,w,.no]) (kt:=mG 2 (cP (bO 5) (cP (bO 6) nP))) (gb:=(aQ (fN 7 (eA 3 bJ (J.aa (rS 0) (J.aa (g2 (g2 (rB 1) (kI 10) fS) (rB 5) fS) (J.aa (kI 8) J.aH))))) (aQ (fK (eQ (g2 (rB 7) (kI 3) JH)) (qH 4 (g2 (eZ (J.aa (kI 0) (J.aa (kI 0) (J.aa (kI 1) J.aH))) .list) (rB 7) aX) (rS 6)) (λρ=>.ok (.nx ρ))) (aQ (fN 7 (eA 3 bJ (J.aa (rS 0) (J.aa (g2 (g2 (rB 1) (kI 20) fS) (rB 5) fS) (J.aa (kI 8) J.aH))))) (fK (eQ (g2 (rB 7) (kI 4) JH)) (qH 4 (g2 (eZ (J.aa (kI 2) (J.aa (kI 2) (J.aa (kI 3) (J.aa (kI 3) J.aH)))) .list) (rB 7) aX) (rS 6)) (λρ=>.ok (.nx ρ)))))));obtain⟨o,u,l,n,p,q,r,t,v,z,Y⟩:=H (by
     rintro⟨i,x⟩ bu _ ρ ⟨l,n,p,q,r,t,v,z,A,E,w,rfl⟩;have G:x∉l:=by
      rw[<- n,ar] at M;have:=(List.nodup_append.mp M).2.2;intro G;exact this x G x aj rfl
     have B:l.length<900:=by
      have:=congrArg jI n;rw[aI] at this;omega
     obtain⟨K,q',U,T⟩:=RW (a:=.shr (.list (g.map .int))) (b:=.shr (.int k)) (c:=.shr (aB fs)) (d:=.shr (.str m)) (e:=.shr (.int (i:Nat))) (f:=.no) (r:=r) (t:=t) (j:=gK g (k+10+i) 8) v G B (i4 _ _ _ ⋯);obtain⟨O,t',k3,X⟩:=RX (a:=.shr (.list (g.map .int))) (b:=.shr (.int k)) (c:=.shr (aB fs)) (d:=.shr (.str m)) (e:=.shr (.int (i:Nat))) (f:=.no) (p:=K) (q:=q') (j:=gK g (k+20+i) 8) z G B (i4 _ _ _ ⋯);refine⟨[.shr (.list (g.map .int)),.shr (.int k),.shr (aB fs),.shr (.str m),o4 p q r t,.shr (.int (i:Nat)),.shr (.str x),w,.no],[.shr (.list (g.map .int)),.shr (.int k),.shr (aB fs),.shr (.str m),o4 K q' O t',.shr (.int (i:Nat)),.shr (.str x),.shr (.int (gK g (k+20+i) 8)),.no],rfl,?_,l++[x],?_,K,q',O,t',U,k3,_,_,_,rfl⟩
     ·rw[GC,Qw];walk_at "yy";rw[hV g _ 8 ∅ ⋯];walk_at "yy";rw[T];walk_at "yy";rw[hV g _ 8 ∅ ⋯];walk_at "yy";rw[X]
     ·rw[<- n];simp) (pG 0 fs) () [.shr (.list (g.map .int)),.shr (.int k),.shr (aB fs),.shr (.str m),o4 [] [] [] [],.no,.no,.no,.no] ⟨[],by rw[uA];rfl,[],[],[],[],⟨fR _,fR _,λ_ h=>nomatch h⟩,⟨fR _,fR _,λ_ h=>nomatch h⟩,_,_,_,rfl⟩
    refine⟨o,u,p,q,r,t,?_,?_,Y⟩
    ·simp only[dW,b_] at n;rw[<- n];exact v
    ·simp only[dW,b_] at n;rw[<- n];exact z
   ·left;rw[A8]
  obtain⟨s1,s2⟩:=n.sub L;obtain⟨s3,S⟩:=v.sub L;obtain⟨A,E,w,rfl⟩:=z;refine⟨⟨m,p,q,r,t,gK g k 5⟩,?_,⟨N,s1,s2,s3,S,n.d,v.d,Q,by show gK g k 5<=9;omega⟩,rfl⟩;unfold jD;have y:qB (eQ (g2 (rB 2) (eZ J.aH .tuple) (mF true))) (eQ (g2 (eA 3 bJ (J.aa (rS 0) (J.aa (kI 97) (J.aa (kI 2) J.aH)))) (kI 0) (mF false))) [.shr (.list (g.map .int)),.shr (.int k),.shr (aB fs),.shr (.str m),.no,.no,.no,.no,.no]=.ok false:=by
   left;rw[Mo fs I];left;by_cases h:fs=[]
   ·simp only[h,decide_true,kg,cond_false]
   ·simp only[h,decide_false,jJ,cond_true,wC] at s ⊢;rw[hV g 97 2 ⋯ ⋯];left;rw[lm];left;rw[s]
  rw[GC,ZZ,y];simp only[AI,Qu,q0B,clear2,ar,dW,xS,xR,AI,xh,GC];rw[show Sl.ow2 [[],[],[],[]]=o4 [] [] [] [] from rfl,u];left;rw[q0C];left;rw[WS];left;rw[WT];left;rw[WU];left;rw[WV];left;rw[hV g k 5 P ⋯];left;rfl
 by_cases s:(!decide (fs=[])&&decide (gK g 97 2=0))=true
 ·have h0:0<fs.length:=by
   rcases fs with _|⟨x,r⟩
   ·simp at s
   ·simp
  obtain⟨e,u,n⟩:=Vf g k P fs I h0 m N;refine⟨e,?_,n⟩;unfold jE;refine cA ?_;unfold jD bV;left;rw[Mo fs I];left;simp only[aU] at s;rw[s.1];left;rw[hV g 97 2 ⋯ ⋯];left;rw[lm];left;rw[s.2];left;rw[u];left
 ·obtain⟨e,u,n⟩:=go _ rfl (Bool.eq_false_iff.mpr s);exact⟨e,by unfold jE;exact cA u,n⟩
def K3(ds:List D)(t:Nat)(h:t<=ds.length):Aw ds (some (t:Int)) none=ds.drop t:=by
 unfold Aw;rw[HT.Lb,HT.FY,nK h,lE (by rw[zR];exact av _)]
def Yw(ds:List D)(t:Nat)(h:t<=ds.length):Aw ds none (some (t:Int))=ds.take t:=by
 unfold Aw;rw[HT.Lb,HT.FY,nK h,List.drop_zero,Nat.sub_zero]
def q0D(ds:List D)(t:Nat)(h:t<=ds.length):Ln (.list ds) (some (t:Int)) none=.ok (.list (ds.drop t)):=by
 rw[<- K3 ds t h];rfl
def q0E(ds:List D)(t:Nat)(h:t<=ds.length):Ln (.list ds) none (some (t:Int))=.ok (.list (ds.take t)):=by
 rw[<- Yw ds t h];rfl
def Yx(c:(l.map (·.1)).Nodup)(b:p∈l):aX (.dict (n5 l)) (.str p.1)=.ok p.2:=by
 have e:∀a x,aX (.dict a) (.str x)=if fo a=true then(match iH a (.str x) with
   |some d=>.ok d
   |none=>.no) else .no:=λ_ _=>rfl
 rw[e,if_pos (B5 l)];have:iH (n5 l) (.str p.1)=some p.2:=by
  unfold iH n5;clear e;induction l with
  |nil=>cases b
  |cons q r f=>
   rw[ar] at c;obtain⟨g,i⟩:=List.nodup_cons.mp c;rw[ar,bM,xt];rcases List.mem_cons.mp b with h|h
   ·subst h;simp
   ·have:q.1≠p.1:=λz=>g (z ▸ bZ h)
    rw[decide_eq_false this];exact f i h
 rw[this]
structure da (fs:List Str) (es:List gd):Prop where
 rise:RT fs 6
 len:es.length<=6
 nd:(es.map (·.name)).Nodup
 ok:∀e∈es,tw fs e
def bA(fs:List Str)(es:List gd):D:=.tuple [aB fs,.tuple (es.map e_)]
theorem q0F(fs:List Str):∀(l:List (Str×D)),(∀p∈l,∃e,p.2=e_ e/\tw fs e/\e.name=p.1)->∃es:List gd,l.map (·.2)=es.map e_/\es.map (·.name)=l.map (·.1)/\∀e∈es,tw fs e
 |[],_=>⟨[],rfl,rfl,λ_ h=>nomatch h⟩
 |p::r,h=>by
  obtain⟨e,a,g,d⟩:=h p aj;obtain⟨es,c,b,i⟩:=q0F fs r λq f=>h q (af _ f);refine⟨e::es,by rw[ar,ar,a,c],by rw[ar,ar,d,b],λx j=>?_⟩;rcases List.mem_cons.mp j with z|z
  ·rw[z];exact g
  ·exact i x z
def O1{a:Type}(l:List a)(t:Nat):(l.drop t++l.take t).Perm l:=by
 refine List.perm_append_comm.trans ?_;rw[hJ]
def iK{l:List Str}(h:l.Pairwise λa b=>sd a b=true):l.Nodup:=h.imp λc z=>by
 rw[z,vB] at c;cases c
def Vg(b:List Int)(k:Int)(T:0<=k)(m n:Int)(g:0<=m)(hm:m<=6)(X:0<=n)(hn:n<=6):∃fs es,nZ [.list (b.map .int),.int k,.int m,.int n]=.ok (bA fs es)/\da fs es/\fs.length<=m.toNat/\es.length<=n.toNat:=by
 have c:=K1 b k m g;generalize w:EY b k m=fs at c;have A:=c.len;have c:RT fs 6:=⟨c.ok,c.up,by have:=c.len;omega⟩;have M:=iK c.up;have K:=i4 b (k+60) (n+1) ∅;have m1:=iX b (k+60) (n+1) ∅;suffices H:∃es,nZ [.list (b.map .int),.int k,.int m,.int n]=.ok (bA fs es)/\da fs es/\es.length<=n.toNat from H.elim λes h=>⟨fs,es,h.1,h.2.1,A,h.2.2⟩
 unfold nZ;suffices H:∃es,nY (bV 10 [.list (b.map .int),.int k,.int m,.int n])=.ok (.rt (bA fs es))/\da fs es/\es.length<=n.toNat from H.elim λes h=>⟨es,cA h.1,h.2⟩
 have H:=tq (λ(i:Nat)=>e8 i) (λ(a:Unit) (_:Nat)=>a) (λbu _ ρ=>∃l,l.length+bu.length<=n.toNat/\(l.map (·.1)).Nodup/\(∀p∈l,∃e,p.2=e_ e/\tw fs e/\e.name=p.1)/\∃y s,ρ=[.shr (.list (b.map .int)),.shr (.int k),.shr (.int m),.shr (.int n),.shr (aB fs),.own (.dict (n5 l)),y,s,.no,.no]) (kt:=bO 6) (gb:=aQ (fN 7 (eA 2 lO (J.aa (rS 0) (J.aa (g2 (g2 (rB 1) (kI 70) fS) (g2 (kI 40) (rB 6) zC) fS) J.aH)))) (uV 5 (rS 7) (eA 4 jE (J.aa (rS 0) (J.aa (g2 (g2 (rB 1) (kI 80) fS) (g2 (kI 40) (rB 6) zC) fS) (J.aa (rS 4) (J.aa (rS 7) J.aH)))))));obtain⟨S,B,l,z,q,v,y,s,P⟩:=H (by
  rintro i bu _ ρ ⟨l,z,q,v,y,s,rfl⟩;simp only[aZ] at z;have N:=Hg b (k+70+40*(i:Int));obtain⟨e,j,Y,I⟩:=O0 b (k+80+40*(i:Int)) ∅ fs c.ok c.up M c.len (mn b (k+70+40*(i:Int))) N;have pl:=Hh l (mn b (k+70+40*(i:Int))) (e_ e);refine⟨[.shr (.list (b.map .int)),.shr (.int k),.shr (.int m),.shr (.int n),.shr (aB fs),.own (.dict (n5 l)),.shr (.int i),s,.no,.no],[.shr (.list (b.map .int)),.shr (.int k),.shr (.int m),.shr (.int n),.shr (aB fs),.own (.dict (n5 (xr l (mn b (k+70+40*(i:Int))) (e_ e)))),.shr (.int i),.shr (.str (mn b (k+70+40*(i:Int)))),.no,.no],rfl,?_,xr l (mn b (k+70+40*(i:Int))) (e_ e),by omega,?_,?_,_,_,rfl⟩
  ·left;rw[uz ⋯ ⋯];left;rw[Mm b _ ∅];left;refine(WQ (l:=l) (x:=mn b (k+70+40*(i:Int))) (d:=e_ e) rfl ?_ rfl ∅).trans rfl;left;rw[uz ⋯ ⋯];left;exact j
  ·rw[DC];exact NY q
  ·exact RS (Q:=λx d=>∃e,d=e_ e/\tw fs e/\e.name=x) v ⟨e,rfl,Y,I⟩) (bQ (gK b (k+60) (n+1)).toNat) () [.shr (.list (b.map .int)),.shr (.int k),.shr (.int m),.shr (.int n),.shr (aB fs),.own (.dict (n5 [])),.no,.no,.no,.no] ⟨[],by rw[gn];simp only[dH];omega,g6,λ_ h=>(nomatch h),_,_,rfl⟩
 simp only[dH,oK] at z;have O:=i4 b (k+61) ((l.length:Int)+1) ∅;have t1:=iX b (k+61) ((l.length:Int)+1) ∅;obtain⟨t,G⟩:∃t:Nat,gK b (k+61) ((l.length:Int)+1)=t:=⟨_,(fJ O).symm⟩;have tl:t<=l.length:=by omega
 have f:=O1 l t;obtain⟨es,u,E,U⟩:=q0F fs (l.drop t++l.take t) λp o=>v p (f.mem_iff.mp o);have kl:es.length=l.length:=by
  have:=congrArg jI u;rw[am,am,f.length_eq] at this;exact this.symm
 refine⟨es,?_,⟨c,by omega,?_,U⟩,by omega⟩
 ·unfold nY bV;walk_at "yy";rw[RV b k m T g ∅,w];walk_at "yy";rw[AK (ds:=(bQ (gK b (k+60) (n+1)).toNat).map λ(i:Nat)=>e8 i)]
  ·rw[show IJ []=IJ (n5 []) from rfl,B,P];walk_at "yy";rw[Hi];walk_at "yy";rw[hV b _ _ ∅ ∅,G];walk_at "yy";clear H B;rw[q0D _ t (by simpa using tl)];walk_at "yy";rw[q0E _ t (by simpa using tl)];walk_at "yy";have j:(List.drop t (lF ay (lF (λx=>x.fst) l))++List.take t (lF ay (lF (λx=>x.fst) l)))=(l.drop t++l.take t).map λp=>ay p.1:=by
    rw[c6,List.map_drop,List.map_take,c9];rfl
   rw[j,if_pos (by rw[<- aI,j,am,f.length_eq];omega)];have pl:=f.length_eq;have px:∀p∈l.drop t++l.take t,p∈l:=λp o=>f.mem_iff.mp o;clear j f E;generalize l.drop t++l.take t=L at pl px u ⊢;walk_at "yy";rw[if_pos ∅];rw[dE _ (λp:Str×D=>ay p.1) (λp=>p.2) L λp o=>fU rfl (by
    walk_at "yy";exact Yx q (px p o))]
   walk_at "yy";rw[il];walk_at "yy";rw[u];rfl
  ·walk_at "yy";rw[hV b (k+60) (n+1) ∅ ∅];walk_at "yy";have:=EU (gK b (k+60) (n+1)).toNat ∅;rw[fJ K] at this;exact this
 ·rw[E];exact((f.map _).nodup_iff).mpr q
theorem DD{a:Type}(b:a->Bool):∀xs:List a,oY (xs.map λx=>cr (b x))=some (xs.map b)
 |[]=>rfl
 |x::r=>by
  show(oY (r.map λx=>cr (b x))).map (b x::·)=_;rw[DD b r];rfl
def iy{a:Type}(k:List Bool->Bool)(b:a->Bool)(xs:List a):fm k (.list (xs.map λx=>cr (b x)))=.ok (.bool (k (xs.map b))):=by
 have e:∀ds,fm k (.list ds)=match oY ds with
  |some bs=>.ok (.bool (k bs))
  |none=>.no:=λ_=>rfl
 rw[e,DD]
def RZ(a:gt (.shr d::.shr d'::ρ)=.ok true)(c:ge (.shr d::.shr d'::ρ)=.ok y):iG 2 (s::s'::ρ) gt ge (.tuple [d,d'])=.ok (some y):=by
 have e:iG 2 (s::s'::ρ) gt ge (.tuple [d,d'])=Ay ((gt (.shr d::.shr d'::ρ)).bind λb=>if b then(ge (.shr d::.shr d'::ρ)).bind λy=>.ok (some y) else .ok none):=id rfl;rw[e,a,bind_ok,if_pos rfl,c];rfl
def Yy(x:Str):oO (.str x)=true:=id rfl
def R_(i:Int):oO (.int i)=true:=id rfl
theorem A9{a:Type}(c:a->D)(h:∀x,oO (c x)=true):∀xs:List a,noDs (xs.map c)=true
 |[]=>rfl
 |x::r=>by
  show(oO (c x)&&noDs (r.map c))=true;rw[h x,A9 c h r];rfl
def S0(xs:List D):oO (.tuple xs)=noDs xs:=id rfl
def pH(xs:List Str):oO (aB xs)=true:=by
 rw[S0];exact A9 _ (λ_=>rfl) xs
def Mp(e:gd):oO (e_ e)=true:=by
 have:oO (e_ e)=(true&&(oO (aB e.needs)&&(oO (aB e.bars)&&(oO (aB e.makes)&&(oO (aB e.ends)&&(true&&true)))))):=rfl
 rw[this,pH,pH,pH,pH];rfl
def WW(es:List gd):oO (.tuple (es.map e_))=true:=by
 rw[S0];exact A9 _ Mp es
def Vh(fs:List Str)(es:List gd):oO (bA fs es)=true:=by
 have:oO (bA fs es)=(oO (aB fs)&&(oO (.tuple (es.map e_))&&true)):=rfl
 rw[this,pH,WW];rfl
def Yz(x:Str):Gs "str" (.str x)=true:=id rfl
def B9(x:List D):Gs "tuple" (.tuple x)=true:=id rfl
def YA(x:Int):Gs "int" (.int x)=true:=id rfl
def YB(x:Int):Gs "bool" (.int x)=false:=id rfl
def Vi:∀c:_root_.Fin 123,97<=c.val->(!sd ⟨#[c.val]⟩ "a")=true/\(!sd "z" ⟨#[c.val]⟩)=true:=by decide +kernel
def DE(h:C2 x=true):qM [.str x]=.ok (.bool true):=by
 have f:=h;unfold C2 at h;simp only[aU,decide_eq_true_eq,bY] at h;obtain⟨⟨e,j⟩,a⟩:=h;have i:x.length=x.cps.size:=rfl;unfold qM;refine cA ?_;unfold ul bV;left;rw[Yy,Yz];left;rw[if_pos ∅];left;rw[decide_eq_true ∅];left;rw[decide_eq_true ∅];left;unfold qd;left;rw[if_pos (by rw[au];omega)];rw[dE _ (λc:Nat=>ay ⟨#[c]⟩) (λ_=>cr true) x.cps.toList λc b=>fU rfl (by
  obtain⟨d,g⟩:=a c b;obtain⟨b1,b2⟩:=Vi ⟨c,by omega⟩ d;left;simp only at b1 b2;rw[b1];left;rw[b2])]
 left;rw[iy _ (λ_=>true)];left;simp
theorem Hl:∀(xs ys:List Str),zD (xs.map .str) (ys.map .str)=(xs.zip ys).map λp=>ft [.str p.1,.str p.2]
 |[],_=>rfl
 |_::_,[]=>rfl
 |x::r,y::a=>by
  show ft [.str x,.str y]::zD (r.map .str) (a.map .str)=_;rw[Hl r a];rfl
theorem S1:∀{l:List Str},(l.Pairwise λa b=>sd a b=true)->∀p∈l.zip (l.drop 1),sd p.1 p.2=true
 |[],_,p,c=>by cases c
 |[_],_,p,c=>by cases c
 |a::b::r,h,p,c=>by
  obtain⟨d,e⟩:=List.pairwise_cons.mp h;rcases List.mem_cons.mp c with z|z
  ·rw[z];exact d b aj
  ·exact S1 e p z
def Vj(xs:List Str):Ln (aB xs) (some 1) none=.ok (aB (xs.drop 1)):=by
 have e:Ln (aB xs) (some 1) none=.ok (.tuple (Aw (xs.map .str) (some 1) none)):=rfl;rw[e];cases xs with
 |nil=>rfl
 |cons x r=>
  rw[show(1:Int)=((1:Nat):Int) from rfl,K3 _ 1 (by simp)];rfl
def z9(e:∀x∈xs,C2 x=true)(f:xs.Pairwise λa b=>sd a b=true)(g:xs.length<=6):gT [aB xs]=.ok (.bool true):=by
 unfold gT;refine cA ?_;unfold iV bV;left;rw[pH,B9];left;rw[if_pos ∅];rw[dE _ (λx:Str=>ay x) (λ_=>cr true) xs λx d=>fU rfl (by
  left;rw[DE (e x d)])]
 left;rw[iy _ (λ_=>true)];left;rw[show((xs.map λ_=>true).all id)=true by simp];left;rw[Vj];left;rw[Hl];left;rw[if_pos (by simp;omega)];rw[dE _ (λp:Str×Str=>ft [.str p.1,.str p.2]) (λ_=>cr true) (xs.zip (xs.drop 1)) λp c=>RZ rfl (by
  left;rw[S1 f p c])]
 left;rw[iy _ (λ_=>true)];left;simp
def ka(b:∀x∈fs,C2 x=true)(h:qu fs xs)(c:xs.length<=6):gF [aB fs,aB xs]=.ok (.bool true):=by
 unfold gF;refine cA ?_;unfold pd bV;left;rw[z9 (λx a=>b x (h.mem x a)) h.up c];left;rw[if_pos ∅];rw[dE _ (λx:Str=>ay x) (λ_=>cr true) xs λx a=>fU rfl (by
  left;rw[jN,decide_eq_true (h.mem x a)];rfl)]
 left;rw[iy _ (λ_=>true)];left;simp
def yz(h:∀x∈xs,x∉ys)(b:xs.length<=6):dz [aB xs,aB ys]=.ok (.bool true):=by
 unfold dz;refine cA ?_;unfold kX bV;left;rw[if_pos ∅];rw[dE _ (λx:Str=>ay x) (λ_=>cr false) xs λx a=>fU rfl (by
  left;rw[jN,decide_eq_false (h x a)];rfl)]
 left;rw[iy _ (λ_=>false)];left;simp
def K4(b:l<=i)(a:i<=m):rA [.int i,.int l,.int m]=.ok (.bool true):=by
 unfold rA;refine cA ?_;unfold rz bV;left;rw[R_,YA];left;rw[R_,YB];left;rw[decide_eq_true b];left;rw[decide_eq_true a]
theorem vQ:∀(xs fs:List Str),xs.Nodup->(∀x∈xs,x∈fs)->xs.length<=fs.length
 |[],_,_,_=>cH _
 |x::r,fs,c,h=>by
  obtain⟨d,e⟩:=List.nodup_cons.mp c;have b:=h x aj;have:=vQ r (fs.erase x) e λy a=>(L6 λ(z:y=x)=>d (z ▸ a)).mpr (h y (af _ a));rw[FK b] at this;have:0<fs.length:=IN b
  rw[aZ];omega
def fV(h:qu fs xs)(a:fs.length<=6):xs.length<=6:=by
 exact ca (vQ xs fs (iK h.up) h.mem) a
def q1A(a b c d e f g:D):NB (mG 6 (cP (bO 2) (cP (bO 3) (cP (bO 4) (cP (bO 5) (cP (bO 6) (cP (bO 7) nP))))))) [Sl.shr a,Sl.shr (.tuple [b,c,d,e,f,g]),.no,.no,.no,.no,.no,.no] (.tuple [b,c,d,e,f,g])=.ok (.nx [Sl.shr a,Sl.shr (.tuple [b,c,d,e,f,g]),.shr b,.shr c,.shr d,.shr e,.shr f,.shr g]):=id rfl
def Hm(a:RT fs 6)(g:tw fs e):ph [aB fs,e_ e]=.ok (.bool true):=by
 have f:=fV g.needs a.len;have h:=fV g.bars a.len;have d:=fV g.makes a.len;have i:=fV g.ends a.len;unfold ph;refine cA ?_;unfold pf bV;left;rw[Mp];unfold e_;left;rw[B9];left;rw[lm];left;rw[show decide (((6:Nat):Int)=6)=true from rfl];left;rw[q1A]
 ·left;rw[DE g.name];left;rw[K4 g.p0 g.p9];left;have b:=dE (iG 1 [Sl.no,Sl.shr (aB fs)] kT (eA 2 gF (J.aa (rS 1) (J.aa (rS 0) J.aH)))) (λx:List Str=>aB x) (λ_=>cr true) [e.needs,e.bars,e.makes,e.ends] λx c=>fU rfl (by
   left;simp only[aT,br,or_false] at c;rcases c with z|z|z|z<;>rw[z]
   ·rw[ka a.ok g.needs f]
   ·rw[ka a.ok g.bars h]
   ·rw[ka a.ok g.makes d]
   ·rw[ka a.ok g.ends i])
  simp only[ar,dW] at b;rw[b];left;rw[show fm (λbs=>bs.all id) (.list [.bool true,.bool true,.bool true,.bool true])=.ok (.bool true) from rfl];left;rw[yz g.nb f];left;rw[yz g.me d];left
def S2(l:List Str)(b:l.Nodup):(dn [] l).length=l.length:=by
 have c:=vQ (dn [] l) l (jv l [] g6) λx a=>((jB l [] x).mp a).elim (λh=>nomatch h) id;have d:=vQ l (dn [] l) b λx a=>(jB l [] x).mpr (.inr a);omega
def O3(es:List gd)(c:es.length<=6)(a:(es.map (·.name)).Nodup)(s:Sl)(ρ:aE)(h:(s::ρ)[2]?=some (.shr (.tuple (es.map e_)))):xg (yq 1 [] (gE (rB 2)) kT (g2 (rB 0) (kI 0) aX)) (s::ρ)=.ok (.int (es.length:Nat)):=by
 have b:IR (s::ρ) 2=.ok (.tuple (es.map e_)):=by unfold IR;rw[h]
 unfold xg yq;rw[Y5,Ye,b];left;rw[if_pos ∅];rw[dE _ e_ (λe=>ay e.name) es λe he=>fU rfl (by
  left;rfl)]
 left;have:(es.map λe=>ay e.name)=(es.map (·.name)).map .str:=by rw[c9];rfl
 rw[this,strsOf_map];simp only[AI,S2 _ a,am]
def q1B(b c:D):NB (mG 2 (cP (bO 1) (cP (bO 2) nP))) [Sl.shr (.tuple [b,c]),.no,.no] (.tuple [b,c])=.ok (.nx [Sl.shr (.tuple [b,c]),.shr b,.shr c]):=id rfl
def O4(g:da fs es):uo [bA fs es]=.ok (.bool true):=by
 have b:=g.rise.len;have a:=g.len;unfold uo;refine cA ?_;unfold um bV;left;rw[Vh];unfold bA;left;rw[B9];left;rw[lm];left;rw[show decide (((2:Nat):Int)=2)=true from rfl];left;rw[q1B];left;rw[z9 g.rise.ok g.rise.up b];left;rw[decide_eq_false ∅];left;rw[WW,B9];left;rw[decide_eq_false ∅];left;rw[if_pos ∅];rw[dE _ e_ (λ_=>cr true) es λe he=>fU rfl (by
  left;rw[Hm g.rise (g.ok e he)])]
 left;rw[iy _ (λ_=>true)];left;rw[show((es.map λ_=>true).all id)=true by simp];left;rw[O3 es a g.nd _ _ rfl];left;rw[lm,decide_eq_true rfl];rfl
def K5(g:da fs es):uv [bA fs es]=.ok (bA fs es):=by
 unfold uv;refine cA ?_;unfold uu bV;left;rw[O4 g];left
theorem O5{a:Type}(c:a->D)(h:∀x,aR (c x) (c x)=true):∀xs:List a,cG (xs.map c) (xs.map c)=true
 |[]=>by simp[cG]
 |x::r=>by simp[cG,h x,O5 c h r]
theorem tx{a:Type}(c:a->D):∀xs:List a,(∀x∈xs,(c x).canLay0=true)->bW (xs.map c)=true
 |[],_=>rfl
 |x::r,h=>by
  have b:=h x aj;have e:=tx c r λy d=>h y (af _ d);simp only[ar,bW,b,e,qV]
theorem DF{a:Type}(c:a->D)(n:Nat)(h:∀x,(c x).depth<=n):∀xs:List a,mJ (xs.map c)<=n
 |[]=>by simp[mJ]
 |x::r=>by
  simp only[ar,mJ];exact Nat.max_le.mpr ⟨h x,DF c n h r⟩
def S3(a:ρ[i]?=some (Sl.own (.list ds)))(b:g ρ=.ok d)(c:ds.length<1000):AD i g ρ=.ok (.nx (ρ.set i (.own (.list (ds++[d]))))):=by
 unfold AD;simp only[a,b,bind_ok,if_pos c]
def S4(a:gt (.shr d::.shr d'::ρ)=.ok b)(c:b=true->ge (.shr d::.shr d'::ρ)=.ok y):iG 2 (s::s'::ρ) gt ge (.tuple [d,d'])=.ok (if b then some y else none):=by
 have e:iG 2 (s::s'::ρ) gt ge (.tuple [d,d'])=Ay ((gt (.shr d::.shr d'::ρ)).bind λb=>if b then(ge (.shr d::.shr d'::ρ)).bind λy=>.ok (some y) else .ok none):=id rfl;rw[e,a,bind_ok];cases b with
 |true=>rw[if_pos rfl,c rfl];rfl
 |false=>rfl
theorem DG:∀(xs:List Str) (n:Nat),(pG n xs).length=xs.length
 |[],_=>rfl
 |x::r,n=>by
  show(pG (n+1) r).length+1=r.length+1;rw[DG r]
def Vk(a:List Int)(k:Int)(c:0<=k)(fs:List Str)(d:fs.length<=6)(m:Int):∃ss:List Str,rG [.list (a.map .int),.int k,aB fs,.int m]=.ok (aB ss)/\ss.Sublist fs:=by
 refine⟨((pG 0 fs).filter λq=>decide (gK a (k+(q.1:Int)) 12<m)).map (·.2),?_,?_⟩
 ·unfold rG;refine cA ?_;unfold rF bV;left;rw[A8];left;rw[if_pos (by rw[DG];omega)];rw[dw _ cI (λq=>ay q.2) (λq=>decide (gK a (k+(q.1:Int)) 12<m)) (pG 0 fs) λq b=>S4 (by
   left;rw[hV a _ 12 ∅ ⋯];left) λ_=>rfl]
  left;rw[il];left;unfold aB;rw[c9];rfl
 ·have:=(ww (l:=pG 0 fs) (p:=λq=>decide (gK a (k+(q.1:Int)) 12<m))).map (·.2);rw[uA] at this;exact this
def K6(d:fs.Pairwise λa b=>sd a b=true)(h:xs.Sublist fs):qu fs xs:=⟨d.sublist h,λx c=>h.subset c⟩
structure pI (fs m b:List Str):Prop where
 must:qu fs m
 bars:qu fs b
 mb:∀x∈m,x∉b
abbrev eF(m b:List Str):D:=.tuple [aB m,aB b]
def Mq(p:List Str)(x:Str):p.map ay++[ay x]=(p++[x]).map .str:=by simp
def Vl(e:List Int)(k:Int)(I:0<=k)(fs:List Str)(o:fs.Pairwise λa b=>sd a b=true)(B:fs.length<=6):∃m b,vP [.list (e.map .int),.int k,aB fs]=.ok (eF m b)/\pI fs m b:=by
 have w:=iK o;suffices H:∃p q,n_ (bV 8 [.list (e.map .int),.int k,aB fs])=.ok (.rt (eF p q))/\qj fs p q by
  obtain⟨p,q,n,f⟩:=H;exact⟨p,q,cA n,K6 o f.sp,K6 o f.sq,f.d⟩
 unfold n_ bV;walk_at "yy";rw[AK (ds:=(pG 0 fs).map cI)]
 ·have H:=tq cI (λ(a:Unit) (_:Nat×Str)=>a) (λbu _ ρ=>∃c,c++bu.map (·.2)=fs/\∃p q,qj c p q/\∃s t j,ρ=[.shr (.list (e.map .int)),.shr (.int k),.shr (aB fs),.own (.list (p.map .str)),.own (.list (q.map .str)),s,t,j]) (kt:=mG 2 (cP (bO 5) (cP (bO 6) nP))) (gb:=aQ (fN 7 (eA 3 bJ (J.aa (rS 0) (J.aa (g2 (rB 1) (rB 5) fS) (J.aa (kI 8) J.aH))))) (fK (eQ (g2 (rB 7) (kI 2) JH)) (AD 3 (rS 6)) (fK (eQ (g2 (rB 7) (kI 2) (mF false))) (AD 4 (rS 6)) (λρ=>.ok (.nx ρ)))));obtain⟨A,n,c,f,p,q,g,s,t,j,y⟩:=H (by
   rintro⟨i,x⟩ bu _ ρ ⟨c,f,p,q,g,s,t,j,rfl⟩;have l:x∉c:=by
    rw[<- f,ar] at w;have:=(List.nodup_append.mp w).2.2;intro l;exact this x l x aj rfl
   have z:c.length<900:=by
    have:=congrArg jI f;rw[aI] at this;omega
   have E:=g.sp.length_le;have G:=g.sq.length_le;refine⟨[.shr (.list (e.map .int)),.shr (.int k),.shr (aB fs),.own (.list (p.map .str)),.own (.list (q.map .str)),.shr (.int (i:Nat)),.shr (.str x),j],?_⟩;by_cases u:gK e (k+(i:Nat)) 8<2
   ·refine⟨[.shr (.list (e.map .int)),.shr (.int k),.shr (aB fs),.own (.list ((p++[x]).map .str)),.own (.list (q.map .str)),.shr (.int (i:Nat)),.shr (.str x),.shr (.int (gK e (k+(i:Nat)) 8))],rfl,?_,c++[x],by rw[<- f];simp,_,_,g.left x l,_,_,_,rfl⟩;left;rw[hV e _ 8 ∅ ⋯];left;rw[decide_eq_true u];left;rw[<- Mq];exact S3 (ds:=p.map .str) rfl rfl (by rw[am];omega)
   ·by_cases v:gK e (k+(i:Nat)) 8=2
    ·refine⟨[.shr (.list (e.map .int)),.shr (.int k),.shr (aB fs),.own (.list (p.map .str)),.own (.list ((q++[x]).map .str)),.shr (.int (i:Nat)),.shr (.str x),.shr (.int (gK e (k+(i:Nat)) 8))],rfl,?_,c++[x],by rw[<- f];simp,_,_,g.right x l,_,_,_,rfl⟩;left;rw[hV e _ 8 ∅ ⋯];left;rw[decide_eq_false u];left;rw[lm];left;rw[decide_eq_true v];left;rw[<- Mq];exact S3 (ds:=q.map .str) rfl rfl (by rw[am];omega)
    ·refine⟨[.shr (.list (e.map .int)),.shr (.int k),.shr (aB fs),.own (.list (p.map .str)),.own (.list (q.map .str)),.shr (.int (i:Nat)),.shr (.str x),.shr (.int (gK e (k+(i:Nat)) 8))],rfl,?_,c++[x],by rw[<- f];simp,_,_,g.skip x,_,_,_,rfl⟩;left;rw[hV e _ 8 ∅ ⋯];left;rw[decide_eq_false u];left;rw[lm];left;rw[decide_eq_false v];left) (pG 0 fs) () [.shr (.list (e.map .int)),.shr (.int k),.shr (aB fs),.own (.list []),.own (.list []),.no,.no,.no] ⟨[],by rw[uA];rfl,[],[],⟨fR _,fR _,λ_ h=>nomatch h⟩,_,_,_,rfl⟩
  refine⟨p,q,?_,?_⟩
  ·rw[n,y];left;rw[il];left;rw[il];left
  ·simp only[dW,b_] at f;rw[<- f];exact g
 ·left;rw[A8]
def YC(j:Int)(b:0<=j)(a:j<2):∃m:Int,aX (.list [.int 2,.int 4]) (.int j)=.ok (.int m):=by
 have:j=0\/j=1:=by omega
 rcases this with h|h<;>subst h
 ·exact⟨2,rfl⟩
 ·exact⟨4,rfl⟩
def O6(fs:List Str)(es:List gd):aX (bA fs es) (.int 0)=.ok (aB fs):=id rfl
def K7(fs:List Str)(es:List gd):aX (bA fs es) (.int 1)=.ok (.tuple (es.map e_)):=id rfl
def Vm(a:List Int)(m n:Int)(d:0<=m)(f:m<=6)(e:0<=n)(g:n<=6):∃fs es ss c b,k9 [.list (a.map .int),.int m,.int n]=.ok (.tuple [bA fs es,aB ss,eF c b])/\da fs es/\qu fs ss/\pI fs c b/\fs.length<=m.toNat/\es.length<=n.toNat:=by
 obtain⟨fs,es,l,gb,i⟩:=Vg a 100 ⋯ m n d f e g;obtain⟨pt,h⟩:=YC (gK a 97 2) (i4 _ _ _ ⋯) (iX _ _ _ ⋯);obtain⟨ss,hs,k⟩:=Vk a 20 ⋯ fs gb.rise.len pt;obtain⟨c,b,j,o⟩:=Vl a 30 ⋯ fs gb.rise.up gb.rise.len;refine⟨fs,es,ss,c,b,?_,gb,K6 gb.rise.up k,o,i⟩;unfold k9;refine cA ?_;unfold rK bV;left;rw[l];left;rw[O6];left;rw[hV a 97 2 ⋯ ⋯];left;rw[h];left;rw[hs];left;rw[O6];left;rw[j];left
def xv(b:xs.length<=60):dz [aB xs,aB ys]=.ok (.bool (!xs.any λx=>decide (x∈ys))):=by
 unfold dz;refine cA ?_;unfold kX bV;left;rw[if_pos ∅];rw[dE _ (λx:Str=>ay x) (λx=>cr (decide (x∈ys))) xs λx a=>fU rfl (by
  left;rw[jN];rfl)]
 left;rw[iy _ (λx=>decide (x∈ys))];left;rw[j3];rfl
def q0G(a:Bool):Gp a .none .none=.ok (.bool (!a)):=by cases a<;>rfl
def Ho(e:gd):aX (e_ e) (.int 0)=.ok (.str e.name):=id rfl
def wI(h:xs[j]?=some v):aX (.list xs) (.int (j:Nat))=.ok v:=by
 have e:aX (.list xs) (.int (j:Nat))=JM (.list xs) (.int (j:Nat)):=rfl;rw[e];unfold JM;simp only[ua h]
def cB(st a b:List Str):Bool:=(a.all λx=>decide (x∈st)) && !b.any λx=>decide (x∈st)
def q0H(m b:List Str):aX (eF m b) (.int 0)=.ok (aB m):=id rfl
def Ba(h:g (bV n ds)=.ok (.nx ρ)):fL n g ds=.ok .none:=by unfold fL;rw[h]
def q0I(a x y:D):NB (mG 2 (cP (bO 2) (cP (bO 3) nP))) [Sl.shr a,.shr (.tuple [x,y]),.no,.no] (.tuple [x,y])=.ok (.nx [.shr a,.shr (.tuple [x,y]),.shr x,.shr y]):=id rfl
def vR(c:a.length<=60)(f:b.length<=60):nB [aB st,eF a b]=.ok (.bool (cB st a b)):=by
 unfold nB;refine cA ?_;unfold ut bV eF;left;rw[q0I];left;rw[if_pos ∅];rw[dE _ (λx:Str=>ay x) (λx=>cr (decide (x∈st))) a λx d=>fU rfl (by
  left;rw[jN];rfl)]
 left;rw[iy _ (λx=>decide (x∈st))];left;rw[xv ∅];unfold cB;rw[oF];have e:(id∘λx=>decide (x∈st))=λx=>decide (x∈st):=rfl;rw[e];cases(a.all λx=>decide (x∈st))<;>rfl
def O7(g:da fs es)(h:qu fs ss):lX [bA fs es,aB ss]=.ok .none:=by
 unfold lX;refine Ba (ρ:=[.shr (bA fs es),.shr (aB ss)]) ?_;unfold lW bV;left;rw[O6];left;rw[ka g.rise.ok h (fV h g.rise.len)];left
def xw(g:da fs es)(h:qu fs ss):fi [bA fs es,aB ss]=.ok .none:=by
 unfold fi;refine Ba (ρ:=[.shr (bA fs es),.shr (aB ss)]) ?_;unfold lY bV;left;rw[K5 g];left;rw[O7 g h];left
def S5(n:oO (.tuple [x,y])=true)(a:gF [aB fs,x]=.ok (.bool p))(b:p=true->gF [aB fs,y]=.ok (.bool q))(hs:p=true->q=true->dz [x,y]=.ok (.bool r)):ur [bA fs es,.tuple [x,y]]=.ok (.bool (p&&(q&&r))):=by
 unfold ur;refine cA ?_;unfold uq bV;left;rw[n,B9];left;rw[lm];left;rw[show decide (((2:Nat):Int)=2)=true from rfl];left;rw[q0I];left;rw[O6];left;rw[a];cases p with
 |false=>rfl
 |true=>
  left;rw[O6];left;rw[b rfl];cases q with
  |false=>rfl
  |true=>
   left;rw[hs rfl rfl];cases r<;>rfl
def S6(g:da fs es)(h:pI fs m b):mX [bA fs es,eF m b]=.ok .none:=by
 have n:oO (eF m b)=true:=by
  have:oO (eF m b)=(oO (aB m)&&(oO (aB b)&&true)):=rfl
  rw[this,pH,pH];rfl
 have a:=fV h.must g.rise.len;have c:=fV h.bars g.rise.len;unfold mX;refine Ba (ρ:=[.shr (bA fs es),.shr (eF m b)]) ?_;unfold mW bV;left;rw[S5 n (ka g.rise.ok h.must a) (λ_=>ka g.rise.ok h.bars c) (λ_ _=>yz h.mb a)];left;rfl
def F3(g:da fs es)(h:qu fs ss)(w:pI fs m b):ko [bA fs es,aB ss,eF m b]=.ok .none:=by
 unfold ko;refine Ba (ρ:=[.shr (bA fs es),.shr (aB ss),.shr (eF m b)]) ?_;unfold pj bV;left;rw[xw g h];left;rw[S6 g w];left
structure S7 (e:gd):Prop where
 needs:e.needs.length<=6
 bars:e.bars.length<=6
 makes:e.makes.length<=6
 ends:e.ends.length<=6
def Bb(g:da fs es)(he:e∈es):S7 e:=
 ⟨fV (g.ok e he).needs g.rise.len,fV (g.ok e he).bars g.rise.len,fV (g.ok e he).makes g.rise.len,fV (g.ok e he).ends g.rise.len⟩
def q1C(e:gd):aX (e_ e) (.int 1)=.ok (aB e.needs):=id rfl
def q1D(e:gd):aX (e_ e) (.int 2)=.ok (aB e.bars):=id rfl
def S8:∀{a b:List Str},(a.Pairwise λx y=>sd x y=true)->(b.Pairwise λx y=>sd x y=true)->(∀x,x∈a↔x∈b)->a=b:=by
 intro a b c d h;have e:=iK c;have g:=iK d;have p:a.Perm b:=(oW e g).mpr h;exact p.eq_of_pairwise (λx y _ _ f i=>by
  have:=ud f i;rw[vB] at this;cases this) c d
def bK(e:gd)(st:List Str):List Str:=srt ((st.filter λx=>!decide (x∈e.ends))++e.makes)
def o6:x∈bK e st↔(x∈st/\x∉e.ends)\/x∈e.makes:=by
 unfold bK;rw[n6];simp[aS]
def q0J(a gb:aE->R (List Str))(s:Sl)(ρ:aE)(b:a (s::ρ)=.ok xs)(d:gb (s::ρ)=.ok ys)(c:xs.length+ys.length<=15):R9 a gb (s::ρ)=.ok (dn xs ys):=by
 unfold R9 J.Y7;rw[b,bind_ok,d,bind_ok,if_pos c]
def DH(ss:List Str)(h:ss.length<60):vG (aB ss)=.ok (dn [] ss):=by
 have e:∀ds,vG (.tuple ds)=match eU ds with
  |some ss=>if ss.length<60 then .ok (dn [] ss) else .no
  |none=>.no:=λ_=>rfl
 rw[e,strsOf_map];simp only[if_pos h]
def YD(xs ys:List Str):jU (dn (dn [] xs) (dn [] ys))=srt (xs++ys):=by
 refine S8 (yk (sR _) ((iS _).nodup_iff.mpr (jv _ _ (jv _ [] g6)))) (EZ _) λx=>?_;rw[(iS _).mem_iff,jB,jB,jB,n6,bD];simp
def O8(h:xs.length+ys.length<=12):xo [aB xs,aB ys]=.ok (aB (srt (xs++ys))):=by
 have b:=gy xs [];have a:=gy ys [];simp only[dH] at b a;have c:=gy (dn [] ys) (dn [] xs);unfold xo;refine cA ?_;unfold xn bV;left;rw[yy,q0J _ _ _ _ (DH xs ∅) (DH ys ∅) ∅];left;rw[B8 _ ∅,YD];left;rw[il];left
def Bc(h:xs.length<=60):nA [aB xs,aB ys]=.ok (aB (xs.filter λx=>!decide (x∈ys))):=by
 unfold nA;refine cA ?_;unfold uk bV;left;rw[if_pos ∅];rw[dw _ (λx:Str=>ay x) (λx=>ay x) (λx=>!decide (x∈ys)) xs λx a=>jC (by
  left;rw[jN];rfl) λ_=>rfl]
 left;rw[il];left
def q0K(h:gs (s::ρ)=.ok [d,e]):Ra i j gs (s::ρ)=.ok (.nx (((s::ρ).set i (.shr d)).set j (.shr e))):=by
 unfold Ra;rw[h];rfl
def O9(he:S7 e)(hs:st.length<=6):kZ [e_ e,aB st]=.ok (aB (bK e st)):=by
 have:=he.makes;have a:(st.filter λx=>!decide (x∈e.ends)).length<=st.length:=cD _ _;unfold kZ;refine cA ?_;unfold kY bV;left;rw[q0K (d:=aB e.makes) (e:=aB e.ends) rfl];left;rw[Bc ∅];left;rw[O8 ∅];rfl
def DI(he:S7 e):mj [e_ e,aB st]=.ok (.bool (cB st e.needs e.bars)):=by
 have:=he.needs;have:=he.bars;unfold mj;refine cA ?_;unfold pi bV;left;rw[q1C];left;rw[q1D];left;rw[vR ∅ ∅];left
structure Row (es rs:List gd):Prop where
 mem:∀e∈rs,e∈es
 len:rs.length<=80
abbrev vS(a:List gd):D:=.list (a.map λe=>ay e.name)
def Mr(a:kt d ρ=.ok ρ1)(b:gb ρ1=.ok (.nx ρ2)):k7 kt gb (d::r) ρ=k7 kt gb r ρ2:=by
 rw[k7,a];simp only[b]
def nD:cB st a b=true↔(∀x∈a,x∈st)/\∀x∈b,x∉st:=by
 unfold cB;simp only[aU,bY,decide_eq_true_eq,yU,dU]
def YE(fs:List Str):List (List Str):=fs.foldl (λa f=>a++a.map (·++[f])) [[]]
def YF(h:ρ[i]?=some (Sl.shr d)):sf i kt gb ρ=qf (gE λρ=>IQ ρ i) kt gb ρ:=by
 unfold sf;rw[h]
theorem F4:∀(fs:List Str) (a:List (List Str)) (t u:List Str),t∈a->u.Sublist fs->t++u∈fs.foldl (λa f=>a++a.map (·++[f])) a
 |[],a,t,u,b,c=>by
  cases c;rw[b_];exact b
 |f::r,a,t,u,b,c=>by
  rw[eh];cases c with
  |cons _ h=>exact F4 r _ t u (bF _ b) h
  |cons_cons _ h=>
   rename_i d
   have:=F4 r (a++a.map (·++[f])) (t++[f]) d (aA _ (bZ b)) h
   rwa[fz] at this
def S9(c:fs.Pairwise λa b=>sd a b=true)(h:qu fs xs):xs.Sublist fs:=by
 have e:xs=fs.filter λx=>decide (x∈xs):=S8 h.up (c.sublist ww) λx=>by
  rw[aS,decide_eq_true_eq];exact⟨λz=>⟨h.mem x z,z⟩,λz=>z.2⟩
 rw[e];exact ww
def Sc(c:fs.Pairwise λa b=>sd a b=true)(h:qu fs xs):xs∈YE fs:=F4 fs [[]] [] xs (List.mem_singleton.mpr rfl) (S9 c h)
def mH:List gd->List Str->Option (List Str)
 |[],st=>some st
 |e::r,st=>if cB st e.needs e.bars then mH r (bK e st) else none
def K8(d:fs.Pairwise λa b=>sd a b=true)(g:tw fs e)(h:qu fs st):qu fs (bK e st):=by
 refine⟨EZ _,λx c=>?_⟩;rcases o6.mp c with z|z
 ·exact h.mem x z.1
 ·exact g.makes.mem x z
def fh(l:List (List Str×D)):List (D×D):=l.map λp=>(aB p.1,p.2)
abbrev o7(l:List (List Str×D)):List (List Str):=l.map (·.1)
def K9(x:List Str):aB x=tD (x.map j5):=by
 unfold aB tD;rw[c9];rfl
def o8(x:List Str):sg (aB x)=some (x.map j5):=by rw[K9,Rf]
def Vn{a b:List Str}(h:a.map (j5:Str->gY)=b.map j5):a=b:=by
 induction a generalizing b with
 |nil=>cases b with|nil=>rfl|cons _ _=>cases h
 |cons x r c=>
  cases b with
  |nil=>cases h
  |cons y t=>
   simp only[ar,y8] at h;rw[c h.2,Sum.inr.inj h.1]
def Sd(x y:List Str):aR (aB x) (aB y)=decide (x=y):=by
 rw[K9,K9,EH];by_cases h:x=y
 ·rw[h];simp
 ·rw[decide_eq_false h,decide_eq_false λz=>h (Vn z)]
def Hq(l:List (List Str×D)):LQ (fh l)=fh l:=by cases l<;>rfl
def rL(h:l≠[]):kQ (fh l)=true:=by
 have b:((fh l).all λa=>(sg a.1).isSome)=true:=by
  unfold fh;rw[oF,bY];intro p _;show(sg (aB p.1)).isSome=true;rw[o8];rfl
 unfold kQ;rw[b];cases l with
 |nil=>exact(h rfl).elim
 |cons _ _=>rfl
theorem yA(x:List Str):∀l:List (List Str×D),iH (fh l) (aB x)=(l.find? λp=>decide (p.1=x)).map (·.2)
 |[]=>rfl
 |p::r=>by
  have a:=yA x r;unfold iH fh at a ⊢;rw[ar,bM,bM,Sd];by_cases h:p.1=x
  ·rw[decide_eq_true h];rfl
  ·rw[decide_eq_false h];exact a
def Se(c:(o7 l).Nodup)(a:p∈l):(l.find? λq=>decide (q.1=p.1))=some p:=by
 induction l with
 |nil=>cases a
 |cons q r b=>
  obtain⟨d,e⟩:=List.nodup_cons.mp c;rw[bM];rcases List.mem_cons.mp a with h|h
  ·subst h;simp
  ·have:q.1≠p.1:=λz=>d (by show q.1∈_;rw[z];exact bZ h)
   rw[decide_eq_false this];exact b e h
def Oa{a:Type}{l:List a}{x:a}(h:x∈l):l≠[]:=λz=>by rw[z] at h;cases h
def Sf(c:LQ ds=fh l)(b:(o7 l).Nodup)(a:p∈l):IU (.dict ds) (aB p.1)=.ok p.2:=by
 unfold IU;simp only[o8,c];rw[if_pos (rL (Oa a)),yA,Se b a];rfl
def Vo(a:(o7 l).Nodup)(b:p∈l):IU (.dict (fh l)) (aB p.1)=.ok p.2:=Sf (Hq l) a b
def Sg(a:(o7 l).Nodup)(b:p∈l):IU (.dict ((.none,.none)::fh l)) (aB p.1)=.ok p.2:=Sf rfl a b
theorem DJ(x:List Str):∀l:List (List Str×D),((l.find? λp=>decide (p.1=x)).map (·.2)).isSome=decide (x∈o7 l)
 |[]=>by simp
 |p::r=>by
  rw[bM];by_cases h:p.1=x
  ·rw[decide_eq_true h];simp[h]
  ·rw[decide_eq_false h];simp only;rw[DJ x r];simp[dm h]
def Vp(h:l≠[])(x:List Str):Yb true (aB x) (.dict (fh l))=.ok (.bool (!decide (x∈o7 l))):=by
 unfold Yb;simp only[o8,Hq];rw[if_pos (rL h),yA,DJ];rfl
def Hr(l:List (List Str×D)):EJ (.dict ((.none,.none)::fh l))=.ok ((o7 l).map aB):=by
 show R.ok ((fh l).map (·.1))=_;unfold fh o7;rw[c9,c9];rfl
def Vq(h:x∉o7 l)(d:D):t4 (fh l) (aB x) d=fh (l++[(x,d)]):=by
 have e:((fh l).any λb=>aR b.1 (aB x))=false:=by
  unfold fh;rw[j3,dU];intro p a;show ¬aR (aB p.1) (aB x)=true;rw[Sd,decide_eq_true_eq];exact λz=>h (by rw[<- z];exact bZ a)
 unfold t4;rw[e,if_neg ba];unfold fh;rw[c6];rfl
def YG(f:ρ[i]?=some (Sl.own (.dict (fh l))))(h:g ρ=.ok d)(c:gk ρ=.ok (aB x))(b:l≠[])(m:l.length<1000)(j:x∉o7 l):yY i gk g ρ=.ok (.nx (ρ.set i (.own (.dict (fh (l++[(x,d)])))))):=by
 have a:(fh l).length<1000:=by unfold fh;rw[am];exact m
 have e:yY i gk g ρ=(g ρ).bind λd=>(gk ρ).bind λk=>match sg k with
  |some _=>if(fh l).length<1000/\kQ (fh l)=true then .ok (.nx (ρ.set i (.own (.dict (t4 (fh l) k d))))) else .no
  |none=>.no:=by
  unfold yY;simp only[f];try rfl
 rw[e,h,AI,c,AI];simp only[o8,if_pos (ir a (rL b)),Vq j]
def q1E(a:l≠[])(h:ρ[i]?=some (Sl.own (.dict (fh l)))):gFz i g ρ=g (ρ.set i (.own (.dict ((.none,.none)::fh l)))):=by
 unfold gFz;congr 1;unfold mi;rw[h];cases l with
 |nil=>exact(a rfl).elim
 |cons p r=>rfl
def q1F(a:gk (s::ρ)=.ok (aB x))(b:gv (s::ρ)=.ok d):Y_ gk gv (s::ρ)=.ok (.dict (fh [(x,d)])):=by
 unfold Y_;rw[a,bind_ok,b,bind_ok];simp only[o8];rfl
def Sh(h:g (s::ρ)=.ok (.list ds)):vK g (s::ρ)=.ok (!ds.isEmpty):=by
 unfold vK;rw[h,bind_ok]
def WX(g:aE->R D)(s:Sl)(ρ:aE):Rh g (s::ρ)=(g (s::ρ)).bind EJ:=id rfl
theorem Ht{b:Type}[DecidableEq b]:∀{l m:List b},l.Nodup->(∀x∈l,x∈m)->l.length<=m.length
 |[],_,_,_=>cH _
 |x::r,m,d,h=>by
  obtain⟨e,f⟩:=List.nodup_cons.mp d;have c:=h x aj;have:=Ht (l:=r) (m:=m.erase x) f λy a=>(L6 λz=>e (by rw[<- z];exact a)).mpr (h y (af _ a));rw[FK c] at this;have:=IN c;simp only[aZ];omega
theorem Hu:∀(fs:List Str) (a:List (List Str)),(fs.foldl (λa f=>a++a.map (·++[f])) a).length=a.length*2 ^ fs.length
 |[],a=>by simp
 |f::r,a=>by
  rw[eh,Hu r,aI,am,aZ,Nat.pow_succ,<- Nat.two_mul,Jc 2,Nat.mul_assoc,Jc 2]
def Vr(h:fs.length<=6):(YE fs).length<=64:=by
 unfold YE;rw[Hu];have:2 ^ fs.length<=2 ^ 6:=Nat.pow_le_pow_right ⋯ h
 simp only[aZ,dH];omega
def Si(a:RT fs 6)(c:(o7 l).Nodup)(h:∀x∈o7 l,qu fs x):l.length<=64:=by
 have:=Ht c λx b=>Sc a.up (h x b);rw[am] at this;exact ca this (Vr a.len)
def Ms(es:List gd)(st x:List Str):Prop:=∃a:List gd,(∀e∈a,e∈es)/\mH a st=some x
theorem Be(e:gd):∀(b:List gd) (st x:List Str),mH b st=some x->cB x e.needs e.bars=true->mH (b++[e]) st=some (bK e x)
 |[],st,x,h,g=>by cases h;show(if cB st e.needs e.bars then mH [] (bK e st) else none)=_;rw[g];rfl
 |a::r,st,x,h,g=>by
  show(if cB st a.needs a.bars then mH (r++[e]) (bK a st) else none)=_;have h':(if cB st a.needs a.bars then mH r (bK a st) else none)=some x:=h;split at h'
  ·rename_i c
   rw[if_pos c];exact Be e r _ _ h' g
  ·cases h'
theorem Bf{es:List gd}{M:List Str->Prop}(c:∀x,M x->∀e∈es,cB x e.needs e.bars=true->M (bK e x)):∀(d:List gd) (st x:List Str),M st->(∀e∈d,e∈es)->mH d st=some x->M x
 |[],st,x,b,_,h=>by cases h;exact b
 |a::r,st,x,b,he,h=>by
  have h':(if cB st a.needs a.bars then mH r (bK a st) else none)=some x:=h;split at h'
  ·rename_i f
   exact Bf c r _ _ (c st b a (he a aj) f) (λe h=>he e (af _ h)) h'
  ·cases h'
def Sj(g:da fs es)(hs:qu fs st):l5 [bA fs es,aB st]=.ok (.list ((es.filter λe=>cB st e.needs e.bars).map λe=>ft [e_ e,aB (bK e st)])):=by
 have a:=fV hs g.rise.len;have b:=g.len;unfold l5;refine cA ?_;unfold mZ bV;left;rw[K7];left;rw[if_pos ∅];rw[dw _ e_ (λe=>ft [e_ e,aB (bK e st)]) (λe=>cB st e.needs e.bars) es λe he=>jC (by
  left;rw[DI (Bb g he)];left) λ_=>(by
  left;rw[O9 (Bb g he) a];left)]
 left
abbrev LZ:=List (List Str×List gd)
def im(l:LZ):List (List Str×D):=l.map λp=>(p.1,vS p.2)
structure oQ (fs st:List Str) (es:List gd) (l:LZ):Prop where
 nd:(l.map (·.1)).Nodup
 beg:(st,[])∈l
 sub:∀p∈l,qu fs p.1
 row:∀p∈l,(∀e∈p.2,e∈es)/\mH p.2 st=some p.1/\p.2.length<l.length
def j4(l:LZ):o7 (im l)=l.map (·.1):=by
 unfold o7 im;rw[c9];rfl
def oQ.ne(h:oQ fs st es l):im l≠[]:=by
 intro z;have:=List.map_eq_nil_iff.mp z;have a:=h.beg;rw[this] at a;cases a
def oQ.few(g:da fs es)(h:oQ fs st es l):l.length<=64:=by
 have:=Si g.rise (l:=im l) (by rw[j4];exact h.nd) λx a=>by
  rw[j4] at a;obtain⟨p,b,rfl⟩:=List.mem_map.mp a;exact h.sub p b
 unfold im at this;rw[am] at this;exact this
def ja(at0:List Str)(row:List gd)(b:LZ×List (List Str))(e:gd):LZ×List (List Str):=
 if bK e at0∈b.1.map (·.1) then b else(b.1++[(bK e at0,row++[e])],b.2++[bK e at0])
def YH(g:da fs es)(h:oQ fs st es b.1)(c:(at0,row)∈b.1)(he:e∈es)(n:cB at0 e.needs e.bars=true):oQ fs st es (ja at0 row b e).1:=by
 unfold ja;split
 ·exact h
 ·rename_i d
  obtain⟨f,k,l⟩:=h.row _ c;refine⟨?_,bF _ h.beg,λp a=>?_,λp a=>?_⟩
  ·rw[c6];exact Eh h.nd d
  ·rcases List.mem_append.mp a with z|z
   ·exact h.sub p z
   ·rw[List.mem_singleton.mp z];exact K8 g.rise.up (g.ok e he) (h.sub _ c)
  ·rw[aI,eN];rcases List.mem_append.mp a with z|z
   ·obtain⟨j,i,o⟩:=h.row p z;exact⟨j,i,by omega⟩
   ·rw[List.mem_singleton.mp z];refine⟨λx m=>?_,Be e _ _ _ k n,?_⟩
    ·rcases List.mem_append.mp m with y|y
     ·exact f x y
     ·rw[List.mem_singleton.mp y];exact he
    ·show(row++[e]).length<b.1.length+1;rw[aI,eN];have:row.length<b.1.length:=l
     omega
def Hv(at0:List Str)(row:List gd)(b:LZ×List (List Str))(e:gd):(∀p∈b.1,p∈(ja at0 row b e).1)/\bK e at0∈(ja at0 row b e).1.map (·.1)/\(∀x∈(ja at0 row b e).1.map (·.1),x∈b.1.map (·.1)\/x∈(ja at0 row b e).2)/\(∀x∈b.2,x∈(ja at0 row b e).2)/\(∀x∈(ja at0 row b e).2,x∈b.2\/x∈(ja at0 row b e).1.map (·.1))/\b.1.length+(ja at0 row b e).2.length=(ja at0 row b e).1.length+b.2.length:=by
 unfold ja;split
 ·rename_i h
  exact⟨λ_ h=>h,h,λ_ h=>.inl h,λ_ h=>h,λ_ h=>.inl h,rfl⟩
 ·refine⟨λp c=>bF _ c,?_,λx a=>?_,λx a=>bF _ a,λx a=>?_,?_⟩
  ·rw[c6];exact aA _ aj
  ·rw[c6] at a;rcases List.mem_append.mp a with z|z
   ·exact .inl z
   ·exact .inr (aA _ z)
  ·rcases List.mem_append.mp a with z|z
   ·exact .inl z
   ·rw[c6];exact .inr (aA _ z)
  ·simp only[aI,eN];omega
def inB:aE->R Fl:=(fK (eQ (g2 (rB 7) (rB 2) (Yb true))) (aQ (yY 2 (rS 7) (g2 (g2 (rB 2) (rB 5) IU) (eZ (J.aa (g2 (rB 6) (kI 0) aX) J.aH) .list) fS)) (AD 4 (rS 7))) (λρ=>.ok (.nx ρ)))
def Ob:aE->R Fl:=qf (gE (eA 2 l5 (J.aa (rS 0) (J.aa (rS 5) J.aH)))) (mG 2 (cP (bO 6) (cP (bO 7) nP))) inB
def bfB:aE->R Fl:=aQ (fD 4 (eZ J.aH .list)) (aQ (sf 3 (bO 5) Ob) (NA 4 (fN 3 (rS 4))))
def Sk:m_=aQ (fD 2 (Y_ (rS 1) (eZ J.aH .list))) (aQ (fD 3 (eZ (J.aa (rS 1) J.aH) .list)) (aQ (hU (vK (rB 3)) bfB 100000) (gFz 2 (dv (rS 2))))):=rfl
def Bg(h:p∈l):(p.1,vS p.2)∈im l:=bZ (f:=λp:List Str×List gd=>(p.1,vS p.2)) h
def YI(h:oQ fs st es l)(a:(at0,row)∈l):IU (.dict (fh (im l))) (aB at0)=.ok (vS row):=by
 have:=Vo (l:=im l) (by rw[j4];exact h.nd) (Bg a);exact this
def Sn(l:LZ)(x:List Str)(r:List gd):im (l++[(x,r)])=im l++[(x,vS r)]:=by
 unfold im;rw[c6];rfl
def Vs(g:da fs es)(B S:D)(f m n:Sl)(h:oQ fs st es b.1)(c:(at0,row)∈b.1)(k:b.2.length<=b.1.length):
  inB [.shr B,.shr S,.own (.dict (fh (im b.1))),f,.own (.list (b.2.map aB)),.shr (aB at0),.shr (e_ e),.shr (aB (bK e at0))]=.ok (.nx [.shr B,.shr S,.own (.dict (fh (im (ja at0 row b e).1))),f,.own (.list ((ja at0 row b e).2.map aB)),.shr (aB at0),.shr (e_ e),.shr (aB (bK e at0))]):=by
 have few:=h.few g;have i:=(h.row _ c).2.2;have j:row.length<b.1.length:=i;unfold inB;left;rw[Vp h.ne,j4];unfold ja;by_cases a:bK e at0∈b.1.map (·.1)
 ·rw[if_pos a,decide_eq_true a];left
 ·rw[if_neg a,decide_eq_false a];left;rw[YG (l:=im b.1) (x:=bK e at0) (d:=vS (row++[e])) rfl ?_ rfl h.ne (by unfold im;rw[am];omega) (by rw[j4];exact a)]
  ·left;rw[S3 (ds:=b.2.map aB) (d:=aB (bK e at0)) rfl rfl (by rw[am];omega),Sn,c6];rfl
  ·left;rw[YI h c];left;rw[Ho];left;rw[if_pos ∅];simp only[vS,c6];rfl
theorem Hw{fs st at0:List Str}{es:List gd}{row:List gd}:∀(xs:List gd) (b:LZ×List (List Str)),(∀p∈b.1,p∈(xs.foldl (ja at0 row) b).1)/\(∀e∈xs,bK e at0∈(xs.foldl (ja at0 row) b).1.map (·.1))/\(∀x∈(xs.foldl (ja at0 row) b).1.map (·.1),x∈b.1.map (·.1)\/x∈(xs.foldl (ja at0 row) b).2)/\(∀x∈b.2,x∈(xs.foldl (ja at0 row) b).2)/\(∀x∈(xs.foldl (ja at0 row) b).2,x∈b.2\/x∈(xs.foldl (ja at0 row) b).1.map (·.1))/\b.1.length+(xs.foldl (ja at0 row) b).2.length=(xs.foldl (ja at0 row) b).1.length+b.2.length
 |[],b=>⟨λ_ h=>h,λ_ h=>(nomatch h),λ_ h=>.inl h,λ_ h=>h,λ_ h=>.inl h,rfl⟩
 |e::r,b=>by
  obtain⟨g,j,f,k,i,l⟩:=Hv at0 row b e;obtain⟨b1,b2,b3,b4,b5,m⟩:=Hw (fs:=fs) (st:=st) (es:=es) r (ja at0 row b e);rw[eh];have d:∀x∈(ja at0 row b e).1.map (·.1),x∈(r.foldl (ja at0 row) (ja at0 row b e)).1.map (·.1):=λx a=>by
   obtain⟨p,c,rfl⟩:=List.mem_map.mp a;exact bZ (b1 p c)
  refine⟨λp c=>b1 p (g p c),λx a=>?_,λx a=>?_,λx a=>b4 x (k x a),λx a=>?_,by omega⟩
  ·rcases List.mem_cons.mp a with z|z
   ·rw[z];exact d _ j
   ·exact b2 x z
  ·rcases b3 x a with z|z
   ·rcases f x z with y|y
    ·exact .inl y
    ·exact .inr (b4 x y)
   ·exact .inr z
  ·rcases b5 x a with z|z
   ·rcases i x z with y|y
    ·exact .inl y
    ·exact .inr (d x y)
   ·exact .inr z
def YJ(g:da fs es)(B S:D)(a c d:Sl)(h:oQ fs st es b.1)(i:(at0,row)∈b.1)(n:b.2.length<=b.1.length)(xs:List gd)(k:∀e∈xs,e∈es/\cB at0 e.needs e.bars=true):
  oQ fs st es (xs.foldl (ja at0 row) b).1/\∃f j,k7 (mG 2 (cP (bO 6) (cP (bO 7) nP))) inB (xs.map λe=>ft [e_ e,aB (bK e at0)]) [.shr B,.shr S,.own (.dict (fh (im b.1))),a,.own (.list (b.2.map aB)),.shr (aB at0),c,d]=.ok (.nx [.shr B,.shr S,.own (.dict (fh (im (xs.foldl (ja at0 row) b).1))),a,.own (.list ((xs.foldl (ja at0 row) b).2.map aB)),.shr (aB at0),f,j]):=by
 induction xs generalizing b c d with
 |nil=>exact⟨h,c,d,rfl⟩
 |cons e r l=>
  obtain⟨he,q⟩:=k e aj;obtain⟨m,v,s,w,u,t⟩:=Hv at0 row b e;have h':=YH g h i he q;obtain⟨o,f,j,p⟩:=l (.shr (e_ e)) (.shr (aB (bK e at0))) h' (m _ i) ∅ λx z=>k x (af _ z);refine⟨o,f,j,?_⟩;rw[ar,Mr (ρ1:=[.shr B,.shr S,.own (.dict (fh (im b.1))),a,.own (.list (b.2.map aB)),.shr (aB at0),.shr (e_ e),.shr (aB (bK e at0))]) rfl (Vs g B S a c d h i n)];exact p
def rM(l:LZ)(x:List Str):List gd:=((l.find? λp=>decide (p.1=x)).map (·.2)).getD []
def xx(h:x∈l.map (·.1)):(x,rM l x)∈l:=by
 unfold rM;induction l with
 |nil=>cases h
 |cons p r b=>
  rw[bM];by_cases a:p.1=x
  ·rw[decide_eq_true a];subst a;exact aj
  ·rw[decide_eq_false a];rcases List.mem_cons.mp h with z|z
   ·exact(a z.symm).elim
   ·exact af _ (b z)
def og(es:List gd)(b:LZ×List (List Str))(x:List Str):LZ×List (List Str):=(es.filter λe=>cB x e.needs e.bars).foldl (ja x (rM b.1 x)) b
def So(g:da fs es)(S:D)(c j i:Sl)(h:oQ fs st es b.1)(l:at0∈b.1.map (·.1))(n:b.2.length<=b.1.length):
  oQ fs st es (og es b at0).1/\∃a d,Ob [.shr (bA fs es),.shr S,.own (.dict (fh (im b.1))),c,.own (.list (b.2.map aB)),.shr (aB at0),j,i]=.ok (.nx [.shr (bA fs es),.shr S,.own (.dict (fh (im (og es b at0).1))),c,.own (.list ((og es b at0).2.map aB)),.shr (aB at0),a,d]):=by
 have f:=xx l;obtain⟨k,a,d,m⟩:=YJ g (bA fs es) S c j i h f n (es.filter λe=>cB at0 e.needs e.bars) λe he=>List.mem_filter.mp he;refine⟨k,a,d,?_⟩;unfold Ob;rw[AK (ds:=(es.filter λe=>cB at0 e.needs e.bars).map λe=>ft [e_ e,aB (bK e at0)])]
 ·exact m
 ·left;rw[Sj g (h.sub _ f)];left
def Mt(es:List gd)(b:LZ×List (List Str))(x:List Str):(∀p∈b.1,p∈(og es b x).1)/\(∀e∈es,cB x e.needs e.bars=true->bK e x∈(og es b x).1.map (·.1))/\(∀y∈(og es b x).1.map (·.1),y∈b.1.map (·.1)\/y∈(og es b x).2)/\(∀y∈b.2,y∈(og es b x).2)/\(∀y∈(og es b x).2,y∈b.2\/y∈(og es b x).1.map (·.1))/\b.1.length+(og es b x).2.length=(og es b x).1.length+b.2.length:=by
 obtain⟨b1,b2,b3,b4,b5,c⟩:=Hw (fs:=[]) (st:=[]) (es:=es) (at0:=x) (row:=rM b.1 x) (es.filter λe=>cB x e.needs e.bars) b;exact⟨b1,λe he a=>b2 e (List.mem_filter.mpr ⟨he,a⟩),b3,b4,b5,c⟩
theorem yB(es:List gd):∀(ring:List (List Str)) (b:LZ×List (List Str)),(∀p∈b.1,p∈(ring.foldl (og es) b).1)/\(∀x∈ring,∀e∈es,cB x e.needs e.bars=true->bK e x∈(ring.foldl (og es) b).1.map (·.1))/\(∀y∈(ring.foldl (og es) b).1.map (·.1),y∈b.1.map (·.1)\/y∈(ring.foldl (og es) b).2)/\(∀y∈b.2,y∈(ring.foldl (og es) b).2)/\(∀y∈(ring.foldl (og es) b).2,y∈b.2\/y∈(ring.foldl (og es) b).1.map (·.1))/\b.1.length+(ring.foldl (og es) b).2.length=(ring.foldl (og es) b).1.length+b.2.length
 |[],b=>⟨λ_ h=>h,λ_ h=>(nomatch h),λ_ h=>.inl h,λ_ h=>h,λ_ h=>.inl h,rfl⟩
 |x::r,b=>by
  obtain⟨i,k,g,l,j,m⟩:=Mt es b x;obtain⟨b1,b2,b3,b4,b5,n⟩:=yB es r (og es b x);rw[eh];have d:∀y∈(og es b x).1.map (·.1),y∈(r.foldl (og es) (og es b x)).1.map (·.1):=λy a=>by
   obtain⟨p,c,rfl⟩:=List.mem_map.mp a;exact bZ (b1 p c)
  refine⟨λp c=>b1 p (i p c),λy a e he f=>?_,λy a=>?_,λy a=>b4 y (l y a),λy a=>?_,by omega⟩
  ·rcases List.mem_cons.mp a with z|z
   ·subst z;exact d _ (k e he f)
   ·exact b2 y z e he f
  ·rcases b3 y a with z|z
   ·rcases g y z with w|w
    ·exact .inl w
    ·exact .inr (b4 y w)
   ·exact .inr z
  ·rcases b5 y a with z|z
   ·rcases j y z with w|w
    ·exact .inl w
    ·exact .inr (d y w)
   ·exact .inr z
def Sq(g:da fs es)(S:D)(d i a c:Sl)(h:oQ fs st es b.1)(s:b.2.length<=b.1.length)(ring:List (List Str))(k:∀x∈ring,x∈b.1.map (·.1)):
  oQ fs st es (ring.foldl (og es) b).1/\∃v f j,k7 (bO 5) Ob (ring.map aB) [.shr (bA fs es),.shr S,.own (.dict (fh (im b.1))),d,.own (.list (b.2.map aB)),i,a,c]=.ok (.nx [.shr (bA fs es),.shr S,.own (.dict (fh (im (ring.foldl (og es) b).1))),d,.own (.list ((ring.foldl (og es) b).2.map aB)),v,f,j]):=by
 induction ring generalizing b i a c with
 |nil=>exact⟨h,i,a,c,rfl⟩
 |cons x r l=>
  obtain⟨n,H,B,I,G,E⟩:=Mt es b x;obtain⟨h',f,j,q⟩:=So g S d a c h (k x aj) s;obtain⟨t,o,A,u,w⟩:=l (.shr (aB x)) f j h' ∅ λy m=>by
   obtain⟨p,z,e⟩:=List.mem_map.mp (k y (af _ m));rw[<- e];exact bZ (n p z)
  refine⟨t,o,A,u,?_⟩;rw[ar,Mr (ρ1:=[.shr (bA fs es),.shr S,.own (.dict (fh (im b.1))),d,.own (.list (b.2.map aB)),.shr (aB x),a,c]) rfl q];exact w
def Vt(g:da fs es)(S:D)(n u j k m:Sl)(h:oQ fs st es l)(ring:List (List Str))(t:∀x∈ring,x∈l.map (·.1))(ho:n=.own (.list (ring.map aB))\/n=.shr (.list (ring.map aB))):
  oQ fs st es (ring.foldl (og es) (l,[])).1/\∃s c f i,bfB [.shr (bA fs es),.shr S,.own (.dict (fh (im l))),n,u,j,k,m]=.ok (.nx [.shr (bA fs es),.shr S,.own (.dict (fh (im (ring.foldl (og es) (l,[])).1))),.shr (.list ((ring.foldl (og es) (l,[])).2.map aB)),s,c,f,i]):=by
 have L:=λo=>Sq g S o j k m (b:=(l,[])) h (cH _) ring t;unfold bfB;left;rcases ho with ho|ho
 ·subst ho;obtain⟨q,c,f,i,p⟩:=L (.lck (.list (ring.map aB)));refine⟨q,.shr (.list ((ring.foldl (og es) (l,[])).2.map aB)),c,f,i,?_⟩;have e:sf 3 (bO 5) Ob [.shr (bA fs es),.shr S,.own (.dict (fh (im l))),.own (.list (ring.map aB)),.own (.list []),j,k,m]=.ok (.nx [.shr (bA fs es),.shr S,.own (.dict (fh (im (ring.foldl (og es) (l,[])).1))),.own (.list (ring.map aB)),.own (.list ((ring.foldl (og es) (l,[])).2.map aB)),c,f,i]):=by
   show unl 3 _ (k7 (bO 5) Ob (ring.map aB) [.shr (bA fs es),.shr S,.own (.dict (fh (im l))),.lck (.list (ring.map aB)),.own (.list []),j,k,m])=_;have a:=p;rw[dW] at a;rw[a];rfl
  rw[e];left;simp only[NA];rw[EE rfl];left
 ·subst ho;obtain⟨q,c,f,i,p⟩:=L (.shr (.list (ring.map aB)));refine⟨q,.shr (.list ((ring.foldl (og es) (l,[])).2.map aB)),c,f,i,?_⟩;rw[YF (d:=.list (ring.map aB)) rfl,AK (ds:=ring.map aB)]
  ·have a:=p;rw[dW] at a;rw[a];left;simp only[NA];rw[EE rfl];left
  ·left
structure Sr (fs st:List Str) (es:List gd) (l:LZ):Prop where
 ok:oQ fs st es l
 all:∀x∈l.map (·.1),∀e∈es,cB x e.needs e.bars=true->bK e x∈l.map (·.1)
theorem Hx(g:da fs es)(S:D)(P:LZ->List (List Str)->Prop)(I:∀l ring,oQ fs st es l->(∀x∈ring,x∈l.map (·.1))->oQ fs st es (ring.foldl (og es) (l,[])).1->P l ring->P (ring.foldl (og es) (l,[])).1 (ring.foldl (og es) (l,[])).2):∀(k a:Nat) (b i d f j:Sl) (l:LZ) (ring:List (List Str)),oQ fs st es l->(∀x∈ring,x∈l.map (·.1))->(∀x∈l.map (·.1),x∉ring->∀e∈es,cB x e.needs e.bars=true->bK e x∈l.map (·.1)) ->
  (b=.own (.list (ring.map aB))\/b=.shr (.list (ring.map aB)))->P l ring->65-l.length+(if ring=[] then 0 else 1)<=k->k<a ->
  ∃c Y A u t B,(Sr fs st es c/\P c [])/\hU (vK (rB 3)) bfB a [.shr (bA fs es),.shr S,.own (.dict (fh (im l))),b,i,d,f,j]=.ok (.nx [.shr (bA fs es),.shr S,.own (.dict (fh (im c))),Y,A,u,t,B])
 |_,0,_,_,_,_,_,_,_,_,_,_,_,_,_,H=>absurd H (u4 _)
 |k,a+1,b,i,d,f,j,l,ring,h,o,hc,ho,m,hk,H=>by
  have X:vK (rB 3) [.shr (bA fs es),.shr S,.own (.dict (fh (im l))),b,i,d,f,j]=.ok (!(ring.map aB).isEmpty):=Sh (by rcases ho with z|z<;>subst z<;>rfl);rw[hU,X];cases ring with
  |nil=>exact⟨l,b,i,d,f,j,⟨⟨h,λx o=>hc x o (λz=>nomatch z)⟩,m⟩,rfl⟩
  |cons x r=>
   obtain⟨h',A,u,t,B,q⟩:=Vt g S b i d f j h (x::r) o ho;obtain⟨T,N,Q,a4,a5,w⟩:=yB es (x::r) (l,[]);have few:=h'.few g;have E:=h.few g;simp only[dH,oK] at w;rw[if_neg (by simp)] at hk;have v:65-((x::r).foldl (og es) (l,[])).1.length+(if((x::r).foldl (og es) (l,[])).2=[] then 0 else 1)<=k-1:=by
    by_cases n:((x::r).foldl (og es) (l,[])).2=[]
    ·rw[if_pos n];rw[n] at w;simp only[dH,oK] at w;omega
    ·rw[if_neg n];have:=List.length_pos_iff.mpr n;omega
   obtain⟨c,w3,w4,U,w6,w7,M,O⟩:=Hx g S P I (k-1) a (.shr (.list (((x::r).foldl (og es) (l,[])).2.map aB))) A u t B _ _ h' (λy s=>by
    rcases a5 y s with z|z
    ·cases z
    ·exact z) (λy s hn e he G=>by
    rcases Q y s with z|z
    ·by_cases K:y∈x::r
     ·exact N y K e he G
     ·obtain⟨p,m,L⟩:=List.mem_map.mp (hc y z K e he G);rw[<- L];exact bZ (T p m)
    ·exact(hn z).elim) (.inr rfl) (I l (x::r) h o h' m) v ∅
   refine⟨c,w3,w4,U,w6,w7,M,?_⟩;simp only[ar,Pc,jJ];rw[q];exact O
structure q0L (es:List gd) (l:LZ):Prop where
 cls:∀p∈l,∀e∈es,cB p.1 e.needs e.bars=true->∃q∈l,q.1=bK e p.1/\q.2.length<=p.2.length+1
 up:l.Pairwise λp q=>p.2.length<=q.2.length
structure YK (es:List gd) (l:LZ) (ring:List (List Str)) (d:Nat):Prop where
 top:∀p∈l,p.2.length<=d
 rin:∀p∈l,p.1∈ring->p.2.length=d
 cls:∀p∈l,p.1∉ring->∀e∈es,cB p.1 e.needs e.bars=true->∃q∈l,q.1=bK e p.1/\q.2.length<=p.2.length+1
 up:l.Pairwise λp q=>p.2.length<=q.2.length
theorem Bh(at0:List Str)(row:List gd):∀(xs:List gd) (b:LZ×List (List Str)),∃t:LZ,xs.foldl (ja at0 row) b=(b.1++t,b.2++t.map (·.1))/\∀p∈t,p.2.length=row.length+1
 |[],b=>⟨[],by simp,λ_ h=>(nomatch h)⟩
 |e::r,b=>by
  rw[eh];by_cases a:bK e at0∈b.1.map (·.1)
  ·have:ja at0 row b e=b:=by unfold ja;rw[if_pos a]
   rw[this];exact Bh at0 row r b
  ·have:ja at0 row b e=(b.1++[(bK e at0,row++[e])],b.2++[bK e at0]):=by unfold ja;rw[if_neg a]
   rw[this];obtain⟨t,c,d⟩:=Bh at0 row r (b.1++[(bK e at0,row++[e])],b.2++[bK e at0]);refine⟨(bK e at0,row++[e])::t,by rw[c];simp,λp f=>?_⟩;rcases List.mem_cons.mp f with z|z
   ·subst z;simp
   ·exact d p z
def Su(h:x∈l.map (·.1)):rM (l++t) x=rM l x:=by
 unfold rM;rw[List.find?_append];cases b:l.find? λp=>decide (p.1=x) with
 |some p=>rfl
 |none=>
  obtain⟨p,a,e⟩:=List.mem_map.mp h;have:=List.find?_eq_none.mp b p a;simp[e] at this
theorem Hy(es:List gd)(d:Nat):∀(ring:List (List Str)) (b:LZ×List (List Str)),(∀x∈ring,x∈b.1.map (·.1))->(∀x∈ring,(rM b.1 x).length=d)->∃t:LZ,ring.foldl (og es) b=(b.1++t,b.2++t.map (·.1))/\∀p∈t,p.2.length=d+1
 |[],b,_,_=>⟨[],by simp,λ_ h=>(nomatch h)⟩
 |x::r,b,f,c=>by
  rw[eh];obtain⟨t,g,m⟩:=Bh x (rM b.1 x) (es.filter λe=>cB x e.needs e.bars) b;have l:og es b x=(b.1++t,b.2++t.map (·.1)):=g;rw[l];obtain⟨i,j,k⟩:=Hy es d r (b.1++t,b.2++t.map (·.1)) (λy a=>by rw[c6];exact bF _ (f y (af _ a))) (λy a=>by rw[Su (f y (af _ a))];exact c y (af _ a));refine⟨t++i,by rw[j];simp,λp n=>?_⟩;rcases List.mem_append.mp n with z|z
  ·rw[m p z,c x aj]
  ·exact k p z
def Oc(k:∀x∈ring,x∈l.map (·.1))(h':oQ fs st es (ring.foldl (og es) (l,[])).1)(a:∃d,YK es l ring d):∃d,YK es (ring.foldl (og es) (l,[])).1 (ring.foldl (og es) (l,[])).2 d:=by
 obtain⟨d,D⟩:=a;obtain⟨s,j,o,w,v,u⟩:=yB es ring (l,[]);obtain⟨t,e,f⟩:=Hy es d ring (l,[]) k λx c=>D.rin _ (xx (k x c)) c;have g:=h'.nd;rw[e] at g j ⊢;rw[c6] at g;simp only[ny] at *;have top:∀p∈l++t,p.2.length<=d+1:=λp a=>by
  rcases List.mem_append.mp a with z|z
  ·exact zx (D.top p z)
  ·exact Nat.le_of_eq (f p z)
 refine⟨d+1,top,λp a c=>?_,λp a c e he m=>?_,?_⟩
 ·rcases List.mem_append.mp a with z|z
  ·exact((List.nodup_append.mp g).2.2 p.1 (bZ z) p.1 c rfl).elim
  ·exact f p z
 ·rcases List.mem_append.mp a with z|z
  ·by_cases h:p.1∈ring
   ·obtain⟨q,b,i⟩:=List.mem_map.mp (j p.1 h e he m);exact⟨q,b,i,by rw[D.rin p z h];exact top q b⟩
   ·obtain⟨q,b,i,n⟩:=D.cls p z h e he m;exact⟨q,bF _ b,i,n⟩
  ·exact(c (bZ z)).elim
 ·refine List.pairwise_append.mpr ⟨D.up,?_,λp a q b=>by rw[f q b];exact zx (D.top p a)⟩;exact List.pairwise_of_forall_mem_list λp a q b=>by rw[f p a,f q b];exact av _
def xy(g:da fs es)(hs:qu fs st):∃l,(Sr fs st es l/\q0L es l)/\iW [bA fs es,aB st]=.ok (.dict ((.none,.none)::fh (im l))):=by
 have m:oQ fs st es [(st,[])]:=⟨by simp,List.mem_singleton.mpr rfl,λp a=>by rw[List.mem_singleton.mp a];exact hs,λp a=>by rw[List.mem_singleton.mp a];exact⟨λ_ h=>(nomatch h),rfl,by simp⟩⟩;obtain⟨l,q,s,t,o,u,⟨j,d,i⟩,n⟩:=Hx g (aB st) (λl ring=>∃d,YK es l ring d) (λl ring _ b h' a=>Oc b h' a) 65 100000 (.own (.list ([st].map aB))) .no .no .no .no [(st,[])] [st] m (λx b=>b) (λx b c=>(c b).elim) (.inl rfl) ⟨0,λp a=>by rw[List.mem_singleton.mp a];exact av _,λp a _=>by rw[List.mem_singleton.mp a];rfl,λp a c=>by rw[List.mem_singleton.mp a] at c;exact(c aj).elim,by simp⟩ (by simp) ⋯;refine⟨l,⟨j,λp a e he k=>i.cls p a (λz=>nomatch z) e he k,i.up⟩,?_⟩;unfold iW;refine cA ?_;rw[Sk];unfold bV;left;rw[q1F (x:=st) (d:=.list []) rfl rfl];left;have f:hU (vK (rB 3)) bfB 100000 [.shr (bA fs es),.shr (aB st),.own (.dict (fh [(st,.list [])])),.own (.list [aB st]),.no,.no,.no,.no]=_:=n;rw[f];left;rw[q1E j.ok.ne rfl];left
def Srv(es:List gd)(st m b:List Str):Prop:=∃x,Ms es st x/\cB x m b=true
noncomputable def xz (es:List gd) (st m b:List Str):Bool:=@decide (Srv es st m b) (BZ _)
def xA:xz es st m b=true↔Srv es st m b:=by
 unfold xz;exact @decide_eq_true_iff _ (BZ _)
def Sr.keys(h:Sr fs st es l)(x:List Str):x∈l.map (·.1)↔Ms es st x:=by
 constructor
 ·intro d;obtain⟨p,c,rfl⟩:=List.mem_map.mp d;obtain⟨b,a,_⟩:=h.ok.row p c;exact⟨p.2,b,a⟩
 ·rintro⟨e,b,a⟩;exact Bf (M:=λx=>x∈l.map (·.1)) h.all e st x (bZ (f:=(·.1)) h.ok.beg) b a
def F5{fs st m b:List Str}{es:List gd}{ks:List (List Str)}(h:∀x,x∈ks↔Ms es st x):(ks.any λx=>cB x m b)=xz es st m b:=by
 rw[jf,xA,jR];constructor
 ·rintro⟨x,a,c⟩;exact⟨x,(h x).mp a,c⟩
 ·rintro⟨x,a,c⟩;exact⟨x,(h x).mpr a,c⟩
def q0M(es:List gd)(st m b:List Str)(k:Int):Prop:=(∃a x,(∀e∈a,e∈es)/\mH a st=some x/\cB x m b=true/\(a.length:Int)=k)/\∀a x,(∀e∈a,e∈es)->mH a st=some x->cB x m b=true->k<=(a.length:Int)
theorem Hz{c:Type}(len:c->Int){l:List (List Str×c)}{es:List gd}(f:∀p∈l,∀e∈es,cB p.1 e.needs e.bars=true->∃q∈l,q.1=bK e p.1/\len q.2<=len p.2+1):∀(b:List gd) (p:List Str×c) (x:List Str),p∈l->(∀e∈b,e∈es)->mH b p.1=some x->∃q∈l,q.1=x/\len q.2<=len p.2+b.length
 |[],p,x,d,_,h=>by
  cases h;exact⟨p,d,rfl,by simp⟩
 |a::r,p,x,d,he,h=>by
  have h':(if cB p.1 a.needs a.bars then mH r (bK a p.1) else none)=some x:=h;split at h'
  ·rename_i k
   obtain⟨q,g,i,n⟩:=f p d a (he a aj) k;rw[<- i] at h';obtain⟨s,s1,j,m⟩:=Hz len f r q x g (λe h=>he e (af _ h)) h';refine⟨s,s1,j,?_⟩;rw[aZ];omega
  ·cases h'
theorem HA:∀{l:LZ},(l.Pairwise λp q=>p.2.length<=q.2.length)->(l.map (·.1)).filter g=x0::r0->q∈l->g q.1=true->(rM l x0).length<=q.2.length
 |[],_,_,c,_=>nomatch c
 |p::t,f,a,c,d=>by
  obtain⟨i,e⟩:=List.pairwise_cons.mp f;rw[ar] at a;unfold rM;rw[bM];by_cases b:g p.1=true
  ·rw[FS b] at a;rw[decide_eq_true (oM a).1];rcases List.mem_cons.mp c with z|z
   ·subst z;exact av _
   ·exact i q z
  ·rw[List.filter_cons_of_neg b] at a;have h:g x0=true:=by
    have:x0∈(t.map (·.1)).filter g:=by rw[a];exact aj
    exact(List.mem_filter.mp this).2
   rw[decide_eq_false λz=>b (by rw[z];exact h)];rcases List.mem_cons.mp c with z|z
   ·subst z;exact(b d).elim
   ·exact HA e a z d
def Ka(g:da fs es)(E:pI fs m b)(n:Sr fs st es l)(G:q0L es l):
  (xz es st m b=false/\nC [.dict ((.none,.none)::fh (im l)),eF m b]=.ok (.list []))\/∃p∈l,∃r:List (List Str),cB p.1 m b=true/\q0M es st m b (p.2.length:Nat)/\nC [.dict ((.none,.none)::fh (im l)),eF m b]=.ok (.list ((p.1::r).map aB)):=by
 have l1:=fV E.must g.rise.len;have X:=fV E.bars g.rise.len;have few:=n.ok.few g;have O:=cD (λx=>cB x m b) (l.map (·.1));rw[am] at O;have k:∀{ds:List D},(∀z,fE (iG 1 [z,.shr (.dict ((.none,.none)::fh (im l))),.shr (.list (((l.map (·.1)).filter λx=>cB x m b).map aB))] (eQ (g2 (cw (J.aa (g2 (rB 1) (rB 0) IU) J.aH) (iT mf)) (cw (J.aa (g2 (rB 1) (g2 (rB 2) (kI 0) aX) IU) J.aH) (iT mf)) (mF false))) (rS 0)) (((l.map (·.1)).filter λx=>cB x m b).map aB)=.ok ds)->nC [.dict ((.none,.none)::fh (im l)),eF m b]=.ok (.list ds):=by
  intro ds P;unfold nC;refine cA ?_;unfold uw bV;left;rw[WX];left;rw[Hr,j4];left;rw[if_pos ∅];rw[dw _ (λx:List Str=>aB x) (λx=>aB x) (λx=>cB x m b) (l.map (·.1)) λx i=>jC (by
   left;rw[vR ∅ ∅];left) λ_=>rfl]
  left;rw[if_pos ∅];rw[show(lF (λx=>aB x) ((l.map (·.1)).filter λx=>cB x m b))=((l.map (·.1)).filter λx=>cB x m b).map aB from rfl,P];left
 cases h:(l.map (·.1)).filter (λx=>cB x m b) with
 |nil=>
  apply Or.inl;refine⟨?_,k λz=>?_⟩
  ·rw[<- F5 (fs:=fs) n.keys];refine Bool.eq_false_iff.mpr λH=>?_;obtain⟨x,s,w⟩:=List.any_eq_true.mp H;have:x∈(l.map (·.1)).filter (λx=>cB x m b):=List.mem_filter.mpr ⟨s,w⟩
   rw[h] at this;cases this
  ·rw[h];rfl
 |cons d f=>
  right;have v:d∈(l.map (·.1)).filter (λx=>cB x m b):=by rw[h];exact aj
  obtain⟨A,y⟩:=List.mem_filter.mp v;have B:=xx A;obtain⟨M,S,Y⟩:=n.ok.row _ B;have o:∀x∈l.map (·.1),IU (.dict ((.none,.none)::fh (im l))) (aB x)=.ok (vS (rM l x)):=λx i=>by
   have:=Sg (l:=im l) (by rw[j4];exact n.ok.nd) (Bg (xx i));exact this
  have t:aX (.list ((d::f).map aB)) (.int 0)=.ok (aB d):=wI (j:=0) rfl;refine⟨(d,rM l d),B,f.filter λx=>decide (((rM l x).length:Int)=(rM l d).length),y,⟨⟨rM l d,d,M,S,y,rfl⟩,λI x s w K=>?_⟩,k λz=>?_⟩
  ·obtain⟨q,L,N,U⟩:=Hz (λr:List gd=>(r.length:Int)) (λp Q e he T=>by
    obtain⟨q,a,b,c⟩:=G.cls p Q e he T;exact⟨q,a,b,by omega⟩) I (st,[]) x n.ok.beg s w
   have:=HA (q:=q) G.up h L (by rw[N];exact K);simp only[dH] at U;show((rM l d).length:Int)<=_;omega
  ·rw[h];have u:∀x∈d::f,x∈l.map (·.1):=λx i=>(List.mem_filter.mp (by rw[h];exact i)).1;rw[dw _ (λx:List Str=>aB x) (λx=>aB x) (λx=>decide (((rM l x).length:Int)=(rM l d).length)) (d::f) λx i=>jC (by
    left;rw[o x (u x i)];left;rw[show(aB d::lF (λx=>aB x) f)=(d::f).map aB from rfl,t];left;rw[o d A];left;rw[lm];left) λ_=>rfl]
   rw[FS (by simp)]
def Kb(g:da fs es)(hs:qu fs st)(h:pI fs m b):(xz es st m b=false/\jw [bA fs es,aB st,eF m b]=.ok .none)\/∃c x,Row es c/\mH c st=some x/\cB x m b=true/\q0M es st m b (c.length:Nat)/\jw [bA fs es,aB st,eF m b]=.ok (vS c):=by
 obtain⟨l,⟨a,n⟩,e⟩:=xy g hs;have few:=a.ok.few g;rcases Ka g h a n with⟨d,f⟩|⟨p,hp,r,d,f,h3⟩
 ·refine .inl ⟨d,?_⟩;unfold jw;refine cA ?_;unfold nX bV;left;rw[F3 g hs h];left;rw[e];left;rw[f];left;rw[Sh (ds:=[]) rfl];left;rfl
 ·obtain⟨q,o,s⟩:=a.ok.row p hp;have i:IU (.dict ((.none,.none)::fh (im l))) (aB p.1)=.ok (vS p.2):=Sg (l:=im l) (by rw[j4];exact a.ok.nd) (Bg hp);have k:aX (.list ((p.1::r).map aB)) (.int 0)=.ok (aB p.1):=wI (j:=0) rfl;refine .inr ⟨p.2,p.1,⟨q,by omega⟩,o,d,f,?_⟩;unfold jw;refine cA ?_;unfold nX bV;left;rw[F3 g hs h];left;rw[e];left;rw[h3];left;rw[Sh (ds:=(p.1::r).map aB) rfl];left;rw[Pc];left;rw[show(aB p.1::lF aB r)=(p.1::r).map aB from rfl,k];left;rw[i];left
def YL{A B C:D}(h:jw [A,B,C]=.ok .none):vh [A,B,C]=.ok .none:=by
 unfold vh;refine cA ?_;unfold Hf bV;left;rw[h];left;rw[q0G];left
def YM{A B C:D}{ds:List D}(h:jw [A,B,C]=.ok (.list ds)):vh [A,B,C]=.ok (.int (ds.length:Nat)):=by
 unfold vh;refine cA ?_;unfold Hf bV;left;rw[h];left;rw[show Gp false (eY ds) PyData.none=.ok (.bool false) from rfl];left
def HB(g:da fs es)(p:gd->Bool):da fs (es.filter p):=
 ⟨g.rise,ca (cD _ _) g.len,(List.filter_sublist.map _).nodup g.nd,λe he=>g.ok e (List.mem_filter.mp he).1⟩
def Sv(l:LZ):((fh (im l)).map (·.1))=(l.map (·.1)).map J.xm:=by
 rw[<- j4 l];unfold fh o7;rw[c9,c9];rfl
def Kc(g:da fs es)(hs:qu fs st):∃ks:List (List Str),ks.Nodup/\(∀x,x∈ks↔Ms es st x)/\(∀x∈ks,qu fs x)/\ks.length<=64/\lN [bA fs es,aB st]=.ok (.list ((jW ks).map aB)):=by
 obtain⟨l,⟨a,_⟩,e⟩:=xy g hs;have few:=a.ok.few g;have c:=a.ok.nd;refine⟨l.map (·.1),c,a.keys,λx f=>?_,by rw[am];exact few,?_⟩
 ·obtain⟨p,d,rfl⟩:=cq.1 f;exact a.ok.sub p d
 have b:J.ui (.dict ((.none,.none)::fh (im l)))=.ok (.list ((jW (l.map (·.1))).map aB)):=by
  unfold J.ui;dsimp only;rw[Sv,J.vM];dsimp only;unfold J.qL;rw[if_pos ⟨c,by rw[am];exact few⟩];rfl
 unfold lN;refine cA ?_;unfold ux bV;left;rw[xw g hs];left;rw[e];left;rw[b];left
noncomputable def mQ (es:List gd) (st:List Str) (e:gd):Bool:=!(xz es st e.needs e.bars)
def Vu(g:da fs es)(hs:qu fs st):vO [bA fs es,aB st]=.ok (.list (((es.filter (mQ es st)).map (·.name)).map .str)):=by
 obtain⟨l,⟨a,_⟩,e⟩:=xy g hs;have few:=a.ok.few g;have c:=g.len;have b:J.DA (.dict ((.none,.none)::fh (im l)))=.ok (.list ((l.map (·.1)).map aB)):=by
  unfold J.DA;dsimp only;rw[Sv,J.vM];dsimp only;rw[if_pos (by rw[am];exact few)];rfl
 unfold vO;refine cA ?_;unfold ES bV;left;rw[xw g hs];left;rw[e];left;rw[b];left;rw[K7];left;rw[if_pos ∅];rw[dw _ e_ (λe=>ay e.name) (mQ es st) es λe he=>jC (by
  left;rw[if_pos ∅];rw[dE _ (λx:List Str=>aB x) (λx=>cr (cB x e.needs e.bars)) (l.map (·.1)) λx d=>fU rfl (by
   left;rw[DI (Bb g he)])]
  left;rw[iy _ (λx=>cB x e.needs e.bars)];left;rw[j3,show(id∘λx=>cB x e.needs e.bars)=λx=>cB x e.needs e.bars from rfl,F5 (fs:=fs) a.keys];rfl) λ_=>(by
  left;rw[Ho])]
 left;rw[c9];rfl
def Ke:Ms (es.filter λe=>!mQ es st e) st x↔Ms es st x:=by
 constructor
 ·rintro⟨d,f,c⟩;exact⟨d,λe he=>(aS.1 (f e he)).1,c⟩
 ·rintro⟨d,f,c⟩;refine⟨d,?_,c⟩;have:∀(d b:List gd) (s:List Str),(∀e∈b,e∈es)->mH b st=some s->(∀e∈d,e∈es)->mH d s=some x->∀e∈d,e∈es.filter λe=>!mQ es st e:=by
   intro d;induction d with
   |nil=>intro _ _ _ _ _ _ e he;cases he
   |cons a r k=>
    intro b s j i f c;have c:(if cB s a.needs a.bars then mH r (bK a s) else none)=some x:=c;cases g:cB s a.needs a.bars with
    |false=>rw[g] at c;cases c
    |true=>
     rw[g] at c;have h:=f a aj;intro e he;rcases aT.1 he with rfl|he
     ·refine aS.2 ⟨h,?_⟩;have:xz es st e.needs e.bars=true:=xA.2 ⟨s,⟨b,j,i⟩,g⟩
      unfold mQ;rw[this];rfl
     ·refine k (b++[a]) (bK a s) (λe he=>?_) (Be a b st s i g) (λe he=>f e (af _ he)) c e he;rcases bD.1 he with he|he
      ·exact j e he
      ·rw[bN.1 he];exact h
  exact this d [] st (by simp) rfl f c
def DK(g:da fs es)(hs:qu fs st)(a:pI fs m b):ml [bA fs es,aB st,eF m b]=.ok (.bool (xz es st m b)):=by
 have h:=fV a.must g.rise.len;have d:=fV a.bars g.rise.len;obtain⟨l,⟨c,_⟩,e⟩:=xy g hs;have few:=c.ok.few g;unfold ml;refine cA ?_;unfold pz bV;left;rw[WX];left;rw[e];left;rw[Hr,j4];left;rw[if_pos ∅];rw[dE _ (λx:List Str=>aB x) (λx=>cr (cB x m b)) (l.map (·.1)) λx f=>fU rfl (by
  left;rw[vR ∅ ∅])]
 left;rw[iy _ (λx=>cB x m b)];left;rw[j3,show(id∘λx=>cB x m b)=λx=>cB x m b from rfl,F5 (fs:=fs) c.keys]
def Od(g:da fs es)(hs:qu fs st)(c:pI fs m b)(a:C2 nm=true):lc [bA fs es,aB st,eF m b,.str nm]=.ok (.bool (!xz (es.filter λe=>!decide (e.name=nm)) st m b)):=by
 have d:=g.len;have f:=cD (λe:gd=>!decide (e.name=nm)) es;unfold lc;refine cA ?_;unfold l9 bV;left;rw[K7];left;rw[if_pos ∅];rw[dw _ e_ e_ (λe=>!decide (e.name=nm)) es λe he=>jC (by
  left;rw[Ho];left;rw[Mn true (g.ok e he).name a];rfl) λ_=>rfl]
 left;rw[il];left;rw[O6];left;have e:=DK (HB g λe=>!decide (e.name=nm)) hs c;unfold bA at e;rw[e];left
def Kf(g:da fs es)(hs:qu fs st)(a:pI fs m b)(h:xz es st m b=true):l8 [bA fs es,aB st,eF m b]=.ok .none:=by
 unfold l8;refine Ba (ρ:=[.shr (bA fs es),.shr (aB st),.shr (eF m b)]) ?_;unfold l7 bV;left;rw[F3 g hs a];left;rw[DK g hs a,h];left
noncomputable def Mu (es:List gd) (st m b:List Str):List gd:=es.filter λe=>!xz (es.filter λx=>!decide (x.name=e.name)) st m b
def Vv(g:da fs es)(hs:qu fs st)(a:pI fs m b)(h:xz es st m b=true):qN [bA fs es,aB st,eF m b]=.ok (vS (Mu es st m b)):=by
 have c:=g.len;unfold qN;refine cA ?_;unfold uy bV;left;rw[Kf g hs a h];left;rw[K7];left;rw[if_pos ∅];rw[dw _ e_ (λe=>ay e.name) (λe=>!xz (es.filter λx=>!decide (x.name=e.name)) st m b) es λe he=>jC (by
  left;rw[Ho];left;rw[Od g hs a (g.ok e he).name];left) λ_=>(by
  left;rw[Ho])]
 left;rfl
def mI(a:List (Str×Int)):List (D×D):=a.map λp=>(ay p.1,e8 p.2)
abbrev dL(a:List (Str×Int)):D:=.dict (mI a)
theorem xB:∀a:List (Str×Int),fo (mI a)=true
 |[]=>rfl
 |p::a=>by
  have:=xB a;unfold fo mI at *;rw[ar,qR,this];rfl
theorem HC(x:Str):∀a:List (Str×Int),(iH (mI a) (.str x)).isSome=decide (x∈a.map (·.1))
 |[]=>rfl
 |p::a=>by
  have b:=HC x a;unfold iH mI at *;rw[ar,bM,ar];by_cases h:p.1=x
  ·rw[show aR (ay p.1) (ay x)=true by rw[h];simp[aR]];simp[h]
  ·rw[show aR (ay p.1) (ay x)=false by simp[aR,h]];dsimp only;rw[b];simp[dm h]
def Kg(a:Bool)(x:Str)(b:List (Str×Int)):Ma a (.str x) (dL b)=.ok (.bool (if a then !decide (x∈b.map (·.1)) else decide (x∈b.map (·.1)))):=by
 have:Ma a (.str x) (dL b)=if fo (mI b)=true then .ok (.bool (if a then !(iH (mI b) (.str x)).isSome else(iH (mI b) (.str x)).isSome)) else .no:=rfl
 rw[this,if_pos (xB b),HC]
theorem HD{a:Type}(f:D->R (List D))(c:a->D)(h:a->List D):∀(xs:List a),(∀x∈xs,f (c x)=.ok (h x))->kW f (xs.map c)=.ok (xs.flatMap h)
 |[],_=>rfl
 |x::r,e=>by
  rw[ar];unfold kW;rw[e x aj,bind_ok,HD f c h r λy b=>e y (af _ b),bind_ok,Pd]
def Oe(a:gt (ρ.set 0 (.shr d))=.ok true)(e:gi2 (ρ.set 0 (.shr d))=.ok es)(c:fE (RF 1 (ρ.set 0 (.shr d)) gt2 ge) es=.ok zs):kU 1 ρ gt gi2 gt2 ge d=.ok zs:=by
 have:kU 1 ρ gt gi2 gt2 ge d=Ay ((gt (ρ.set 0 (.shr d))).bind λb=>if b then(gi2 (ρ.set 0 (.shr d))).bind λes=>fE (RF 1 (ρ.set 0 (.shr d)) gt2 ge) es else .ok []):=rfl
 rw[this,a,bind_ok,if_pos rfl,e,bind_ok,c];rfl
def q0N{nt:Nat}{ρ:aE}{gt:aE->R Bool}{ge:aE->R D}{d y:D}{b:Bool}(a:gt (ρ.set nt (.shr d))=.ok b)(c:b=true->ge (ρ.set nt (.shr d))=.ok y):RF nt ρ gt ge d=.ok (if b then some y else none):=by
 unfold RF;rw[a,bind_ok];cases b with
 |true=>rw[if_pos rfl,c rfl];rfl
 |false=>rfl
def Bj(ks:List Str)(e:gd):Bool:=e.needs.all λx=>decide (x∈ks)
def Sw(ks:List Str)(es:List gd):List Str:=(es.filter (Bj ks)).flatMap λe=>e.makes.filter λx=>!decide (x∈ks)
def q0O(fs:List Str)(es:List gd):aX (bA fs es) (.int 1)=.ok (.tuple (es.map e_)):=id rfl
def q0P(e:gd):aX (e_ e) (.int 1)=.ok (aB e.needs):=id rfl
def Bk(l:List Str)(p:Str->Bool):((l.map p).all id)=l.all p:=by rw[oF];rfl
def YN{ks:List Str}{a:List (Str×Int)}{fs:List Str}{e:gd}(b:ks=a.map (·.1))(c:e.needs.length<=6)(s:Sl)(hs:AL [.shr (e_ e),.shr (dL a)] 1=.shr (dL a)):
  eQ (cw (J.aa (de 1 [1] (gE (g2 (rB 0) (kI 1) aX)) kT (g2 (rB 0) (rB 1) (Ma false))) J.aH) (iT (fm λbs=>bs.all id))) [.shr (e_ e),.shr (dL a)]=.ok (Bj ks e):=by
 subst b;left;rw[q0P];left;rw[if_pos ∅];rw[dE _ (λx:Str=>ay x) (λx=>cr (decide (x∈a.map (·.1)))) e.needs λx d=>fU (by rfl) (by
  left;rw[Kg];rfl)]
 left;rw[iy];left;rw[Bk];rfl
def HE(l:List gd)(ks:List Str):eU (l.flatMap λe=>(e.makes.filter λx=>!decide (x∈ks)).map ay)=some (l.flatMap λe=>e.makes.filter λx=>!decide (x∈ks)):=by
 rw[show(l.flatMap λe=>(e.makes.filter λx=>!decide (x∈ks)).map ay)=(l.flatMap λe=>e.makes.filter λx=>!decide (x∈ks)).map ay by rw[List.map_flatMap],strsOf_map]
theorem Bl(ks:List Str):∀l:List gd,(∀e∈l,e.makes.length<=6)->(l.flatMap λe=>e.makes.filter λx=>!decide (x∈ks)).length<=6*l.length
 |[],_=>av _
 |e::l,h=>by
  rw[Pd,aI,aZ];have a:=Bl ks l λe he=>h e (af _ he);have b:=h e aj;have c:(e.makes.filter λx=>!decide (x∈ks)).length<=e.makes.length:=cD _ _;omega
def Of{fs:List Str}{es:List gd}{a:List (Str×Int)}(p:gd->Bool)(f:(es.filter p).length<=6)(b:∀e∈es,e.makes.length<=6):
  uj 1 [1] (gE (rB 2)) kT (gE (g2 (rB 0) (kI 3) aX)) (eQ (g2 (rB 1) (rB 2) (Ma true))) (rS 1) [Sl.shr (bA fs es),Sl.shr (dL a),Sl.shr (.list ((es.filter p).map e_))] =
   .ok (dn [] ((es.filter p).flatMap λe=>e.makes.filter λx=>!decide (x∈a.map (·.1)))):=by
 unfold uj;have c:gE (rB 2) [Sl.shr (bA fs es),Sl.shr (dL a),Sl.shr (.list ((es.filter p).map e_))]=.ok ((es.filter p).map e_):=rfl;rw[c,bind_ok];rw[HD _ e_ (λe=>(e.makes.filter λx=>!decide (x∈a.map (·.1))).map ay) (es.filter p) λe he=>Oe rfl (show _=R.ok (e.makes.map ay) from rfl) (dw _ (λx:Str=>ay x) (λx=>ay x) (λx=>!decide (x∈a.map (·.1))) e.makes λx d=>q0N (by
   show eQ (g2 (rB 1) (rB 2) (Ma true)) [Sl.shr (e_ e),Sl.shr (.str x),Sl.shr (dL a)]=_;left;rw[Kg];rfl) λ_=>rfl)]
 rw[bind_ok,HE];dsimp only;have:=Bl (a.map (·.1)) (es.filter p) λe he=>b e (aS.1 he).1;rw[if_pos ∅]
def Vw{fs:List Str}{es:List gd}{a:List (Str×Int)}(g:da fs es):gG [bA fs es,dL a]=.ok (.list ((jU (dn [] (Sw (a.map (·.1)) es))).map .str)):=by
 unfold gG;refine cA ?_;unfold pA bV;left;rw[q0O];left;rw[if_pos (by have:=g.len;omega)];rw[dw _ e_ e_ (Bj (a.map (·.1))) es λe he=>jC (YN (fs:=fs) rfl (fV (g.ok e he).needs g.rise.len) .no rfl) λ_=>rfl];left;have c:(es.filter (Bj (a.map (·.1)))).length<=6:=ca (cD _ _) g.len;have b:∀e∈es,e.makes.length<=6:=λe he=>fV (g.ok e he).makes g.rise.len;rw[yy,Of (Bj (a.map (·.1))) c b,bind_ok];have f:=Bl (a.map (·.1)) (es.filter (Bj (a.map (·.1)))) λe he=>b e (aS.1 he).1;have d:=gy ((es.filter (Bj (a.map (·.1)))).flatMap λe=>e.makes.filter λx=>!decide (x∈a.map (·.1))) [];simp only[dH] at d;rw[B8 _ ∅];rfl
def Mv:∀{a:List (Str×Int)},x∉a.map (·.1)->t4 (mI a) (.str x) (.int k)=mI (a++[(x,k)]):=by
 intro a h;have f:((mI a).any λc=>aR c.1 (.str x))=false:=by
  rw[dU];intro c b;obtain⟨p,d,rfl⟩:=cq.1 b;have:p.1≠x:=λe=>h (cq.2 ⟨p,d,e⟩)
  simp[aR,this]
 unfold t4;rw[f];unfold mI;rw[c6];rfl
def Vx(c:ls.length<1000)(h:x∉ls.map (·.1)):
  uV 2 (rS 5) (rS 3) [a,b,.own (dL ls),.shr (.int k),m,.shr (.str x)]=.ok (.nx [a,b,.own (dL (ls++[(x,k)])),.shr (.int k),m,.shr (.str x)]):=by
 have e:uV 2 (rS 5) (rS 3) [a,b,.own (dL ls),.shr (.int k),m,.shr (.str x)]=if(mI ls).length<1000/\fo (mI ls)=true then .ok (.nx [a,b,.own (.dict (t4 (mI ls) (.str x) (.int k))),.shr (.int k),m,.shr (.str x)]) else .no:=rfl
 rw[e,if_pos ⟨by unfold mI;rw[am];exact c,xB ls⟩,Mv h]
def Bm(a:kt d ρ=.ok ρ1)(b:gb ρ1=.ok (.nx ρ2)):k7 kt gb (d::r) ρ=k7 kt gb r ρ2:=by
 rw[k7,a];simp only[b]
theorem HF:∀(xs:List Str) (c:List (Str×Int)) (s:Sl),xs.Nodup->(∀x∈xs,x∉c.map (·.1))->c.length+xs.length<1000 ->
  ∃s',k7 (bO 5) (uV 2 (rS 5) (rS 3)) (xs.map ay) [a,b,.own (dL c),.shr (.int k),m,s]=.ok (.nx [a,b,.own (dL (c++xs.map λx=>(x,k))),.shr (.int k),m,s'])
 |[],c,s,_,_,_=>⟨s,by rw[dW,dW,b_];rfl⟩
 |x::xs,c,s,g,f,l=>by
  obtain⟨i,j⟩:=gx.1 g;rw[aZ] at l;obtain⟨s',e⟩:=HF (a:=a) (b:=b) (m:=m) (k:=k) xs (c++[(x,k)]) (.shr (.str x)) j (λy d=>by
   rw[c6,bD];rintro (h|h)
   ·exact f y (af _ d) h
   ·rw[show y=x by simpa using h] at d;exact i d) (by rw[aI,eN];omega)
  refine⟨s',?_⟩;rw[ar,Bm (ρ1:=[a,b,.own (dL c),.shr (.int k),m,.shr (.str x)]) rfl (Vx ∅ (f x aj)),e,ar,fz];rfl
def Vy(xs:List Str):oO (.list (xs.map ay))=true:=A9 _ (λ_=>rfl) xs
def HG(g:da fs es):
  GR oO 2 gG (J.aa (rS 0) (J.aa (Du 2) J.aH)) [.shr (bA fs es),b,.own (dL ls),c,d,e]=.ok (.list ((jU (dn [] (Sw (ls.map (·.1)) es))).map .str)):=by
 have h:GR oO 2 gG (J.aa (rS 0) (J.aa (Du 2) J.aH)) [.shr (bA fs es),b,.own (dL ls),c,d,e]=okR oO (gG [bA fs es,dL ls]):=rfl;rw[h,Vw g];show(if oO _=true then _ else _)=_;rw[if_pos (Vy _)]
def i5(es:List gd)(ks:List Str):List Str:=srt (Sw ks es)
def Vz:x∈Sw ks es↔∃e∈es,Bj ks e=true/\x∈e.makes/\x∉ks:=by
 unfold Sw;rw[List.mem_flatMap];constructor
 ·rintro⟨e,he,f⟩;obtain⟨a,d⟩:=aS.1 he;obtain⟨b,c⟩:=aS.1 f;exact⟨e,a,d,b,by simpa using c⟩
 ·rintro⟨e,a,d,b,c⟩;exact⟨e,aS.2 ⟨a,d⟩,aS.2 ⟨b,by simpa using c⟩⟩
def qO:x∈i5 es ks↔∃e∈es,Bj ks e=true/\x∈e.makes/\x∉ks:=by
 unfold i5;rw[n6];exact Vz
def F6(es:List gd)(ks:List Str):(i5 es ks).Nodup:=iK (EZ _)
def vT(es:List gd):Nat->List (Str×Int)->Int->List (Str×Int)
 | 0,a,_=>a
 |n+1,a,k=>if i5 es (a.map (·.1))=[] then a else vT es n (a++(i5 es (a.map (·.1))).map λx=>(x,k)) (k+1)
structure pJ (fs:List Str) (ls:List (Str×Int)):Prop where
 nd:(ls.map (·.1)).Nodup
 sub:∀x∈ls.map (·.1),x∈fs
def pJ.len(h:pJ fs ls):ls.length<=fs.length:=by
 have:=vQ _ _ h.nd h.sub;rwa[am] at this
def pJ.more(g:da fs es)(h:pJ fs ls)(k:Int):pJ fs (ls++(i5 es (ls.map (·.1))).map λx=>(x,k)):=by
 have e:(ls++(i5 es (ls.map (·.1))).map λx=>(x,k)).map (·.1)=ls.map (·.1)++i5 es (ls.map (·.1)):=by
  rw[c6,c9];exact congrArg _ ((eG λ_ _=>rfl).trans (vc _))
 refine⟨?_,?_⟩
 ·rw[e,yR];refine⟨h.nd,F6 _ _,λa f b j z=>?_⟩;subst z;obtain⟨_,_,_,_,i⟩:=qO.1 j;exact i f
 ·rw[e];intro x c;rcases bD.1 c with c|c
  ·exact h.sub x c
  ·obtain⟨e,he,_,d,_⟩:=qO.1 c;exact(g.ok e he).makes.mem x d
def flB:aE->R Fl:=aQ (sf 4 (bO 5) (uV 2 (rS 5) (rS 3))) (aQ (NH 3 (kI 1)) (fN 4 (GR oO 2 gG (J.aa (rS 0) (J.aa (Du 2) J.aH)))))
def Sx:li=aQ (fD 2 (rq 1 [] (gE (rB 1)) kT (rS 0) (kI 0))) (aQ (fN 3 (kI 1)) (aQ (fN 4 (GR oO 2 gG (J.aa (rS 0) (J.aa (Du 2) J.aH)))) (aQ (hU (vK (rB 4)) flB 100000) (dv (rS 2))))):=rfl
abbrev WY(fs:List Str)(es:List gd)(S:D)(a:List (Str×Int))(k:Int)(s:Sl):aE:=[.shr (bA fs es),.shr S,.own (dL a),.shr (.int k),.shr (.list ((i5 es (a.map (·.1))).map .str)),s]
def VA(g:da fs es)(h:pJ fs ls):
  ∃s',flB (WY fs es S ls k s)=.ok (.nx (WY fs es S (ls++(i5 es (ls.map (·.1))).map λx=>(x,k)) (k+1) s')):=by
 have q:=h.len;have o:=g.rise.len;have p:(i5 es (ls.map (·.1))).length<=fs.length:=vQ _ _ (F6 _ _) λx d=>by
  obtain⟨e,he,_,i,_⟩:=qO.1 d;exact(g.ok e he).makes.mem x i
 obtain⟨s',e⟩:=HF (a:=.shr (bA fs es)) (b:=.shr S) (m:=.shr (.list ((i5 es (ls.map (·.1))).map .str))) (k:=k) (i5 es (ls.map (·.1))) ls s (F6 _ _) (λx d=>by
  obtain⟨_,_,_,_,j⟩:=qO.1 d;exact j) ∅
 refine⟨s',?_⟩;have l:sf 4 (bO 5) (uV 2 (rS 5) (rS 3)) (WY fs es S ls k s)=k7 (bO 5) (uV 2 (rS 5) (rS 3)) ((i5 es (ls.map (·.1))).map ay) (WY fs es S ls k s):=rfl;have n:∀m,NH 3 (kI 1) [.shr (bA fs es),.shr S,.own (dL m),.shr (.int k),.shr (.list ((i5 es (ls.map (·.1))).map .str)),s']=.ok (.nx [.shr (bA fs es),.shr S,.own (dL m),.shr (.int (k+1)),.shr (.list ((i5 es (ls.map (·.1))).map .str)),s']):=λm=>rfl;have f:∀(a b:aE->R Fl) (ρ c:aE),a ρ=.ok (.nx c)->aQ a b ρ=b c:=λa b ρ c h=>by unfold aQ;rw[h];rfl
 unfold flB;rw[f _ _ _ _ (l.trans e),f _ _ _ _ (n _)];unfold fN;rw[HG g];rfl
def Bn:vK (rB 4) (WY fs es S ls k s)=.ok (!(i5 es (ls.map (·.1))).isEmpty):=by
 have:vK (rB 4) (WY fs es S ls k s)=.ok (!((i5 es (ls.map (·.1))).map ay).isEmpty):=rfl
 rw[this];cases i5 es (ls.map (·.1))<;>rfl
def DL(g:da fs es)(h:pJ fs ls)(a:i5 es (ls.map (·.1))≠[]):ls.length+(i5 es (ls.map (·.1))).length<=fs.length/\0<(i5 es (ls.map (·.1))).length:=by
 have:=(h.more g 0).len;rw[aI,am] at this;exact⟨this,MX.2 a⟩
def Mw(a:t ρ=.ok true)(c:b ρ=.ok (.nx ρ')):hU t b (n+1) ρ=hU t b n ρ':=by
 rw[hU,a];simp only[c]
def F7(a:t ρ=.ok false):hU t b (n+1) ρ=.ok (.nx ρ):=by
 rw[hU,a]
theorem HH(g:da fs es):∀(n N:Nat) (a:List (Str×Int)) (k:Int) (s:Sl),pJ fs a->fs.length-a.length<=n->n<N ->
  ∃d p s',hU (vK (rB 4)) flB N (WY fs es S a k s)=.ok (.nx [.shr (bA fs es),.shr S,.own (dL (vT es n a k)),d,p,s'])
 |n,0,_,_,_,_,_,c=>absurd c (u4 _)
 | 0,N+1,a,k,s,h,j,c=>by
  by_cases b:i5 es (a.map (·.1))=[]
  ·exact⟨_,_,_,F7 (by rw[Bn,b];rfl)⟩
  ·have:=DL g h b;omega
 |n+1,N+1,a,k,s,h,j,c=>by
  by_cases b:i5 es (a.map (·.1))=[]
  ·rw[vT,if_pos b];exact⟨_,_,_,F7 (by rw[Bn,b];rfl)⟩
  ·have q:=DL g h b;obtain⟨s',e⟩:=VA (S:=S) (k:=k) (s:=s) g h;obtain⟨l,o,i,f⟩:=HH (S:=S) g n N _ (k+1) s' (h.more g k) (by rw[aI,am];omega) ∅;refine⟨l,o,i,?_⟩;rw[Mw (by rw[Bn];cases m:i5 es (a.map (·.1)) with|nil=>exact absurd m b|cons=>rfl) e,f,vT,if_neg b]
theorem Mx:∀(xs:List Str) (a:List (Str×Int)),xs.Nodup->(∀x∈xs,x∉a.map (·.1))->(xs.map λx=>ft [.str x,.int 0]).foldl Yh (mI a)=mI (a++xs.map λx=>(x,(0:Int)))
 |[],a,_,_=>by rw[dW,dW,b_];rfl
 |x::xs,a,d,c=>by
  obtain⟨f,g⟩:=gx.1 d;rw[ar,eh];have e:Yh (mI a) (.tuple [.str x,.int 0])=mI (a++[(x,0)]):=Mv (c x aj);rw[e,Mx xs (a++[(x,0)]) g (λy b=>by
   rw[c6,bD];rintro (h|h)
   ·exact c y (af _ b) h
   ·rw[show y=x by simpa using h] at b;exact f b),ar,fz]
  rfl
def Sy(a:ss.Nodup)(c:ss.length<=1000)(r:aE):rq 1 [] (gE (rB 1)) kT (rS 0) (kI 0) (B::.shr (aB ss)::r)=.ok (dL (ss.map λx=>(x,0))):=by
 unfold rq;have b:gE (rB 1) (B::.shr (aB ss)::r)=.ok (ss.map ay):=rfl;rw[b,bind_ok,if_pos (by rw[am];exact c)];rw[dE _ (λx:Str=>ay x) (λx=>ft [.str x,.int 0]) ss λx d=>fU rfl rfl,bind_ok];unfold Z0;rw[show([]:List (D×D))=mI [] from rfl,Mx ss [] a (λx _ h=>nomatch h),ny]
def zH(g:da fs es)(h:qu fs ss):ll [bA fs es,aB ss]=.ok (dL (vT es 6 (ss.map λx=>(x,0)) 1)):=by
 have f:=iK h.up;have i:(ss.map λx=>(x,(0:Int))).map (·.1)=ss:=by
  rw[c9];exact(eG λ_ _=>rfl).trans (vc _)
 have j:pJ fs (ss.map λx=>(x,(0:Int))):=⟨by rw[i];exact f,by rw[i];exact h.mem⟩;have k:=g.rise.len;have d:∀(a b:aE->R Fl) (ρ c:aE),a ρ=.ok (.nx c)->aQ a b ρ=b c:=λa b ρ c h=>by unfold aQ;rw[h];rfl
 unfold ll;refine cA ?_;rw[Sx];show aQ _ _ [.shr (bA fs es),.shr (aB ss),.no,.no,.no,.no]=_;rw[d _ _ _ [.shr (bA fs es),.shr (aB ss),.own (dL (ss.map λx=>(x,0))),.no,.no,.no] (by unfold fD;rw[Sy f (by have:=vQ _ _ f h.mem;omega)];rfl)];rw[d _ _ _ [.shr (bA fs es),.shr (aB ss),.own (dL (ss.map λx=>(x,0))),.shr (.int 1),.no,.no] rfl];rw[d _ _ _ (WY fs es (aB ss) (ss.map λx=>(x,0)) 1 .no) (by unfold fN;rw[HG g];rfl)];obtain⟨m,l,s',e⟩:=HH (S:=aB ss) g 6 100000 _ 1 .no j ∅ ⋯;rw[d _ _ _ _ e];rfl
theorem My(g:da fs es):∀(n:Nat) (a:List (Str×Int)) (k:Int),pJ fs a->pJ fs (vT es n a k)
 | 0,_,_,h=>h
 |n+1,a,k,h=>by
  rw[vT];split
  ·exact h
  ·exact My g n _ _ (h.more g k)
def Clo(es:List gd)(L:List (Str×Int)):Prop:=∀e∈es,∀l:Int,0<=l->(∀x∈e.needs,∃j,(x,j)∈L/\j<=l)->∀y∈e.makes,∃j,(y,j)∈L/\j<=l+1
structure Kh (es:List gd) (ls:List (Str×Int)) (k:Int):Prop where
 lo:∀p∈ls,0<=p.2/\p.2<k
 cl:∀e∈es,∀l:Int,0<=l->l+1<k->(∀x∈e.needs,∃j,(x,j)∈ls/\j<=l)->∀y∈e.makes,∃j,(y,j)∈ls/\j<=l+1
def Sz{a:List (Str×Int)}{e:gd}{l:Int}(h:∀x∈e.needs,∃j,(x,j)∈a/\j<=l):Bj (a.map (·.1)) e=true:=by
 unfold Bj;rw[bY];intro x c;obtain⟨j,b,_⟩:=h x c;exact decide_eq_true (cq.2 ⟨_,b,rfl⟩)
def SA{a:List (Str×Int)}{y:Str}(h:y∈a.map (·.1)):∃j,(y,j)∈a:=by
 obtain⟨p,b,e⟩:=cq.1 h;exact⟨p.2,by rw[<- e];exact b⟩
def Kh.fin{es:List gd}{a:List (Str×Int)}{k:Int}(h:Kh es a k)(f:i5 es (a.map (·.1))=[]):Clo es a:=by
 intro e he l g d y b;by_cases i:l+1<k
 ·exact h.cl e he l g i d y b
 ·have b:y∈a.map (·.1):=Decidable.byContradiction λz=>by
   have:y∈i5 es (a.map (·.1)):=qO.2 ⟨e,he,Sz d,b,z⟩
   rw[f] at this;cases this
  obtain⟨j,c⟩:=SA b;have:=h.lo _ c;exact⟨j,c,by dsimp only at this;omega⟩
def Kh.more{es:List gd}{b:List (Str×Int)}{k:Int}(h:Kh es b k)(u:0<=k):Kh es (b++(i5 es (b.map (·.1))).map λx=>(x,k)) (k+1):=by
 refine⟨λp o=>?_,λe he l s t d y m=>?_⟩
 ·rcases bD.1 o with z|z
  ·have:=h.lo p z;omega
  ·obtain⟨x,_,rfl⟩:=cq.1 z;dsimp only;omega
 ·have d:∀x∈e.needs,∃j,(x,j)∈b/\j<=l:=λx q=>by
   obtain⟨j,f,g⟩:=d x q;rcases bD.1 f with z|z
   ·exact⟨j,z,g⟩
   ·obtain⟨a,_,e⟩:=cq.1 z;cases e;omega
  by_cases i:l+1<k
  ·obtain⟨j,f,g⟩:=h.cl e he l s i d y m;exact⟨j,bF _ f,g⟩
  ·by_cases c:y∈b.map (·.1)
   ·obtain⟨j,n⟩:=SA c;have:=h.lo _ n;exact⟨j,bF _ n,by dsimp only at this;omega⟩
   ·exact⟨k,aA _ (cq.2 ⟨y,qO.2 ⟨e,he,Sz d,m,c⟩,rfl⟩),by omega⟩
theorem HI(g:da fs es):∀(n:Nat) (a:List (Str×Int)) (k:Int),pJ fs a->Kh es a k->0<=k->fs.length-a.length<=n ->
  Clo es (vT es n a k)/\(∀p∈vT es n a k,0<=p.2)/\∀p∈a,p∈vT es n a k
 |n,a,k,ok,h,l,f=>by
  by_cases d:i5 es (a.map (·.1))=[]
  ·have e:vT es n a k=a:=by cases n with
    |zero=>rfl
    |succ n=>rw[vT,if_pos d]
   rw[e];exact⟨h.fin d,λp b=>(h.lo p b).1,λp b=>b⟩
  ·have c:=ok.more g k;have m:=c.len;rw[aI,am] at m;have q:=MX.2 d
   match n,f with
   | 0,f=>omega
   |n+1,f=>
    obtain⟨i,o,j⟩:=HI g n _ (k+1) c (h.more l) ∅ (by rw[aI,am];omega);rw[vT,if_neg d];exact⟨i,o,λp b=>j p (bF _ b)⟩
theorem Mz(C:Clo es L):∀(g:List gd) (st x:List Str) (l:Int),0<=l->(∀e∈g,e∈es)->(∀f∈st,∃j,(f,j)∈L/\j<=l)->mH g st=some x->∀f∈x,∃j,(f,j)∈L/\j<=l+g.length
 |[],st,x,l,_,_,hs,h=>by
  cases h;intro f c;obtain⟨j,b,d⟩:=hs f c;exact⟨j,b,by simpa using d⟩
 |a::r,st,x,l,m,he,hs,h=>by
  have h':(if cB st a.needs a.bars then mH r (bK a st) else none)=some x:=h;split at h'
  ·rename_i i
   have i:=(nD.1 i).1;have:=Mz C r (bK a st) x (l+1) ∅ (λe h=>he e (af _ h)) (λf c=>by
    rcases o6.1 c with z|z
    ·obtain⟨j,b,d⟩:=hs f z.1;exact⟨j,b,by omega⟩
    ·exact C a (he a aj) l m (λx k=>hs x (i x k)) f z) h'
   intro f c;obtain⟨j,b,d⟩:=this f c;exact⟨j,b,by rw[aZ];omega⟩
  ·cases h'
abbrev LZ6(es:List gd)(ss:List Str):List (Str×Int):=vT es 6 (ss.map λx=>(x,0)) 1
structure WZ (fs ss:List Str) (es:List gd) (L:List (Str×Int)):Prop where
 key:pJ fs L
 clo:Clo es L
 pos:∀p∈L,0<=p.2
 beg:∀x∈ss,(x,(0:Int))∈L
def q1G(g:da fs es)(h:qu fs ss):WZ fs ss es (LZ6 es ss):=by
 have j:=iK h.up;have b:(ss.map λx=>(x,(0:Int))).map (·.1)=ss:=by
  rw[c9];exact(eG λ_ _=>rfl).trans (vc _)
 have c:pJ fs (ss.map λx=>(x,(0:Int))):=⟨by rw[b];exact j,by rw[b];exact h.mem⟩;have m:=g.rise.len;have a:Kh es (ss.map λx=>(x,(0:Int))) 1:=⟨λp a=>by
  obtain⟨x,_,rfl⟩:=cq.1 a;dsimp only;omega,λe he l o n=>by omega⟩
 obtain⟨d,f,i⟩:=HI g 6 _ 1 c a ⋯ ∅;exact⟨My g 6 _ 1 c,d,f,λx k=>i _ (cq.2 ⟨x,k,rfl⟩)⟩
def zI(a:List (Str×Int))(x:Str):Int:=((a.find? λp=>decide (p.1=x)).map (·.2)).getD 0
theorem SB:∀{b:List (Str×Int)}{x:Str}{v:Int},(b.map (·.1)).Nodup->(x,v)∈b->zI b x=v
 |p::b,x,v,c,h=>by
  rw[ar] at c;obtain⟨d,e⟩:=gx.1 c;unfold zI;rw[bM];by_cases a:p.1=x
  ·rw[decide_eq_true a];rcases aT.1 h with z|z
   ·rw[<- z];rfl
   ·exact absurd (by rw[a];exact cq.2 ⟨_,z,rfl⟩) d
  ·rw[decide_eq_false a];exact SB e ((aT.1 h).resolve_left λz=>a (by rw[<- z]))
theorem HJ(x:Str):∀a:List (Str×Int),x∈a.map (·.1)->iH (mI a) (.str x)=some (.int (zI a x))
 |p::a,b=>by
  have c:=HJ x a;unfold iH mI zI at *;rw[ar,bM,bM];by_cases h:p.1=x
  ·rw[show aR (ay p.1) (ay x)=true by rw[h];simp[aR],decide_eq_true h];rfl
  ·rw[show aR (ay p.1) (ay x)=false by simp[aR,h],decide_eq_false h];dsimp only;rw[ar] at b;exact c ((aT.1 b).resolve_left λz=>h z.symm)
def q0Q(h:x∈ls.map (·.1)):aX (dL ls) (.str x)=.ok (.int (zI ls x)):=by
 have:aX (dL ls) (.str x)=if fo (mI ls)=true then(match iH (mI ls) (.str x) with
  |some d=>.ok d
  |none=>.no) else .no:=rfl
 rw[this,if_pos (xB ls),HJ x ls h]
def VB(h:∀v∈vs,v<=n)(a:0<=n):yZ vs<=n:=by
 cases vs with
 |nil=>exact a
 |cons x r=>exact h _ (AR r x).1
def q0R(a:List Int):K0 (.list (a.map .int))=.ok (.int (yZ a)):=by
 unfold K0;simp only[AQ]
def Zg:Option Int->D
 |none=>.none
 |some i=>.int i
def hZ(L:List (Str×Int))(ss m b:List Str):Option Int:=if(m.all λx=>decide (x∈L.map (·.1)))=true then some (if yZ (m.map (zI L))=0/\(b.any λx=>decide (x∈ss))=true then 1 else yZ (m.map (zI L))) else none
def VC(g:da fs es)(h:qu fs ss)(w:pI fs m b):qi [bA fs es,aB ss,eF m b]=.ok (Zg (hZ (LZ6 es ss) ss m b)):=by
 have k:=fV w.must g.rise.len;have i:=fV w.bars g.rise.len;have c:=zH g h;generalize f:LZ6 es ss=L;rw[show vT es 6 (ss.map λx=>(x,0)) 1=L from f] at c;unfold qi;refine cA ?_;unfold ET bV;left;rw[F3 g h w];left;rw[show NB (mG 2 (cP (bO 3) (cP (bO 4) nP))) [Sl.shr (bA fs es),Sl.shr (aB ss),Sl.shr (eF m b),Sl.no,Sl.no,Sl.no,Sl.no] (eF m b)=.ok (.nx [Sl.shr (bA fs es),Sl.shr (aB ss),Sl.shr (eF m b),Sl.shr (aB m),Sl.shr (aB b),Sl.no,Sl.no]) from rfl];left;rw[c];left;rw[if_pos ∅];rw[dE _ (λx:Str=>ay x) (λx=>cr (decide (x∈L.map (·.1)))) m λx d=>fU (by rfl) (by
  left;rw[Kg];rfl)]
 left;rw[iy];left;rw[Bk];unfold hZ;cases e:(m.all λx=>decide (x∈L.map (·.1))) with
 |false=>
  left;rfl
 |true=>
  left;rw[if_pos ∅];rw[dE _ (λx:Str=>ay x) (λx=>e8 (zI L x)) m λx d=>fU (by rfl) (by
   left;rw[q0Q (of_decide_eq_true (bY.1 e x d))])]
  left;rw[show(m.map λx=>e8 (zI L x))=(m.map (zI L)).map e8 by rw[c9];rfl,q0R];left;rw[lm];left;by_cases a:yZ (m.map (zI L))=0
  ·rw[decide_eq_true a];left;rw[xv ∅];left;cases j:(b.any λx=>decide (x∈ss)) with
   |true=>
    left;rw[if_pos ⟨a,by first|trivial|rfl⟩];rfl
   |false=>
    left;rw[if_neg λz=>nomatch z.2];rfl
  ·rw[decide_eq_false a];left;rw[if_neg λz=>a z.1];rfl
def VD(k:WZ fs ss es L)(l:∀e∈rs,e∈es)(h:mH rs ss=some x)(s:cB x m b=true):∃t,hZ L ss m b=some t/\t<=(rs.length:Int):=by
 obtain⟨g,o⟩:=nD.1 s;have q:=Mz k.clo rs ss x 0 ⋯ l (λf n=>⟨0,k.beg f n,by decide⟩) h;have d:∀y∈m,y∈L.map (·.1)/\zI L y<=(rs.length:Int):=λy a=>by
  obtain⟨j,c,u⟩:=q y (g y a);exact⟨cq.2 ⟨_,c,rfl⟩,by rw[SB k.key.nd c];omega⟩
 unfold hZ;rw[if_pos (bY.2 λy a=>decide_eq_true (d y a).1)];refine⟨_,rfl,?_⟩;split
 ·rename_i i
  obtain⟨y,a,hs⟩:=jR.1 i.2;cases rs with
  |nil=>cases h;exact absurd (of_decide_eq_true hs) (o y a)
  |cons=>rw[aZ];omega
 ·refine VB (λv p=>?_) ∅;obtain⟨y,a,rfl⟩:=cq.1 p;exact(d y a).2
abbrev PZ:=Str×Str
def cR(p:PZ):D:=.tuple [.str p.1,.str p.2]
def gg:List Str->List PZ
 |[]=>[]
 |x::r=>((x::r).map λy=>(x,y))++gg r
def Ki{fs r:List Str}{x:Str}{k:Nat}(h:fs.drop k=x::r):
  kU 2 [.no,.no,.no,.shr (aB fs)] kT (gE (FM (rB 3) (Ew (rS 0)) IT)) kT (eZ (J.aa (rS 1) (J.aa (rS 2) J.aH)) .tuple) (.tuple [.int k,.str x])=.ok ((x::r).map λy=>cR (x,y)):=by
 have b:k<=(fs.map ay).length:=by
  rw[am];by_cases d:k<=fs.length
  ·exact d
  ·rw[IK ∅] at h;cases h
 have c:gE (FM (rB 3) (Ew (rS 0)) IT) [.shr (.int k),.shr (.str x),.no,.shr (aB fs)]=.ok ((x::r).map ay):=by
  have e:gE (FM (rB 3) (Ew (rS 0)) IT) [.shr (.int k),.shr (.str x),.no,.shr (aB fs)]=.ok (Aw (fs.map ay) (some (k:Int)) none):=rfl;rw[e,K3 _ k b,<- List.map_drop,h]
 have a:fE (RF 2 [.shr (.int k),.shr (.str x),.no,.shr (aB fs)] kT (eZ (J.aa (rS 1) (J.aa (rS 2) J.aH)) .tuple)) ((x::r).map ay)=.ok ((x::r).map λy=>cR (x,y)):=
  dE _ (λy:Str=>ay y) (λy=>cR (x,y)) (x::r) λy _=>rfl
 have e:kU 2 [.no,.no,.no,.shr (aB fs)] kT (gE (FM (rB 3) (Ew (rS 0)) IT)) kT (eZ (J.aa (rS 1) (J.aa (rS 2) J.aH)) .tuple) (.tuple [.int k,.str x])=Ay ((gE (FM (rB 3) (Ew (rS 0)) IT) [.shr (.int k),.shr (.str x),.no,.shr (aB fs)]).bind λes=>fE (RF 2 [.shr (.int k),.shr (.str x),.no,.shr (aB fs)] kT (eZ (J.aa (rS 1) (J.aa (rS 2) J.aH)) .tuple)) es):=rfl;rw[e,c,bind_ok,a];rfl
theorem Bo(fs:List Str):∀(r:List Str) (k:Nat),fs.drop k=r ->
  kW (kU 2 [.no,.no,.no,.shr (aB fs)] kT (gE (FM (rB 3) (Ew (rS 0)) IT)) kT (eZ (J.aa (rS 1) (J.aa (rS 2) J.aH)) .tuple)) (nQ k (r.map ay))=.ok ((gg r).map cR)
 |[],_,_=>rfl
 |x::r,k,h=>by
  have h':fs.drop (k+1)=r:=by rw[<- v8,h];rfl
  rw[ar,nQ];unfold kW;rw[Ki h,bind_ok,Bo fs r (k+1) h',bind_ok,gg,c6,c9];rfl
theorem DM:∀fs:List Str,2*(gg fs).length<=fs.length*(fs.length+1)
 |[]=>by simp[gg]
 |x::r=>by
  have:=DM r;rw[gg,aI,am,aZ];have e:(r.length+1)*(r.length+1+1)=r.length*(r.length+1)+2*(r.length+1):=by
   rw[Nat.add_mul,Nat.mul_add,Nat.one_mul];omega
  omega
def uB(h:fs.length<=6):(gg fs).length<=21:=by
 have a:=DM fs;have b:fs.length*(fs.length+1)<=6*7:=Nat.mul_le_mul h ∅;omega
def F8(h:fs.length<=6):iI [aB fs]=.ok (.list ((gg fs).map cR)):=by
 have a:=uB h;unfold iI;refine cA ?_;unfold pp bV;have e:yx 2 [0] (CA (J.aa (rS 0) J.aH)) kT (gE (FM (rB 3) (Ew (rS 0)) IT)) kT (eZ (J.aa (rS 1) (J.aa (rS 2) J.aH)) .tuple) [.shr (aB fs)]=(kW (kU 2 [.no,.no,.no,.shr (aB fs)] kT (gE (FM (rB 3) (Ew (rS 0)) IT)) kT (eZ (J.aa (rS 1) (J.aa (rS 2) J.aH)) .tuple)) (nQ 0 (fs.map ay))).bind λys=>if ys.length<=900 then .ok (.list ys) else .no:=rfl
 show(yx 2 [0] (CA (J.aa (rS 0) J.aH)) kT (gE (FM (rB 3) (Ew (rS 0)) IT)) kT (eZ (J.aa (rS 1) (J.aa (rS 2) J.aH)) .tuple) [.shr (aB fs)]).bind _=_;rw[e,Bo fs fs 0 rfl,bind_ok,if_pos (by rw[am];omega)];rfl
theorem yC:∀(fs:List Str) (p:PZ),p∈gg fs->p.1∈fs/\p.2∈fs
 |x::r,p,h=>by
  rw[gg] at h;rcases bD.1 h with z|z
  ·obtain⟨y,b,rfl⟩:=cq.1 z;exact⟨aj,b⟩
  ·obtain⟨a,c⟩:=yC r p z;exact⟨af _ a,af _ c⟩
theorem Bp:∀(fs:List Str) (x:Str),x∈fs->(x,x)∈gg fs
 |y::r,x,h=>by
  rw[gg];rcases aT.1 h with z|z
  ·rw[z];exact bF _ (cq.2 ⟨y,aj,rfl⟩)
  ·exact aA _ (Bp r x z)
def jO(xs:List Str)(p:PZ):Bool:=decide (p.1∈xs)&&decide (p.2∈xs)
def DN(p:PZ)(xs:List Str):iJ [cR p,aB xs]=.ok (.bool (jO xs p)):=by
 unfold iJ;refine cA ?_;unfold pq bV;left;rw[show aX (cR p) (.int 0)=.ok (.str p.1) from rfl];left;rw[jN];unfold jO;cases decide (p.1∈xs) with
 |false=>
  left;rfl
 |true=>
  left;rw[show aX (cR p) (.int 1)=.ok (.str p.2) from rfl];left;rw[jN];left;rfl
def ng(e:gd)(p:PZ):List Str:=[p.1,p.2].filter λx=>!decide (x∈e.makes)
def rN(e:gd)(p:PZ)(P:List PZ):Bool:=!(decide ((ng e p).length=2)||(([p.1,p.2].any λx=>decide (x∈e.ends))||(ng e p).any λx=>decide (x∈e.bars))) && !P.any (jO (e.needs++ng e p))
def VE(e:gd)(p:PZ):(ng e p).length<=2:=cD _ _
def Og(h:tw fs e)(a:fs.length<=6)(g:P.length<=21):xq [e_ e,cR p,.list (P.map cR)]=.ok (.bool (rN e p P)):=by
 have f:=fV h.needs a;have d:=VE e p;have w:nA [cR p,aB e.makes]=.ok (aB (ng e p)):=Bc (xs:=[p.1,p.2]) (by show 2<=60;omega);have s1:dz [cR p,aB e.ends]=.ok (.bool (!([p.1,p.2].any λx=>decide (x∈e.ends)))):=xv (xs:=[p.1,p.2]) (by show 2<=60;omega);have c:dz [aB (ng e p),aB e.bars]=.ok (.bool (!((ng e p).any λx=>decide (x∈e.bars)))):=xv ∅;unfold xq;refine cA ?_;unfold xp bV;left;rw[show(Ln (e_ e) (some 1) (some 5)).bind (NB (mG 4 (cP (bO 3) (cP (bO 4) (cP (bO 5) (cP (bO 6) nP))))) [Sl.shr (e_ e),Sl.shr (cR p),Sl.shr (eY (lF cR P)),Sl.no,Sl.no,Sl.no,Sl.no,Sl.no,Sl.no])=.ok (.nx [Sl.shr (e_ e),Sl.shr (cR p),Sl.shr (eY (lF cR P)),Sl.shr (aB e.needs),Sl.shr (aB e.bars),Sl.shr (aB e.makes),Sl.shr (aB e.ends),Sl.no,Sl.no]) from rfl];left;rw[w];left;rw[lm];unfold rN;have b:decide (((ng e p).length:Int)=2)=decide ((ng e p).length=2):=by rw[jf,decide_eq_true_iff,decide_eq_true_iff];omega
 rw[b];cases decide ((ng e p).length=2) with
 |true=>
  left;rfl
 |false=>
  left;rw[s1];left;cases([p.1,p.2].any λx=>decide (x∈e.ends)) with
  |true=>
   left;rfl
  |false=>
   left;rw[c];left;cases((ng e p).any λx=>decide (x∈e.bars)) with
   |true=>
    left;rfl
   |false=>
    left;rw[if_pos ∅,<- c6];left;rw[if_pos ∅];rw[dE _ cR (λq=>cr (jO (e.needs++ng e p) q)) P λq _=>fU rfl (by
     left;rw[DN])]
    left;rw[iy _ (jO (e.needs++ng e p))];left;rw[j3,show(id∘jO (e.needs++ng e p))=jO (e.needs++ng e p) from rfl];rfl
def oh(es:List gd)(P:List PZ)(p:PZ):Bool:=es.any λe=>rN e p P
def Kj(g:da fs es)(a:P.length<=21):gz [bA fs es,cR p,.list (P.map cR)]=.ok (.bool (oh es P p)):=by
 have b:=g.len;unfold gz;refine cA ?_;unfold mY bV;left;rw[K7];left;rw[if_pos ∅];rw[dE _ e_ (λe=>cr (rN e p P)) es λe he=>fU rfl (by
  left;rw[Og (g.ok e he) g.rise.len a])]
 left;rw[iy _ (λe=>rN e p P)];left;rw[j3];rfl
def i6(es:List gd)(P:List PZ):List PZ:=P.filter λp=>!oh es P p
def vU(es:List gd):Nat->List PZ->List PZ
 | 0,P=>i6 es P
 |n+1,P=>if i6 es P=P then i6 es P else vU es n (i6 es P)
def tE(es:List gd)(P:List PZ):(i6 es P).length<=P.length:=cD _ _
theorem Br:∀A B:List PZ,cG (A.map cR) (B.map cR)=decide (A=B)
 |[],[]=>rfl
 |[],_::_=>by simp[cG]
 |_::_,[]=>by simp[cG]
 |a::A,b::B=>by
  rw[ar,ar,cG,Br A B];have:aR (cR a) (cR b)=decide (a=b):=by
   obtain⟨d,e⟩:=a;obtain⟨b1,b2⟩:=b;by_cases c:d=b1<;>by_cases f:e=b2<;>simp[cR,aR,cG,c,f]
  rw[this];simp
def Bt{fs:List Str}(c:∀x∈fs,C2 x=true){A:List PZ}(h:∀p∈A,p.1∈fs/\p.2∈fs):(eY (A.map cR)).canLay0=true:=by
 simp only[dk];exact tx cR A λp a=>by
  have b:=n8 (c _ (h p a).1);have d:=n8 (c _ (h p a).2);simp only[dk] at b d;simp only[cR,dk,bW,b,d];rfl
def Oh(A:List PZ):(eY (A.map cR)).depth<=60:=by
 have:=DF cR 1 (λx=>by simp[cR,FL,mJ]) A;simp only[FL];omega
def VF(a:Bool){fs:List Str}(b:∀x∈fs,C2 x=true){A B:List PZ}(h:∀p∈A,p.1∈fs/\p.2∈fs)(h':∀p∈B,p.1∈fs/\p.2∈fs):mF a (.list (A.map cR)) (.list (B.map cR))=.ok (.bool (if a then !decide (A=B) else decide (A=B))):=by
 unfold mF;rw[Bt b h,Bt b h',decide_eq_true (ca (Nat.min_le_left _ _) (Oh A)),show aR (.list (A.map cR)) (.list (B.map cR))=cG (A.map cR) (B.map cR) from by simp[aR],Br];rfl
def kpB:aE->R Fl:=NA 2 (fD 3 (de 1 [0,2] (gE (rB 2)) (ji (eQ (eA 3 gz (J.aa (rS 1) (J.aa (rS 0) (J.aa (rS 2) J.aH)))))) (rS 0)))
def apB:aE->R Fl:=aQ (NA 3 (fN 2 (rS 3))) kpB
def SC:A6=aQ (mP (eA 2 fi (J.aa (rS 0) (J.aa (rS 1) J.aH)))) (aQ (fD 2 (de 1 [1] (gE (eA 1 iI (J.aa (g2 (rB 0) (kI 0) aX) J.aH))) (ji (eQ (eA 2 iJ (J.aa (rS 0) (J.aa (rS 1) J.aH))))) (rS 0))) (aQ kpB (aQ (hU (eQ (g2 (rB 3) (rB 2) (mF true))) apB 100000) (dv (rS 3))))):=rfl
def VG(g:da fs es)(b:P.length<=21):
  de 1 [0,2] (gE (rB 2)) (ji (eQ (eA 3 gz (J.aa (rS 1) (J.aa (rS 0) (J.aa (rS 2) J.aH)))))) (rS 0) [.shr (bA fs es),s1,.shr (.list (P.map cR)),s3]=.ok (.list ((i6 es P).map cR)):=by
 unfold de;have a:gE (rB 2) [.shr (bA fs es),s1,.shr (.list (P.map cR)),s3]=.ok (P.map cR):=rfl;rw[a,bind_ok,if_pos (by rw[am];omega)];rw[dw _ cR cR (λp=>!oh es P p) P λp _=>jC (by
  show ji (eQ (eA 3 gz (J.aa (rS 1) (J.aa (rS 0) (J.aa (rS 2) J.aH))))) [.shr (cR p),.shr (bA fs es),.shr (.list (P.map cR))]=_;left;rw[Kj g b];left) λ_=>rfl]
 rfl
def SD(g:da fs es)(b:P.length<=21)(a:s2=.own (.list (P.map cR))\/s2=.shr (.list (P.map cR))):
  kpB [.shr (bA fs es),s1,s2,s3]=.ok (.nx [.shr (bA fs es),s1,.shr (.list (P.map cR)),.own (.list ((i6 es P).map cR))]):=by
 have e:kpB [.shr (bA fs es),s1,s2,s3]=fD 3 (de 1 [0,2] (gE (rB 2)) (ji (eQ (eA 3 gz (J.aa (rS 1) (J.aa (rS 0) (J.aa (rS 2) J.aH)))))) (rS 0)) [.shr (bA fs es),s1,.shr (.list (P.map cR)),s3]:=by
  rcases a with rfl|rfl<;>rfl
 rw[e];unfold fD;rw[VG g b];rfl
theorem HK{fs:List Str}{es:List gd}{s1:Sl}(g:da fs es):∀(n N:Nat) (P:List PZ),(∀p∈P,p.1∈fs/\p.2∈fs)->P.length<=21->P.length<=n->n<N ->
  ∃h,hU (eQ (g2 (rB 3) (rB 2) (mF true))) apB N [.shr (bA fs es),s1,.shr (.list (P.map cR)),.own (.list ((i6 es P).map cR))]=.ok (.nx [.shr (bA fs es),s1,h,.own (.list ((vU es n P).map cR))])
 |n,0,_,_,_,_,c=>absurd c (u4 _)
 |n,N+1,P,hs,o,f,c=>by
  have i:∀p∈i6 es P,p.1∈fs/\p.2∈fs:=λp m=>hs p (aS.1 m).1;have k:=tE es P;have t:eQ (g2 (rB 3) (rB 2) (mF true)) [.shr (bA fs es),s1,.shr (.list (P.map cR)),.own (.list ((i6 es P).map cR))]=.ok (!decide (i6 es P=P)):=by
   have e:eQ (g2 (rB 3) (rB 2) (mF true)) [.shr (bA fs es),s1,.shr (.list (P.map cR)),.own (.list ((i6 es P).map cR))]=(mF true (.list ((i6 es P).map cR)) (.list (P.map cR))).bind λd=>match d with
    |.bool b=>.ok b
    |_=>.no:=rfl
   rw[e,VF true g.rise.ok i hs];rfl
  by_cases a:i6 es P=P
  ·have l:vU es n P=i6 es P:=by cases n with
    |zero=>rfl
    |succ n=>rw[vU,if_pos a]
   rw[l];rw[decide_eq_true a] at t;exact⟨_,F7 t⟩
  ·rw[decide_eq_false a] at t;have lt:(i6 es P).length<P.length:=Pe k λz=>a (List.filter_sublist.eq_of_length z)
   match n,f,c with
   | 0,f,_=>omega
   |n+1,f,c=>
    obtain⟨h,e⟩:=HK (s1:=s1) g n N (i6 es P) i ∅ ∅ ∅;refine⟨h,?_⟩;have b:apB [.shr (bA fs es),s1,.shr (.list (P.map cR)),.own (.list ((i6 es P).map cR))]=.ok (.nx [.shr (bA fs es),s1,.shr (.list ((i6 es P).map cR)),.own (.list ((i6 es (i6 es P)).map cR))]):=by
     have j:apB [.shr (bA fs es),s1,.shr (.list (P.map cR)),.own (.list ((i6 es P).map cR))]=kpB [.shr (bA fs es),s1,.shr (.list ((i6 es P).map cR)),.shr (.list ((i6 es P).map cR))]:=rfl;rw[j,SD g ∅ (.inr rfl)]
    rw[Mw t b,e,vU,if_neg a]
def kc(fs:List Str)(es:List gd)(ss:List Str):List PZ:=vU es 21 ((gg fs).filter λp=>!jO ss p)
def HL(g:da fs es)(h:qu fs ss):k_ [bA fs es,aB ss]=.ok (.list ((kc fs es ss).map cR)):=by
 have d:∀(a b:aE->R Fl) (ρ c:aE),a ρ=.ok (.nx c)->aQ a b ρ=b c:=λa b ρ c h=>by unfold aQ;rw[h];rfl
 have pl:=uB g.rise.len;have n:((gg fs).filter λp=>!jO ss p).length<=(gg fs).length:=cD _ _;have e:∀p∈(gg fs).filter λp=>!jO ss p,p.1∈fs/\p.2∈fs:=λp i=>yC fs p (aS.1 i).1;have l:de 1 [1] (gE (eA 1 iI (J.aa (g2 (rB 0) (kI 0) aX) J.aH))) (ji (eQ (eA 2 iJ (J.aa (rS 0) (J.aa (rS 1) J.aH))))) (rS 0) [.shr (bA fs es),.shr (aB ss),.no,.no]=.ok (.list (((gg fs).filter λp=>!jO ss p).map cR)):=by
  unfold de;have j:gE (eA 1 iI (J.aa (g2 (rB 0) (kI 0) aX) J.aH)) [.shr (bA fs es),.shr (aB ss),.no,.no]=(iI [aB fs]).bind rj:=rfl;rw[j,F8 g.rise.len,bind_ok,show rj (.list ((gg fs).map cR))=.ok ((gg fs).map cR) from rfl,bind_ok,if_pos (by rw[am];omega)];rw[dw _ cR cR (λp=>!jO ss p) (gg fs) λp _=>jC (by
   show ji (eQ (eA 2 iJ (J.aa (rS 0) (J.aa (rS 1) J.aH)))) [.shr (cR p),.shr (aB ss)]=_;left;rw[DN];left) λ_=>rfl]
  rfl
 obtain⟨m,k⟩:=HK (s1:=.shr (aB ss)) g 21 100000 _ e ∅ ∅ ⋯;unfold k_;refine cA ?_;rw[SC];show aQ _ _ [.shr (bA fs es),.shr (aB ss),.no,.no]=_;have f:eA 2 fi (J.aa (rS 0) (J.aa (rS 1) J.aH)) [.shr (bA fs es),.shr (aB ss),.no,.no]=fi [bA fs es,aB ss]:=rfl;rw[d _ _ _ [.shr (bA fs es),.shr (aB ss),.no,.no] (by unfold mP;rw[f,xw g h];rfl)];rw[d _ _ _ [.shr (bA fs es),.shr (aB ss),.own (.list (((gg fs).filter λp=>!jO ss p).map cR)),.no] (by unfold fD;rw[l];rfl)];rw[d _ _ _ _ (SD g ∅ (.inl rfl)),d _ _ _ _ k];rfl
theorem F9:∀(n:Nat) (P:List PZ),p∈vU es n P->p∈P
 | 0,P,h=>(aS.1 h).1
 |n+1,P,h=>by
  rw[vU] at h;split at h
  ·exact(aS.1 h).1
  ·exact(aS.1 (F9 n _ h)).1
theorem HM:∀(n:Nat) (P:List PZ),P.length<=n->i6 es (vU es n P)=vU es n P
 | 0,P,h=>by
  have:P=[]:=List.eq_nil_of_length_eq_zero ∅
  subst this;rfl
 |n+1,P,h=>by
  rw[vU];by_cases a:i6 es P=P
  ·rw[if_pos a,a,a]
  ·rw[if_neg a];have lt:(i6 es P).length<P.length:=Pe (tE es P) λz=>a (List.filter_sublist.eq_of_length z);exact HM n _ ∅
theorem HN(a:∀P,oh es P p=false):∀(n:Nat) (P:List PZ),p∈P->p∈vU es n P
 | 0,P,h=>aS.2 ⟨h,by rw[a];rfl⟩
 |n+1,P,h=>by
  have b:p∈i6 es P:=aS.2 ⟨h,by rw[a];rfl⟩;rw[vU];split
  ·exact b
  ·exact HN a n _ b
def uC:jO xs p=true↔p.1∈xs/\p.2∈xs:=by
 unfold jO;rw[aU,decide_eq_true_iff,decide_eq_true_iff]
def Kk(v:∀y∈e.makes,y∉e.ends)(A:cB x e.needs e.bars=true)(o:∀q∈P,jO x q=false)(f:jO x p=false)(n:jO (bK e x) p=true):rN e p P=true:=by
 obtain⟨u,g2⟩:=nD.1 A;obtain⟨b1,b2⟩:=uC.1 n;have c:∀y∈[p.1,p.2],(y∈x/\y∉e.ends)\/y∈e.makes:=λy a=>by
  rcases aT.1 a with z|z
  ·rw[z];exact o6.1 b1
  ·rw[bN.1 z];exact o6.1 b2
 have b:∀y∈ng e p,y∈x:=λy a=>by
  obtain⟨h,d⟩:=aS.1 a;rcases c y h with z|z
  ·exact z.1
  ·rw[decide_eq_true z] at d;cases d
 have l:¬(ng e p).length=2:=λz=>by
  have:∀y∈[p.1,p.2],(!decide (y∈e.makes))=true:=List.length_filter_eq_length_iff.1 z
  have i:p.1∈ng e p:=aS.2 ⟨by simp,this _ (by simp)⟩;have E:p.2∈ng e p:=aS.2 ⟨by simp,this _ (by simp)⟩;rw[uC.2 ⟨b _ i,b _ E⟩] at f;cases f
 have m:([p.1,p.2].any λy=>decide (y∈e.ends))=false:=by
  rw[dU];intro y a z;have z:=of_decide_eq_true z;rcases c y a with w|w
  ·exact w.2 z
  ·exact v y w z
 have B:((ng e p).any λy=>decide (y∈e.bars))=false:=by
  rw[dU];intro y a z;exact g2 y (of_decide_eq_true z) (b y a)
 have j:P.any (jO (e.needs++ng e p))=false:=by
  rw[dU];intro q k z;obtain⟨s,t⟩:=uC.1 z;have g:∀y∈e.needs++ng e p,y∈x:=λy a=>(bD.1 a).elim (u y) (b y);have:=o q k;rw[uC.2 ⟨g _ s,g _ t⟩] at this;cases this
 unfold rN;rw[decide_eq_false l,m,B,j];rfl
theorem DO(g:da fs es)(d:∀q∈A,∀e∈es,rN e q A=false):∀(f:List gd) (st x:List Str),(∀e∈f,e∈es)->(∀q∈A,jO st q=false)->mH f st=some x->∀q∈A,jO x q=false
 |[],st,x,_,hs,h=>by cases h;exact hs
 |a::r,st,x,he,hs,h=>by
  have h':(if cB st a.needs a.bars then mH r (bK a st) else none)=some x:=h;split at h'
  ·rename_i i
   have b:=he a aj;refine DO g d r (bK a st) x (λe h=>he e (af _ h)) (λq c=>?_) h';cases j:jO (bK a st) q with
   |false=>rfl
   |true=>
    have:=Kk (g.ok a b).me i hs (hs q c) j;rw[d q c a b] at this;cases this
  ·cases h'
def HQ(g:da fs es)(h:Ms es ss x):∀q∈kc fs es ss,jO x q=false:=by
 obtain⟨d,b,f⟩:=h;have pl:=uB g.rise.len;have i:((gg fs).filter λp=>!jO ss p).length<=(gg fs).length:=cD _ _;have c:i6 es (kc fs es ss)=kc fs es ss:=HM 21 _ ∅;refine DO g (λq a e he=>?_) d ss x b (λq a=>?_) f
 ·rw[<- c] at a;have:=(aS.1 a).2;have:oh es (kc fs es ss) q=false:=by simpa using this
  unfold oh at this;rw[dU] at this;simpa using this e he
 ·have:=(aS.1 (F9 21 _ a)).2;simpa using this
def Oi:∀q∈kc fs es ss,q.1∈fs/\q.2∈fs:=λq a=>yC fs q (aS.1 (F9 21 _ a)).1
def Kl(a:f∈fs)(c:f∉ss)(b:∀e∈es,f∉e.makes):(f,f)∈kc fs es ss:=by
 refine HN (λP=>?_) 21 _ (aS.2 ⟨Bp fs f a,?_⟩)
 ·unfold oh;rw[dU];intro e he;have:ng e (f,f)=[f,f]:=by simp[ng,b e he]
  unfold rN;rw[this];simp
 ·simp[jO,c]
def Oj(g:da fs es):(kc fs es ss).length<=21:=by
 have pl:=uB g.rise.len;have b:((gg fs).filter λp=>!jO ss p).length<=(gg fs).length:=cD _ _;have:∀(n:Nat) (P:List PZ),(vU es n P).length<=P.length:=λn=>by
  induction n with
  |zero=>exact tE es
  |succ n a=>
   intro P;rw[vU];split
   ·exact tE es P
   ·exact ca (a _) (tE es P)
 exact ca (this 21 _) ∅
def VH(a:Bool)(ds:List D)(h:bW ds=true):mF a (.list ds) (.list [])=.ok (.bool (a != decide (ds=[]))):=by
 unfold mF;have b:(eY ds).canLay0=true:=by simp only[dk];exact h
 have d:min (eY ds).depth (eY []).depth<=60:=ca (sr _ _) ⋯;have c:aR (.list ds) (.list [])=decide (ds=[]):=by
  cases ds with
  |nil=>rfl
  |cons x r=>simp[aR,cG]
 rw[b,show(eY []).canLay0=true from rfl,decide_eq_true d,c];cases a<;>cases decide (ds=[])<;>rfl
def Fa(ds:List D)(h:bW ds=true):mF false (.list ds) (.list [])=.ok (.bool (decide (ds=[]))):=by rw[VH false ds h,Bool.false_bne]
def W_(a b:aE->R Fl)(ρ c:aE)(h:a ρ=.ok (.nx c)):aQ a b ρ=b c:=by unfold aQ;rw[h];rfl
theorem Bu:∀(c:List gd) (st y:List Str),mH c st=some y->f∈y->f∈st\/∃e∈c,f∈e.makes
 |[],st,y,h,b=>by cases h;exact .inl b
 |a::r,st,y,h,b=>by
  have h':(if cB st a.needs a.bars then mH r (bK a st) else none)=some y:=h;split at h'
  ·rcases Bu r (bK a st) y h' b with z|⟨e,he,z⟩
   ·rcases o6.1 z with w|w
    ·exact .inl w.1
    ·exact .inr ⟨a,aj,w⟩
   ·exact .inr ⟨e,af _ he,z⟩
  ·cases h'
def Ol(es:List gd)(x:Str):List gd:=es.filter λe=>decide (x∈e.makes)
def MA(h:Ms es ss y)(c:x∈y)(hs:x∉ss):Ol es x≠[]:=λz=>by
 obtain⟨d,a,b⟩:=h;rcases Bu d ss y b c with w|⟨e,he,w⟩
 ·exact hs w
 ·have:e∈Ol es x:=aS.2 ⟨a e he,decide_eq_true w⟩
  rw[z] at this;cases this
def VI(l:x∈m)(hs:x∉ss)(h:Ol es x=[e]):e∈Mu es ss m b:=by
 have he:e∈Ol es x:=by rw[h];exact aj
 refine aS.2 ⟨(aS.1 he).1,?_⟩;rw[yU];refine Bool.eq_false_iff.2 λo=>?_;obtain⟨y,k,n⟩:=xA.1 o;have j:=MA k ((nD.1 n).1 x l) hs;obtain⟨d,a⟩:=List.exists_mem_of_ne_nil _ j;obtain⟨f,g⟩:=aS.1 a;obtain⟨i,c⟩:=aS.1 f;have:d∈Ol es x:=aS.2 ⟨i,g⟩
 rw[h] at this;rw[bN.1 this] at c;simp at c
def bdA:aE->R Fl:=aQ (fD 6 (de 1 [5] (gE (g2 (rB 1) (kI 1) aX)) (eQ (g2 (rB 1) (g2 (rB 0) (kI 3) aX) (oG false))) (g2 (rB 0) (kI 0) aX))) (aQ (fK (qB (eQ (g2 (rB 5) (rB 2) (oG true))) (eQ (g2 (rB 6) (eZ J.aH .list) (mF false)))) (dv (kB false)) (λρ=>.ok (.nx ρ))) (fK (qB (eQ (g2 (rB 5) (rB 2) (oG true))) (qB (eQ (g2 (cw (J.aa (rB 6) J.aH) (iT mf)) (kI 1) (mF false))) (eQ (g2 (g2 (rB 6) (kI 0) aX) (eA 3 qN (J.aa (rS 1) (J.aa (rS 2) (J.aa (rS 3) J.aH)))) (oG true))))) (dv (kB false)) (λρ=>.ok (.nx ρ))))
def VJ(g:da fs es)(hs:qu fs ss)(p:pI fs m b)(h:Ms es ss y)(j:cB y m b=true)(i:x∈m):
  bdA [.shr A,.shr (bA fs es),.shr (aB ss),.shr (eF m b),.shr k,.shr (.str x),s6,.no,.no]=.ok (.nx [.shr A,.shr (bA fs es),.shr (aB ss),.shr (eF m b),.shr k,.shr (.str x),.own (vS (Ol es x)),.no,.no]):=by
 have q:=g.len;have n:xz es ss m b=true:=xA.2 ⟨y,h,j⟩;have f:bW ((Ol es x).map λe=>ay e.name)=true:=tx _ (Ol es x) λe he=>n8 (g.ok e (aS.1 he).1).name;unfold bdA;left;rw[K7];left;rw[if_pos ∅];rw[dw _ e_ (λe=>ay e.name) (λe=>decide (x∈e.makes)) es λe he=>jC (by
  left;rw[show aX (e_ e) (.int 3)=.ok (aB e.makes) from rfl];left;rw[jN];rfl) λ_=>(by
  left;rw[Ho])]
 left;rw[jN];by_cases a:x∈ss
 ·rw[decide_eq_true a];left;rw[jN,decide_eq_true a];left;rfl
 ·rw[decide_eq_false a];left;rw[show List.filter (λe=>decide (x∈e.makes)) es=Ol es x from rfl];have c:=MA h ((nD.1 j).1 x i) a;rw[Fa _ f,decide_eq_false (λz=>c (wx.1 z))];left;rw[jN,decide_eq_false a];left;rw[lm];have o:decide ((((Ol es x)).length:Int)=1)=decide ((Ol es x).length=1):=by rw[jf,decide_eq_true_iff,decide_eq_true_iff];omega
  rw[o];by_cases d:(Ol es x).length=1
  ·rw[decide_eq_true d];left;obtain⟨e,he⟩:=List.length_eq_one_iff.1 d;have l:=VI (b:=b) i a he;rw[he];rw[show aX (.list ([e].map λe=>ay e.name)) (.int 0)=.ok (.str e.name) from rfl];left;rw[Vv g hs p n];left;rw[show vS (Mu es ss m b)=.list (((Mu es ss m b).map (·.name)).map .str) from by unfold vS;rw[c9];rfl,F1,decide_eq_true (cq.2 ⟨e,l,rfl⟩)];left;try rfl
  ·rw[decide_eq_false d];left;try rfl
theorem HR(g:da fs es)(hs:qu fs ss)(j:pI fs m b)(i:Ms es ss y)(l:cB y m b=true):∀(xs:List Str) (c s6:Sl),(∀x∈xs,x∈m) ->
  ∃d f,k7 (bO 5) bdA (xs.map ay) [.shr A,.shr (bA fs es),.shr (aB ss),.shr (eF m b),.shr k,c,s6,.no,.no]=.ok (.nx [.shr A,.shr (bA fs es),.shr (aB ss),.shr (eF m b),.shr k,d,f,.no,.no])
 |[],c,s6,_=>⟨c,s6,rfl⟩
 |x::xs,c,s6,h=>by
  obtain⟨a,o,e⟩:=HR (A:=A) (k:=k) g hs j i l xs (.shr (.str x)) (.own (vS (Ol es x))) λz n=>h z (af _ n);refine⟨a,o,?_⟩;rw[ar,Bm (ρ1:=[.shr A,.shr (bA fs es),.shr (aB ss),.shr (eF m b),.shr k,.shr (.str x),s6,.no,.no]) rfl (VJ g hs j i l (h x aj)),e]
def anA:aE->R Bool:=eQ (cw (J.aa (de 2 [3] (gE (eA 2 k_ (J.aa (rS 1) (J.aa (rS 2) J.aH)))) kT (mM (g2 (rB 0) (g2 (rB 2) (kI 0) aX) (oG false)) (g2 (rB 1) (g2 (rB 2) (kI 0) aX) (oG false)))) J.aH) (iT (fm λbs=>bs.any id)))
def VL(g:da fs es)(hs:qu fs ss)(h:Ms es ss y)(o:cB y m b=true):
  anA [.shr A,.shr (bA fs es),.shr (aB ss),.shr (eF m b),.shr k,.no,.no,.no,.no]=.ok false:=by
 have s:=Oj (ss:=ss) g;have i:((kc fs es ss).any (jO m))=false:=by
  rw[dU];intro q c z;obtain⟨l,n⟩:=uC.1 z;have a:=(nD.1 o).1;have:=HQ g h q c;rw[uC.2 ⟨a _ l,a _ n⟩] at this;cases this
 have j:gE (eA 2 k_ (J.aa (rS 1) (J.aa (rS 2) J.aH))) [.shr A,.shr (bA fs es),.shr (aB ss),.shr (eF m b),.shr k,.no,.no,.no,.no]=(k_ [bA fs es,aB ss]).bind rj:=rfl;have f:de 2 [3] (gE (eA 2 k_ (J.aa (rS 1) (J.aa (rS 2) J.aH)))) kT (mM (g2 (rB 0) (g2 (rB 2) (kI 0) aX) (oG false)) (g2 (rB 1) (g2 (rB 2) (kI 0) aX) (oG false))) [.shr A,.shr (bA fs es),.shr (aB ss),.shr (eF m b),.shr k,.no,.no,.no,.no]=.ok (.list ((kc fs es ss).map λq=>cr (jO m q))):=by
  unfold de;rw[j,HL g hs,bind_ok,show rj (.list ((kc fs es ss).map cR))=.ok ((kc fs es ss).map cR) from rfl,bind_ok,if_pos (by rw[am];omega)];rw[dE _ cR (λq=>cr (jO m q)) (kc fs es ss) λq _=>(by
   have e:iG 2 (jM 2 [3] [.shr A,.shr (bA fs es),.shr (aB ss),.shr (eF m b),.shr k,.no,.no,.no,.no]) kT (mM (g2 (rB 0) (g2 (rB 2) (kI 0) aX) (oG false)) (g2 (rB 1) (g2 (rB 2) (kI 0) aX) (oG false))) (cR q)=Ay ((mM (g2 (rB 0) (g2 (rB 2) (kI 0) aX) (oG false)) (g2 (rB 1) (g2 (rB 2) (kI 0) aX) (oG false)) [.shr (.str q.1),.shr (.str q.2),.shr (eF m b)]).bind λy=>.ok (some y)):=rfl;have p:mM (g2 (rB 0) (g2 (rB 2) (kI 0) aX) (oG false)) (g2 (rB 1) (g2 (rB 2) (kI 0) aX) (oG false)) [.shr (.str q.1),.shr (.str q.2),.shr (eF m b)]=.ok (.bool (jO m q)):=by
    left;rw[q0H];left;rw[jN];unfold jO;cases decide (q.1∈m) with
    |false=>
     left;rfl
    |true=>
     left;rw[q0H];left;rw[jN];rfl
   rw[e,p];rfl)]
  rfl
 have e:anA [.shr A,.shr (bA fs es),.shr (aB ss),.shr (eF m b),.shr k,.no,.no,.no,.no]=((((de 2 [3] (gE (eA 2 k_ (J.aa (rS 1) (J.aa (rS 2) J.aH)))) kT (mM (g2 (rB 0) (g2 (rB 2) (kI 0) aX) (oG false)) (g2 (rB 1) (g2 (rB 2) (kI 0) aX) (oG false))) [.shr A,.shr (bA fs es),.shr (aB ss),.shr (eF m b),.shr k,.no,.no,.no,.no]).bind λd=>.ok [d]).bind (iT (fm λbs=>bs.any id))).bind λd=>match d with
  |.bool b=>.ok b
  |_=>.no):=rfl
 rw[e,f,bind_ok,bind_ok];show((fm (λbs=>bs.any id) (.list ((kc fs es ss).map λq=>cr (jO m q)))).bind _)=_;rw[iy _ (jO m),bind_ok,j3];exact congrArg R.ok i
def SE{es:List gd}(f:(es.map (·.name)).Nodup){a e:gd}(b:a∈es)(he:e∈es)(h:a.name=e.name):a=e:=by
 induction es with
 |nil=>cases b
 |cons x r d=>
  obtain⟨c,g⟩:=List.nodup_cons.mp f;rcases List.mem_cons.mp b with z|z<;>rcases List.mem_cons.mp he with w|w
  ·rw[z,w]
  ·exact(c (by show x.name∈_;rw[<- z,h];exact bZ w)).elim
  ·exact(c (by show x.name∈_;rw[<- w,<- h];exact bZ z)).elim
  ·exact d g z w
def VM(b:Bool){fs:List Str}(d:∀x∈fs,C2 x=true){A:List PZ}(h:∀p∈A,p.1∈fs/\p.2∈fs){x:Str}(i:x∈fs):J.RA b (.tuple [.str x,.str x]) (.list (A.map cR))=.ok (.bool (if b then !decide ((x,x)∈A) else decide ((x,x)∈A))):=by
 have c:(cR (x,x)).canLay0=true:=by
  have c:=n8 (d _ i);simp only[dk] at c;simp only[cR,dk,bW,c];rfl
 have k:bW (A.map cR)=true:=by
  have:=Bt d h;simpa only[dk] using this
 have g:(cR (x,x)).depth<=60:=by simp[cR,FL,mJ]
 have j:∀A:List PZ,((A.map cR).any λy=>aR y (cR (x,x)))=decide ((x,x)∈A):=λA=>by
  induction A with
  |nil=>rfl
  |cons a A f=>
   rw[ar,eT,f];have:aR (cR a) (cR (x,x))=decide (a=(x,x)):=by
    have e:=Br [a] [(x,x)];simp only[ar,dW,cG,Bool.and_true] at e;rw[e];exact decide_eq_decide.2 ⟨λh=>(oM h).1,λh=>by rw[h]⟩
   rw[this,jf,jg,decide_eq_true_iff,decide_eq_true_iff,decide_eq_true_iff,aT];exact⟨λh=>h.imp Eq.symm id,λh=>h.imp Eq.symm id⟩
 show J.RA b (cR (x,x)) (.list (A.map cR))=_;unfold J.RA;dsimp only;rw[c,k,decide_eq_true g,j];rfl
def Km(es:List gd)(x:Str)(a:List Str):List gd:=es.filter λe=>decide (x∈e.makes) && !decide (e.name∈a)
def anB:aE->R Bool:=eQ (cw (J.aa (de 1 [5] (gE (rB 7)) kT (g2 (rB 1) (rB 0) (oG false))) J.aH) (iT (fm λbs=>bs.any id)))
def Z2:aE->R Fl:=aQ (fD 6 (de 1 [5,8] (gE (g2 (rB 1) (kI 1) aX)) (qB (eQ (g2 (rB 1) (g2 (rB 0) (kI 3) aX) (oG false))) (eQ (g2 (g2 (rB 0) (kI 0) aX) (rB 2) (oG true)))) (g2 (rB 0) (kI 0) aX))) (fK (qB (eQ (g2 (rB 6) (eZ J.aH .list) (mF false))) (eQ (g2 (rB 5) (rB 2) (oG true)))) (fK (IS anB (qB (eQ (g2 (eZ (J.aa (rS 5) (J.aa (rS 5) J.aH)) .tuple) (eA 2 k_ (J.aa (rS 1) (J.aa (rS 2) J.aH))) (RA true))) (eQ (g2 (rB 8) (eZ J.aH .list) (mF false))))) (dv (kB false)) (λρ=>.ok (.nx ρ))) (λρ=>.ok (.nx ρ)))
def YO{fs ss:List Str}{es:List gd}(g:da fs es){e:gd}(he:e∈es)(h:e.name∈(es.filter (mQ es ss)).map (·.name)):mQ es ss e=true:=by
 obtain⟨a,b,f⟩:=cq.1 h;obtain⟨c,d⟩:=aS.1 b;have:a=e:=by
  exact SE g.nd c he f
 rw[<- this];exact d
def VN{fs ss:List Str}{es:List gd}{A W k:D}{s6:Sl}{x:Str}{ks:List (List Str)}(g:da fs es)(hs:qu fs ss)(H:∀y∈ks,Ms es ss y)(K:ks.length<=64)(s:x∈fs):
  ∃j,Z2 [.shr A,.shr (bA fs es),.shr (aB ss),.shr W,.shr k,.shr (.str x),s6,.shr (.list (ks.map aB)),.shr (.list (((es.filter (mQ es ss)).map (·.name)).map .str))]=.ok (.nx [.shr A,.shr (bA fs es),.shr (aB ss),.shr W,.shr k,.shr (.str x),j,.shr (.list (ks.map aB)),.shr (.list (((es.filter (mQ es ss)).map (·.name)).map .str))]):=by
 have I:=g.len;generalize a:(es.filter (mQ es ss)).map (·.name)=lz;have m:bW ((Km es x lz).map λe=>ay e.name)=true:=tx _ (Km es x lz) λe he=>n8 (g.ok e (aS.1 he).1).name;have b:bW (lz.map .str)=true:=by
  rw[<- a];refine tx _ _ λn d=>?_;obtain⟨e,he,rfl⟩:=cq.1 d;exact n8 (g.ok e (aS.1 he).1).name
 refine⟨.own (.list ((Km es x lz).map λe=>ay e.name)),?_⟩;unfold Z2;left;rw[K7];left;rw[if_pos ∅];rw[dw _ e_ (λe=>ay e.name) (λe=>decide (x∈e.makes) && !decide (e.name∈lz)) es λe he=>jC (by
  left;rw[show aX (e_ e) (.int 3)=.ok (aB e.makes) from rfl];left;rw[jN];cases decide (x∈e.makes) with
  |false=>
   left;rfl
  |true=>
   left;rw[Ho];left;rw[F1];left;try rfl) λ_=>(by
  left;rw[Ho])]
 left;rw[show List.filter (λe=>decide (x∈e.makes) && !decide (e.name∈lz)) es=Km es x lz from rfl,Fa _ m];by_cases p:Km es x lz=[]
 ·rw[decide_eq_true (show((Km es x lz).map λe=>ay e.name)=[] by rw[p];rfl)];left;rw[jN];by_cases c:x∈ss
  ·rw[decide_eq_true c];left;try rfl
  ·rw[decide_eq_false c];left;have none:∀e∈es,x∈e.makes->e.name∈lz:=λe he l=>by
    by_cases d:e.name∈lz
    ·exact d
    ·have:e∈Km es x lz:=aS.2 ⟨he,by rw[decide_eq_true l,decide_eq_false d];rfl⟩
     rw[p] at this;cases this
   have f:∀y∈ks,x∉y:=λy f i=>by
    obtain⟨B,E,G⟩:=Ke.2 (H y f);rcases Bu B ss y G i with w|⟨e,he,w⟩
    ·exact c w
    ·obtain⟨q,t⟩:=aS.1 (E e he);have:=none e q w;rw[<- a] at this;rw[YO g q this] at t;cases t
   have u:∀s6,anB [.shr A,.shr (bA fs es),.shr (aB ss),.shr W,.shr k,.shr (.str x),s6,.shr (.list (ks.map aB)),.shr (.list (lz.map .str))]=.ok false:=λs6=>by
    unfold anB;left;rw[if_pos ∅];rw[dE _ aB (λy=>cr (decide (x∈y))) ks λy _=>fU rfl (by
     left;rw[jN];rfl)]
    left;rw[iy _ (λy=>decide (x∈y))];left;rw[j3,show(id∘λy=>decide (x∈y))=λy=>decide (x∈y) from rfl,dU.2 λy h z=>f y h (of_decide_eq_true z)]
   rw[u];left;rw[HL g hs];left;rw[VM true g.rise.ok (Oi (ss:=ss) (es:=es)) s];by_cases o:(x,x)∈kc fs es ss
   ·rw[decide_eq_true o];left;try rfl
   ·rw[decide_eq_false o];left;have v:lz≠[]:=λz=>o (Kl s c λe he l=>by
     have:=none e he l;rw[z] at this;cases this)
    rw[Fa _ b,decide_eq_false λz=>v (wx.1 z)];left;try rfl
 ·rw[decide_eq_false λz=>p (wx.1 z)];left;try rfl
theorem HS{fs ss:List Str}{es:List gd}{A W k:D}{ks:List (List Str)}(g:da fs es)(hs:qu fs ss)(l:∀y∈ks,Ms es ss y)(j:ks.length<=64):∀(xs:List Str) (d s6:Sl),(∀x∈xs,x∈fs) ->
  ∃f i,k7 (bO 5) Z2 (xs.map ay) [.shr A,.shr (bA fs es),.shr (aB ss),.shr W,.shr k,d,s6,.shr (.list (ks.map aB)),.shr (.list (((es.filter (mQ es ss)).map (·.name)).map .str))]=.ok (.nx [.shr A,.shr (bA fs es),.shr (aB ss),.shr W,.shr k,f,i,.shr (.list (ks.map aB)),.shr (.list (((es.filter (mQ es ss)).map (·.name)).map .str))])
 |[],d,s6,_=>⟨d,s6,rfl⟩
 |x::xs,d,s6,h=>by
  obtain⟨c,n⟩:=VN (A:=A) (W:=W) (k:=k) (s6:=s6) g hs l j (h x aj);obtain⟨a,b,e⟩:=HS (A:=A) (W:=W) (k:=k) g hs l j xs (.shr (.str x)) c λz m=>h z (af _ m);refine⟨a,b,?_⟩;rw[ar,Bm (ρ1:=[.shr A,.shr (bA fs es),.shr (aB ss),.shr W,.shr k,.shr (.str x),s6,.shr (.list (ks.map aB)),.shr (.list (((es.filter (mQ es ss)).map (·.name)).map .str))]) rfl n,e]
def paA:aE->R Fl:=fK (eQ (g2 (rB 4) kN (Gp true))) (aQ (fK (eQ (g2 (eA 3 qi (J.aa (rS 1) (J.aa (rS 2) (J.aa (rS 3) J.aH)))) kN (Gp false))) (dv (kB false)) (λρ=>.ok (.nx ρ))) (aQ (fK anA (dv (kB false)) (λρ=>.ok (.nx ρ))) (qf (gE (g2 (rB 3) (kI 0) aX)) (bO 5) bdA))) (λρ=>.ok (.nx ρ))
def Om:Mh=aQ (xa (eA 3 k9 (J.aa (rS 0) (J.aa (kI 6) (J.aa (kI 6) J.aH)))) (mG 3 (cP (bO 1) (cP (bO 2) (cP (bO 3) nP))))) (aQ (fN 4 (eA 3 vh (J.aa (rS 1) (J.aa (rS 2) (J.aa (rS 3) J.aH))))) (aQ paA (aQ (fN 7 (eA 2 lN (J.aa (rS 1) (J.aa (rS 2) J.aH)))) (aQ (fN 8 (eA 2 vO (J.aa (rS 1) (J.aa (rS 2) J.aH)))) (aQ (qf (gE (g2 (rB 1) (kI 0) aX)) (bO 5) Z2) (dv (kB true))))))):=rfl
def YQ:paA [.shr A,.shr B,.shr S,.shr W,.shr .none,.no,.no,.no,.no]=.ok (.nx [.shr A,.shr B,.shr S,.shr W,.shr .none,.no,.no,.no,.no]):=rfl
def YR(g:da fs es)(hs:qu fs ss)(l:pI fs m b)(c:Ms es ss y)(f:cB y m b=true)(i:qi [bA fs es,aB ss,eF m b]=.ok (.int t)):
  ∃a s6,paA [.shr A,.shr (bA fs es),.shr (aB ss),.shr (eF m b),.shr (.int k),.no,.no,.no,.no]=.ok (.nx [.shr A,.shr (bA fs es),.shr (aB ss),.shr (eF m b),.shr (.int k),a,s6,.no,.no]):=by
 obtain⟨a,s6,e⟩:=HR (A:=A) (k:=.int k) g hs l c f m .no .no λx j=>j;refine⟨a,s6,?_⟩;have h:eQ (g2 (eA 3 qi (J.aa (rS 1) (J.aa (rS 2) (J.aa (rS 3) J.aH)))) kN (Gp false)) [.shr A,.shr (bA fs es),.shr (aB ss),.shr (eF m b),.shr (.int k),.no,.no,.no,.no]=.ok false:=by
  have:eQ (g2 (eA 3 qi (J.aa (rS 1) (J.aa (rS 2) (J.aa (rS 3) J.aH)))) kN (Gp false)) [.shr A,.shr (bA fs es),.shr (aB ss),.shr (eF m b),.shr (.int k),.no,.no,.no,.no]=((qi [bA fs es,aB ss,eF m b]).bind λx=>Gp false x .none).bind λd=>match d with
   |.bool b=>.ok b
   |_=>.no:=rfl
  rw[this,i];rfl
 have n:paA [.shr A,.shr (bA fs es),.shr (aB ss),.shr (eF m b),.shr (.int k),.no,.no,.no,.no]=aQ (fK (eQ (g2 (eA 3 qi (J.aa (rS 1) (J.aa (rS 2) (J.aa (rS 3) J.aH)))) kN (Gp false))) (dv (kB false)) (λρ=>.ok (.nx ρ))) (aQ (fK anA (dv (kB false)) (λρ=>.ok (.nx ρ))) (qf (gE (g2 (rB 3) (kI 0) aX)) (bO 5) bdA)) [.shr A,.shr (bA fs es),.shr (aB ss),.shr (eF m b),.shr (.int k),.no,.no,.no,.no]:=rfl;rw[n,W_ _ _ _ [.shr A,.shr (bA fs es),.shr (aB ss),.shr (eF m b),.shr (.int k),.no,.no,.no,.no] (by unfold fK;rw[h];rfl)];rw[W_ _ _ _ [.shr A,.shr (bA fs es),.shr (aB ss),.shr (eF m b),.shr (.int k),.no,.no,.no,.no] (by unfold fK;rw[VL g hs c f];rfl)];exact e
def law_true(a:List Int):F_law [.list (a.map .int)]=.ok (.bool true):=by
 obtain⟨fs,es,ss,c,b,w,g,h,m,_⟩:=Vm a 6 6 ⋯ ⋯ ⋯ ⋯;have K:=q1G g h;have n:=VC g h m;obtain⟨ks,L,u,O,v,z⟩:=Kc g h;have id:=Vu g h;have G:(jW ks).length<=64:=by rw[(nW ks).length_eq];exact v
 have l:∃d f s6,vh [bA fs es,aB ss,eF c b]=.ok d/\paA [.shr (.list (a.map .int)),.shr (bA fs es),.shr (aB ss),.shr (eF c b),.shr d,.no,.no,.no,.no]=.ok (.nx [.shr (.list (a.map .int)),.shr (bA fs es),.shr (aB ss),.shr (eF c b),.shr d,f,s6,.no,.no]):=by
  rcases Kb g h m with⟨j,i⟩|⟨rs,x,j,i,a3,a4,a5⟩
  ·exact⟨_,_,_,YL i,YQ⟩
  ·obtain⟨t,o,N⟩:=VD K j.mem i a3;rw[o] at n;obtain⟨f,s6,e⟩:=YR (A:=.list (a.map .int)) (k:=((rs.map λe=>ay e.name).length:Nat)) g h m ⟨rs,j.mem,i⟩ a3 n;exact⟨_,f,s6,YM a5,e⟩
 obtain⟨d,f,s6,q,s⟩:=l;obtain⟨P,M,E⟩:=HS (A:=.list (a.map .int)) (W:=eF c b) (k:=d) g h (ks:=jW ks) (λy p=>(u y).1 ((nW ks).mem_iff.1 p)) G fs f s6 λx I=>I;have B:eA 3 k9 (J.aa (rS 0) (J.aa (kI 6) (J.aa (kI 6) J.aH))) [.shr (.list (a.map .int)),.no,.no,.no,.no,.no,.no,.no,.no]=k9 [.list (a.map .int),.int 6,.int 6]:=rfl;unfold F_law;refine cA ?_;rw[Om];show aQ _ _ [.shr (.list (a.map .int)),.no,.no,.no,.no,.no,.no,.no,.no]=_;rw[W_ _ _ _ [.shr (.list (a.map .int)),.shr (bA fs es),.shr (aB ss),.shr (eF c b),.no,.no,.no,.no,.no] (by unfold xa;rw[B,w];rfl)];rw[W_ _ _ _ [.shr (.list (a.map .int)),.shr (bA fs es),.shr (aB ss),.shr (eF c b),.shr d,.no,.no,.no,.no] (by
  have:fN 4 (eA 3 vh (J.aa (rS 1) (J.aa (rS 2) (J.aa (rS 3) J.aH)))) [.shr (.list (a.map .int)),.shr (bA fs es),.shr (aB ss),.shr (eF c b),.no,.no,.no,.no,.no]=(vh [bA fs es,aB ss,eF c b]).bind λd=>.ok (.nx [.shr (.list (a.map .int)),.shr (bA fs es),.shr (aB ss),.shr (eF c b),.shr d,.no,.no,.no,.no]):=rfl
  rw[this,q,bind_ok]),W_ _ _ _ _ s]
 rw[W_ _ _ _ [.shr (.list (a.map .int)),.shr (bA fs es),.shr (aB ss),.shr (eF c b),.shr d,f,s6,.shr (.list ((jW ks).map aB)),.no] (by
  have:fN 7 (eA 2 lN (J.aa (rS 1) (J.aa (rS 2) J.aH))) [.shr (.list (a.map .int)),.shr (bA fs es),.shr (aB ss),.shr (eF c b),.shr d,f,s6,.no,.no]=(lN [bA fs es,aB ss]).bind λx=>.ok (.nx [.shr (.list (a.map .int)),.shr (bA fs es),.shr (aB ss),.shr (eF c b),.shr d,f,s6,.shr x,.no]):=rfl
  rw[this,z,bind_ok])]
 rw[W_ _ _ _ [.shr (.list (a.map .int)),.shr (bA fs es),.shr (aB ss),.shr (eF c b),.shr d,f,s6,.shr (.list ((jW ks).map aB)),.shr (.list (((es.filter (mQ es ss)).map (·.name)).map .str))] (by
  have:fN 8 (eA 2 vO (J.aa (rS 1) (J.aa (rS 2) J.aH))) [.shr (.list (a.map .int)),.shr (bA fs es),.shr (aB ss),.shr (eF c b),.shr d,f,s6,.shr (.list ((jW ks).map aB)),.no]=(vO [bA fs es,aB ss]).bind λx=>.ok (.nx [.shr (.list (a.map .int)),.shr (bA fs es),.shr (aB ss),.shr (eF c b),.shr d,f,s6,.shr (.list ((jW ks).map aB)),.shr x]):=rfl
  rw[this,id,bind_ok])]
 have H:qf (gE (g2 (rB 1) (kI 0) aX)) (bO 5) Z2 [.shr (.list (a.map .int)),.shr (bA fs es),.shr (aB ss),.shr (eF c b),.shr d,f,s6,.shr (.list ((jW ks).map aB)),.shr (.list (((es.filter (mQ es ss)).map (·.name)).map .str))]=k7 (bO 5) Z2 (fs.map ay) [.shr (.list (a.map .int)),.shr (bA fs es),.shr (aB ss),.shr (eF c b),.shr d,f,s6,.shr (.list ((jW ks).map aB)),.shr (.list (((es.filter (mQ es ss)).map (·.name)).map .str))]:=rfl;rw[W_ _ _ _ _ (H.trans E)];rfl
end Z
end
namespace Z
open PySem L2 J
def top(i:Nat):dZ:=PySem.Challenge.pw_errands_k40_whole_never.main.body.getD i (.Pass ⟨0,0,0,0⟩)
section
variable{e:En}
abbrev nh:dZ:=top 11
abbrev xC:List Str:=["one","other"]
def CB:bB xC ["one","other"] (az nh):=dX ∎
abbrev jF(e:En):=FN e "share_none" 1 2 dz
def CC(D:gM e.K e.mg "share_none" nh)(B:Bi e.mg):jF e:=nV (k:=0) (g:=kX) D CB b2 λ_ _ _ _ _ _ _ f=>by unfold kX;exact(aM (bH (JC (cf (vD rfl) rfl B.any fu (bE (JE.bor (JN.je (er (N':=["fact","other"]) (ix:=[1]) 1 ⋯ rfl (bv (so:=az nh) (N:=xC) ∎) (dJ (ai 0)) (λa j b c h d=>⟨bU (i:=0) (by show(["fact","other"]:List Str).Nodup;decide +kernel) rfl (.inl rfl),eR,(mE (ve) (ai 0) (ai 1))⟩)))) ck)))))
abbrev uD:dZ:=top 12
abbrev DP:List Str:=["facts","others"]
def Kn:bB DP ["facts","others"] (az uD):=dX ∎
abbrev yD(e:En):=FN e "without" 1 2 nA
def Ko(D:gM e.K e.mg "without" uD)(B:Bi e.mg):yD e:=nV (k:=0) (g:=uk) D Kn b2 λ_ _ _ _ _ _ _ f=>by unfold uk;exact(aM (bH (gJ (jV rfl) rfl B.tuple bp (bE (JE.bor (JN.je (er (N':=["fact","others"]) (ix:=[1]) 1 ⋯ rfl (bv (so:=az uD) (N:=DP) ∎) (dJ (ai 0)) (λa j b c h d=>⟨bU (i:=0) (by show(["fact","others"]:List Str).Nodup;decide +kernel) rfl (.inl rfl),(i3 (dg (nO) (ai 0) (ai 1))),(ah 0)⟩)))) ck))))
abbrev Bv:dZ:=top 13
abbrev SF:List Str:=["one","other"]
def On:bB SF ["one","other"] (az Bv):=dX ∎
abbrev HU(e:En):=FN e "joined" 1 2 xo
def Oo(D:gM e.K e.mg "joined" Bv)(B:Bi e.mg):HU e:=nV (k:=0) (g:=xn) D On b2 λ_ _ _ _ _ _ _ a=>by unfold xn;exact(aM (bH (gJ (jV rfl) rfl B.tuple bp (bE (JE.bor (vH rfl (Y8 (JQ rfl (ai 0) rfl B.set) (JQ rfl (ai 1) rfl B.set)) rfl B.sorted)) ck))))
abbrev uE:dZ:=top 14
abbrev DQ:List Str:=["thing"]
def Kq:bB DQ ["thing"] (az uE):=dX ∎
abbrev yE(e:En):=FN e "is_word" 1 1 qM
def Kr(D:gM e.K e.mg "is_word" uE)(B:Bi e.mg)(a:Cn e.mg "MOST_LETTERS" 6):yE e:=nV (k:=0) (g:=ul) D Kq b1 λ_ _ _ _ _ _ _ h=>by unfold ul;exact(aD (gq (JW.t (se (fX (eK (sY (ai 0) rfl B.isinstance rfl B.str PyProof.Rows.boot_str ⋯))) (nN (fX (Qr (De) (De) (JE.bor aG) (JE.bor (cf j8 rfl B.len cm (bE (ai 0) ck))) (JE.bor (wY rfl a))))))) (aM (bH kL)) dq) (aM (bH (cf (rh rfl) rfl B.all dB (bE (JE.bor (JN.je (er (N':=["sign"]) (ix:=[]) 1 ⋯ rfl (bv (so:=az uE) (N:=DQ) ∎) (dJ (ai 0)) (λb l c d j f=>⟨bU (i:=0) (by show(["sign"]:List Str).Nodup;decide +kernel) rfl (.inl rfl),eR,(GA (De) (De) (JE.bor Eu) (ai 0) (JE.bor Eu))⟩)))) ck)))))
abbrev gU:dZ:=top 15
abbrev ke:List Str:=["thing"]
def uX:bB ke ["thing"] (az gU):=dX ∎
abbrev kf(e:En):=FN e "are_rising_words" 2 1 gT
def uY(D:gM e.K e.mg "are_rising_words" gU)(B:Bi e.mg)(h:yE e):kf e:=nV (k:=1) (g:=iV) D uX b1 λ_ _ _ _ _ _ _ f=>by unfold iV;exact(aD (gq (JW.t (se (fX (eK (sY (ai 0) rfl B.isinstance rfl B.tuple bp ⋯))) (nN (fX (eK (cf (rh rfl) rfl B.all dB (bE (JE.bor (JN.je (er (N':=["word"]) (ix:=[]) 1 ⋯ rfl (bv (so:=az gU) (N:=ke) ∎) (dJ (ai 0)) (λa l b c j d=>⟨bU (i:=0) (by show(["word"]:List Str).Nodup;decide +kernel) rfl (.inl rfl),eR,(jc h f eV (ac (ah 0) aJ))⟩)))) ck))))))) (aM (bH kL)) dq) (aM (bH (cf (rh rfl) rfl B.all dB (bE (JE.bor (JN.je (er (N':=["low","high"]) (ix:=[]) 2 ⋯ rfl (bv (so:=az gU) (N:=ke) ∎) (OT.i (UB rfl B.zip (ac (ah 0) (ac (qD (ai 0) (rg aG) w_) aJ)))) (λa l b c j d=>⟨Aj rfl (kH (bU (i:=0) (by show(["low","high"]:List Str).Nodup;decide +kernel) rfl (.inl rfl)) (kH (bU (i:=1) (by show(["low","high"]:List Str).Nodup;decide +kernel) rfl (.inl rfl)) wD)),eR,(mE (Dd) (ai 0) (ai 1))⟩)))) ck)))))
abbrev pK:dZ:=top 16
abbrev zc:List Str:=["book_facts","thing"]
def Fb:bB zc ["book_facts","thing"] (az pK):=dX ∎
abbrev pM(e:En):=FN e "are_facts" 3 2 gF
def Fc(D:gM e.K e.mg "are_facts" pK)(B:Bi e.mg)(a:kf e):pM e:=nV (k:=2) (g:=pd) D Fb b2 λ_ _ _ _ _ _ _ b=>by unfold pd;exact(aM (bH (vC (jc a b px (ac (ah 1) aJ)) (yo (cf (rh rfl) rfl B.all dB (bE (JE.bor (JN.je (er (N':=["fact","book_facts"]) (ix:=[0]) 1 ⋯ rfl (bv (so:=az pK) (N:=zc) ∎) (dJ (ai 1)) (λc l d f j h=>⟨bU (i:=0) (by show(["fact","book_facts"]:List Str).Nodup;decide +kernel) rfl (.inl rfl),eR,(mE (ve) (ai 0) (ai 1))⟩)))) ck))))))
abbrev vV:dZ:=top 17
abbrev Ks:List Str:=["thing","least","most"]
def HV:bB Ks ["thing","least","most"] (az vV):=dX ∎
abbrev Bw(e:En):=FN e "is_whole" 1 3 rA
def HW(D:gM e.K e.mg "is_whole" vV)(B:Bi e.mg):Bw e:=nV (k:=0) (g:=rz) D HV b3 λ_ _ _ _ _ _ _ a=>by unfold rz;exact(aD (gq (JW.t (se (fX (eK (sY (ai 0) rfl B.isinstance rfl B.int PyProof.Rows.boot_int ⋯))) (nN (eK (sY (ai 0) rfl B.isinstance rfl B.bool PyProof.Rows.boot_bool ⋯))))) (aM (bH kL)) dq) (aM (bH (GA (De) (De) (ai 1) (ai 0) (ai 2)))))
abbrev pO:dZ:=top 18
abbrev zd:List Str:=["book_facts","thing","name","needs","bars","makes","ends","price"]
def iY:bB zd ["book_facts","thing"] (az pO):=dX ∎
abbrev ze(e:En):=FN e "is_errand" 4 2 ph
def Fd(D:gM e.K e.mg "is_errand" pO)(B:Bi e.mg)(d:yE e)(h:Bw e)(f:pM e)(c:jF e)(j:Cn e.mg "MOST_PRICE" 9):ze e:=nV (k:=3) (g:=pf) D iY b2 λ_ _ _ _ _ _ _ a=>by have b:=a.units;unfold pf;exact(aD (gq (JW.t (se (fX (eK (sY (ai 1) rfl B.isinstance rfl B.tuple bp ⋯))) (nN (dg (Av b) (JE.bor (cf j8 rfl B.len cm (bE (ai 1) ck))) (JE.bor aG))))) (aM (bH kL)) dq) (aD (vE (ah 1) (qe rfl (dh (c_ 2 iY.nd) (dh (c_ 3 iY.nd) (dh (c_ 4 iY.nd) (dh (c_ 5 iY.nd) (dh (c_ 6 iY.nd) (dh (c_ 7 iY.nd) lV)))))))) (aD (gq (JW.t (se (fX (eK (jc d a px (ac (ah 2) aJ)))) (nN (fX (eK (jc h a px (ac (ah 7) (ac aG (ac (wY rfl j) aJ))))))))) (aM (bH kL)) dq) (aD (gq (fX (eK (cf (rh rfl) rfl B.all dB (bE (JE.bor (JN.je (er (N':=["facts","book_facts"]) (ix:=[0]) 1 ⋯ rfl (bv (so:=az pO) (N:=zd) ∎) (dJ (JE.bor (lM (ac (ah 3) (ac (ah 4) (ac (ah 5) (ac (ah 6) aJ))))))) (λl q m n p o=>⟨bU (i:=0) (by show(["facts","book_facts"]:List Str).Nodup;decide +kernel) rfl (.inl rfl),eR,(jc f a eV (ac (ah 1) (ac (ah 0) aJ)))⟩)))) ck)))) (aM (bH kL)) dq) (aM (bH (vC (jc c a px (ac (ah 3) (ac (ah 4) aJ))) (yo (jc c a px (ac (ah 5) (ac (ah 6) aJ)))))))))))
abbrev qP:dZ:=top 19
abbrev yF:List Str:=["thing","facts","errands"]
def vX:bB yF ["thing"] (az qP):=dX ∎
abbrev DR(e:En):=FN e "is_book" 5 1 uo
def Ku(D:gM e.K e.mg "is_book" qP)(B:Bi e.mg)(d:kf e)(o:ze e)(p:Cn e.mg "MOST_FACTS" 6)(m:Cn e.mg "MOST_ERRANDS" 6):DR e:=nV (k:=4) (g:=um) D vX b1 λ_ _ _ _ _ _ _ b=>by have c:=iF b;have a:=b.units;unfold um;exact(aD (gq (JW.t (se (fX (eK (sY (ai 0) rfl B.isinstance rfl B.tuple bp ⋯))) (nN (dg (Av a) (JE.bor (cf j8 rfl B.len cm (bE (ai 0) ck))) (JE.bor aG))))) (aM (bH kL)) dq) (aD (vE (ah 0) (qe rfl (dh (c_ 1 vX.nd) (dh (c_ 2 vX.nd) lV)))) (aD (gq (JW.t (se (fX (eK (jc d b px (ac (ah 1) aJ)))) (nN (dg (Wg) (JE.bor (cf j8 rfl B.len cm (bE (ai 1) ck))) (JE.bor (wY rfl p)))))) (aM (bH kL)) dq) (aD (gq (JW.t (se (fX (eK (sY (ai 2) rfl B.isinstance rfl B.tuple bp ⋯))) (nN (dg (Wg) (JE.bor (cf j8 rfl B.len cm (bE (ai 2) ck))) (JE.bor (wY rfl m)))))) (aM (bH kL)) dq) (aD (gq (fX (eK (cf (rh rfl) rfl B.all dB (bE (JE.bor (JN.je (er (N':=["errand","facts"]) (ix:=[1]) 1 ⋯ rfl (bv (so:=az qP) (N:=yF) ∎) (dJ (ai 2)) (λf q h j n l=>⟨bU (i:=0) (by show(["errand","facts"]:List Str).Nodup;decide +kernel) rfl (.inl rfl),eR,(jc o b eV (ac (ah 1) (ac (ah 0) aJ)))⟩)))) ck)))) (aM (bH kL)) dq) (aM (bH (mE (qC a) (JE.bor (Ny (Qs (N':=["errand"]) (ix:=[]) 1 ⋯ rfl (bv (so:=az qP) (N:=yF) ∎) (dJ (ai 2)) (λf q h j n l=>⟨bU (i:=0) (by show(["errand"]:List Str).Nodup;decide +kernel) rfl (.inl rfl),eR,(bP c (ai 0) (JE.bor aG))⟩)) rfl B.len)) (JE.bor (cf j8 rfl B.len cm (bE (ai 2) ck)))))))))))
abbrev yG:dZ:=top 20
abbrev Op:List Str:=["book","thing","must","bars"]
def vY:bB Op ["book","thing"] (az yG):=dX ∎
abbrev DS(e:En):=FN e "is_want" 4 2 ur
def Kv(D:gM e.K e.mg "is_want" yG)(B:Bi e.mg)(d:pM e)(f:jF e):DS e:=nV (k:=3) (g:=uq) D vY b2 λ_ _ _ _ _ _ _ b=>by have a:=iF b;have c:=b.units;unfold uq;exact(aD (gq (JW.t (se (fX (eK (sY (ai 1) rfl B.isinstance rfl B.tuple bp ⋯))) (nN (dg (Av c) (JE.bor (cf j8 rfl B.len cm (bE (ai 1) ck))) (JE.bor aG))))) (aM (bH kL)) dq) (aD (vE (ah 1) (qe rfl (dh (c_ 2 vY.nd) (dh (c_ 3 vY.nd) lV)))) (aM (bH (vC (jc d b px (ac (bP a (ai 0) (JE.bor aG)) (ac (ah 2) aJ))) (vC (jc d b px (ac (bP a (ai 0) (JE.bor aG)) (ac (ah 3) aJ))) (yo (jc f b px (ac (ah 2) (ac (ah 3) aJ))))))))))
abbrev qk:dZ:=top 21
abbrev CD:List Str:=["book","state"]
def Bx:bB CD ["book","state"] (az qk):=dX ∎
abbrev vj(e:En):=FN e "check_state" 4 2 lX
def By(D:gM e.K e.mg "check_state" qk)(c:pM e):vj e:=nV (k:=3) (g:=lW) D Bx b2 λ_ _ _ _ _ _ _ b=>by have a:=iF b;unfold lW;exact(aM (gq (fX (eK (jc c b px (ac (bP a (ai 0) (JE.bor aG)) (ac (ah 1) aJ))))) (aM xi) dq))
abbrev rQ:dZ:=top 22
abbrev Fe:List Str:=["book","want"]
def CF:bB Fe ["book","want"] (az rQ):=dX ∎
abbrev xD(e:En):=FN e "check_want" 5 2 mX
def CG(D:gM e.K e.mg "check_want" rQ)(a:DS e):xD e:=nV (k:=4) (g:=mW) D CF b2 λ_ _ _ _ _ _ _ b=>by unfold mW;exact(aM (gq (fX (eK (jc a b px (ac (ah 0) (ac (ah 1) aJ))))) (aM xi) dq))
abbrev uF:dZ:=top 23
abbrev DT:List Str:=["state","want","must","bars"]
def vZ:bB DT ["state","want"] (az uF):=dX ∎
abbrev uG(e:En):=FN e "fulfils" 2 2 nB
def Kw(D:gM e.K e.mg "fulfils" uF)(B:Bi e.mg)(b:jF e):uG e:=nV (k:=1) (g:=ut) D vZ b2 λ_ _ _ _ _ _ _ a=>by unfold ut;exact(aD (vE (ah 1) (qe rfl (dh (c_ 2 vZ.nd) (dh (c_ 3 vZ.nd) lV)))) (aM (bH (vC (cf (rh rfl) rfl B.all dB (bE (JE.bor (JN.je (er (N':=["fact","state"]) (ix:=[0]) 1 ⋯ rfl (bv (so:=az uF) (N:=DT) ∎) (dJ (ai 2)) (λc l d f j h=>⟨bU (i:=0) (by show(["fact","state"]:List Str).Nodup;decide +kernel) rfl (.inl rfl),eR,(mE (ve) (ai 0) (ai 1))⟩)))) ck)) (yo (jc b a px (ac (ah 3) (ac (ah 0) aJ))))))))
abbrev tG:dZ:=top 24
abbrev HX:List Str:=["errand","state"]
def Ff:bB HX ["errand","state"] (az tG):=dX ∎
abbrev tH(e:En):=FN e "is_doable" 3 2 mj
def Fg(D:gM e.K e.mg "is_doable" tG)(c:uG e):tH e:=nV (k:=2) (g:=pi) D Ff b2 λ_ _ _ _ _ _ _ b=>by have a:=iF b;unfold pi;exact(aM (bH (jc c b px (ac (ah 1) (ac (lM (ac (bP a (ai 0) (JE.bor aG)) (ac (bP a (ai 0) (JE.bor aG)) aJ))) aJ)))))
abbrev oo:dZ:=top 25
abbrev Bz:List Str:=["errand","state","makes","ends"]
def si:bB Bz ["errand","state"] (az oo):=dX ∎
abbrev tJ(e:En):=FN e "state_behind" 2 2 kZ
def zJ(D:gM e.K e.mg "state_behind" oo)(d:yD e)(c:HU e):tJ e:=nV (k:=1) (g:=kY) D si b2 λ_ _ _ _ _ _ _ b=>by have a:=iF b;unfold kY;exact(aD (Y9 2 3 rfl si.nd (ac (bP a (ai 0) (JE.bor aG)) (ac (bP a (ai 0) (JE.bor aG)) aJ))) (aM (bH (jc c b px (ac (jc d b px (ac (ah 1) (ac (ah 3) aJ))) (ac (ah 2) aJ))))))
abbrev yI:dZ:=top 26
abbrev Oq:List Str:=["book"]
def Kx:bB Oq ["book"] (az yI):=dX ∎
abbrev DU(e:En):=FN e "checked" 6 1 uv
def Ky(D:gM e.K e.mg "checked" yI)(a:DR e):DU e:=nV (k:=5) (g:=uu) D Kx b1 λ_ _ _ _ _ _ _ b=>by unfold uu;exact(aD (gq (fX (eK (jc a b px (ac (ah 0) aJ)))) (aM xi) dq) (aM (bH (ah 0))))
abbrev qm:dZ:=top 27
abbrev CH:List Str:=["book","state"]
def BB:bB CH ["book","state"] (az qm):=dX ∎
abbrev jX(e:En):=FN e "check_place" 7 2 fi
def BC(D:gM e.K e.mg "check_place" qm)(b:DU e)(c:vj e):jX e:=nV (k:=6) (g:=lY) D BB b2 λ_ _ _ _ _ _ _ a=>by unfold lY;exact(aD (kO (jc b a px (ac (ah 0) aJ))) (aM (kO (jc c a px (ac (ah 0) (ac (ah 1) aJ))))))
abbrev tK:dZ:=top 28
abbrev HY:List Str:=["book","state","want"]
def Fh:bB HY ["book","state","want"] (az tK):=dX ∎
abbrev pP(e:En):=FN e "check_aim" 8 3 ko
def Fi(D:gM e.K e.mg "check_aim" tK)(b:jX e)(c:xD e):pP e:=nV (k:=7) (g:=pj) D Fh b3 λ_ _ _ _ _ _ _ a=>by unfold pj;exact(aD (kO (jc b a px (ac (ah 0) (ac (ah 1) aJ)))) (aM (kO (jc c a px (ac (ah 0) (ac (ah 2) aJ))))))
abbrev pQ:dZ:=top 30
abbrev zf:List Str:=["facts"]
def Fj:bB zf ["facts"] (az pQ):=dX ∎
abbrev zg(e:En):=FN e "all_pairs" 1 1 iI
def Fk(D:gM e.K e.mg "all_pairs" pQ)(B:Bi e.mg):zg e:=nV (k:=0) (g:=pp) D Fj b1 λ_ _ _ _ _ _ _ f=>by unfold pp;exact(aM (bH (JN.je (RN (N':=["at","low","high","facts"]) (ix:=[0]) 2 ⋯ rfl (bv (so:=az pQ) (N:=zf) ∎) (OT.i (xb rfl B.enumerate (ac (ah 0) aJ))) (λa j b c h d=>⟨Aj rfl (kH (bU (i:=0) (by show(["at","low","high","facts"]:List Str).Nodup;decide +kernel) rfl (.inl rfl)) (kH (bU (i:=1) (by show(["at","low","high","facts"]:List Str).Nodup;decide +kernel) rfl (.inl rfl)) wD)),eR,(dJ (JE.bor (qD (ai 3) (rg (ah 0)) w_))),bU (i:=2) (by show(["at","low","high","facts"]:List Str).Nodup;decide +kernel) rfl (.inl rfl),eR,(lM (ac (ah 1) (ac (ah 2) aJ)))⟩)))))
abbrev tL:dZ:=top 31
abbrev HZ:List Str:=["pair","facts"]
def Fm:bB HZ ["pair","facts"] (az tL):=dX ∎
abbrev tM(e:En):=FN e "stands_in" 1 2 iJ
def Fo(D:gM e.K e.mg "stands_in" tL):tM e:=nV (k:=0) (g:=pq) D Fm b2 λ_ _ _ _ _ _ _ b=>by have a:=iF b;unfold pq;exact(aM (bH (vC (mE (ve) (JE.bor (bP a (ai 0) (JE.bor aG))) (ai 1)) (yo (mE (ve) (JE.bor (bP a (ai 0) (JE.bor aG))) (ai 1))))))
abbrev xE:dZ:=top 32
abbrev H_:List Str:=["errand","pair","pairs","needs","bars","makes","ends","unmade","ahead"]
def lP:bB H_ ["errand","pair","pairs"] (az xE):=dX ∎
abbrev Ic(e:En):=FN e "brings" 2 3 xq
def Os(D:gM e.K e.mg "brings" xE)(B:Bi e.mg)(f:yD e)(c:jF e)(d:tM e):Ic e:=nV (k:=1) (g:=xp) D lP b3 λ_ _ _ _ _ _ _ a=>by have b:=a.units;unfold xp;exact(aD (vE (qD (ai 0) (rg aG) (rg aG)) (qe rfl (dh (c_ 3 lP.nd) (dh (c_ 4 lP.nd) (dh (c_ 5 lP.nd) (dh (c_ 6 lP.nd) lV)))))) (aD (eC 7 (jc f a px (ac (ah 1) (ac (ah 5) aJ))) lP.nd) (aD (gq (JW.t (se (dg (qC b) (JE.bor (cf j8 rfl B.len cm (bE (ai 7) ck))) (JE.bor aG)) (se (fX (eK (jc c a px (ac (ah 1) (ac (ah 6) aJ))))) (nN (fX (eK (jc c a px (ac (ah 7) (ac (ah 4) aJ))))))))) (aM (bH kL)) dq) (aD (eC 8 (cz e7 (ai 3) (ai 7)) lP.nd) (aM (bH (JC (cf (vD rfl) rfl B.any fu (bE (JE.bor (JN.je (er (N':=["other","ahead"]) (ix:=[8]) 1 ⋯ rfl (bv (so:=az xE) (N:=H_) ∎) (dJ (ai 2)) (λh o j l n m=>⟨bU (i:=0) (by show(["other","ahead"]:List Str).Nodup;decide +kernel) rfl (.inl rfl),eR,(jc d a eV (ac (ah 0) (ac (ah 1) aJ)))⟩)))) ck)))))))))
abbrev ni:dZ:=top 33
abbrev xF:List Str:=["book","pair","pairs"]
def CI:bB xF ["book","pair","pairs"] (az ni):=dX ∎
abbrev xG(e:En):=FN e "is_brought" 3 3 gz
def CJ(D:gM e.K e.mg "is_brought" ni)(B:Bi e.mg)(c:Ic e):xG e:=nV (k:=2) (g:=mY) D CI b3 λ_ _ _ _ _ _ _ b=>by have a:=iF b;unfold mY;exact(aM (bH (cf (vD rfl) rfl B.any fu (bE (JE.bor (JN.je (er (N':=["errand","pair","pairs"]) (ix:=[1,2]) 1 ⋯ rfl (bv (so:=az ni) (N:=xF) ∎) (dJ (JE.bor (bP a (ai 0) (JE.bor aG)))) (λd m f h l j=>⟨bU (i:=0) (by show(["errand","pair","pairs"]:List Str).Nodup;decide +kernel) rfl (.inl rfl),eR,(jc c b eV (ac (ah 0) (ac (ah 1) (ac (ah 2) aJ))))⟩)))) ck))))
abbrev uH:dZ:=top 34
abbrev Aa:List Str:=["book","state","pairs","kept"]
def tN:bB Aa ["book","state"] (az uH):=dX ∎
abbrev MB(e:En):=FN e "apart" 8 2 k_
def SG(D:gM e.K e.mg "apart" uH)(o:jX e)(q:zg e)(p:tM e)(d:xG e):MB e:=nV (k:=7) (g:=A6) D tN b2 λ_ _ _ _ _ _ _ a=>by have c:=iF a;have b:=a.units;unfold A6;exact(aD (kO (jc o a px (ac (ah 0) (ac (ah 1) aJ)))) (aD (mV 2 (er (N':=["pair","state"]) (ix:=[1]) 1 ⋯ rfl (bv (so:=az uH) (N:=Aa) ∎) (dJ (JE.bor (jc q a px (ac (bP c (ai 0) (JE.bor aG)) aJ)))) (λf n h j l m=>⟨bU (i:=0) (by show(["pair","state"]:List Str).Nodup;decide +kernel) rfl (.inl rfl),(i3 (fX (eK (jc p a eV (ac (ah 0) (ac (ah 1) aJ)))))),(ah 0)⟩)) tN.nd) (aD (yr 2 (iU 3 (N':=["pair","book","pairs"]) (ix:=[0,2]) 1 ⋯ tN.nd rfl (bv (so:=az uH) (N:=Aa) ∎) (dJ (ai 2)) (λf n h j l m=>⟨bU (i:=0) (by show(["pair","book","pairs"]:List Str).Nodup;decide +kernel) rfl (.inl rfl),(i3 (fX (eK (jc d a eV (ac (ah 1) (ac (ah 0) (ac (ah 2) aJ))))))),(ah 0)⟩))) (aD (AC 100000 (dg (Av b) (ai 3) (ai 2)) (aD (yr 3 (eC 2 (ah 3) tN.nd)) (aM (yr 2 (iU 3 (N':=["pair","book","pairs"]) (ix:=[0,2]) 1 ⋯ tN.nd rfl (bv (so:=az uH) (N:=Aa) ∎) (dJ (ai 2)) (λf n h j l m=>⟨bU (i:=0) (by show(["pair","book","pairs"]:List Str).Nodup;decide +kernel) rfl (.inl rfl),(i3 (fX (eK (jc d a eV (ac (ah 1) (ac (ah 0) (ac (ah 2) aJ))))))),(ah 0)⟩)))))) (aM (bH (ah 3)))))))
abbrev nl:dZ:=top 36
abbrev xH:List Str:=["book","state"]
def CK:bB xH ["book","state"] (az nl):=dX ∎
abbrev xI(e:En):=FN e "steps_from" 4 2 l5
def CL(D:gM e.K e.mg "steps_from" nl)(d:tH e)(c:tJ e):xI e:=nV (k:=3) (g:=mZ) D CK b2 λ_ _ _ _ _ _ _ b=>by have a:=iF b;unfold mZ;exact(aM (bH (JN.je (er (N':=["errand","state"]) (ix:=[1]) 1 ⋯ rfl (bv (so:=az nl) (N:=xH) ∎) (dJ (JE.bor (bP a (ai 0) (JE.bor aG)))) (λf n h j m l=>⟨bU (i:=0) (by show(["errand","state"]:List Str).Nodup;decide +kernel) rfl (.inl rfl),(i3 (eK (jc d b eV (ac (ah 0) (ac (ah 1) aJ))))),(lM (ac (ah 0) (ac (jc c b eV (ac (ah 0) (ac (ah 1) aJ))) aJ)))⟩)))))
abbrev rT:dZ:=top 37
abbrev Fp:List Str:=["book","state","rows","ring","next_ring","at","errand","behind"]
def gI:bB Fp ["book","state"] (az rT):=dX ∎
abbrev lr(e:En):=FN e "first_rows" 5 2 iW
def CM(D:gM e.K e.mg "first_rows" rT)(c:xI e):lr e:=nV (k:=4) (g:=m_) D gI b2 λ_ _ _ _ _ _ _ b=>by have a:=iF b;unfold m_;exact(aD (mV 2 (Rj a (ah 1) (kM aJ)) gI.nd) (aD (mV 3 (Ez (ac (ah 1) aJ)) gI.nd) (aD (AC 100000 (JV (ai 3)) (aD (mV 4 (Ez aJ) gI.nd) (aD (Lr 3 rfl (c_ 5 gI.nd) (aM (rn rfl (A1 (jc c b eV (ac (ah 0) (ac (ah 5) aJ)))) (qe rfl (dh (c_ 6 gI.nd) (dh (c_ 7 gI.nd) lV))) (aM (gq (dg (NG a) (ai 7) (ai 2)) (aD (Rg 2 (cz e7 (JE.bor (EI a (ai 2) (ai 5))) (JE.bor (kM (ac (bP a (ai 6) (JE.bor aG)) aJ)))) (ah 7) a) (aM (yp 4 (ah 7)))) dq))))) (aM (yr 4 (eC 3 (ah 4) gI.nd)))))) (aM (Yd 2 (bH (ah 2)))))))
abbrev qQ:dZ:=top 38
abbrev yL:List Str:=["rows","want","fitting"]
def BE:bB yL ["rows","want"] (az qQ):=dX ∎
abbrev DV(e:En):=FN e "nearest" 3 2 nC
def Kz(D:gM e.K e.mg "nearest" qQ)(B:Bi e.mg)(d:uG e):DV e:=nV (k:=2) (g:=uw) D BE b2 λ_ _ _ _ _ _ _ c=>by have a:=iF c;have b:=c.units;unfold uw;exact(aD (mV 2 (er (N':=["at","want"]) (ix:=[1]) 1 ⋯ rfl (bv (so:=az qQ) (N:=yL) ∎) (LS (ai 0)) (λf n h j m l=>⟨bU (i:=0) (by show(["at","want"]:List Str).Nodup;decide +kernel) rfl (.inl rfl),(i3 (eK (jc d c eV (ac (ah 0) (ac (ah 1) aJ))))),(ah 0)⟩)) BE.nd) (aM (bH (JN.je (er (N':=["at","rows","fitting"]) (ix:=[0,2]) 1 ⋯ rfl (bv (so:=az qQ) (N:=yL) ∎) (dJ (ai 2)) (λf n h j m l=>⟨bU (i:=0) (by show(["at","rows","fitting"]:List Str).Nodup;decide +kernel) rfl (.inl rfl),(i3 (dg (qC b) (JE.bor (cf j8 rfl B.len cm (bE (JE.bor (EI a (ai 1) (ai 0))) ck))) (JE.bor (cf j8 rfl B.len cm (bE (JE.bor (EI a (ai 1) (JE.bor (bP a (ai 2) (JE.bor aG))))) ck))))),(ah 0)⟩))))))
abbrev yM:dZ:=top 39
abbrev Ot:List Str:=["book","state"]
def KA:bB Ot ["book","state"] (az yM):=dX ∎
abbrev DW(e:En):=FN e "reached" 8 2 lN
def KB(D:gM e.K e.mg "reached" yM)(B:Bi e.mg)(c:jX e)(d:lr e):DW e:=nV (k:=7) (g:=ux) D KA b2 λ_ _ _ _ _ _ _ b=>by have a:=b.units;unfold ux;exact(aD (kO (jc c b px (ac (ah 0) (ac (ah 1) aJ)))) (aM (bH (cf (J_ rfl a) rfl B.sorted nr (bE (JE.bor (jc d b px (ac (ah 0) (ac (ah 1) aJ)))) ck)))))
abbrev v_:dZ:=top 40
abbrev KC:List Str:=["book","state","want","rows","goals"]
def tP:bB KC ["book","state","want"] (az v_):=dX ∎
abbrev BF(e:En):=FN e "shortest" 9 3 jw
def Ie(D:gM e.K e.mg "shortest" v_)(c:pP e)(d:lr e)(f:DV e):BF e:=nV (k:=8) (g:=nX) D tP b3 λ_ _ _ _ _ _ _ b=>by have a:=iF b;unfold nX;exact(aD (kO (jc c b px (ac (ah 0) (ac (ah 1) (ac (ah 2) aJ))))) (aD (eC 3 (jc d b px (ac (ah 0) (ac (ah 1) aJ))) tP.nd) (aD (eC 4 (jc f b px (ac (ah 3) (ac (ah 2) aJ))) tP.nd) (aM (bH (We (JV (ai 4)) (EI a (ai 3) (JE.bor (bP a (ai 4) (JE.bor aG)))) yn))))))
abbrev SH:dZ:=top 41
abbrev q0S:List Str:=["book","state","want","row"]
def SJ:bB q0S ["book","state","want"] (az SH):=dX ∎
abbrev X0(e:En):=FN e "far" 10 3 vh
def YS(D:gM e.K e.mg "far" SH)(B:Bi e.mg)(a:BF e):X0 e:=nV (k:=9) (g:=Hf) D SJ b3 λ_ _ _ _ _ _ _ b=>by unfold Hf;exact(aD (eC 3 (jc a b px (ac (ah 0) (ac (ah 1) (ac (ah 2) aJ)))) SJ.nd) (aM (bH (We (dg (Wh) (ai 3) (JE.bor yn)) yn (cf j8 rfl B.len cm (bE (ai 3) ck))))))
abbrev pR:dZ:=top 43
abbrev zh:List Str:=["book","state","want"]
def Fq:bB zh ["book","state","want"] (az pR):=dX ∎
abbrev tQ(e:En):=FN e "is_served" 6 3 ml
def Ft(D:gM e.K e.mg "is_served" pR)(B:Bi e.mg)(b:lr e)(c:uG e):tQ e:=nV (k:=5) (g:=pz) D Fq b3 λ_ _ _ _ _ _ _ a=>by unfold pz;exact(aM (bH (cf (vD rfl) rfl B.any fu (bE (JE.bor (JN.je (er (N':=["at","want"]) (ix:=[2]) 1 ⋯ rfl (bv (so:=az pR) (N:=zh) ∎) (LS (JE.bor (jc b a px (ac (ah 0) (ac (ah 1) aJ))))) (λd m f h l j=>⟨bU (i:=0) (by show(["at","want"]:List Str).Nodup;decide +kernel) rfl (.inl rfl),eR,(jc c a eV (ac (ah 0) (ac (ah 1) aJ)))⟩)))) ck))))
abbrev ou:dZ:=top 44
abbrev BG:List Str:=["book","state","want"]
def zK:bB BG ["book","state","want"] (az ou):=dX ∎
abbrev tR(e:En):=FN e "check_served" 9 3 l8
def zL(D:gM e.K e.mg "check_served" ou)(b:pP e)(c:tQ e):tR e:=nV (k:=8) (g:=l7) D zK b3 λ_ _ _ _ _ _ _ a=>by unfold l7;exact(aD (kO (jc b a px (ac (ah 0) (ac (ah 1) (ac (ah 2) aJ))))) (aM (gq (fX (eK (jc c a px (ac (ah 0) (ac (ah 1) (ac (ah 2) aJ)))))) (aM xi) dq)))
abbrev lv:dZ:=top 45
abbrev tS:List Str:=["book","state","want","name","others"]
def sj:bB tS ["book","state","want","name"] (az lv):=dX ∎
abbrev tT(e:En):=FN e "must_be_done" 7 4 lc
def zM(D:gM e.K e.mg "must_be_done" lv)(B:Bi e.mg)(d:tQ e):tT e:=nV (k:=6) (g:=l9) D sj b4 λ_ _ _ _ _ _ _ c=>by have a:=iF c;have b:=c.units;unfold l9;exact(aD (eC 4 (gJ (jV rfl) rfl B.tuple bp (bE (JE.bor (JN.je (er (N':=["errand","name"]) (ix:=[3]) 1 ⋯ rfl (bv (so:=az lv) (N:=tS) ∎) (dJ (JE.bor (bP a (ai 0) (JE.bor aG)))) (λf n h j m l=>⟨bU (i:=0) (by show(["errand","name"]:List Str).Nodup;decide +kernel) rfl (.inl rfl),(i3 (dg (Av b) (JE.bor (bP a (ai 0) (JE.bor aG))) (ai 1))),(ah 0)⟩)))) ck)) sj.nd) (aM (bH (JC (jc d c px (ac (lM (ac (bP a (ai 0) (JE.bor aG)) (ac (ah 4) aJ))) (ac (ah 1) (ac (ah 2) aJ))))))))
abbrev uI:dZ:=top 46
abbrev DX:List Str:=["book","state","want"]
def KD:bB DX ["book","state","want"] (az uI):=dX ∎
abbrev DY(e:En):=FN e "must_do" 10 3 qN
def KF(D:gM e.K e.mg "must_do" uI)(d:tR e)(c:tT e):DY e:=nV (k:=9) (g:=uy) D KD b3 λ_ _ _ _ _ _ _ b=>by have a:=iF b;unfold uy;exact(aD (kO (jc d b px (ac (ah 0) (ac (ah 1) (ac (ah 2) aJ))))) (aM (bH (JN.je (er (N':=["errand","book","state","want"]) (ix:=[0,1,2]) 1 ⋯ rfl (bv (so:=az uI) (N:=DX) ∎) (dJ (JE.bor (bP a (ai 0) (JE.bor aG)))) (λf n h j m l=>⟨bU (i:=0) (by show(["errand","book","state","want"]:List Str).Nodup;decide +kernel) rfl (.inl rfl),(i3 (eK (jc c b eV (ac (ah 1) (ac (ah 2) (ac (ah 3) (ac (bP a (ai 0) (JE.bor aG)) aJ))))))),(bP a (ai 0) (JE.bor aG))⟩))))))
abbrev Fu:dZ:=top 47
abbrev SK:List Str:=["book","state","states"]
def MC:bB SK ["book","state"] (az Fu):=dX ∎
abbrev SL(e:En):=FN e "idle" 8 2 vO
def VO(D:gM e.K e.mg "idle" Fu)(B:Bi e.mg)(c:jX e)(d:lr e)(n:tH e):SL e:=nV (k:=7) (g:=ES) D MC b2 λ_ _ _ _ _ _ _ b=>by have a:=iF b;unfold ES;exact(aD (kO (jc c b px (ac (ah 0) (ac (ah 1) aJ)))) (aD (eC 2 (gJ (Rz rfl) rfl B.list oX (bE (JE.bor (jc d b px (ac (ah 0) (ac (ah 1) aJ)))) ck)) MC.nd) (aM (bH (JN.je (er (N':=["errand","states"]) (ix:=[2]) 1 ⋯ rfl (bv (so:=az Fu) (N:=SK) ∎) (dJ (JE.bor (bP a (ai 0) (JE.bor aG)))) (λf o h j m l=>⟨bU (i:=0) (by show(["errand","states"]:List Str).Nodup;decide +kernel) rfl (.inr rfl),(i3 (fX (eK (cf (vD rfl) rfl B.any fu (bE (JE.bor (JN.je (er (N':=["at","errand"]) (ix:=[0]) 1 ⋯ rfl (bv (N:=["errand","states"]) (by kernel_rfl) rfl) (dJ (ai 1)) (λf o h j m l=>⟨bU (i:=0) (by show(["at","errand"]:List Str).Nodup;decide +kernel) rfl (.inl rfl),eR,(jc n b eV (ac (ah 1) (ac (ah 0) aJ)))⟩)))) ck))))),(bP a (ai 0) (JE.bor aG))⟩)))))))
abbrev mo:dZ:=top 49
abbrev tU:List Str:=["book","layer_of","ready"]
def xJ:bB tU ["book","layer_of"] (az mo):=dX ∎
abbrev zi(e:En):=FN e "made_next" 1 2 gG
def Fv(D:gM e.K e.mg "made_next" mo)(B:Bi e.mg):zi e:=nV (k:=0) (g:=pA) D xJ b2 λ_ _ _ _ _ _ _ l=>by have a:=iF l;unfold pA;exact(aD (iU 2 (N':=["errand","layer_of"]) (ix:=[1]) 1 ⋯ xJ.nd rfl (bv (so:=az mo) (N:=tU) ∎) (dJ (JE.bor (bP a (ai 0) (JE.bor aG)))) (λb j c d h f=>⟨bU (i:=0) (by show(["errand","layer_of"]:List Str).Nodup;decide +kernel) rfl (.inl rfl),(i3 (eK (cf (rh rfl) rfl B.all dB (bE (JE.bor (JN.je (er (N':=["fact","layer_of"]) (ix:=[1]) 1 ⋯ rfl (bv (N:=["errand","layer_of"]) (by kernel_rfl) rfl) (dJ (JE.bor (bP a (ai 0) (JE.bor aG)))) (λb j c d h f=>⟨bU (i:=0) (by show(["fact","layer_of"]:List Str).Nodup;decide +kernel) rfl (.inl rfl),eR,(mE (RH a) (ai 0) (ai 1))⟩)))) ck)))),(ah 0)⟩)) (aM (bH (vH rfl (NS (N':=["errand","fact","layer_of"]) (ix:=[1]) 1 ⋯ rfl (bv (so:=az mo) (N:=tU) ∎) (dJ (ai 2)) (λb j c d h f=>⟨bU (i:=0) (by show(["errand","fact","layer_of"]:List Str).Nodup;decide +kernel) rfl (.inl rfl),eR,(dJ (JE.bor (bP a (ai 0) (JE.bor aG)))),bU (i:=1) (by show(["errand","fact","layer_of"]:List Str).Nodup;decide +kernel) rfl (.inl rfl),(i3 (dg (NT a) (ai 1) (ai 2))),(ah 1)⟩)) rfl B.sorted))))
abbrev lw:dZ:=top 50
abbrev tV:List Str:=["book","state","layer_of","layer","made","fact"]
def gj:bB tV ["book","state"] (az lw):=dX ∎
abbrev tW(e:En):=FN e "first_layers" 2 2 ll
def zN(D:gM e.K e.mg "first_layers" lw)(c:zi e):tW e:=nV (k:=1) (g:=li) D gj b2 λ_ _ _ _ _ _ _ b=>by have a:=iF b;unfold li;exact(aD (EQ 2 (N':=["fact"]) (ix:=[]) 1 ⋯ a gj.nd rfl (bv (so:=az lw) (N:=tV) ∎) (dJ (ai 1)) (λf d h j m l=>⟨bU (i:=0) (by show(["fact"]:List Str).Nodup;decide +kernel) rfl (.inl rfl),eR,(ah 0),aG⟩)) (aD (eC 3 aG gj.nd) (aD (eC 4 (jcl Dt c b px (LV (ah 0) (Ro 2 Rn))) gj.nd) (aD (AC 100000 (JV (ai 4)) (aD (Lr 4 rfl (c_ 5 gj.nd) (aM (ED 2 (ah 3) (ah 5) a))) (aD (Yg 3 aG gj.nd) (aM (eC 4 (jcl Dt c b eV (LV (ah 0) (Ro 2 Rn))) gj.nd))))) (aM (bH (ah 2)))))))
abbrev BH:dZ:=top 51
abbrev KG:List Str:=["book","state","want","must","bars","layer_of","greatest"]
def xK:bB KG ["book","state","want"] (az BH):=dX ∎
abbrev SM(e:En):=FN e "hint" 9 3 qi
def VP(D:gM e.K e.mg "hint" BH)(B:Bi e.mg)(f:pP e)(d:tW e)(o:jF e):SM e:=nV (k:=8) (g:=ET) D xK b3 λ_ _ _ _ _ _ _ b=>by have a:=iF b;have c:=b.units;unfold ET;exact(aD (kO (jc f b px (ac (ah 0) (ac (ah 1) (ac (ah 2) aJ))))) (aD (vE (ah 2) (qe rfl (dh (c_ 3 xK.nd) (dh (c_ 4 xK.nd) lV)))) (aD (eC 5 (jc d b px (ac (ah 0) (ac (ah 1) aJ))) xK.nd) (aD (gq (fX (eK (cf (rh rfl) rfl B.all dB (bE (JE.bor (JN.je (er (N':=["fact","layer_of"]) (ix:=[5]) 1 ⋯ rfl (bv (so:=az BH) (N:=KG) ∎) (dJ (ai 3)) (λh p j l n m=>⟨bU (i:=0) (by show(["fact","layer_of"]:List Str).Nodup;decide +kernel) rfl (.inl rfl),eR,(mE (RH a) (ai 0) (ai 1))⟩)))) ck)))) (aM (bH yn)) dq) (aD (eC 6 (V7 rfl (bE (JE.bor (JN.je (er (N':=["fact","layer_of"]) (ix:=[5]) 1 ⋯ rfl (bv (so:=az BH) (N:=KG) ∎) (dJ (ai 3)) (λh p j l n m=>⟨bU (i:=0) (by show(["fact","layer_of"]:List Str).Nodup;decide +kernel) rfl (.inl rfl),eR,(bP a (ai 1) (ai 0))⟩)))) ck) rfl B.max) xK.nd) (aD (gq (JW.t (qc (dg (qC c) (ai 6) (JE.bor aG)) (mU (fX (eK (jc o b px (ac (ah 4) (ac (ah 1) aJ)))))))) (aM (bH aG)) dq) (aM (bH (ah 6)))))))))
abbrev qp:dZ:=top 53
abbrev CN:List Str:=["_law_script","_law_k"]
def BI:bB CN ["_law_script","_law_k"] (az qp):=dX ∎
abbrev vk(e:En):=FN e "_law_cell_at" 1 2 l_
def BJ(D:gM e.K e.mg "_law_cell_at" qp)(B:Bi e.mg):vk e:=nV (k:=0) (g:=lZ) D BI b2 λ_ _ _ _ _ _ _ c=>by have b:=iF c;have a:=c.units;unfold lZ;exact(aD (gq (dg (Dd) (ai 1) (JE.bor (cf j8 rfl B.len cm (bE (ai 0) ck)))) (aM (bH (bP b (ai 0) (ai 1)))) dq) (aD (gq (dg (qC a) (ai 0) (JE.bor (kM aJ))) (aM (bH aG)) dq) (aM (bH (cz e7 (JE.bor (cz sW (JE.bor (bP b (ai 0) (JE.bor (cz Ev (ai 1) (JE.bor (cf j8 rfl B.len cm (bE (ai 0) ck))))))) (JE.bor aG))) (ai 1))))))
abbrev tX:dZ:=top 54
abbrev Ig:List Str:=["_law_script","_law_k","_law_many","_law_drawn"]
def xL:bB Ig ["_law_script","_law_k","_law_many"] (az tX):=dX ∎
abbrev i8(e:En):=FN e "_law_mixed" 2 3 bJ
def Fw(D:gM e.K e.mg "_law_mixed" tX)(a:vk e):i8 e:=nV (k:=1) (g:=pB) D xL b3 λ_ _ _ _ _ _ _ b=>by unfold pB;exact(aD (eC 3 (cz Ev (JE.bor (cz sW (JE.bor (cz e7 (JE.bor (cz e7 (JE.bor (jc a b px (ac (ah 0) (ac (ah 1) aJ)))) (JE.bor (cz sW (JE.bor aG) (ai 1))))) (JE.bor aG))) (JE.bor aG))) (JE.bor aG)) xL.nd) (aM (bH (cz Ev (JE.bor (cz Ev (JE.bor (cz e7 (JE.bor (cz e7 (JE.bor (cz sW (ai 3) (ai 3))) (JE.bor (cz sW (JE.bor aG) (ai 3))))) (ai 1))) (JE.bor aG))) (ai 2)))))
abbrev wa:dZ:=top 55
abbrev KH:List Str:=["_law_script","_law_at","_law_made","_law_k"]
def pT:bB KH ["_law_script","_law_at"] (az wa):=dX ∎
abbrev wc(e:En):=FN e "_law_word" 3 2 lO
def Ih(D:gM e.K e.mg "_law_word" wa)(B:Bi e.mg)(c:i8 e):wc e:=nV (k:=2) (g:=rE) D pT b2 λ_ _ _ _ _ _ _ b=>by have a:=iF b;unfold rE;exact(aD (eC 2 Eu pT.nd) (aD (rn rfl (vF rfl B.range (bE (JE.bor (bP a (JE.bor (kM (ac aG (ac aG (ac aG (ac aG (ac aG (ac aG aJ)))))))) (JE.bor (jc c b eV (ac (ah 0) (ac (ah 1) (ac aG aJ))))))) ck)) (c_ 3 pT.nd) (aM (eC 2 (cz e7 (ai 2) (JE.bor (bP a (JE.bor Eu) (JE.bor (jc c b eV (ac (ah 0) (ac (cz e7 (JE.bor (cz e7 (ai 1) (JE.bor aG))) (ai 3)) (ac aG aJ)))))))) pT.nd))) (aM (bH (ah 2)))))
abbrev tY:dZ:=top 56
abbrev Ii:List Str:=["_law_script","_law_at","_law_most","_law_found","_law_k"]
def rV:bB Ii ["_law_script","_law_at","_law_most"] (az tY):=dX ∎
abbrev zj(e:En):=FN e "_law_facts" 4 3 pE
def Fx(D:gM e.K e.mg "_law_facts" tY)(B:Bi e.mg)(d:wc e)(c:i8 e):zj e:=nV (k:=3) (g:=pC) D rV b3 λ_ _ _ _ _ _ _ b=>by have a:=iF b;unfold pC;exact(aD (mV 3 Lp rV.nd) (aD (rn rfl (vF rfl B.range (bE (JE.bor (jc c b eV (ac (ah 0) (ac (ah 1) (ac (cz e7 (ai 2) (JE.bor aG)) aJ))))) ck)) (c_ 4 rV.nd) (aM (ED 3 kL (jc d b eV (ac (ah 0) (ac (cz e7 (JE.bor (cz e7 (ai 1) (JE.bor aG))) (JE.bor (cz sW (JE.bor aG) (ai 4)))) aJ))) a))) (aM (bH (gJ (jV rfl) rfl B.tuple bp (bE (JE.bor (cf Nw rfl B.sorted nr (bE (JE.bor (gJ (Gz rfl) rfl B.list oX (bE (ai 3) ck))) ck))) ck))))))
abbrev rW:dZ:=top 57
abbrev BK:List Str:=["_law_script","_law_at","_law_facts_here","_law_part"]
def Ij:bB BK ["_law_script","_law_at","_law_facts_here","_law_part"] (az rW):=dX ∎
abbrev BL(e:En):=FN e "_law_some" 3 4 rG
def Ik(D:gM e.K e.mg "_law_some" rW)(B:Bi e.mg)(b:i8 e):BL e:=nV (k:=2) (g:=rF) D Ij b4 λ_ _ _ _ _ _ _ a=>by unfold rF;exact(aM (bH (gJ (jV rfl) rfl B.tuple bp (bE (JE.bor (JN.je (er (N':=["_law_k","_law_fact","_law_script","_law_at","_law_part"]) (ix:=[0,1,3]) 2 ⋯ rfl (bv (so:=az rW) (N:=BK) ∎) (OT.i (xb rfl B.enumerate (ac (ah 2) aJ))) (λc l d f j h=>⟨Aj rfl (kH (bU (i:=0) (by show(["_law_k","_law_fact","_law_script","_law_at","_law_part"]:List Str).Nodup;decide +kernel) rfl (.inl rfl)) (kH (bU (i:=1) (by show(["_law_k","_law_fact","_law_script","_law_at","_law_part"]:List Str).Nodup;decide +kernel) rfl (.inl rfl)) wD)),(i3 (dg (Dd) (JE.bor (jc b a eV (ac (ah 2) (ac (cz e7 (ai 3) (ai 0)) (ac aG aJ))))) (ai 4))),(ah 1)⟩)))) ck))))
abbrev lR:dZ:=top 58
abbrev rX:List Str:=["_law_script","_law_at","_law_facts_here","_law_name","_law_one","_law_two","_law_goal","_law_needs","_law_bars","_law_ends","_law_parts"]
def iL:bB rX ["_law_script","_law_at","_law_facts_here","_law_name"] (az lR):=dX ∎
abbrev BM(e:En):=FN e "_law_thin" 3 4 rJ
def Il(D:gM e.K e.mg "_law_thin" lR)(B:Bi e.mg)(d:i8 e):BM e:=nV (k:=2) (g:=rH) D iL b4 λ_ _ _ _ _ _ _ c=>by have a:=iF c;have b:=c.units;unfold rH;exact(aD (eC 4 (bP a (ai 2) (JE.bor (jc d c px (ac (ah 0) (ac (cz e7 (ai 1) (JE.bor aG)) (ac (cf j8 rfl B.len cm (bE (ai 2) ck)) aJ)))))) iL.nd) (aD (eC 5 (bP a (ai 2) (JE.bor (jc d c px (ac (ah 0) (ac (cz e7 (ai 1) (JE.bor aG)) (ac (cf j8 rfl B.len cm (bE (ai 2) ck)) aJ)))))) iL.nd) (aD (eC 6 (bP a (ai 2) (JE.bor (jc d c px (ac (ah 0) (ac (cz e7 (ai 1) (JE.bor aG)) (ac (cf j8 rfl B.len cm (bE (ai 2) ck)) aJ)))))) iL.nd) (aD (eC 7 (qD (JE.bor (kM (ac (ah 4) (ac (ah 5) aJ)))) w_ (rg (cz e7 (JE.bor aG) (JE.bor (cz Ut (JE.bor (jc d c px (ac (ah 0) (ac (cz e7 (ai 1) (JE.bor aG)) (ac aG aJ))))) (JE.bor aG)))))) iL.nd) (aD (iU 8 (N':=["_law_fact","_law_needs","_law_script","_law_at"]) (ix:=[7,0,1]) 1 ⋯ iL.nd rfl (bv (so:=az lR) (N:=rX) ∎) (dJ (JE.bor (kM (ac (ah 6) aJ)))) (λf n h j m l=>⟨bU (i:=0) (by show(["_law_fact","_law_needs","_law_script","_law_at"]:List Str).Nodup;decide +kernel) rfl (.inl rfl),(i3 (JW.t (qc (dg (nO) (ai 0) (ai 1)) (mU (dg (qC b) (JE.bor (jc d c eV (ac (ah 2) (ac (cz e7 (ai 3) (JE.bor aG)) (ac aG aJ))))) (JE.bor aG)))))),(ah 0)⟩)) (aD (iU 9 (N':=["_law_fact","_law_goal","_law_script","_law_at"]) (ix:=[6,0,1]) 1 ⋯ iL.nd rfl (bv (so:=az lR) (N:=rX) ∎) (dJ (JE.bor (kM (ac (ah 4) aJ)))) (λf n h j m l=>⟨bU (i:=0) (by show(["_law_fact","_law_goal","_law_script","_law_at"]:List Str).Nodup;decide +kernel) rfl (.inl rfl),(i3 (JW.t (qc (dg (Av b) (ai 0) (ai 1)) (mU (dg (qC b) (JE.bor (jc d c eV (ac (ah 2) (ac (cz e7 (ai 3) (JE.bor aG)) (ac aG aJ))))) (JE.bor aG)))))),(ah 0)⟩)) (aD (yr 8 (yr 9 (iU 10 (N':=["_law_part"]) (ix:=[]) 1 ⋯ iL.nd rfl (bv (so:=az lR) (N:=rX) ∎) (dJ (JE.bor (lM (ac (ah 7) (ac (ah 8) (ac (kM (ac (ah 6) aJ)) (ac (ah 9) aJ))))))) (λf n h j m l=>⟨bU (i:=0) (by show(["_law_part"]:List Str).Nodup;decide +kernel) rfl (.inl rfl),eR,(gJ (jV rfl) rfl B.tuple bp (bE (JE.bor (vH rfl (JQ rfl (ai 0) rfl B.set) rfl B.sorted)) ck))⟩)))) (aM (bH (lM (ac (ah 3) (ac (bP a (ai 10) (JE.bor aG)) (ac (bP a (ai 10) (JE.bor aG)) (ac (bP a (ai 10) (JE.bor aG)) (ac (bP a (ai 10) (JE.bor aG)) (ac (jc d c px (ac (ah 0) (ac (ah 1) (ac aG aJ)))) aJ))))))))))))))))
abbrev nq:dZ:=top 59
abbrev xM:List Str:=["_law_script","_law_at","_law_facts_here","_law_name","_law_parts","_law_k","_law_fact","_law_way","_law_some_here"]
def io:bB xM ["_law_script","_law_at","_law_facts_here","_law_name"] (az nq):=dX ∎
abbrev xN(e:En):=FN e "_law_errand" 4 4 jE
def CO(D:gM e.K e.mg "_law_errand" nq)(B:Bi e.mg)(d:i8 e)(f:BM e):xN e:=nV (k:=3) (g:=jD) D io b4 λ_ _ _ _ _ _ _ c=>by have a:=iF c;have b:=c.units;unfold jD;exact(aD (gq (JW.t (qc (dg (Av b) (ai 2) (JE.bor (lM aJ))) (mU (dg (qC b) (JE.bor (jc d c px (ac (ah 0) (ac aG (ac aG aJ))))) (JE.bor aG))))) (aM (bH (jc f c px (ac (ah 0) (ac (ah 1) (ac (ah 2) (ac (ah 3) aJ))))))) dq) (aD (Y1 4 io.nd) (aD (rn rfl (xb rfl B.enumerate (ac (ah 2) aJ)) (qe rfl (dh (c_ 5 io.nd) (dh (c_ 6 io.nd) lV))) (aD (eC 7 (jc d c eV (ac (ah 0) (ac (cz e7 (JE.bor (cz e7 (ai 1) (JE.bor aG))) (ai 5)) (ac aG aJ)))) io.nd) (aD (gq (dg (Dd) (ai 7) (JE.bor aG)) (aM (AH 4 (bP a (JE.bor (kM (ac aG (ac aG (ac aG aJ))))) (ai 7)) (ah 6))) dq) (aD (eC 7 (jc d c eV (ac (ah 0) (ac (cz e7 (JE.bor (cz e7 (ai 1) (JE.bor aG))) (ai 5)) (ac aG aJ)))) io.nd) (aM (gq (dg (Dd) (ai 7) (JE.bor aG)) (aM (AH 4 (bP a (JE.bor (kM (ac aG (ac aG (ac aG (ac aG aJ)))))) (ai 7)) (ah 6))) dq)))))) (aD (Qt (iU 8 (N':=["_law_part"]) (ix:=[]) 1 ⋯ io.nd rfl (bv (so:=az nq) (N:=xM) ∎) (dJ (ai 4)) (λh o j l n m=>⟨bU (i:=0) (by show(["_law_part"]:List Str).Nodup;decide +kernel) rfl (.inl rfl),eR,(gJ (jV rfl) rfl B.tuple bp (bE (ai 0) ck))⟩))) (aM (bH (lM (ac (ah 3) (ac (bP a (ai 8) (JE.bor aG)) (ac (bP a (ai 8) (JE.bor aG)) (ac (bP a (ai 8) (JE.bor aG)) (ac (bP a (ai 8) (JE.bor aG)) (ac (jc d c px (ac (ah 0) (ac (ah 1) (ac aG aJ)))) aJ)))))))))))))
abbrev rY:dZ:=top 60
abbrev BN:List Str:=["_law_script","_law_at","_law_most","_law_many","_law_facts_here","_law_made","_law_k","_law_name","_law_names","_law_turn"]
def jx:bB BN ["_law_script","_law_at","_law_most","_law_many"] (az rY):=dX ∎
abbrev BO(e:En):=FN e "_law_book" 5 4 nZ
def Im(D:gM e.K e.mg "_law_book" rY)(B:Bi e.mg)(d:zj e)(f:wc e)(h:xN e)(c:i8 e):BO e:=nV (k:=4) (g:=nY) D jx b4 λ_ _ _ _ _ _ _ a=>by have b:=iF a;unfold nY;exact(aD (eC 4 (jc d a px (ac (ah 0) (ac (ah 1) (ac (ah 2) aJ)))) jx.nd) (aD (mV 5 Lp jx.nd) (aD (rn rfl (vF rfl B.range (bE (JE.bor (jc c a eV (ac (ah 0) (ac (cz e7 (ai 1) (JE.bor aG)) (ac (cz e7 (ai 3) (JE.bor aG)) aJ))))) ck)) (c_ 6 jx.nd) (aD (eC 7 (jc f a eV (ac (ah 0) (ac (cz e7 (JE.bor (cz e7 (ai 1) (JE.bor aG))) (JE.bor (cz sW (JE.bor aG) (ai 6)))) aJ))) jx.nd) (aM (ED 5 (jc h a eV (ac (ah 0) (ac (cz e7 (JE.bor (cz e7 (ai 1) (JE.bor aG))) (JE.bor (cz sW (JE.bor aG) (ai 6)))) (ac (ah 4) (ac (ah 7) aJ))))) (ah 7) b)))) (aD (eC 8 (gJ (Gz rfl) rfl B.list oX (bE (ai 5) ck)) jx.nd) (aD (eC 9 (jc c a px (ac (ah 0) (ac (cz e7 (ai 1) (JE.bor aG)) (ac (cz e7 (JE.bor (cf j8 rfl B.len cm (bE (ai 8) ck))) (JE.bor aG)) aJ)))) jx.nd) (aM (bH (lM (ac (ah 4) (ac (gJ (jV rfl) rfl B.tuple bp (bE (JE.bor (JN.je (er (N':=["_law_name","_law_made"]) (ix:=[5]) 1 ⋯ rfl (bv (so:=az rY) (N:=BN) ∎) (dJ (JE.bor (cz e7 (JE.bor (qD (ai 8) (rg (ah 9)) w_)) (JE.bor (qD (ai 8) w_ (rg (ah 9))))))) (λl j m n p o=>⟨bU (i:=0) (by show(["_law_name","_law_made"]:List Str).Nodup;decide +kernel) rfl (.inl rfl),eR,(bP b (ai 1) (ai 0))⟩)))) ck)) aJ))))))))))
abbrev wf:dZ:=top 61
abbrev KI:List Str:=["_law_script","_law_at","_law_facts_here","_law_must","_law_bars","_law_k","_law_fact","_law_way"]
def kz:bB KI ["_law_script","_law_at","_law_facts_here"] (az wf):=dX ∎
abbrev BP(e:En):=FN e "_law_want" 3 3 vP
def Io(D:gM e.K e.mg "_law_want" wf)(B:Bi e.mg)(c:i8 e):BP e:=nV (k:=2) (g:=n_) D kz b3 λ_ _ _ _ _ _ _ b=>by have a:=b.units;unfold n_;exact(aD (mV 3 (Ez aJ) kz.nd) (aD (mV 4 (Ez aJ) kz.nd) (aD (rn rfl (xb rfl B.enumerate (ac (ah 2) aJ)) (qe rfl (dh (c_ 5 kz.nd) (dh (c_ 6 kz.nd) lV))) (aD (eC 7 (jc c b eV (ac (ah 0) (ac (cz e7 (ai 1) (ai 5)) (ac aG aJ)))) kz.nd) (aM (gq (dg (Dd) (ai 7) (JE.bor aG)) (aM (yp 3 (ah 6))) (aM (gq (dg (qC a) (ai 7) (JE.bor aG)) (aM (yp 4 (ah 6))) dq)))))) (aM (bH (lM (ac (gJ (jV rfl) rfl B.tuple bp (bE (ai 3) ck)) (ac (gJ (jV rfl) rfl B.tuple bp (bE (ai 4) ck)) aJ))))))))
abbrev wg:dZ:=top 62
abbrev KJ:List Str:=["_law_script","_law_most","_law_many","_law_book_here","_law_state"]
def t_:bB KJ ["_law_script","_law_most","_law_many"] (az wg):=dX ∎
abbrev BQ(e:En):=FN e "_law_case" 6 3 k9
def Ip(D:gM e.K e.mg "_law_case" wg)(d:BO e)(f:i8 e)(c:BL e)(h:BP e):BQ e:=nV (k:=5) (g:=rK) D t_ b3 λ_ _ _ _ _ _ _ b=>by have a:=iF b;unfold rK;exact(aD (eC 3 (jc d b px (ac (ah 0) (ac aG (ac (ah 1) (ac (ah 2) aJ))))) t_.nd) (aD (eC 4 (jc c b px (ac (ah 0) (ac aG (ac (bP a (ai 3) (JE.bor aG)) (ac (bP a (JE.bor (kM (ac aG (ac aG aJ)))) (JE.bor (jc f b px (ac (ah 0) (ac aG (ac aG aJ)))))) aJ))))) t_.nd) (aM (bH (lM (ac (ah 3) (ac (ah 4) (ac (jc h b px (ac (ah 0) (ac aG (ac (bP a (ai 3) (JE.bor aG)) aJ)))) aJ))))))))
abbrev sk:dZ:=top 63
abbrev Iq:List Str:=["_law_script","_law_book_here","_law_state","_law_want_here","_law_many","_law_fact","_law_makers","_law_some_here","_law_lazy"]
def oB:bB Iq ["_law_script"] (az sk):=dX ∎
def YT{f:ap}{p:ig}(F:Nc e.K "law" "law" sk f p)(B:Bi e.mg)(y:BQ e)(x:X0 e)(q:SM e)(o:MB e)(u:DY e)(G:DW e)(z:SL e):uS e.P e.w e.K e.mg e.base (C0 e.P e.w) 11 f p ["_law_script"] (Uw e.K e.cls 1 F_law):=by
 refine Wl (k:=10) (g:=Mh) F oB λv A outer s H E c=>?_
 have a:=iF c
 have b:=c.units
 unfold Mh
 exact(aD (vE (jc y c px (ac (ah 0) (ac aG (ac aG aJ)))) (qe rfl (dh (c_ 1 oB.nd) (dh (c_ 2 oB.nd) (dh (c_ 3 oB.nd) lV))))) (aD (eC 4 (jc x c px (ac (ah 1) (ac (ah 2) (ac (ah 3) aJ)))) oB.nd) (aD (gq (dg (Qh) (ai 4) (JE.bor yn)) (aD (gq (dg (Wh) (JE.bor (jc q c px (ac (ah 1) (ac (ah 2) (ac (ah 3) aJ))))) (JE.bor yn)) (aM (bH kL)) dq) (aD (gq (eK (cf (vD rfl) rfl B.any fu (bE (JE.bor (JN.je (er (N':=["_law_one","_law_two","_law_want_here"]) (ix:=[3]) 2 ⋯ rfl (bv (so:=az sk) (N:=Iq) ∎) (dJ (JE.bor (jc o c px (ac (ah 1) (ac (ah 2) aJ))))) (λd l m j n h=>⟨Aj rfl (kH (bU (i:=0) (by show(["_law_one","_law_two","_law_want_here"]:List Str).Nodup;decide +kernel) rfl (.inl rfl)) (kH (bU (i:=1) (by show(["_law_one","_law_two","_law_want_here"]:List Str).Nodup;decide +kernel) rfl (.inl rfl)) wD)),eR,(vC (mE (ve) (ai 0) (JE.bor (bP a (ai 2) (JE.bor aG)))) (yo (mE (ve) (ai 1) (JE.bor (bP a (ai 2) (JE.bor aG))))))⟩)))) ck))) (aM (bH kL)) dq) (aM (rn rfl (A1 (bP a (ai 3) (JE.bor aG))) (c_ 5 oB.nd) (aD (iU 6 (N':=["_law_errand_here","_law_fact"]) (ix:=[5]) 1 ⋯ oB.nd rfl (bv (so:=az sk) (N:=Iq) ∎) (dJ (JE.bor (bP a (ai 1) (JE.bor aG)))) (λd l m j n h=>⟨bU (i:=0) (by show(["_law_errand_here","_law_fact"]:List Str).Nodup;decide +kernel) rfl (.inl rfl),(i3 (dg (ve) (ai 1) (JE.bor (bP a (ai 0) (JE.bor aG))))),(bP a (ai 0) (JE.bor aG))⟩)) (aD (gq (JW.t (qc (dg (nO) (ai 5) (ai 2)) (mU (dg (qC b) (ai 6) (JE.bor (kM aJ)))))) (aM (bH kL)) dq) (aM (gq (JW.t (qc (dg (nO) (ai 5) (ai 2)) (qc (dg (qC b) (JE.bor (cf j8 rfl B.len cm (bE (ai 6) ck))) (JE.bor aG)) (mU (dg (nO) (JE.bor (bP a (ai 6) (JE.bor aG))) (JE.bor (jc u c eV (ac (ah 1) (ac (ah 2) (ac (ah 3) aJ)))))))))) (aM (bH kL)) dq)))))))) dq) (aD (eC 7 (jc G c px (ac (ah 1) (ac (ah 2) aJ))) oB.nd) (aD (eC 8 (jc z c px (ac (ah 1) (ac (ah 2) aJ))) oB.nd) (aD (rn rfl (A1 (bP a (ai 1) (JE.bor aG))) (c_ 5 oB.nd) (aD (iU 6 (N':=["_law_errand_here","_law_fact","_law_lazy"]) (ix:=[5,8]) 1 ⋯ oB.nd rfl (bv (so:=az sk) (N:=Iq) ∎) (dJ (JE.bor (bP a (ai 1) (JE.bor aG)))) (λd l m j n h=>⟨bU (i:=0) (by show(["_law_errand_here","_law_fact","_law_lazy"]:List Str).Nodup;decide +kernel) rfl (.inl rfl),(i3 (JW.t (qc (dg (ve) (ai 1) (JE.bor (bP a (ai 0) (JE.bor aG)))) (mU (dg (nO) (JE.bor (bP a (ai 0) (JE.bor aG))) (ai 2)))))),(bP a (ai 0) (JE.bor aG))⟩)) (aM (gq (JW.t (qc (dg (qC b) (ai 6) (JE.bor (kM aJ))) (mU (dg (nO) (ai 5) (ai 2))))) (aM (gq (JW.t (se (eK (cf (vD rfl) rfl B.any fu (bE (JE.bor (JN.je (er (N':=["_law_one","_law_fact"]) (ix:=[5]) 1 ⋯ rfl (bv (so:=az sk) (N:=Iq) ∎) (dJ (ai 7)) (λd l m j n h=>⟨bU (i:=0) (by show(["_law_one","_law_fact"]:List Str).Nodup;decide +kernel) rfl (.inl rfl),eR,(mE (ve) (ai 1) (ai 0))⟩)))) ck))) (nN (JW.t (qc (dg (NR b) (JE.bor (lM (ac (ah 5) (ac (ah 5) aJ)))) (JE.bor (jc o c eV (ac (ah 1) (ac (ah 2) aJ))))) (mU (dg (qC b) (ai 8) (JE.bor (kM aJ))))))))) (aM (bH kL)) dq)) dq)))) (aM (bH kL))))))))
end
def all_mk{l:zq}{w:bL}{K:a8}{h:cg}{a:Str->Option ag}{p A:ap}{od N:Option ap}{sl:Array (Option ag)}{oc kV H z g E:ag}(X:K.In h)(G:h.Ns cn a)(n:a "law"=some (.ref p))
  (Zz:Zs K zn)
  (oj:Cn a "MOST_LETTERS" 6)
  (rO:Cn a "MOST_PRICE" 9)
  (rP:Cn a "MOST_FACTS" 6)
  (om:Cn a "MOST_ERRANDS" 6)
  (Fy:gM K a "share_none" nh)
  (Ou:gM K a "without" uD)
  (SQ:gM K a "joined" Bv)
  (Ov:gM K a "is_word" uE)
  (wo:gM K a "are_rising_words" gU)
  (Ir:gM K a "are_facts" pK)
  (KN:gM K a "is_whole" vV)
  (Iu:gM K a "is_errand" pO)
  (Ow:gM K a "is_book" qP)
  (Ox:gM K a "is_want" yG)
  (CQ:gM K a "check_state" qk)
  (Fz:gM K a "check_want" rQ)
  (Oy:gM K a "fulfils" uF)
  (Iv:gM K a "is_doable" tG)
  (BR:gM K a "state_behind" oo)
  (Oz:gM K a "checked" yI)
  (CS:gM K a "check_place" qm)
  (Iw:gM K a "check_aim" tK)
  (Ix:gM K a "all_pairs" pQ)
  (Iy:gM K a "stands_in" tL)
  (SS:gM K a "brings" xE)
  (FA:gM K a "is_brought" ni)
  (VQ:gM K a "apart" uH)
  (FB:gM K a "steps_from" nl)
  (Q:gM K a "first_rows" rT)
  (OA:gM K a "nearest" qQ)
  (U:gM K a "reached" yM)
  (KO:gM K a "shortest" v_)
  (i:gM K a "far" SH)
  (Iz:gM K a "is_served" pR)
  (BS:gM K a "check_served" ou)
  (BU:gM K a "must_be_done" lv)
  (OC:gM K a "must_do" uI)
  (YU:gM K a "idle" Fu)
  (IA:gM K a "made_next" mo)
  (BV:gM K a "first_layers" lw)
  (YV:gM K a "hint" BH)
  (CT:gM K a "_law_cell_at" qp)
  (IB:gM K a "_law_mixed" tX)
  (KP:gM K a "_law_word" wa)
  (IC:gM K a "_law_facts" tY)
  (KQ:gM K a "_law_some" rW)
  (KR:gM K a "_law_thin" lR)
  (FD:gM K a "_law_errand" nq)
  (KS:gM K a "_law_book" rY)
  (Y:gM K a "_law_want" wf)
  (S:gM K a "_law_case" wg)
  (l0:iQ K cn "law"=some (some (.ref A)))
  (l1:K.lookup A=some ⟨oc,od,.func (h_ "law" "law" (lU sk) (jh sk) (az sk) .none kV H z N g E),sl⟩)
  (l2:nJ K g "law"=true)
  (l3:gN K (.ref A)=true)
  :∃o:ig,(∀(s:ak) (v:ag),C5 s o ⟨[v],[]⟩ [("_law_script",v)])/\∀base:cg,K.In base->base.Ns cn a->uS l.prog w K a base (C0 l.prog w) 11 p o ["_law_script"] (ZX K F_law):=by
 have q:=n.symm.trans (v6 X G l0)
 cases q
 refine⟨h_ "law" "law" (lU sk) (jh sk) (az sk) .none kV H z N g E,λs v=>.of_eq rfl,λbase X G=>?_⟩
 let e:En:=⟨l.prog,w,K,a,base,ZY []⟩
 have B:Bi e.mg:=q0h X G Zz
 have c:=CC (e:=e) Fy B
 have t:=Ko (e:=e) Ou B
 have BA:=Oo (e:=e) SQ B
 have L:=Kr (e:=e) Ov B oj
 have I:=uY (e:=e) wo B L
 have m:=Fc (e:=e) Ir B I
 have vW:=HW (e:=e) KN B
 have tF:=Fd (e:=e) Iu B L vW m c rO
 have yJ:=Ku (e:=e) Ow B I tF rP om
 have yH:=Kv (e:=e) Ox B m c
 have qo:=By (e:=e) CQ m
 have rR:=CG (e:=e) Fz yH
 have k:=Kw (e:=e) Oy B c
 have y:=Fg (e:=e) Iv k
 have oq:=zJ (e:=e) BR t BA
 have yK:=Ky (e:=e) Oz yJ
 have f:=BC (e:=e) CS yK qo
 have j:=Fi (e:=e) Iw f rR
 have P:=Fk (e:=e) Ix B
 have x:=Fo (e:=e) Iy
 have BD:=Os (e:=e) SS B t c x
 have nj:=CJ (e:=e) FA B BD
 have Ab:=SG (e:=e) VQ f P x nj
 have rU:=CL (e:=e) FB y oq
 have d:=CM (e:=e) Q rU
 have yN:=Kz (e:=e) OA B k
 have yP:=KB (e:=e) U B f d
 have w9:=Ie (e:=e) KO j d yN
 have SO:=YS (e:=e) i B w9
 have u:=Ft (e:=e) Iz B d k
 have oy:=zL (e:=e) BS j u
 have oz:=zM (e:=e) BU B u
 have T:=KF (e:=e) OC oy oz
 have KM:=VO (e:=e) YU B f d y
 have pS:=Fv (e:=e) IA B
 have oA:=zN (e:=e) BV pS
 have KL:=VP (e:=e) YV B j oA c
 have qq:=BJ (e:=e) CT B
 have b:=Fw (e:=e) IB qq
 have M:=Ih (e:=e) KP B b
 have tZ:=Fx (e:=e) IC B M b
 have wk:=Ik (e:=e) KQ B b
 have we:=Il (e:=e) KR B b
 have rZ:=CO (e:=e) FD B b we
 have O:=Im (e:=e) KS B tZ M rZ b
 have wl:=Io (e:=e) Y B b
 have wn:=Ip (e:=e) S O b wk wl
 exact(YT (e:=e) (PD l1 l2 l3) B wn SO KL Ab T yP KM).imp Y2
end Z
section
open PySem PySem.W PyProof.Rows
namespace PySem.W.Fast
def tw5856129097651196439:Nat:=0
def tw17813263531312352772:Nat:=0
def tw2007576248789530281:Nat:=0
def tw5114756481870400475:Nat:=0
def tw8054872909187742914:Nat:=0
def tw17386351007713212989:Nat:=0
def tw13419416994120992255:Nat:=0
def tw17601293377937280661:Nat:=0
def tw3102405500422402247:Nat:=0
def tw14619360756605446254:Nat:=0
def tw9946746406767280298:Nat:=0
def tw18218643182393960287:Nat:=0
def tw2960405550114357294:Nat:=0
def tw14181007530204145821:Nat:=0
def tw18336030122162766340:Nat:=0
def tw15591729215988882650:Nat:=0
def tw16683966989488716457:Nat:=0
def tw3915079005669203377:Nat:=0
def tw3779888063407037927:Nat:=0
def tw2770667094171171830:Nat:=0
def tw5722753458379472252:Nat:=0
def tw10627731177069940956:Nat:=0
def tw1989626734703812231:Nat:=0
def tw1845520853730739536:Nat:=0
def tw4608127938615558903:Nat:=0
def tw12455726674625866139:Nat:=0
def tw3206233125768825559:Nat:=0
def tw8670981362678147418:Nat:=0
def tw12003321760005379709:Nat:=0
def tw7899289540794937855:Nat:=0
def tw274299294276624908:Nat:=0
def tw3726412582034462258:Nat:=0
def tw13764505683829394720:Nat:=0
def tw3835523670133578419:Nat:=0
def tw15175007344705288223:Nat:=0
def tw7290825346470592642:Nat:=0
def tw13179419337082538267:Nat:=0
def tw163195908099381552:Nat:=0
def tw3663525745611348126:Nat:=0
def tw6512181205916376955:Nat:=0
def tw8394257162728704338:Nat:=0
def tw8057891453536536325:Nat:=0
def tw6667944660046911942:Nat:=0
def tw385827148771845768:Nat:=0
def tw14193016303663644811:Nat:=0
def tw14411342389399023794:Nat:=0
def tw5088296057804309945:Nat:=0
def tw12654544270824857947:Nat:=0
def tw16627322539000281275:Nat:=0
def tw14064256216766745093:Nat:=0
def tw11300178884941757763:Nat:=0
def tw1579001083014762728:Nat:=0
def tw10659828374822085896:Nat:=0
def tw17636884481690421003:Nat:=0
def tw6636673797628818324:Nat:=0
def tw14588761926450864569:Nat:=0
def tw16145430744309928808:Nat:=0
def tw3767964601026700592:Nat:=0
def tw7977570801530447578:Nat:=0
def tw15488977146649341349:Nat:=0
def tw49994563759259458:Nat:=0
def tw3175323449377485160:Nat:=0
def tw3445571410323638035:Nat:=0
def tw2203700027191879262:Nat:=0
def tw708702643157546548:Nat:=0
def tw7710435909788741508:Nat:=0
def tw16866867468936145893:Nat:=0
def tw5288420635786807205:Nat:=0
def tw6200130745566539752:Nat:=0
def tw610178637999945279:Nat:=0
def tw9054651742244501238:Nat:=0
def tw13734107611601147825:Nat:=0
def tw3852905387930315136:Nat:=0
def tw7943053944926006215:Nat:=0
def tw15118083046459836553:Nat:=0
def tw10935135148742876874:Nat:=0
def tw1513331042935184502:Nat:=0
def tw17331176689655974559:Nat:=0
def tw14286216769232835265:Nat:=0
def tw941815152577771218:Nat:=0
def tw18445451670460219992:Nat:=0
def tw12717999442624276447:Nat:=0
def tw9988398406042508035:Nat:=0
def tw15181471126827106376:Nat:=0
def tw422638572119784173:Nat:=0
def tw9090644841380653659:Nat:=0
def tw16739073172354133338:Nat:=0
def tw11694698365934947463:Nat:=0
def tw6457177567368460383:Nat:=0
def tw3603094010409682491:Nat:=0
def tw8365264232432401453:Nat:=0
def tw799588414372445926:Nat:=0
def tw16681226004937740943:Nat:=0
def tw14329189883390142816:Nat:=0
def tw7747557164100531424:Nat:=0
def tw10449482001249157972:Nat:=0
def tw16661063827224474831:Nat:=0
def tw3864695355345156738:Nat:=0
def tw5727605833622011421:Nat:=0
def tw9850631460155742329:Nat:=0
def tw1434883531380319201:Nat:=0
def tw17623497214914632159:Nat:=0
def tw8071437144841889419:Nat:=0
def tw8175050635717256830:Nat:=0
def tw1275922049650918320:Nat:=0
def tw11525206879054801235:Nat:=0
def tw13687385583159291411:Nat:=0
def tw4992411745846771302:Nat:=0
def tw13993402493001781176:Nat:=0
def tw18216127399960166507:Nat:=0
def tw14980558202348874835:Nat:=0
def tw3378108424564443827:Nat:=0
def tw7001460953896501719:Nat:=0
def tw12578056316285440351:Nat:=0
def tw16674927230375732846:Nat:=0
def tw4695605066411324862:Nat:=0
def tw17075497845740194612:Nat:=0
def tw1793929925724432859:Nat:=0
def tw13067289815819934194:Nat:=0
def tw13177013479682805509:Nat:=0
def tw4265498048464687343:Nat:=0
def tw11993767181602427578:Nat:=0
def tw13261601054680332962:Nat:=0
def tw8227414446217459950:Nat:=0
def tw9862662897197215232:Nat:=0
end PySem.W.Fast
end
theorem PySem.Challenge.cw_errands_k40_whole_never_holds : PySem.Challenge.rw_errands_k40_whole_never.Holds := by
 w_on;o_law;k_head;(case hw=>w_witness2)
 k_fill
 refine J.walkF (l:=PySem.Challenge.rw_errands_k40_whole_never) (k:=11) (x:="_law_script") (F0:=Z.F_law) rfl rfl ⟨rfl,by decide,by decide⟩ (λw h Y=>by first|exact PySem.W.kIn_of Y|exact PySem.W.km_in_of Y) ?F (λc _=>Z.law_true c)
 case F =>
  intro w d e h b G a
  refine' Z.all_mk b G a ?_ ?_ ?_ ?_ ?_ ?_ ?_ ?_ ?_ ?_ ?_ ?_ ?_ ?_ ?_ ?_ ?_ ?_ ?_ ?_ ?_ ?_ ?_ ?_ ?_ ?_ ?_ ?_ ?_ ?_ ?_ ?_ ?_ ?_ ?_ ?_ ?_ ?_ ?_ ?_ ?_ ?_ ?_ ?_ ?_ ?_ ?_ ?_ ?_ ?_ ?_ ?_ ?_ ?_ ?_ ?_
  all_goals first
   |(refine' J.d_in b G ?_ ?_ ?_ ?_<;>try k_is)
   |(refine' J.cn_in b G ?_<;>try k_is)
   |k_is
   |(refine' J.TopC.mk ?_ ?_ ?_<;>try (first|k_is|k_exc))
   |(refine' J.topN ?_ ?_ ?_ ?_ ?_ ?_ ?_ ?_ ?_ ?_ ?_ ?_ ?_ ?_ ?_ ?_ ?_ ?_ ?_ ?_ ?_ ?_ ?_<;>try (first|k_is|rfl|exact λ_ _=>⟨_,rfl,rfl⟩|decide +kernel))
   |((refine' J.Wy.mk ?_ ?_ ?_ ?_ ?_ ?_ ?_ ?_ ?_ ?_)<;>try (first|k_is|decide|((repeat' (first|exact .nil|refine' .cons ?_ ?_ ?_))<;>try (first|k_is|decide))))
   |((repeat' (first|exact .nil|refine' .cons ?_ ?_))<;>try (first|(refine' J.cw_in ?_ ?_ ?_<;>try k_is)|k_is))
   |skip
end
