import PyProof.Rows.All
import Wide.All
import OpenK.AllK
import Wide.FinOn
import Lean
import PyProof.EqAt
import PyProof.EqKinds
import PyProof.TupleCall
import KE.KDictOf
import PyProof.AttrMissHeap
import KE.KRevIter
import PyProof.DictWalks
import PyProof.MinMaxWalk
import PyProof.SeqI3
import PyProof.WalkInts
import PySem.Challenge.RW_errands_k18_whole_must_hold
set_option Elab.async false
set_option linter.all false
set_option maxRecDepth 100000
set_option maxHeartbeats 0
open PySem renaming wpAny_bind->a7,Value->a9,wpAny_pure->ae,Shared->af,Addr->ah,wpAny->aq,starEach->aA,model->aL,Program->aO,Expr->a_,World->bd,Around->bg,cellsFrom->bn,Heap->bt,wpAny_setState_of->bA,wpAny_mono->bE,compareOp->bH,mainGlobals->bM,wpAny_newObj_type->bW,wpAny_call_entry->c8,boot_len->c9,rawInt->cg,wpAny_callSpecial?_slot->cn,Stmt->cp,wpAny_holding->cr,wpAny_truthy_bool->dm,eval->du,mem_of_lookup->dG,FuncData->dL,wpAny_field->dS,wpAny_of_eq->eg,foldedSetIterable->eB,SetTable->eC,wpAny_seqItems->eE,Scope->eT,fits_of_scanBound->fI,codeAny_builtin->fJ,backTo->fS,sysModules->gd,wpAny_rule->gf,wpAny_pyIter_tuple->gj,binaryOp->gm,wpAny_setField->gq,swapsWith->gL,letOwnedTupleGo->gM,behindInMarks->gY,codeAny->hZ,wpAny_askSetting->i3,setField->i4,wpAny_isInstance->i5,strIterType->ic,wpAny_typeNameOfWhole_keyiter->ii,bootBuiltins->ij,assignEach->ik,Builtin->im,wpAny_setField_rec->io,wpAny_passesOwn->iD,wpAny_standAt->iM,scanBound->iO,wpAny_attempt->iP,wpAny_pyIter_list->iT,wpAny_storeSet_of->iU,pyNext->jw,NameKind->jN,wpAny_Call_Name_kw->jW,IsPair->jZ,cLine->kj,wpAny_typeOf->kY,firstArgMember->k_,plainId_quiet->mQ,sliceBounds->mU,wpAny_execs_nil->nX,codeAny_mono->oz,pickOrder->oU,tupleKind_room_in1->oY,getItem->qD,wpAny_pyIter_enum->qG,assign->qJ,attributeBase->qL,wpAny_comprehension_free->qM,PyData->qO,tupleKind->sI,raiseNew->sJ,call_meets->tG,newExc->tH,pushCells_keeps->ux,builtinLookup_eq_fast->uJ,isTrue->vP,Result->vQ,IsPart->vR,newFunctionEnv->vT,relayAll->vU,codeAny_call_builtin->vV,isSubtype_stop->vW,IsZip->vX,wpAny_updateSeq_pair->vY,standAt->wR,callerA->wT,CmpOp->xQ,swapsWithSole->xR,swappedStores->xS,wpAny_onRaise->xW,pyIter->yo,wpAny_call->yq,typeLookup->yr,BindsTo->Ao,Keyword->Ap,concat_meets->Aq,valueAt->Ar,wpAny_pyIter_slot->At,wpAny_dictEntries->Ay,noFill_tuple_add->Ce,DictEntry->Cf,noteFrame->Cg,Model->DO,sizeLine_eq->DQ,subscripted->DR,codeAny_of_tree->DZ,typeLookup_type->D_,wpAny_dictEpoch->E3,holding->Gd,Paired->Go,bindName->Gr,recursionLimit->Gu,bindL->Gv,bindC->Gw,wpAny_newFunctionEnv_cells->Gy,stored->GA,atKey->GB,entryFor->GC,entryFor_alias->GD,isSubtype_type->GE,isInstance->GF,wpAny_fieldsOf->GG,field->GH,wpAny_letOwnedTupleGo_enum->GI,assignInOrder->Kb,seq_tuple_add->Kd,call->Kg,wpAny_handled->Ki,lastMarks->LN,Walks->LQ,sub_set_self->M6,setNext->M7,wpAny_isTrue_Compare1->Pj,codeAny_call_function->Pk,wpAny_notOrdered_dict->Pq,wpAny_isOneOf_keyiter->Pr,keywordEach->Px,wpAny_alloc->Pz,unsupported->PF,newTuple->PH,wpAny_throw->PJ,ZipApart->PK,wpAny_letGo->PM,getAttr?->PP
open PySem.W renaming Frag->a8,kia_one->cF,kitOne->dH,keepIn->e6,mroIn->eM,fnOf->eO,cellsFrom_some->fk,findIn->gH,nsIn->gZ,clsIn->h_,codeIn->jx,mg_of->ko,subIn->nZ,looks_findIn->qP,callWith_K->tF,methodObj->uC,specialIn->uD,kitx_list->uE,instObj->xr,takesIn->xu,OpenLaw->xv,lookIn->yp,typeIn->yu,excIn->Ax,hideAll_get->Gc,of_hideAll->Gq,kitx_tuple->Gs,codeRec_of->Gx,mg_none_of->GO,kitx_dict->IF,plainGet->Kc,hideAll->LM,kitCls->M9,WalkO->Pl,Looks->Pn
open PySem.Heap renaming get?_push_of_some->ag,lt_size->ap,get?_push_size->az,SameBut->bF,size_push->cx,get?_update_self->fV,get?_update_other->qF,IsTuple->Gh,ExtBut->IG
open List renaming getElem?_set_ne->ak,length_map->al,mem_cons_of_mem->am,mem_cons_self->ao,length_append->aB,mem_append_right->aE,map_cons->aI,size_toArray->aJ,getElem?_set_self->aM,getElem?_map->aP,getElem?_eq_getElem->aR,length_cons->aU,not_mem_nil->aV,map_append->aX,mem_append_left->ba,mem_cons->bh,getElem?_append_right->bq,range->bv,getElem?_append_left->bw,mem_map_of_mem->bN,length_nil->bO,getElem?_replicate->bQ,append_nil->bV,all_eq_true->b_,find?_cons->cc,length_singleton->cH,getElem?_eq_none->cJ,map_map->cL,mem_of_getElem?->cO,lookup_cons->cV,length_replicate->cZ,getD_eq_getElem?_getD->dq,foldl_cons->dU,mem_singleton->dY,any_cons->ef,map_nil->eX,length_range->fi,getElem_of_mem->fz,length_filter_le->fW,append_assoc->gE,nodup_nil->gP,getElem_mem->gQ,any_eq_true->gR,sublist_append_left->ja,forIn_cons->jq,getElem?_cons_succ->jy,any_map->jS,all_map->jT,map->lc,nil_append->lO,replicate->mX,filterMap_map->mY,forIn_nil->m_,perm_ext_iff_of_nodup->nc,getElem_map->qm,of_mem_zip->qK,length->sX,foldl_map->sZ,filterMap_cons->uv,map_congr_left->uA,filter_sublist->uB,all_cons->uH,contains_cons->vM,set_cons_zero->vN,set_cons_succ->vO,any_eq_false->wS,length_filterMap_eq_countP->xA,length_take->xT,length_drop->xU,ext_getElem->xV,lookup->yt,mem_append->Am,length_eraseIdx_of_lt->Be,drop_eq_getElem_cons->Ch,length_erase_of_mem->DU,eraseIdx_cons_succ->DY,getElem?_cons_zero->E2,drop_of_length_le->Gg,length_pos_of_mem->Gk,dropLast_eq_take->GP,mem_erase_of_ne->IJ,getElem?_range->Kj,replicate_succ->Km,replicate_zero->Kn,lookup_append->LO,map_inj_right->LU,getElem_range->LV,nodup_append->M5,isEmpty_cons->Md,zipIdx_cons->Pm,cons_append->Ps,zipIdx_nil->PL,mem_filter->Q0
open Nat renaming le_refl->ar,ne_of_lt->aC,lt_of_lt_of_le->aH,le_of_lt->bC,le_trans->bR,lt_irrefl->c6,zero_le->c_,lt_succ_self->d_,ne_of_gt->eu,lt_succ_of_lt->fj,le_succ->iS,lt_succ_of_le->jY,not_lt_zero->lW,min_le_right->qw,lt_of_le_of_lt->vS,lt_trans->xw,lt_asymm->xx,le_of_lt_succ->xy,add_zero->xz,mod_lt->Ci,zero_add->GK,mul_comm->GL,succ_pos->GM,lt_of_succ_lt_succ->GN,add_lt_add_right->Kk,lt_of_lt_of_eq->Mc,le_of_not_lt->Py,le_add_right->PN,reduceLeDiff->PZ,reduceEqDiff->P_
open Array renaming length_toList->av,getElem?_toList->cX,getD_eq_getD_getElem?->ig,getElem?_eq_getElem->iV,eq_empty_of_size_eq_zero->kC,size_map->sK,replicate->yv,toArray_toList->GJ,append_assoc->Ka,forIn_toList->Kl,toList_push->LP
open PySem.PyData renaming str->aQ,eqv->bf,canLayAll0->bS,int->cm,bool->cu,tuple->cG,canLay0->ed,eqvAll->eU,list->fH,depthAll->xX,dict->Gj
open Bool renaming and_eq_true->aT,false_ne_true->aY,false_eq_true->c7,eq_iff_iff->eA,not_false->iQ,or_eq_true->js,not_eq_true'->jR,noConfusion->kW,and_self->l5,and_false->mZ,false_or->oS,not_true->oW,beq_eq_decide_eq->rN,true_and->uL,false_and->Bb,or_eq_false_iff->II
open PyProof.Rows renaming boot_tuple->bi,boot_all->cz,callWith_type1->e_,slot_tuple_getitem->fU,boot_any->gS,envOfC->j3,boot_isinstance->jQ,boot_list->ng,AllBare->qC,StrsAre->tK,isBoolOf->vZ,boot_sorted->wV,assignInOrder_cons->yn,boot_int->yw,IsTup->Gp,subscriptTail->Ke,subscriptTail_builtinR->M3,IntsAre->M4
open PySem.Heap.SameBut renaming update->bI
open Option.some renaming inj->bJ,injEq->DT
open PySem.Value renaming ref->bL,none->dW,bool->iB,type->iC,str->jv,int->mP,isStrOf->uu
open PySem.NameKind renaming free->cw,cell->dZ
open PySem.SetTable renaming sizeAbove->cy,grown->ia,below->ib,fits->n5,bits->n8,turns->qH,layClean->uy,laid->Al,orStandIn->Gf,relaid->Kh,fill->Ma,road->Mb
open PySem.Builtin.SmallTypes renaming nextOf->cD,ownedTupleIsFree->eP,ownedTupleHandOut->n6
open Ne renaming symm->de
open Option renaming map_some->dn,getD_none->gN,getD_some->kn,bind_some->oV,isSome_some->uw,isSome_map->vL
open Or renaming inr->dD,inl->fv
open PySem.SetTable.layClean renaming free->dM
open PySem.F renaming plainAttrs_list->dX,slot_dict_keyiterator_next->fK,slot_tuple_iterator_next->iW,args_tuple_add_2->nY,entry_tuple_add->oA,slot_tuple_add->oX,args_dict_keyiterator_next_1->sM,slot_zip_next->sY,entry_dict_keyiterator_next->s_,slot_list_append->Av,type_list_append->Aw,slot_list_extend->Az,type_list_extend->AA,slot_list_count->Bg,slot_list_index->Bh,args_tuple_iterator_next_1->Cj,slot_dict_iter->Ck,entry_tuple_iterator_next->DS,slot_enumerate_next->LS
open PySem.Obj renaming mapFields->el,mapSeq->kZ,putSet->qN,data_mapFields->M8
open False renaming elim->eN
open List.Sublist renaming refl->eQ
open PySem.Around renaming under_plainId->eY
open PySem.Heap.FunFrames renaming mem->fh
open Int renaming toNat_of_nonneg->fG,toNat_natCast->jX,emod_lt_of_pos->n_,eq_ofNat_of_zero_le->qx,emod_nonneg->rO,reduceLT->GQ
open ForInStep renaming yield->fR
open PySem.AutoSeq1 renaming wpAny_loadPart'->fZ
open PySem.Str renaming ofString->gF
open PySem.Builtin.Slice renaming slicePlaces->i6,sliceAdjust->kX,sliceApplied->uF
open PyProof.Rows.F renaming plain_set_update_loop->i7,entry_set_update_loop->oT
open PySem.Builtin.Tuple renaming tupleExact->il,tupleItemsOf->uG
open True renaming intro->iN
open PySem.Paired renaming length->j0
open PySem.Builtin.Frozenset renaming updateFrom->jr,isAnySet->sL,sizeOf->tJ,copyOf->tL,newClass->PB,oneOther->PQ,addrOf->PR,slot1->PU,baseOf->PV,merge->PX,unchanged->PY
open Sum renaming inr->l9,inl->xq
open PySem.Builtin.List renaming listTooLong->lM,listExtendWith->uK,listSameRef->wU
open PySem.Builtin.Dict_items renaming ownsTuple->lN
open Classical renaming byContradiction->lX,propDecidable->An
open PySem.Calls renaming Name_function_global->mT,call_function_entry->Bf,loadGlobal_global->DP,callWith_builtin->DX,evalArgs_plain->Gz
open And renaming intro->uz
open PySem.Walks renaming list->uI
open PySem.PassesOwn renaming never->v_
open PyProof.Rows.IsTup renaming new->xt
open PySem.Builtin.Dict renaming updateFrom->xB
open PySem.pickOrder renaming go->As
open PySem.SetTable.below renaming go->Au
open PySem.SeqAt.EqAt renaming bool_bool->Bc,int_str->DM,str_int->DN
open List.Pairwise renaming nil->Bd
open PySem.Heap.DictOf renaming new->Ge
open PySem.Shared renaming heap->Gi,TypeIs->PD
open PySem.Value.type renaming inj->IH
open PySem.SeqAt renaming EqAt->Kf
open PySem.Code renaming quiet_builtin->LR
open PySem.Builtin.ObjectAttr renaming attrName->Po,find->Pp
section
namespace L2
open PySem PySem.Spec PyProof.Rows
abbrev cR:=Sum Int Str
def yx:cR->a9->Bool
 | .inl k,v=>Value.isInt k v
 | .inr x,v=>uu x v
def Xd (w:bd):cR->Int
 | .inl k=>hashInt k
 | .inr x=>hashStr w x
theorem fA:∀ {k:cR}{v:a9},yx k v=true->(∃ i t,k=xq i/\v=mP i t)\/(∃ x t,k=l9 x/\v=jv x t)
 | .inl i,v,h=>by
  obtain ⟨t,e⟩:=Value.isInt_shape (k:=i) (v:=v) h
  exact .inl ⟨i,t,rfl,e⟩
 | .inr x,v,h=>by
  obtain ⟨t,e⟩:=Value.isStrOf_shape (x:=x) (v:=v) h
  exact .inr ⟨x,t,rfl,e⟩
theorem Ko (i:Int) (t:Tok):yx (.inl i) (.int i t)=true:=by simp [yx,Value.isInt]
theorem Kp (x:Str) (t:Tok):yx (.inr x) (.str x t)=true:=by simp [yx,uu]
theorem T9 (a b:Int):decide ((xq a:cR)=xq b)=(a == b):=by
 by_cases e:a=b
 ·subst e;simp
 ·have h:¬ (xq a:cR)=xq b:=fun q=>e (Sum.inl.inj q)
  rw [decide_eq_false h]
  exact (beq_eq_false_iff_ne.mpr e).symm
theorem Ta (a b:Str):decide ((l9 a:cR)=l9 b)=decide (a=b):=by
 by_cases e:a=b
 ·subst e;simp
 ·have h:¬ (l9 a:cR)=l9 b:=fun q=>e (Sum.inr.inj q)
  rw [decide_eq_false h,decide_eq_false e]
theorem Tb (a:Int) (b:Str):decide ((xq a:cR)=l9 b)=false:=decide_eq_false (fun q=>nomatch q)
theorem Tc (a:Str) (b:Int):decide ((l9 a:cR)=xq b)=false:=decide_eq_false (fun q=>nomatch q)
def dv (prog:aO) (w:bd):PySem.KeyKind prog w cR where
 is:=yx
 hash:=Xd w
 inj:=fun v a b ha hb=>by
  rcases fA ha with ⟨i,t,rfl,rfl⟩ | ⟨x,t,rfl,rfl⟩
  ·rcases fA hb with ⟨j,u,rfl,e⟩ | ⟨y,u,rfl,e⟩
   ·injection e with e1 _;rw [e1]
   ·exact nomatch e
  ·rcases fA hb with ⟨j,u,rfl,e⟩ | ⟨y,u,rfl,e⟩
   ·exact nomatch e
   ·injection e with e1 _;rw [e1]
 byValue:=fun k v h=>by
  rcases fA h with ⟨i,t,rfl,rfl⟩ | ⟨x,t,rfl,rfl⟩<;>rfl
 pyHash:=fun hv h=>by
  rcases fA hv with ⟨i,t,rfl,rfl⟩ | ⟨x,t,rfl,rfl⟩
  ·exact wpAny_pyHash_int h
  ·exact wpAny_pyHash_str h
 eqBool:=fun hu hv h=>by
  rcases fA hu with ⟨i,t,rfl,rfl⟩ | ⟨x,t,rfl,rfl⟩
  ·rcases fA hv with ⟨j,u,rfl,rfl⟩ | ⟨y,u,rfl,rfl⟩
   ·rw [T9] at h;exact wpAny_eqBool_int h
   ·rw [Tb] at h;exact DM i t y u _ _ _ _ h
  ·rcases fA hv with ⟨j,u,rfl,rfl⟩ | ⟨y,u,rfl,rfl⟩
   ·rw [Tc] at h;exact DN x t j u _ _ _ _ h
   ·rw [Ta] at h;exact wpAny_eqBool_str h
 «strs»:=fun k x t v h=>by
  rcases fA h with ⟨i,u,rfl,e⟩ | ⟨y,u,rfl,e⟩
  ·exact nomatch e
  ·injection e with e1 _
   subst e1
   cases v<;>rfl
theorem E4 (prog:aO) (w:bd) (i:Int) (t:Tok):(dv prog w).is (.inl i) (.int i t)=true:=Ko i t
theorem E5 (prog:aO) (w:bd) (x:Str) (t:Tok):(dv prog w).is (.inr x) (.str x t)=true:=Kp x t
end L2
namespace L2
open PySem PySem.Spec PyProof.Rows
inductive V where
 | non | bl (b:Bool) | int (i:Int) | str (x:Str) | byt (b:Array UInt8) | flt (b:UInt64) | ref (a:ah) | ty (n:String)
 deriving DecidableEq
def dw:V->a9->Prop
 | .non,u=>u=dW
 | .bl b,u=>u=iB b
 | .int i,u=>∃ t,u=mP i t
 | .str x,u=>∃ t,u=jv x t
 | .byt b,u=>∃ t,u=Value.bytes b t
 | .flt b,u=>∃ t,u=Value.float b t
 | .ref a,u=>u=bL a
 | .ty n,u=>u=iC n
abbrev da:List V->List a9->Prop:=Go dw
theorem da.length {xs:List V}{us:List a9} (r:da xs us):xs.length=us.length:=j0 r
theorem da.get {xs:List V}{us:List a9} (h:da xs us):∀ {i:Nat}{x:V},xs[i]?=some x->∃ u,us[i]?=some u/\dw x u:=by
 induction h with
 | nil=>intro i x e;cases e
 | cons r t ih =>
  intro i x e
  cases i with
  | zero=>cases e;exact ⟨_,rfl,r⟩
  | succ i=>have q:=ih (i:=i) e;exact q
theorem da.append {xs ys:List V}{us ws:List a9} (h:da xs us) (s:da ys ws):da (xs++ys) (us++ws):=by
 induction h with
 | nil=>exact s
 | cons r t ih=>exact .cons r ih
theorem da.take:∀ {xs:List V}{us:List a9} (n:Nat),da xs us->da (xs.take n) (us.take n)
 | _,_,0,_=>.nil
 | _,_,_ + 1,.nil=>.nil
 | _,_,n + 1,.cons r t=>.cons r (da.take n t)
theorem da.drop:∀ {xs:List V}{us:List a9} (n:Nat),da xs us->da (xs.drop n) (us.drop n)
 | _,_,0,r=>r
 | _,_,_ + 1,.nil=>.nil
 | _,_,n + 1,.cons _ t=>da.drop n t
def yy:Option V->Option a9->Prop
 | some v,some u=>dw v u
 | none,none=>True
 | _,_=>False
def KV {κ:Type}:List (κ×V)->List (κ×a9)->Prop:=Go fun (p:κ×V) (q:κ×a9)=>p.1=q.1/\dw p.2 q.2
def kV:cR->V
 | .inl i=>.int i
 | .inr x=>.str x
inductive HO where
 | lst (xs:List V)
 | tup (xs:List V)
 | dK (kvs:List (cR×V)) | dT (kvs:List (List cR×V))
 | set (S:Int->Bool) (n:Nat)
 | ins (C dx:ah) (fs:List (Str×V))
 | own (x:ah)
 | xd (fs:List (Str×V))
 | met (f x:ah)
 | rng (lo hi:Int)
 | frz (o:Obj) (u:HO)
 | tbl (ps:Array a9)
 | ext (φ:bt->Prop)
abbrev Hp:=ah->Option HO
def upd (H:Hp) (a:ah) (o:HO):Hp:=fun b=>if b=a then some o else H b
theorem aW {H:Hp}{a:ah}{o:HO}:upd H a o a=some o:=by unfold upd;rw [if_pos rfl]
theorem aS {H:Hp}{a b:ah}{o:HO} (h:b≠a):upd H a o b=H b:=by unfold upd;rw [if_neg h]
theorem Me {H:Hp}{a b:ah}{o u:HO} (h:H a=some o) (h':H b=some u) (d:o≠u):a≠b:=by
 intro e;subst e;rw [h] at h';exact d (bJ h')
theorem bj {H:Hp}{a b:ah}{o:HO} (h:H a=some o) (h':H b=none):a≠b:=by
 intro e;subst e;rw [h] at h';cases h'
section
variable (P:aO) (w:bd)
def db (H:Hp) (h:bt) (a:ah):HO->Prop
 | .lst xs=>xs.length<=sizeLine/\∃ (its:List a9) (n:Nat),da xs its/\h.get? a=some { cls:=.type "list",data:=.seq its.toArray n }
 | .tup xs=>xs.length<=sizeLine/\∃ its:List a9,da xs its/\Gp h a its.toArray
 | .dK kvs=>kvs.length<=sizeLine/\(a == gd)=false/\∃ vs,KV kvs vs/\h.DictOf (dv P w) a vs
 | .dT kvs=>kvs.length<=sizeLine/\(a == gd)=false/\∃ xs:List (List cR×ah×a9),
   Go (fun (p:List cR×V) (q:List cR×ah×a9)=>p.1=q.1/\H q.2.1=some (.tup (p.1.map kV))/\dw p.2 q.2.2) kvs xs /\
   ∃ o es ep,h.get? a=some o/\o.ExactDict/\o.data=.dict es ep/\es.toList=xs.map (entryOfKey (sI (dv P w)))/\(xs.map (·.1)).Nodup
 | .set S n=>h.SetOf (intKind P w) a S n
 | .ins C dx fs=>H dx=some (.own a)/\fs.length<=1000/\dx≠a/\h.get? a=some (xr C dx) /\
   ∃ mA,h.Ns1 dx mA/\(∀ f,yy (fs.lookup f) (mA f))/\PySem.Within mA (fs.map (·.1))
 | .own _=>∃ o,h.get? a=some o
 | .xd fs=>∃ mA,h.Ns1 a mA/\∀ f,yy (fs.lookup f) (mA f)
 | .rng lo hi=>∃ t u v,h.get? a=some { cls:=.type "range",data:=.fields #[.int lo t,.int hi u,.int 1 v] }
 | .frz o u=>h.get? a=some o/\db H h a u
 | .tbl ps=>h.get? a=some { cls:=.none,data:=.fields ps }
 | .met f x=>h.get? a=some (uC (.ref f) (.ref x))
 | .ext φ=>φ h/\(∃ o,h.get? a=some o)/\∀ h1 h2:bt,φ h1->(∀ o,h1.get? a=some o->h2.get? a=some o)->φ h2
def qo (H:Hp) (h:bt):Prop:=∀ a o,H a=some o->db P w H h a o
end
section
variable {P:aO}{w:bd}{H H':Hp}{h h':bt}{a:ah}{o:HO}
theorem db.lt (x:db P w H h a o):a<h.objs.size:=by
 cases o with
 | lst xs=>obtain ⟨_,_,_,_,e⟩:=x;exact ap e
 | tup xs=>obtain ⟨_,_,_,p⟩:=x;exact p.lt
 | dK kvs=>obtain ⟨_,_,_,_,o,_,_,e,_⟩:=x;exact ap e
 | dT kvs=>obtain ⟨_,_,_,_,o,_,_,e,_⟩:=x;exact ap e
 | set S n=>obtain ⟨o,_,_,_,e,_⟩:=x;exact ap e
 | ins C dx fs=>obtain ⟨_,_,_,e,_⟩:=x;exact ap e
 | own y=>obtain ⟨_,e⟩:=x;exact ap e
 | xd fs=>obtain ⟨_,⟨_,_,_,e,_⟩,_⟩:=x;exact ap e
 | rng lo hi=>obtain ⟨_,_,_,e⟩:=x;exact ap e
 | frz ob u=>obtain ⟨e,_⟩:=x;exact ap e
 | tbl ps=>exact ap (show h.get? a=some _ from x)
 | met f y=>exact ap (show h.get? a=some _ from x)
 | ext φ=>obtain ⟨_,⟨_,e⟩,_⟩:=x;exact ap e
theorem Paired.mapP {α β:Type}{F G:α->β->Prop}{l₁:List α}{l₂:List β} (h:Go F l₁ l₂) (f:∀ a b,F a b->G a b):Go G l₁ l₂:=by
 induction h with
 | nil=>exact .nil
 | cons r t ih=>exact .cons (f _ _ r) ih
theorem db.stay (x:db P w H h a o) (k:∀ b u,(b=a\/H b=some (.own a))->h.get? b=some u->h'.get? b=some u)
  (ho:∀ b,H b=some (.own a)->H' b=some (.own a)) (ht:∀ b xs,H b=some (.tup xs)->H' b=some (.tup xs)):db P w H' h' a o:=by
 induction o with
 | lst xs=>obtain ⟨z,its,n,r,e⟩:=x;exact ⟨z,its,n,r,k _ _ (.inl rfl) e⟩
 | tup xs=>obtain ⟨z,its,r,ob,e,c⟩:=x;exact ⟨z,its,r,ob,k _ _ (.inl rfl) e,c⟩
 | dK kvs=>obtain ⟨z,y,vs,r,ob,es,ep,e,c⟩:=x;exact ⟨z,y,vs,r,ob,es,ep,k _ _ (.inl rfl) e,c⟩
 | dT kvs =>
  obtain ⟨z,y,xs,r,ob,es,ep,e,c⟩:=x
  exact ⟨z,y,xs,Paired.mapP r fun p q z=>⟨z.1,ht _ _ z.2.1,z.2.2⟩,ob,es,ep,k _ _ (.inl rfl) e,c⟩
 | set S n=>obtain ⟨ob,es,ep,t,e,c⟩:=x;exact ⟨ob,es,ep,t,k _ _ (.inl rfl) e,c⟩
 | ins C dx fs =>
  obtain ⟨d,z,ne,e,mA,⟨od,es,ep,e2,c⟩,r⟩:=x
  exact ⟨ho _ d,z,ne,k _ _ (.inl rfl) e,mA,⟨od,es,ep,k _ _ (.inr d) e2,c⟩,r⟩
 | own y=>obtain ⟨ob,e⟩:=x;exact ⟨ob,k _ _ (.inl rfl) e⟩
 | xd fs=>obtain ⟨mA,⟨od,es,ep,e,c⟩,r⟩:=x;exact ⟨mA,⟨od,es,ep,k _ _ (.inl rfl) e,c⟩,r⟩
 | rng lo hi=>obtain ⟨t,u,v,e⟩:=x;exact ⟨t,u,v,k _ _ (.inl rfl) e⟩
 | frz ob u ih=>obtain ⟨e,q⟩:=x;exact ⟨k _ _ (.inl rfl) e,ih q⟩
 | tbl ps =>
  have e:h.get? a=some { cls:=.none,data:=.fields ps }:=x
  show h'.get? a=some { cls:=.none,data:=.fields ps }
  exact k a _ (.inl rfl) e
 | met f y =>
  have e:h.get? a=some (uC (.ref f) (.ref y)):=x
  show h'.get? a=some (uC (.ref f) (.ref y))
  exact k a _ (.inl rfl) e
 | ext φ=>obtain ⟨p,⟨o,e⟩,st⟩:=x;exact ⟨st _ _ p fun o q=>k _ _ (.inl rfl) q,⟨o,k _ _ (.inl rfl) e⟩,st⟩
theorem qo.lt (x:qo P w H h) (e:H a=some o):a<h.objs.size:=(x a o e).lt
theorem qo.fresh (x:qo P w H h) (e:h.objs.size<=a):H a=none:=by
 cases q:H a with
 | none=>rfl
 | some u=>exact absurd (aH (x.lt q) e) (c6 _)
theorem qo.kept (x:qo P w H h) (k:∀ b u,h.get? b=some u->h'.get? b=some u):qo P w H h':=fun a o e =>
 (x a o e).stay (fun b u _ q=>k b u q) (fun _ q=>q) fun _ _ q=>q
theorem qo.laid (x:qo P w H h) (k:∀ b u,h.get? b=some u->h'.get? b=some u) (hp:h.objs.size<=a) (new:db P w (upd H a o) h' a o):qo P w (upd H a o) h':=fun b u e=>by
 have hn:=x.fresh hp
 by_cases hb:b=a
 ·subst hb;rw [aW] at e;cases e;exact new
 ·rw [aS hb] at e
  exact (x b u e).stay (fun c v _ q=>k c v q) (fun c q=>by rw [aS (bj q hn)];exact q) fun c xs q=>by rw [aS (bj q hn)];exact q
end
def Rd (H:Hp) (a:ah) (u:HO):Prop:=H a=some u\/∃ o,H a=some (.frz o u)
theorem Rd.ok {P:aO}{w:bd}{H:Hp}{h:bt}{a:ah}{u:HO} (r:Rd H a u) (x:qo P w H h):db P w H h a u:=by
 rcases r with r | ⟨o,r⟩
 ·exact x a u r
 ·obtain ⟨_,q⟩:=x a _ r
  exact q
def V4:Option HO->Prop
 | some (.lst _)=>True
 | some (.dK _)=>True
 | some (.dT _)=>True
 | some (.set _ _)=>True
 | some (.ins _ _ _)=>True
 | some (.ext _)=>True
 | _=>False
section
variable {P:aO}{w:bd}{H:Hp}{h h':bt}{x e:ah}{o':HO}
theorem qo.write (ok:qo P w H h) (mu:V4 (H x)) (he:e=x\/H e=some (.own x)) (k:∀ b u,b≠e->h.get? b=some u->h'.get? b=some u) (heo:∃ u,h'.get? e=some u)
  (new:db P w (upd H x o') h' x o'):qo P w (upd H x o') h':=fun b u q=>by
 have nown:∀ c y,H c=some (.own y)->c≠x:=fun c y r z=>by subst z;rw [r] at mu;exact mu
 have ntup:∀ c xs,H c=some (.tup xs)->c≠x:=fun c xs r z=>by subst z;rw [r] at mu;exact mu
 by_cases hb:b=x
 ·subst hb;rw [aW] at q;cases q;exact new
 ·rw [aS hb] at q
  by_cases hbe:b=e
  ·have q':H b=some (.own x):=by
    rcases he with z | z
    ·exact absurd (hbe.trans z) hb
    ·rw [hbe];exact z
   rw [q] at q';cases q'
   obtain ⟨v,hv⟩:=heo
   exact ⟨v,by rw [hbe];exact hv⟩
  ·refine (ok b u q).stay (fun c v hc r=>k c v ?_ r) (fun c r=>by rw [aS (nown c b r)];exact r) fun c xs r=>by rw [aS (ntup c xs r)];exact r
   rcases hc with rfl | hc
   ·exact hbe
   ·rintro rfl
    rcases he with z | z
    ·exact nown c b hc z
    ·rw [hc] at z;cases z;exact hb rfl
end
structure Un (fs ex:List ah) (H H':Hp) (h h':bt):Prop where
 keep:∀ b o,h.get? b=some o->H b=none->b∉fs->b∉ex->h'.get? b=some o
 slot:∀ b o,h.get? b=some o->H b=none->b∈fs->b∉ex->∃ sl,h'.get? b=some { o with slots:=sl }
 free:∀ b o,h.get? b=some o->H b=none->b∉ex->H' b=none
 there:∀ b o,h.get? b=some o->b∉ex->∃ o',h'.get? b=some o'
 tups:∀ b xs,H b=some (.tup xs)->H' b=some (.tup xs)
 frzs:∀ b o u,H b=some (.frz o u)->H' b=some (.frz o u)
 tbls:∀ b ps,H b=some (.tbl ps)->∃ more,H' b=some (.tbl (ps++more))
section
variable {fs fs' ex ex':List ah}{H H1 H2:Hp}{h h1 h2 h':bt}{a x e:ah}{o:HO}
theorem Un.any (u:Un fs ex H H1 h h1) {b:ah}{ob:Obj} (q:h.get? b=some ob) (n:H b=none) (hx:b∉ex):∃ sl,h1.get? b=some { ob with slots:=sl }:=by
 by_cases hb:b∈fs
 ·exact u.slot b ob q n hb hx
 ·exact ⟨ob.slots,u.keep b ob q n hb hx⟩
theorem Un.kept (k:∀ b u,h.get? b=some u->h'.get? b=some u):Un fs ex H H h h' :=
 ⟨fun b ob q _ _ _=>k b ob q,fun b ob q _ _ _=>⟨ob.slots,k b ob q⟩,fun _ _ _ n _=>n,fun b ob q _=>⟨ob,k b ob q⟩,fun _ _ q=>q,fun _ _ _ q=>q,fun _ ps q=>⟨#[],by rw [q];simp⟩⟩
theorem Un.refl:Un fs ex H H h h:=Un.kept fun _ _ q=>q
theorem Un.laid (k:∀ b u,h.get? b=some u->h'.get? b=some u) (hp:h.objs.size<=a) (hn:H a=none):Un fs ex H (upd H a o) h h' where
 keep:=fun b u q _ _ _=>k b u q
 slot:=fun b u q _ _ _=>⟨u.slots,k b u q⟩
 free:=fun b u q n _=>by rw [aS (aC (aH (ap q) hp))];exact n
 there:=fun b u q _=>⟨u,k b u q⟩
 tups:=fun b xs q=>by rw [aS (bj q hn)];exact q
 frzs:=fun b u xs q=>by rw [aS (bj q hn)];exact q
 tbls:=fun b ps q=>⟨#[],by rw [aS (bj q hn),q];simp⟩
theorem Un.write (mu:V4 (H x)) (he:e=x\/H e=some (.own x)) (k:∀ b u,b≠e->h.get? b=some u->h'.get? b=some u) (heo:∃ u,h'.get? e=some u):Un fs ex H (upd H x o) h h':=by
 have hx:∀ b,H b=none->b≠x:=fun b n z=>by subst z;rw [n] at mu;exact mu
 have hb:∀ b,H b=none->b≠e:=fun b n z=>by
  subst z
  rcases he with r | r
  ·exact hx b n r
  ·rw [n] at r;cases r
 have hm:∀ b u,H b=some u->¬ V4 (some u)->b≠x:=fun b u q nm z=>by subst z;rw [q] at mu;exact nm mu
 refine ⟨fun b u q n _ _=>k b u (hb b n) q,fun b u q n _ _=>⟨u.slots,k b u (hb b n) q⟩,fun b u q n _=>by rw [aS (hx b n)];exact n,fun b u q _=>?_,
  fun b xs q=>by rw [aS (hm b _ q fun z=>z)];exact q,fun b u xs q=>by rw [aS (hm b _ q fun z=>z)];exact q,fun b ps q=>⟨#[],by rw [aS (hm b _ q fun z=>z),q];simp⟩⟩
 by_cases hbe:b=e
 ·subst hbe;exact heo
 ·exact ⟨u,k b u hbe q⟩
end
def WU (h:bt) (H:Hp):List ah:=(bv h.objs.size).filter fun a=>(H a).isSome
def Cm (h:bt) (H:Hp):bt:=LM h (WU h H)
theorem Kq (h:bt) (H:Hp):(Cm h H).objs.size=h.objs.size:=PySem.W.hideAll_size _ _
theorem Mf {h:bt}{H:Hp}{b:ah}{o:Obj} (e:h.get? b=some o) (n:H b=none):(Cm h H).get? b=some o :=
 Gc _ e fun hm=>by
  have q:(H b).isSome=true:=(List.mem_filter.mp hm).2
  rw [n] at q;simp at q
theorem Q1 {h:bt}{H:Hp}{b:ah}{o:Obj} (e:(Cm h H).get? b=some o):h.get? b=some o/\H b=none:=by
 have e':h.get? b=some o:=Gq (WU h H) e
 refine ⟨e',?_⟩
 cases q:H b with
 | none=>rfl
 | some x =>
  have hm:b∈WU h H:=List.mem_filter.mpr ⟨List.mem_range.mpr (ap e'),by simp [q]⟩
  have z:(Cm h H).get? b=none:=PySem.W.hideAll_none (WU h H) hm
  rw [z] at e;cases e
def Q2 (g h:bt) (L:ah):List (ah×Obj):=(bv h.objs.size).filterMap fun a=>if a=L\/(g.get? a).isSome=true then none else (h.get? a).map fun o=>(a,o)
def bX (g h:bt) (L d:ah):List (ah×Obj):=(Q2 g h L).filter fun p=>decide (p.1≠d)
end L2
namespace L2
open PySem PySem.Spec PyProof.Rows
structure Mod (K:a8) (mg:Str->Option a9) (base:bt):Prop where
 kin:K.In base
 glob:base.Ns bM mg
 blt:∃ mb,base.Ns builtinsNs mb/\∀ x:Str,x≠"__name__"->mb x=ij x
 nolimit:base.NoLimit
structure Cx where
 prog:aO
 w:bd
 K:a8
 mg:Str->Option a9
 base:bt
 A:bg
 N:List Str
 s₀:af
 H₀:Hp
 env:Env
 outer:List Env
 stack:List Env
 ex:List ah
 fn:Str->Bool
 calm:Bool
 pn:List (ah×Obj)
 xe:a9->af->Prop
def rP (l:List Env):List ah:=l.filterMap (·.frame)
abbrev Cx.fs (X:Cx):List ah:=rP X.outer
def Kr (sc:eT) (x:Str):Prop:=sc.names.lookup x=some .local\/sc.names.lookup x=some .cell\/sc.names.lookup x=some .free
def Q3 (sc:eT) (x:Str):Prop:=sc.names.lookup x=some .local\/sc.names.lookup x=some .cell
def Xe (env:Env) (h:bt) (m:Str->Option a9) (x:Str) (u:a9):Prop :=
 (env.kindOf x=some .local/\m x=some u)\/((env.kindOf x=some .cell\/env.kindOf x=some .free)/\∃ c,env.cells.lookup x=some c/\h.IsCell c (some u))
structure Cx.Ok (X:Cx):Prop where
 mod:Mod X.K X.mg X.base
 kind:X.env.scope.kind=.function
 glob:X.env.globals=bM
 blt:X.env.builtins=builtinsNs
 above:X.s₀.heap.objs.size<=X.env.locals
 inj:∀ x y c,X.env.cells.lookup x=some c->X.env.cells.lookup y=some c->x=y
 has:∀ x,(X.env.kindOf x=some .cell\/X.env.kindOf x=some .free)->∃ c,X.env.cells.lookup x=some c
 cab:∀ x c,X.fn x=true->X.env.cells.lookup x=some c->X.s₀.heap.objs.size<=c
 hd:X.calm=true->X.A.handled=none
 frames:X.A.frames=some X.stack
 stk:X.stack=X.outer\/(X.stack=X.env::X.outer/\X.env.frame=some X.env.locals)
 exf:∀ b∈X.ex,b≠X.env.locals/\∀ x c,X.env.cells.lookup x=some c->c≠b
 bs:∀ b o,X.base.get? b=some o->X.s₀.heap.get? b=some o/\X.H₀ b=none
 bsz:X.base.objs.size<=X.s₀.heap.objs.size
 noex:∀ b o,X.base.get? b=some o->b∉X.ex
 exfs:∀ b∈X.ex,b∉X.fs
 funs:X.s₀.heap.FunFrames X.base X.outer
 frf:∀ b∈X.fs,X.H₀ b=none
structure bG (X:Cx) (pins:List (ah×Obj)) (σ:List (Option V)) (H:Hp) (s:af):Prop where
 ok:X.Ok
 os:s.os=X.s₀.os
 bare:qC s.gens
 base:Un X.fs X.ex X.H₀ H X.s₀.heap s.heap
 loc:∃ m,s.heap.Ns X.env.locals m/\∀ (i:Nat) (x:Str) (v:V),X.N[i]?=some x->σ[i]?=some (some v)->Kr X.env.scope x->∃ u,dw v u/\Xe X.env s.heap m x u
 cell:∀ x c,X.env.cells.lookup x=some c->∃ v,s.heap.IsCell c v
 free:H X.env.locals=none
 freeC:∀ x c,X.env.cells.lookup x=some c->H c=none
 pin:∀ p∈X.pn++pins,s.heap.get? p.1=some p.2/\H p.1=none/\p.1≠X.env.locals/\p.1∉X.fs/\∀ v,p.2.data≠.cell v
 hok:qo X.prog X.w H s.heap
 len:σ.length=X.N.length
section
variable {X:Cx}{pins:List (ah×Obj)}{σ:List (Option V)}{H H':Hp}{s:af}{h':bt}
theorem Cx.Ok.nofr (ok:X.Ok) {b:ah}{o:Obj} (e:X.base.get? b=some o):b∉X.fs:=fun hb=>by
 have:=(ok.funs.mem hb).1
 rw [e] at this;cases this
theorem bG.bs (I:bG X pins σ H s):∀ b o,X.base.get? b=some o->s.heap.get? b=some o/\H b=none:=fun b o e =>
 ⟨I.base.keep b o (I.ok.bs b o e).1 (I.ok.bs b o e).2 (I.ok.nofr e) (I.ok.noex b o e),I.base.free b o (I.ok.bs b o e).1 (I.ok.bs b o e).2 (I.ok.noex b o e)⟩
theorem bG.bk (I:bG X pins σ H s):∀ b o,X.base.get? b=some o->s.heap.get? b=some o:=fun b o e=>(I.bs b o e).1
theorem bG.mod (I:bG X pins σ H s):Mod X.K X.mg X.base:=I.ok.mod
theorem bG.kIn (I:bG X pins σ H s):X.K.In s.heap:=I.ok.mod.kin.keeps I.bk
theorem bG.fr (I:bG X pins σ H s):∃ m,Fr X.base X.env.locals s.heap m :=
 let ⟨m,hn,_⟩:=I.loc
 ⟨m,hn,I.bk,bR I.ok.bsz I.ok.above⟩
theorem bG.lt (I:bG X pins σ H s):X.env.locals<s.heap.objs.size:=let ⟨_,hn,_⟩:=I.loc;hn.lt
theorem bG.sz (I:bG X pins σ H s):X.s₀.heap.objs.size<=s.heap.objs.size:=bR I.ok.above (bC I.lt)
theorem bG.nofs (I:bG X pins σ H s) {a:ah} (h:s.heap.objs.size<=a):a∉X.fs:=fun hb=>by
 obtain ⟨_,o,ho,_⟩:=I.ok.funs.mem hb
 exact absurd (aH (ap ho) (bR I.sz h)) (c6 _)
theorem bG.cne (I:bG X pins σ H s):∀ x c,X.env.cells.lookup x=some c->c≠X.env.locals:=fun x c e z=>by
 obtain ⟨v,o,ho,hd⟩:=I.cell x c e
 obtain ⟨m,⟨o',es,ep,ho',hd',_⟩,_⟩:=I.loc
 rw [z,ho'] at ho;cases ho;rw [hd'] at hd;cases hd
theorem bG.funs (I:bG X pins σ H s):s.heap.FunFrames X.base X.outer:=by
 have all:∀ (l:List Env),(∀ b∈rP l,b∈X.fs)->X.s₀.heap.FunFrames X.base l->s.heap.FunFrames X.base l:=by
  intro l
  induction l with
  | nil=>intro _ _;trivial
  | cons env r ih =>
   intro hs hl
   obtain ⟨hk,⟨L,o,hf,hn,ho,hd⟩,hr⟩:=hl
   have hL:L∈X.fs:=hs L (by unfold rP;rw [uv,hf];exact ao)
   obtain ⟨sl,e⟩:=I.base.slot L o ho (I.ok.frf L hL) hL fun z=>I.ok.exfs L z hL
   exact ⟨hk,⟨L,_,hf,hn,e,hd⟩,ih (fun b hb=>hs b (by unfold rP;rw [uv,hf];exact am _ hb)) hr⟩
 exact all X.outer (fun _ hb=>hb) I.ok.funs
theorem bG.stack (I:bG X pins σ H s):s.heap.FunFrames X.base X.stack:=by
 rcases I.ok.stk with e | ⟨e,hf⟩
 ·rw [e];exact I.funs
 ·rw [e]
  obtain ⟨m,hn,_⟩:=I.loc
  refine .cons (by rw [I.ok.kind];decide) hf hn ?_ I.funs
  exact Heap.get?_none_of_le (bR I.ok.bsz I.ok.above)
theorem bG.stkSub (I:bG X pins σ H s):∀ b∈rP X.stack,b∈X.env.locals::X.fs:=fun b hb=>by
 rcases I.ok.stk with e | ⟨e,hf⟩
 ·rw [e] at hb;exact am _ hb
 ·rw [e] at hb
  unfold rP at hb
  rw [uv,hf] at hb
  exact hb
theorem bG.stkFree (I:bG X pins σ H s):∀ b∈rP X.stack,H b=none:=fun b hb=>by
 rcases List.mem_cons.mp (I.stkSub b hb) with e | hb
 ·rw [e];exact I.free
 ·obtain ⟨_,o,ho,_⟩:=I.ok.funs.mem hb
  exact I.base.free b o ho (I.ok.frf b hb) fun z=>I.ok.exfs b z hb
theorem bG.step {g':Array GenState}{t':Nat}{d':Drawn}{ch:List ah} (I:bG X pins σ H s)
  (hch:∀ b∈ch,(b∈X.ex\/X.s₀.heap.objs.size<=b)/\b≠X.env.locals/\(∀ x c,X.env.cells.lookup x=some c->c≠b)/\∀ p∈X.pn++pins,p.1≠b)
  (keep:∀ b o,b≠X.env.locals->b∉X.fs->b∉ch->s.heap.get? b=some o->H b=none->h'.get? b=some o)
  (slot:∀ b o,b≠X.env.locals->b∈X.fs->b∉ch->s.heap.get? b=some o->H b=none->∃ sl,h'.get? b=some { o with slots:=sl }) (free:∀ b o,b∉ch->s.heap.get? b=some o->H b=none->H' b=none)
  (there:∀ b o,b∉ch->s.heap.get? b=some o->∃ o',h'.get? b=some o')
  (tups:∀ b xs,H b=some (.tup xs)->H' b=some (.tup xs)) (frzs:∀ b o u,H b=some (.frz o u)->H' b=some (.frz o u)) (tbls:∀ b ps,H b=some (.tbl ps)->∃ more,H' b=some (.tbl (ps++more)))
  (ns:∀ m,s.heap.Ns X.env.locals m->h'.Ns X.env.locals m) (hok:qo X.prog X.w H' h') (hg:qC g') :
  bG X pins σ H' { s with heap:=h',gens:=g',drawn:=d',toks:=t' }:=by
 have neL:∀ b o,X.s₀.heap.get? b=some o->b≠X.env.locals:=fun b o e=>aC (aH (ap e) I.ok.above)
 have neC:∀ b o,X.s₀.heap.get? b=some o->b∉X.ex->b∉ch:=fun b o e hx hb=>by
  rcases (hch b hb).1 with z | z
  ·exact hx z
  ·exact absurd (aH (ap e) z) (c6 _)
 have cellK:∀ x c,X.env.cells.lookup x=some c->∀ v,s.heap.IsCell c v->h'.IsCell c v:=fun x c e v h_0=>by
  obtain ⟨o,ho,hd⟩:=h_0
  have nch:c∉ch:=fun z=>(hch c z).2.2.1 x c e rfl
  by_cases hc:c∈X.fs
  ·obtain ⟨sl,q⟩:=slot c o (I.cne x c e) hc nch ho (I.freeC x c e)
   exact ⟨_,q,hd⟩
  ·exact ⟨o,keep c o (I.cne x c e) hc nch ho (I.freeC x c e),hd⟩
 refine ⟨I.ok,I.os,hg,⟨fun b o e n hb hx=>?_,fun b o e n hb hx=>?_,fun b o e n hx=>?_,fun b o e hx=>?_,fun b xs e=>tups b xs (I.base.tups b xs e),fun b o xs e=>frzs b o xs (I.base.frzs b o xs e),fun b ps e=>?_⟩,?_,fun x c e=>?_,?_,fun x c e=>?_,fun p hp=>?_,hok,I.len⟩
 ·exact keep b o (neL b o e) hb (neC b o e hx) (I.base.keep b o e n hb hx) (I.base.free b o e n hx)
 ·obtain ⟨sl,e1⟩:=I.base.slot b o e n hb hx
  obtain ⟨sl',e2⟩:=slot b _ (neL b o e) hb (neC b o e hx) e1 (I.base.free b o e n hx)
  exact ⟨sl',e2⟩
 ·obtain ⟨o',e1⟩:=I.base.there b o e hx
  exact free b o' (neC b o e hx) e1 (I.base.free b o e n hx)
 ·obtain ⟨o',e1⟩:=I.base.there b o e hx
  exact there b o' (neC b o e hx) e1
 ·obtain ⟨m1,e1⟩:=I.base.tbls b ps e
  obtain ⟨m2,e2⟩:=tbls b _ e1
  exact ⟨m1++m2,by rw [e2,Ka]⟩
 ·obtain ⟨m,hn,hl⟩:=I.loc
  refine ⟨m,ns m hn,fun i x v e1 e2 e3=>?_⟩
  obtain ⟨u,r,l⟩:=hl i x v e1 e2 e3
  refine ⟨u,r,?_⟩
  rcases l with l | ⟨k,c,e,z⟩
  ·exact .inl l
  ·exact .inr ⟨k,c,e,cellK x c e _ z⟩
 ·obtain ⟨v,z⟩:=I.cell x c e
  exact ⟨v,cellK x c e v z⟩
 ·obtain ⟨m,⟨o,_,_,ho,_⟩,_⟩:=I.loc
  exact free _ o (fun z=>(hch _ z).2.1 rfl) ho I.free
 ·obtain ⟨v,o,ho,hd⟩:=I.cell x c e
  exact free c o (fun z=>(hch c z).2.2.1 x c e rfl) ho (I.freeC x c e)
 ·obtain ⟨e,n,ne,nf,d⟩:=I.pin p hp
  have nch:p.1∉ch:=fun z=>(hch p.1 z).2.2.2 p hp rfl
  exact ⟨keep p.1 p.2 ne nf nch e n,free p.1 p.2 nch e n,ne,nf,d⟩
theorem bG.un {t':Nat} (I:bG X pins σ H s) (u:Un X.fs [] H H' s.heap h') (hok:qo X.prog X.w H' h'):bG X pins σ H' { s with heap:=h',toks:=t' }:=by
 obtain ⟨m,⟨o,es,ep,ho,r⟩,_⟩:=id I.loc
 obtain ⟨sl,hL⟩:=u.any ho I.free (by simp)
 exact I.step (g':=s.gens) (d':=s.drawn) (ch:=[]) (fun _ z=>nomatch z) (fun b o _ hb _ e n=>u.keep b o e n hb (by simp)) (fun b o _ hb _ e n=>u.slot b o e n hb (by simp)) (fun b o _ e n=>u.free b o e n (by simp)) (fun b o _ e=>u.there b o e (by simp)) u.tups u.frzs u.tbls (fun m' hm=>by
  obtain ⟨o',es',ep',ho',r'⟩:=hm
  rw [ho] at ho';cases ho'
  exact ⟨_,es',ep',hL,r'⟩) hok I.bare
theorem bG.call {g':Array GenState}{t':Nat}{d':Drawn}{ch:List ah} (I:bG X pins σ H s) (u:Un (rP X.stack) ch H H' s.heap h') (hok:qo X.prog X.w H' h') (hg:qC g')
  (hch:∀ b∈ch,(b∈X.ex\/X.s₀.heap.objs.size<=b)/\b≠X.env.locals/\(∀ x c,X.env.cells.lookup x=some c->c≠b)/\∀ p∈X.pn++pins,p.1≠b) :
  bG X pins σ H' { s with heap:=h',gens:=g',drawn:=d',toks:=t' }:=by
 obtain ⟨m,⟨o,es,ep,ho,r⟩,_⟩:=id I.loc
 obtain ⟨sl,hL⟩:=u.any ho I.free fun z=>(hch _ z).2.1 rfl
 exact I.step (ch:=ch) hch (fun b o hL hb hc e n=>u.keep b o e n (fun z=>(List.mem_cons.mp (I.stkSub b z)).elim hL hb) hc) (fun b o _ _ hc e n=>u.any e n hc) (fun b o hc e n=>u.free b o e n hc) (fun b o hc e=>u.there b o e hc) u.tups u.frzs u.tbls (fun m' hm=>by
  obtain ⟨o',es',ep',ho',r'⟩:=hm
  rw [ho] at ho';cases ho'
  exact ⟨_,es',ep',hL,r'⟩) hok hg
theorem bG.turned {t':Nat}{it:ah} (I:bG X pins σ H s) (k:∀ b o,b≠it->s.heap.get? b=some o->h'.get? b=some o) (hn:H it=none) (hL:it≠X.env.locals)
  (h1:it∈X.ex\/X.s₀.heap.objs.size<=it) (h2:∀ x c,X.env.cells.lookup x=some c->c≠it) (h3:∀ p∈X.pn++pins,p.1≠it):bG X pins σ H { s with heap:=h',toks:=t' }:=by
 have nit:∀ b u,H b=some u->b≠it:=fun b u e z=>by rw [z,hn] at e;cases e
 refine I.step (g':=s.gens) (d':=s.drawn) (ch:=[it]) (fun b hb=>?_) (fun b o _ _ hc e _=>k b o (fun z=>hc (by simp [z])) e) (fun b o _ _ hc e _=>⟨o.slots,k b o (fun z=>hc (by simp [z])) e⟩) (fun _ _ _ _ n=>n)
  (fun b o hc e=>⟨o,k b o (fun z=>hc (by simp [z])) e⟩) (fun _ _ e=>e) (fun _ _ _ e=>e) (fun b ps e=>⟨#[],by rw [e];simp⟩) (fun m hm=>?_) (fun b u e=>?_) I.bare
 ·have e:b=it:=by simpa using hb
  subst e
  exact ⟨h1,hL,h2,h3⟩
 ·obtain ⟨o,es,ep,ho,r⟩:=hm
  exact ⟨o,es,ep,k _ o (de hL) ho,r⟩
 ·refine (I.hok b u e).stay (fun c v hc q=>k c v ?_ q) (fun _ q=>q) fun _ _ q=>q
  rcases hc with z | z
  ·rw [z];exact nit b u e
  ·exact nit c _ z
theorem bG.tok (I:bG X pins σ H s) (t:Nat):bG X pins σ H { s with toks:=t }:=I.un (h':=s.heap) (t':=t) Un.refl I.hok
theorem bG.kept {t':Nat} (I:bG X pins σ H s) (k:∀ b u,s.heap.get? b=some u->h'.get? b=some u):bG X pins σ H { s with heap:=h',toks:=t' }:=I.un (Un.kept k) (I.hok.kept k)
theorem bG.laid {a:ah}{o:HO}{t':Nat} (I:bG X pins σ H s) (k:∀ b u,s.heap.get? b=some u->h'.get? b=some u) (hp:s.heap.objs.size<=a) (new:db X.prog X.w (upd H a o) h' a o) :
  bG X pins σ (upd H a o) { s with heap:=h',toks:=t' }:=I.un (Un.laid k hp (I.hok.fresh hp)) (I.hok.laid k hp new)
theorem bG.write {x e:ah}{o:HO}{t':Nat} (I:bG X pins σ H s) (mu:V4 (H x)) (he:e=x\/H e=some (.own x)) (k:∀ b u,b≠e->s.heap.get? b=some u->h'.get? b=some u) (heo:∃ u,h'.get? e=some u)
  (new:db X.prog X.w (upd H x o) h' x o):bG X pins σ (upd H x o) { s with heap:=h',toks:=t' }:=I.un (Un.write mu he k heo) (I.hok.write mu he k heo new)
theorem bG.weak {σ':List (Option V)} (I:bG X pins σ H s) (hl:σ'.length=σ.length) (w:∀ (i:Nat) v,σ'[i]?=some (some v)->σ[i]?=some (some v)):bG X pins σ' H s :=
 ⟨I.ok,I.os,I.bare,I.base,let ⟨m,hn,hl'⟩:=I.loc;⟨m,hn,fun i x v e1 e2 e3=>hl' i x v e1 (w i v e2) e3⟩,I.cell,I.free,I.freeC,I.pin,I.hok,hl.trans I.len⟩
theorem bG.pins_of {pins':List (ah×Obj)} (I:bG X pins σ H s) (h:∀ p∈pins',s.heap.get? p.1=some p.2/\H p.1=none/\p.1≠X.env.locals/\p.1∉X.fs/\∀ v,p.2.data≠.cell v):bG X pins' σ H s :=
 ⟨I.ok,I.os,I.bare,I.base,I.loc,I.cell,I.free,I.freeC,fun p hp=>(List.mem_append.mp hp).elim (fun z=>I.pin p (ba _ z)) (h p),I.hok,I.len⟩
theorem E6 {N:List Str} (hN:N.Nodup) {i j:Nat}{x:Str} (a:N[i]?=some x) (b:N[j]?=some x):i=j:=by
 obtain ⟨h1,e1⟩:=List.getElem?_eq_some_iff.mp a
 obtain ⟨h2,e2⟩:=List.getElem?_eq_some_iff.mp b
 exact (List.getElem_inj hN).mp (e1.trans e2.symm)
theorem Bj {M:DO}{A:bg}{E:a9->af->Prop}{i:Nat}{x:Str}{v:V}{u:a9}{Q:Unit->af->Prop} (I:bG X pins σ H s) (hN:X.N.Nodup) (hi:X.N[i]?=some x) (hx:Q3 X.env.scope x) (r:dw v u)
  (h:∀ s',bG X pins (σ.set i (some v)) H s'->(∃ a,bF a s.heap s'.heap/\(a=X.env.locals\/X.env.cells.lookup x=some a))->Q () s') (hf:X.fn x=true\/X.env.scope.names.lookup x=some .local:=by first | exact .inl rfl | exact .inr rfl | assumption):aq M A (storeName X.env x u) Q E s:=by
 obtain ⟨m,hn,hl⟩:=id I.loc
 have hcls:(X.env.scope.kind == .class || (X.env.scope.kind == .module && X.env.locals != X.env.globals))=false:=by rw [I.ok.kind];rfl
 have hiσ:i<σ.length:=by rw [I.len];exact (List.getElem?_eq_some_iff.mp hi).1
 have cne:=I.cne
 have tracked:∀ {a:ah}{h':bt},(∃ o,s.heap.get? a=some o/\H a=none)->bF a s.heap h'->qo X.prog X.w H h':=fun {a h'} ha hs b ob e=>by
  obtain ⟨_,_,hfree⟩:=ha
  refine (I.hok b ob e).stay (fun c w' hc q=>(hs.2 c ?_).trans q) (fun _ q=>q) fun _ _ q=>q
  rintro rfl
  rcases hc with rfl | hc
  ·rw [hfree] at e;cases e
  ·rw [hfree] at hc;cases hc
 rcases hx with hk | hk
 ·refine wpAny_storeName_local hk hn (fun h' hn' hs=>?_) hcls
  obtain ⟨oL,_,_,hoL,_⟩:=id hn
  refine h _ ⟨I.ok,I.os,I.bare,⟨fun b o e n hb hx=>?_,fun b o e n hb hx=>?_,I.base.free,fun b o e hx=>?_,I.base.tups,I.base.frzs,I.base.tbls⟩,⟨_,hn',fun j y v' e1 e2 e3=>?_⟩,fun y c e=>?_,I.free,I.freeC,fun p hp=>?_,tracked ⟨oL,hoL,I.free⟩ hs,by simpa using I.len⟩ ⟨_,hs,.inl rfl⟩
  ·exact (hs.2 b (aC (aH (ap e) I.ok.above))).trans (I.base.keep b o e n hb hx)
  ·obtain ⟨sl,e1⟩:=I.base.slot b o e n hb hx
   exact ⟨sl,(hs.2 b (aC (aH (ap e) I.ok.above))).trans e1⟩
  ·obtain ⟨o',e1⟩:=I.base.there b o e hx
   exact ⟨o',(hs.2 b (aC (aH (ap e) I.ok.above))).trans e1⟩
  ·by_cases hj:j=i
   ·subst hj
    rw [hi] at e1;cases e1
    rw [aM hiσ] at e2
    cases e2
    exact ⟨u,r,.inl ⟨hk,by simp⟩⟩
   ·rw [ak (de hj)] at e2
    obtain ⟨u',r',q⟩:=hl j y v' e1 e2 e3
    refine ⟨u',r',?_⟩
    rcases q with ⟨k,e⟩ | ⟨k,c,e,z⟩
    ·refine .inl ⟨k,?_⟩
     have:y≠x:=fun e=>hj (E6 hN e1 (e ▸ hi))
     simp [this,e]
    ·exact .inr ⟨k,c,e,z.sameBut hs (cne y c e)⟩
  ·obtain ⟨w',z⟩:=I.cell y c e
   exact ⟨w',z.sameBut hs (cne y c e)⟩
  ·obtain ⟨e,n,ne,nf,d⟩:=I.pin p hp
   exact ⟨(hs.2 p.1 ne).trans e,n,ne,nf,d⟩
 ·have hfn:X.fn x=true:=by
   rcases hf with z | z
   ·exact z
   ·rw [z] at hk;cases hk
  obtain ⟨c,hc⟩:=I.ok.has x (.inl hk)
  obtain ⟨w',z⟩:=I.cell x c hc
  refine wpAny_storeName_cell I.ok.kind hk hc z (fun h' hc' hs=>?_)
  obtain ⟨oc,hoc,hocd⟩:=id z
  refine h { s with heap:=h' } ⟨I.ok,I.os,I.bare,⟨fun b o e n hb hx=>?_,fun b o e n hb hx=>?_,I.base.free,fun b o e hx=>?_,I.base.tups,I.base.frzs,I.base.tbls⟩,⟨m,hn.sameBut hs (de (cne x c hc)),fun j y v' e1 e2 e3=>?_⟩,fun y c' e=>?_,I.free,I.freeC,fun p hp=>?_,tracked ⟨oc,hoc,I.freeC x c hc⟩ hs,by simpa using I.len⟩ ⟨c,hs,.inr hc⟩
  ·exact (hs.2 b (aC (aH (ap e) (I.ok.cab x c hfn hc)))).trans (I.base.keep b o e n hb hx)
  ·obtain ⟨sl,e1⟩:=I.base.slot b o e n hb hx
   exact ⟨sl,(hs.2 b (aC (aH (ap e) (I.ok.cab x c hfn hc)))).trans e1⟩
  ·obtain ⟨o',e1⟩:=I.base.there b o e hx
   exact ⟨o',(hs.2 b (aC (aH (ap e) (I.ok.cab x c hfn hc)))).trans e1⟩
  ·by_cases hj:j=i
   ·subst hj
    rw [hi] at e1;cases e1
    rw [aM hiσ] at e2
    cases e2
    exact ⟨u,r,.inr ⟨.inl hk,c,hc,hc'⟩⟩
   ·rw [ak (de hj)] at e2
    obtain ⟨u',r',q⟩:=hl j y v' e1 e2 e3
    refine ⟨u',r',?_⟩
    rcases q with q | ⟨k,c',e,z'⟩
    ·exact .inl q
    ·refine .inr ⟨k,c',e,z'.sameBut hs ?_⟩
     rintro rfl
     exact hj (E6 hN e1 (I.ok.inj _ _ _ e hc ▸ hi))
  ·by_cases hcc:c'=c
   ·subst hcc;exact ⟨_,hc'⟩
   ·obtain ⟨w2,z2⟩:=I.cell y c' e
    exact ⟨w2,z2.sameBut hs hcc⟩
  ·obtain ⟨e,n,ne,nf,d⟩:=I.pin p hp
   refine ⟨(hs.2 p.1 ?_).trans e,n,ne,nf,d⟩
   intro q
   rw [q,hoc] at e
   have q':oc=p.2:=bJ e
   exact d w' (by rw [<- q'];exact hocd)
theorem qQ {M:DO}{A:bg}{E:a9->af->Prop}{i:Nat}{x:Str}{v:V}{u:a9}{Q:Unit->af->Prop} (I:bG X pins σ H s) (hN:X.N.Nodup) (hi:X.N[i]?=some x) (hx:Q3 X.env.scope x) (r:dw v u)
  (h:∀ s',bG X pins (σ.set i (some v)) H s'->Q () s') (hf:X.fn x=true\/X.env.scope.names.lookup x=some .local:=by first | exact .inl rfl | exact .inr rfl | assumption):aq M A (storeName X.env x u) Q E s :=
 Bj I hN hi hx r (fun s' I' _=>h s' I') hf
theorem bG.call' {s':af}{ch:List ah} (I:bG X pins σ H s) (ho:s'.os=s.os) (u:Un (rP X.stack) ch H H' s.heap s'.heap) (hok:qo X.prog X.w H' s'.heap) (hg:qC s'.gens)
  (hch:∀ b∈ch,(b∈X.ex\/X.s₀.heap.objs.size<=b)/\b≠X.env.locals/\(∀ x c,X.env.cells.lookup x=some c->c≠b)/\∀ p∈X.pn++pins,p.1≠b):bG X pins σ H' s':=by
 obtain ⟨h',g',d',t',o'⟩:=s'
 have e:o'=s.os:=ho
 subst e
 exact I.call (g':=g') (t':=t') (d':=d') u hok hg hch
end
abbrev XK:=a9->Option ah->Hp->Prop
abbrev St:=List (Option V)
abbrev VK:=V->Hp->Prop
abbrev TE:=St->Hp->VK->Prop
abbrev TT:=St->Hp->(Bool->Hp->Prop)->Prop
abbrev TA:=St->Hp->(List V->Hp->Prop)->Prop
structure tM where
 nx:St->Hp->Prop
 rt:VK
 bk:St->Hp->Prop:=fun _ _=>False
 ct:St->Hp->Prop:=fun _ _=>False
abbrev TS:=tM->St->Hp->Prop
inductive EP (X:Cx) (pins:List (ah×Obj)) (σ:St) (Q:VK) (u:a9) (s':af):Prop
 | mk (v H':_) (h0:bG X pins σ H' s') (h1:dw v u) (h2:Q v H'):EP X pins σ Q u s'
inductive TP (X:Cx) (pins:List (ah×Obj)) (σ:St) (Q:Bool->Hp->Prop) (b:Bool) (s':af):Prop
 | mk (H':_) (h0:bG X pins σ H' s') (h1:Q b H'):TP X pins σ Q b s'
inductive AP (X:Cx) (pins:List (ah×Obj)) (σ:St) (Q:List V->Hp->Prop) (us:List a9) (s':af):Prop
 | mk (vs H':_) (h0:bG X pins σ H' s') (h1:da vs us) (h2:Q vs H'):AP X pins σ Q us s'
inductive SN (X:Cx) (pins:List (ah×Obj)) (k:St->Hp->Prop) (s':af):Prop
 | mk (σ':St) (H':Hp) (I:bG X pins σ' H' s') (q:k σ' H'):SN X pins k s'
inductive SV (X:Cx) (pins:List (ah×Obj)) (k:V->Hp->Prop) (u:a9) (s':af):Prop
 | mk (v:V) (σ':St) (H':Hp) (I:bG X pins σ' H' s') (r:dw v u) (q:k v H'):SV X pins k u s'
def SP (X:Cx) (pins:List (ah×Obj)) (D:tM) (f:Flow) (s':af):Prop :=
 match f with
 | .next=>SN X pins D.nx s'
 | .brk=>SN X pins D.bk s'
 | .cont=>SN X pins D.ct s'
 | .ret u=>SV X pins D.rt u s'
def PE (X:Cx) (e:a_) (t:TE):Prop :=
 ∀ (pins:List (ah×Obj)) (s:af) (σ:St) (H:Hp) (Q:VK),bG X pins σ H s->t σ H Q->aq (aL X.prog X.w) X.A (du e X.env) (EP X pins σ Q) X.xe s
def PT (X:Cx) (e:a_) (t:TT):Prop :=
 ∀ (pins:List (ah×Obj)) (s:af) (σ:St) (H:Hp) (Q:Bool->Hp->Prop),bG X pins σ H s->t σ H Q->aq (aL X.prog X.w) X.A (vP e X.env (du e X.env)) (TP X pins σ Q) X.xe s
def PW (X:Cx) (e:a_) (t:TT):Prop :=
 ∀ (whole:Sem a9) (pins:List (ah×Obj)) (s:af) (σ:St) (H:Hp) (Q:Bool->Hp->Prop),bG X pins σ H s->t σ H Q->aq (aL X.prog X.w) X.A (vP e X.env whole) (TP X pins σ Q) X.xe s
theorem PW.pt {X:Cx}{e:a_}{t:TT} (h:PW X e t):PT X e t:=h _
def PA (X:Cx) (es:List a_) (t:TA):Prop :=
 ∀ (pos:Pos) (pins:List (ah×Obj)) (s:af) (σ:St) (H:Hp) (Q:List V->Hp->Prop),bG X pins σ H s->t σ H Q->aq (aL X.prog X.w) X.A (spliced (fS pos (aA es X.env))) (AP X pins σ Q) X.xe s
def PS (X:Cx) (st:cp) (t:TS):Prop :=
 ∀ (pins:List (ah×Obj)) (s:af) (σ:St) (H:Hp) (D:tM),bG X pins σ H s->t D σ H->aq (aL X.prog X.w) X.A (exec st X.env) (SP X pins D) X.xe s
def AB (X:Cx) (st:List cp) (t:TS):Prop :=
 ∀ (pins:List (ah×Obj)) (s:af) (σ:St) (H:Hp) (D:tM),bG X pins σ H s->t D σ H->aq (aL X.prog X.w) X.A (execs st X.env) (SP X pins D) X.xe s
theorem fm {α:Type}{t:Sem α}{Q Q':α->af->Prop}{M:DO}{A:bg}{E:a9->af->Prop}{s:af} (h:aq M A t Q E s) (hQ:∀ a s,Q a s->Q' a s):aq M A t Q' E s:=bE h hQ fun _ _ x=>x
end L2
namespace L2
open PySem PySem.Spec PyProof.Rows
section
variable {X:Cx}
inductive RN (i:Nat) (σ:St) (H:Hp) (Q:VK):Prop
 | mk (v:_) (h0:σ[i]?=some (some v)) (h1:Q v H):RN i σ H Q
def Ks (i:Nat):TE:=RN i
def tC (v:V):TE:=fun _ H Q=>Q v H
theorem lY {i:Nat}{x:Str}{pos:Pos} (hN:X.N[i]?=some x) (hv:Kr X.env.scope x) (hd:(x == ("__debug__" : Str))=false:=by decide) (hcd:(x == ("__classdict__" : Str))=false:=by decide):PE X (.Name x pos) (Ks i):=by
 intro pins s σ H Q I h
 obtain ⟨v,e,h⟩:=h
 obtain ⟨m,hn,hl⟩:=I.loc
 obtain ⟨u,r,l⟩:=hl i x v hN e hv
 have fin:EP X pins σ Q u s:=⟨v,H,I,r,h⟩
 rcases l with ⟨hk,hm⟩ | ⟨hk,c,hc,hcell⟩
 ·exact wpAny_Name (wpAny_loadName_local I.ok.kind hk hn hm fin) hd
 ·rcases hk with hk | hk
  ·exact wpAny_Name (wpAny_loadName_cell I.ok.kind hk hc hcell fin) hd
  ·exact wpAny_Name (wpAny_loadName_free I.ok.kind hk hc hcell fin hcd) hd
theorem Mg {i j pos}:PE X (.Constant (.int i) j pos) (tC (.int i)):=fun _ _ _ H _ I h=>wpAny_Constant_int ⟨.int i,H,I.tok _,⟨_,rfl⟩,h⟩
theorem Mh {b j pos}:PE X (.Constant (.bool b) j pos) (tC (.bl b)):=fun _ _ _ H _ I h=>Constant_bool ⟨.bl b,H,I,rfl,h⟩
theorem Td {j pos}:PE X (.Constant .none j pos) (tC .non):=fun _ _ _ H _ I h=>Constant_none ⟨.non,H,I,rfl,h⟩
theorem Mi {x j pos}:PE X (.Constant (.str x) j pos) (tC (.str x)):=fun _ _ _ H _ I h=>Calls.Constant_str ⟨.str x,H,I.tok _,⟨_,rfl⟩,h⟩
def Gl (X:Cx) (x:Str):Prop:=X.env.kindOf x=some .globalImplicit
theorem xY {E:a9->af->Prop}{pins:List (ah×Obj)}{s:af}{σ:St}{H:Hp}{x:Str}{u:a9}{pos:Pos}{Q:a9->af->Prop} (I:bG X pins σ H s) (hg:Gl X x) (hm:X.mg x=some u) (h:Q u s)
  (hd:(x == ("__debug__" : Str))=false:=by decide):aq (aL X.prog X.w) X.A (du (.Name x pos) X.env) Q E s :=
 mT I.ok.kind hg (DP (by rw [I.ok.glob];exact I.mod.glob.keeps I.bk) hm h) hd
theorem tN {E:a9->af->Prop}{pins:List (ah×Obj)}{s:af}{σ:St}{H:Hp}{x:Str}{u:a9}{pos:Pos}{Q:a9->af->Prop} (I:bG X pins σ H s) (hg:Gl X x) (hm:X.mg x=none) (hv:ij x=some u) (h:Q u s)
  (hn:x≠"__name__":=by decide) (hd:(x == ("__debug__" : Str))=false:=by decide):aq (aL X.prog X.w) X.A (du (.Name x pos) X.env) Q E s:=by
 obtain ⟨mb,h1,h2⟩:=I.mod.blt
 exact mT I.ok.kind hg (Calls.loadGlobal_builtin (by rw [I.ok.glob];exact I.mod.glob.keeps I.bk) hm (by rw [I.ok.blt];exact h1.keeps I.bk) ((h2 x hn).trans hv) h) hd
theorem Co {x:Str}{v:V}{u:a9}{pos:Pos} (hg:Gl X x) (hm:X.mg x=some u) (r:dw v u) (hd:(x == ("__debug__" : Str))=false:=by decide):PE X (.Name x pos) (tC v) :=
 fun _ _ _ H _ I h=>xY I hg hm ⟨v,H,I,r,h⟩ hd
theorem IK {x:Str}{v:V}{u:a9}{pos:Pos} (hg:Gl X x) (hm:X.mg x=none) (hv:ij x=some u) (r:dw v u) (hn:x≠"__name__":=by decide) (hd:(x == ("__debug__" : Str))=false:=by decide):PE X (.Name x pos) (tC v) :=
 fun _ _ _ H _ I h=>tN I hg hm hv ⟨v,H,I,r,h⟩ hn hd
variable {a b:a_}{ta tb:TE}{pos:Pos}
def PC (X:Cx) (op:xQ) (a b:a_) (t:TE):Prop :=
 ∀ (pins:List (ah×Obj)) (s:af) (σ:St) (H:Hp) (Q:VK),bG X pins σ H s->t σ H Q ->
  aq (aL X.prog X.w) X.A (du a X.env) (fun v s₁=>aq (aL X.prog X.w) X.A (du b X.env) (fun u s₂=>aq (aL X.prog X.w) X.A (bH op v u) (EP X pins σ Q) X.xe s₂) X.xe s₁) X.xe s
theorem Mj (b:a_) {op:xQ} (h:op≠.In) (h2:op≠.NotIn):gY op b=false:=by
 have e1:(op == CmpOp.In)=false:=by cases op<;>first | rfl | exact absurd rfl h
 have e2:(op == CmpOp.NotIn)=false:=by cases op<;>first | rfl | exact absurd rfl h2
 cases b<;>simp [gY,e1,e2]
def tB (t:TE):TT:=fun σ H Q=>t σ H fun x H1=>∃ c,x=.bl c/\Q c H1
theorem Xg {op:xQ}{t:TE} (h:PC X op a b t) (h1:gY op b=false:=by first | exact Mj _ (by decide) (by decide) | rfl):PT X (.Compare a [op] [b] pos) (tB t):=by
 intro pins s σ H Q I hw
 refine Pj (fm (h pins s σ H _ I hw) fun v s1 h1=>fm h1 fun u s2 h2=>fm h2 fun c s3 ⟨x,H1,I1,r1,q1⟩=>?_) h1
 obtain ⟨d,rfl,q⟩:=q1
 cases r1
 exact dm ⟨H1,I1,q⟩
theorem Mk {e:a_}{t:TE} (h:PE X e t) (he:∀ whole,vP e X.env whole=(do let v <- whole;wR e.pos;Gd [v] (truthy v)):=by intro _;rfl):PT X e (tB t):=by
 intro pins s σ H Q I hw
 refine isTrue_plain (fm (h pins s σ H _ I hw) fun v s1 ⟨x,H1,I1,r1,q1⟩=>?_) (he _)
 obtain ⟨d,rfl,q⟩:=q1
 cases r1
 exact dm ⟨H1,I1,q⟩
variable {tA tB':TT}{bX:List a_}
def Xh (t u:TT):TT:=fun σ H Q=>t σ H fun c H1=>if c=true then u σ H1 Q else Q false H1
def YT (t u:TT):TT:=fun σ H Q=>t σ H fun c H1=>if c=true then Q true H1 else u σ H1 Q
def Xi (t:TT):TT:=fun σ H Q=>t σ H fun c H1=>Q (!c) H1
theorem Q4 (ha:PT X a tA):PW X (.BoolOp .And [a] pos) tA:=by
 intro wh pins s σ H Q I h
 refine isTrue_and (fm (ha pins s σ H Q I h) fun c s1 e=>?_)
 cases c with
 | true=>exact isTrue_and_nil e
 | false=>exact e
theorem Ml (ha:PT X a tA):PW X (.BoolOp .Or [a] pos) tA:=by
 intro wh pins s σ H Q I h
 refine isTrue_or (fm (ha pins s σ H Q I h) fun c s1 e=>?_)
 cases c with
 | false=>exact isTrue_or_nil e
 | true=>exact e
theorem Te (ha:PT X a tA) (hb:PW X (.BoolOp .And (b::bX) pos) tB'):PW X (.BoolOp .And (a::b::bX) pos) (Xh tA tB'):=by
 intro wh pins s σ H Q I h
 refine isTrue_and (fm (ha pins s σ H _ I h) fun c s1 ⟨H1,I1,q1⟩=>?_)
 cases c with
 | true=>exact hb wh pins s1 σ H1 Q I1 q1
 | false=>exact ⟨H1,I1,q1⟩
theorem RO (ha:PT X a tA) (hb:PW X (.BoolOp .Or (b::bX) pos) tB'):PW X (.BoolOp .Or (a::b::bX) pos) (YT tA tB'):=by
 intro wh pins s σ H Q I h
 refine isTrue_or (fm (ha pins s σ H _ I h) fun c s1 ⟨H1,I1,q1⟩=>?_)
 cases c with
 | true=>exact ⟨H1,I1,q1⟩
 | false=>exact hb wh pins s1 σ H1 Q I1 q1
theorem Mm (ha:PT X a tA):PT X (.UnaryOp .Not a pos) (Xi tA):=by
 intro pins s σ H Q I h
 exact isTrue_not (fm (ha pins s σ H (fun c H1=>Q (!c) H1) I h) fun _ _ x=>by obtain ⟨a,b,c⟩:=x;exact ⟨a,b,c⟩)
def V5 (ta tb:TE):TE:=fun σ H Q=>ta σ H fun x H1=>∃ c,x=.bl c/\if c=true then tb σ H1 Q else Q (.bl false) H1
def Xj (ta tb:TE):TE:=fun σ H Q=>ta σ H fun x H1=>∃ c,x=.bl c/\if c=true then Q (.bl true) H1 else tb σ H1 Q
def V6 (ta:TE):TE:=fun σ H Q=>ta σ H fun x H1=>∃ c,x=.bl c/\Q (.bl (!c)) H1
theorem Tf {op}{t:TE} (h:PE X a t):PE X (.BoolOp op [a] pos) t:=fun pins s σ H Q I hw=>BoolOp_one (h pins s σ H Q I hw)
theorem Tg (ha:PE X a ta) (hb:PE X (.BoolOp .And (b::bX) pos) tb):PE X (.BoolOp .And (a::b::bX) pos) (V5 ta tb):=by
 intro pins s σ H Q I h
 refine BoolOp_and (fm (ha pins s σ H _ I h) fun v s1 ⟨x,H1,I1,r1,q1⟩=>?_)
 obtain ⟨c,rfl,q1⟩:=q1
 cases r1
 refine dm ?_
 cases c with
 | true=>exact hb pins s1 σ H1 Q I1 q1
 | false=>exact ⟨.bl false,H1,I1,rfl,q1⟩
theorem V7 (ha:PE X a ta) (hb:PE X (.BoolOp .Or (b::bX) pos) tb):PE X (.BoolOp .Or (a::b::bX) pos) (Xj ta tb):=by
 intro pins s σ H Q I h
 refine BoolOp_or (fm (ha pins s σ H _ I h) fun v s1 ⟨x,H1,I1,r1,q1⟩=>?_)
 obtain ⟨c,rfl,q1⟩:=q1
 cases r1
 refine dm ?_
 cases c with
 | false=>exact hb pins s1 σ H1 Q I1 q1
 | true=>exact ⟨.bl true,H1,I1,rfl,q1⟩
theorem Th (ha:PE X a ta):PE X (.UnaryOp .Not a pos) (V6 ta):=by
 intro pins s σ H Q I h
 refine UnaryOp_ (fm (ha pins s σ H _ I h) fun v s1 ⟨x,H1,I1,r1,q1⟩=>?_)
 obtain ⟨c,rfl,q1⟩:=q1
 cases r1
 exact not_of (dm ⟨.bl (!c),H1,I1,rfl,q1⟩)
def YU (t:TT) (ta tb:TE):TE:=fun σ H Q=>t σ H fun c H1=>if c=true then ta σ H1 Q else tb σ H1 Q
theorem Mn {c:a_} (hc:PT X c tA) (ha:PE X a ta) (hb:PE X b tb):PE X (.IfExp c a b pos) (YU tA ta tb):=by
 intro pins s σ H Q I h
 refine wpAny_IfExp (fm (hc pins s σ H _ I h) fun d s1 ⟨H1,I1,q1⟩=>?_)
 cases d with
 | true=>exact ha pins s1 σ H1 Q I1 q1
 | false=>exact hb pins s1 σ H1 Q I1 q1
end
end L2
namespace L2
open PySem PySem.Spec PyProof.Rows
inductive Yo (K:a8) (a:ah) (xs:List V):Prop
 | mk (o:Obj) (its:Array a9) (n:Nat) (h0:K.lookup a=some o) (h1:o.cls=.type "list") (h2:o.dict=none) (h3:o.data=.seq its n) (h4:its.size<=sizeLine) (h5:da xs its.toList):Yo K a xs
def lZ (K:a8) (H:Hp) (a:ah) (xs:List V):Prop :=
 Rd H a (.lst xs)\/Yo K a xs
inductive Yp (K:a8) (a:ah) (xs:List V):Prop
 | mk (o:Obj) (its:Array a9) (n:Nat) (h0:K.lookup a=some o) (h1:o.cls=.type "tuple") (h3:o.data=.seq its n) (h4:its.size<=sizeLine) (h5:da xs its.toList):Yp K a xs
def kE (K:a8) (H:Hp) (a:ah) (xs:List V):Prop :=
 Rd H a (.tup xs)\/Yp K a xs
def Xk:a9->Option V
 | .none=>some .non
 | .bool b=>some (.bl b)
 | .int i _=>some (.int i)
 | .str x _=>some (.str x)
 | .bytes b _=>some (.byt b)
 | .float b _=>some (.flt b)
 | .ref a=>some (.ref a)
 | .type n=>some (.ty n)
 | _=>none
theorem dw.abs {x:V}{u:a9} (r:dw x u):Xk u=some x:=by
 cases x with
 | non=>cases r;rfl
 | bl _=>cases r;rfl
 | int _=>obtain ⟨t,rfl⟩:=r;rfl
 | str _=>obtain ⟨t,rfl⟩:=r;rfl
 | byt _=>obtain ⟨t,rfl⟩:=r;rfl
 | flt _=>obtain ⟨t,rfl⟩:=r;rfl
 | ref _=>cases r;rfl
 | ty _=>cases r;rfl
theorem dw.inj {x y:V}{u:a9} (r:dw x u) (q:dw y u):x=y:=bJ (r.abs.symm.trans q.abs)
theorem da.inj {xs:List V}{us:List a9} (h:da xs us):∀ {ys:List V},da ys us->xs=ys:=by
 induction h with
 | nil=>intro ys k;cases k;rfl
 | cons r t ih=>intro ys k;cases k with | cons r' t'=>rw [r.inj r',ih t']
section
variable {X:Cx}{pins:List (ah×Obj)}{σ:St}{H:Hp}{s:af}{a:ah}{xs ys:List V}
theorem lZ.of {K:a8} (h:H a=some (.lst xs)):lZ K H a xs:=.inl (.inl h)
theorem kE.of {K:a8} (h:H a=some (.tup xs)):kE K H a xs:=.inl (.inl h)
inductive Yq (h:bt) (a:ah) (xs:List V):Prop
 | mk (its:List a9) (r:da xs its) (p:PlainL h a its.toArray) (z:xs.length<=sizeLine):Yq h a xs
inductive Yr (h:bt) (a:ah) (xs:List V):Prop
 | mk (its:List a9) (r:da xs its) (p:Gp h a its.toArray) (z:xs.length<=sizeLine):Yr h a xs
inductive Ys (h:bt) (l:ah) (xs:List V):Prop
 | mk (z:xs.length<=sizeLine) (its:List a9) (n:Nat) (r:da xs its) (hl:xs.length=its.length) (e:h.get? l=some { cls:=.type "list",data:=.seq its.toArray n }):Ys h l xs
theorem bG.list (I:bG X pins σ H s) (h:lZ X.K H a xs):Yq s.heap a xs:=by
 rcases h with h | ⟨o,its,n,hk,hc,hd,hs,hz,r⟩
 ·obtain ⟨z,its,n,r,e⟩:=h.ok I.hok
  exact ⟨its,r,⟨_,n,e,rfl,rfl,rfl⟩,z⟩
 ·refine ⟨its.toList,r,⟨o,n,I.kIn a o hk,hc,hd,by simpa using hs⟩,?_⟩
  have e:=r.length
  simp only [av] at e
  omega
theorem bG.tuple (I:bG X pins σ H s) (h:kE X.K H a xs):Yr s.heap a xs:=by
 rcases h with h | ⟨o,its,n,hk,hc,hs,hz,r⟩
 ·obtain ⟨z,its,r,p⟩:=h.ok I.hok
  exact ⟨its,r,p,z⟩
 ·refine ⟨its.toList,r,⟨o,I.kIn a o hk,hc,n,by simpa using hs⟩,?_⟩
  have e:=r.length
  simp only [av] at e
  omega
theorem bG.list_inj (I:bG X pins σ H s) (h:lZ X.K H a xs) (h':lZ X.K H a ys):xs=ys:=by
 obtain ⟨its,r,⟨o,n,e,_,_,d⟩,_⟩:=I.list h
 obtain ⟨its',r',⟨o',n',e',_,_,d'⟩,_⟩:=I.list h'
 rw [e] at e';cases e'
 rw [d] at d'
 injection d' with d1 _
 have:its=its':=by simpa using congrArg Array.toList d1
 subst this
 exact r.inj r'
theorem bG.tuple_inj (I:bG X pins σ H s) (h:kE X.K H a xs) (h':kE X.K H a ys):xs=ys:=by
 obtain ⟨its,r,⟨o,e,_,n,d⟩,_⟩:=I.tuple h
 obtain ⟨its',r',⟨o',e',_,n',d'⟩,_⟩:=I.tuple h'
 rw [e] at e';cases e'
 rw [d] at d'
 injection d' with d1 _
 have:its=its':=by simpa using congrArg Array.toList d1
 subst this
 exact r.inj r'
end
abbrev Cx.wish (X:Cx) (E:a9->af->Prop):Cx:={ X with xe:=E }
abbrev Cx.nox (X:Cx):Cx:=X.wish fun _ _=>False
theorem Cx.Ok.wish {X:Cx} (ok:X.Ok) (E:a9->af->Prop):(X.wish E).Ok :=
 ⟨ok.mod,ok.kind,ok.glob,ok.blt,ok.above,ok.inj,ok.has,ok.cab,ok.hd,ok.frames,ok.stk,ok.exf,ok.bs,ok.bsz,ok.noex,ok.exfs,ok.funs,ok.frf⟩
theorem Cx.Ok.unwish {X:Cx}{E:a9->af->Prop} (ok:(X.wish E).Ok):X.Ok :=
 ⟨ok.mod,ok.kind,ok.glob,ok.blt,ok.above,ok.inj,ok.has,ok.cab,ok.hd,ok.frames,ok.stk,ok.exf,ok.bs,ok.bsz,ok.noex,ok.exfs,ok.funs,ok.frf⟩
section
variable {X:Cx}{pins:List (ah×Obj)}{σ:St}{H:Hp}{s:af}{E:a9->af->Prop}
theorem bG.wish (I:bG X pins σ H s) (E:a9->af->Prop):bG (X.wish E) pins σ H s:=⟨I.ok.wish E,I.os,I.bare,I.base,I.loc,I.cell,I.free,I.freeC,I.pin,I.hok,I.len⟩
theorem bG.unwish (I:bG (X.wish E) pins σ H s):bG X pins σ H s:=⟨I.ok.unwish,I.os,I.bare,I.base,I.loc,I.cell,I.free,I.freeC,I.pin,I.hok,I.len⟩
theorem SP.unwish {D:tM}{f:Flow}{s':af} (h:SP (X.wish E) pins D f s'):SP X pins D f s':=by
 cases f with
 | next=>obtain ⟨σ',H',I,q⟩:=h;exact ⟨σ',H',I.unwish,q⟩
 | brk=>obtain ⟨σ',H',I,q⟩:=h;exact ⟨σ',H',I.unwish,q⟩
 | cont=>obtain ⟨σ',H',I,q⟩:=h;exact ⟨σ',H',I.unwish,q⟩
 | ret u=>obtain ⟨v,σ',H',I,r,q⟩:=h;exact ⟨v,σ',H',I.unwish,r,q⟩
end
section
variable {X:Cx}{st:cp}{bX:List cp}{t u:TS}{e:a_}{te:TE}{pos:Pos}
def V8:TS:=fun D σ H=>D.nx σ H
def Xl (t u:TS):TS:=fun D σ H=>t { D with nx:=u D } σ H
theorem IL:AB X [] V8:=fun _ _ σ H _ I h=>nX ⟨σ,H,I,h⟩
theorem jz (h1:PS X st t) (h2:AB X bX u):AB X (st::bX) (Xl t u):=by
 intro pins s σ H D I h
 refine wpAny_execs_cons (fm (h1 pins s σ H { D with nx:=u D } I h) fun f s1 q=>?_)
 cases f with
 | next =>
  obtain ⟨σ',H',I',q⟩:=q
  exact h2 pins s1 σ' H' D I' q
 | ret v=>exact q
 | brk=>exact q
 | cont=>exact q
theorem uM (h1:PS X st t):AB X [st] t:=by
 intro pins s σ H D I h
 refine wpAny_execs_cons (fm (h1 pins s σ H D I h) fun f s1 q=>?_)
 cases f with
 | next=>exact nX q
 | ret v=>exact q
 | brk=>exact q
 | cont=>exact q
theorem bG.quiet {pins:List (ah×Obj)}{σ:St}{H:Hp}{s:af} (I:bG X pins σ H s):interactive X.env=false:=by simp [interactive,I.ok.kind]
def V9 (te:TE):TS:=fun D σ H=>te σ H fun _ H1=>D.nx σ H1
theorem uN (he:PE X e te) (hs:gL e none pos.line X.env=pure false:=by rfl):PS X (.Expr e pos) (V9 te):=by
 intro pins s σ H D I h
 exact wpAny_Expr_any (fm (he pins s σ H _ I h) fun v s1 h_7=>by obtain ⟨x,H1,I1,r1,q1⟩:=h_7;exact ⟨σ,H1,I1,q1⟩) I.quiet hs
def Va (te:TE):TS:=fun D σ H=>te σ H D.rt
theorem Cq (he:PE X e te):PS X (.Return (some e) pos) (Va te):=by
 intro pins s σ H D I h
 exact wpAny_Return_some (fm (he pins s σ H _ I h) fun v s1 h_8=>by obtain ⟨x,H1,I1,r1,q1⟩:=h_8;exact ⟨x,σ,H1,I1,r1,q1⟩)
def Xm (c:TT) (t u:TS):TS:=fun D σ H=>c σ H fun b H1=>if b=true then t D σ H1 else u D σ H1
theorem RP {c:a_}{a b:List cp}{tc:TT} (hc:PT X c tc) (ha:AB X a t) (hb:AB X b u):PS X (.If c a b pos) (Xm tc t u):=by
 intro pins s σ H D I h
 refine wpAny_If (fm (hc pins s σ H _ I h) fun d s1 ⟨H1,I1,q1⟩=>?_)
 cases d with
 | true=>exact ha pins s1 σ H1 D I1 q1
 | false=>exact hb pins s1 σ H1 D I1 q1
def Ti:TS:=fun _ _ _=>False
theorem oB {sts:List cp}:AB X sts Ti:=fun _ _ _ _ _ _ h=>h.elim
end
abbrev TG:=V->St->Hp->(St->Hp->Prop)->Prop
abbrev Mo:=List V->St->Hp->(St->Hp->Prop)->Prop
def PG (X:Cx) (target:a_) (t:TG):Prop :=
 ∀ (pins:List (ah×Obj)) (s:af) (σ:St) (H:Hp) (v:V) (u:a9) (Q:St->Hp->Prop),bG X pins σ H s->dw v u->t v σ H Q ->
  aq (aL X.prog X.w) X.A (qJ target X.env u) (fun _ s'=>SN X pins Q s') X.xe s
def RQ (X:Cx) (ts:List a_) (t:Mo):Prop :=
 ∀ (pins:List (ah×Obj)) (s:af) (σ:St) (H:Hp) (vs:List V) (us:List a9) (Q:St->Hp->Prop),bG X pins σ H s->da vs us->t vs σ H Q ->
  aq (aL X.prog X.w) X.A (Kb ((ik ts X.env).map (·.2)) us) (fun _ s'=>SN X pins Q s') X.xe s
section
variable {X:Cx}{pos:Pos}
def wW (i:Nat):TG:=fun v σ H Q=>Q (σ.set i (some v)) H
theorem cj {i:Nat}{x:Str} (hN:X.N.Nodup) (hi:X.N[i]?=some x) (hx:Q3 X.env.scope x) (hf:X.fn x=true\/X.env.scope.names.lookup x=some .local:=by first | exact .inl rfl | exact .inr rfl | assumption):PG X (.Name x pos) (wW i):=by
 intro pins s σ H v u Q I r h
 exact wpAny_assign_Name (qQ I hN hi hx r (fun s' I'=>⟨_,H,I',h⟩) hf)
def aF:Mo:=fun vs σ H Q=>vs=[]/\Q σ H
inductive Mp (t:TG) (u:Mo) (vs:List V) (σ:St) (H:Hp) (Q:St->Hp->Prop):Prop
 | mk (v r:_) (h0:vs=v::r) (h1:t v σ H fun σ' H'=>u r σ' H' Q):Mp t u vs σ H Q
def ac (t:TG) (u:Mo):Mo:=Mp t u
theorem Cr:RQ X [] aF:=by
 intro pins s σ H vs us Q I r h
 obtain ⟨e,h⟩:=h
 subst e
 cases r
 exact assignInOrder_nil ⟨σ,H,I,h⟩
theorem qR {e:a_}{es:List a_}{t:TG}{u:Mo} (h1:PG X e t) (h2:RQ X es u)
  (hs:(ik (e::es) X.env).map (·.2)=qJ e X.env::(ik es X.env).map (·.2):=by rfl):RQ X (e::es) (ac t u):=by
 intro pins s σ H vs us Q I r h
 obtain ⟨v,vr,e1,h⟩:=h
 subst e1
 cases r with
 | cons r rr =>
  rw [hs]
  refine yn (fm (h1 pins s σ H _ _ _ I r h) fun _ s1 ⟨σ1,H1,I1,q1⟩=>?_)
  exact h2 pins s1 σ1 H1 _ _ Q I1 rr q1
inductive RS (K:a8) (n:Nat) (t:Mo) (v:V) (σ:St) (H:Hp) (Q:St->Hp->Prop):Prop
 | mk (a xs:_) (h0:v=.ref a) (h1:kE K H a xs) (h2:xs.length=n) (h3:t xs σ H Q):RS K n t v σ H Q
def Tj (K:a8) (n:Nat) (t:Mo):TG:=RS K n t
theorem GR {es:List a_}{k:Nat}{t:Mo}{n:Nat} (hc:X.calm=true) (h:RQ X es t)
  (hn:(ik es X.env).length=n:=by rfl) (hst:(ik es X.env).findIdx? (·.1)=none:=by rfl):PG X (.Tuple es k pos) (Tj X.K n t):=by
 intro pins s σ H v u Q I r hw
 obtain ⟨a,xs,e1,hq,hl,hw⟩:=hw
 subst e1
 cases r
 obtain ⟨its,rv,ht,hz⟩:=I.tuple hq
 refine assign_Tuple_tuple (I.ok.hd hc) ht (by simp [hn,<- hl,rv.length]) hst fun h' hx=>?_
 have I1:bG X pins σ H { s with heap:=h' }:=I.kept (t':=s.toks) fun b o e=>hx b o (aC (ap e)) e
 exact h pins _ σ H xs _ Q I1 (by simpa using rv) hw
def Vb (te:TE) (g:TG):TS:=fun D σ H=>te σ H fun x H1=>g x σ H1 D.nx
theorem Mq {tg e:a_}{te:TE}{g:TG} (he:PE X e te) (hg:PG X tg g) (hs:xR [tg] e pos.line X.env=pure false:=by rfl) (hw:xS [tg] e X.env=pure none:=by rfl)
  (h1:(ik [tg] X.env).map (·.2)=[qJ tg X.env]:=by rfl):PS X (.Assign [tg] e pos) (Vb te g):=by
 intro pins s σ H D I h
 refine wpAny_Assign_stores (fm (he pins s σ H _ I h) fun v s1 ⟨x,H1,I1,r1,q1⟩=>?_) hs hw
 rw [h1]
 exact fm (hg pins s1 σ H1 x v _ I1 r1 q1) fun _ s2 q=>q
theorem yz {i:Nat}{x:Str}{e:a_}{te:TE}{pos':Pos} (hN:X.N.Nodup) (hi:X.N[i]?=some x) (hx:Q3 X.env.scope x) (he:PE X e te) (hs:gL e (some (.Name x pos')) pos.line X.env=pure false:=by rfl) (hf:X.fn x=true\/X.env.scope.names.lookup x=some .local:=by first | exact .inl rfl | exact .inr rfl | assumption) :
  PS X (.Assign [.Name x pos'] e pos) (Vb te (wW i)):=by
 intro pins s σ H D I h
 refine wpAny_Assign_Name (fm (he pins s σ H _ I h) fun v s1 ⟨y,H1,I1,r1,q1⟩=>?_) hs
 exact qQ I1 hN hi hx r1 (fun s2 I2=>⟨_,H1,I2,q1⟩) hf
def Xn (i j:Nat) (ta:TA):TS:=fun D σ H=>ta σ H fun vs H1=>∃ v w,vs=[v,w]/\D.nx ((σ.set i (some v)).set j (some w)) H1
theorem Tk {i j:Nat}{x y:Str}{a b:a_}{ta:TA}{px py pt:Pos}{kt k2 pt2} (hc:X.calm=true) (hN:X.N.Nodup) (hi:X.N[i]?=some x) (hj:X.N[j]?=some y) (hij:i≠j)
  (hx:X.env.scope.names.lookup x=some .local) (hy:X.env.scope.names.lookup y=some .local) (ha:PA X [a,b] ta)
  (hw:xS [.Tuple [.Name x px,.Name y py] kt pt] (.Tuple [a,b] k2 pt2) X.env=pure (some [x,y]))
  (hs:xR [.Tuple [.Name x px,.Name y py] kt pt] (.Tuple [a,b] k2 pt2) pos.line X.env=pure false:=by rfl) :
  PS X (.Assign [.Tuple [.Name x px,.Name y py] kt pt] (.Tuple [a,b] k2 pt2) pos) (Xn i j ta):=by
 intro pins s σ H D I h
 rw [exec_Assign_arm]
 refine a7 (iM ?_)
 rw [hs]
 refine a7 (ae ?_)
 rw [if_neg (by decide)]
 refine a7 (Tuple_ (fm (ha _ pins s σ H _ I h) fun us s1 ⟨vs,H1,I1,r1,q1⟩=>?_))
 obtain ⟨v,w,e1,q1⟩:=q1
 subst e1
 obtain ⟨u1,u2,rfl,rv,rw'⟩:∃ u1 u2,us=[u1,u2]/\dw v u1/\dw w u2:=by
  cases r1 with
  | cons p q =>
   cases q with
   | cons p' q' =>
    cases q'
    exact ⟨_,_,rfl,p,p'⟩
 refine bW ?_ (by show 2<=sizeLine;decide)
 have I2:bG X pins σ H1 { s1 with heap:=s1.heap.push { cls:=.type "tuple",data:=.seq [u1,u2].toArray } }:=I1.kept (t':=s1.toks) fun b o e=>ag _ e
 rw [hw]
 refine a7 (ae ?_)
 show aq (aL X.prog X.w) X.A (do rule "assign.swapped-stores";let items <- unpackItems (.ref s1.heap.objs.size) 2 none;Kb [fun v=>Gr X.env y v,fun v=>Gr X.env x v] items.reverse;pure Flow.next) _ _ _
 refine a7 (gf (a7 (unpackItems_tuple (items:=#[u1,u2]) (I.ok.hd hc) (xt s1.heap _) fun h' hx'=>?_)))
 have I3:=I2.kept (h':=h') (t':=s1.toks) fun b o e=>hx' b o (aC (ap e)) e
 show aq _ _ (Kb [fun v=>Gr X.env y v,fun v=>Gr X.env x v] [u2,u1] >>= fun _=>pure Flow.next) _ _ _
 refine a7 (yn (wpAny_bindName (qQ I3 hN hj (.inl hy) rw' (fun s2 I4=>?_) (.inr hy))))
 refine yn (wpAny_bindName (qQ I4 hN hi (.inl hx) rv (fun s3 I5=>assignInOrder_nil (ae ?_)) (.inr hx)))
 rw [List.set_comm _ _ (de hij)] at I5
 exact ⟨_,H1,I5,q1⟩
end
section
variable {X:Cx}{pos:Pos}
def Tl (c:TT) (tb:TS):TS:=fun D σ H=>∃ W:Nat->St->Hp->Prop,(∃ m,W m σ H)/\∀ m σ H,W m σ H ->
 c σ H fun b H1=>if b=true then ∃ N:St->Hp->Prop,(∀ σ' H',N σ' H'->∃ m',m'<m/\W m' σ' H')/\tb { D with nx:=N,ct:=N,bk:=D.nx } σ H1 else D.nx σ H1
theorem uO {c:a_}{body:List cp}{tc:TT}{tb:TS} (hp:PassesOwn (aL X.prog X.w) X.A X.env X.xe) (hc:PT X c tc) (hb:AB X body tb):PS X (.While c body [] pos) (Tl tc tb):=by
 intro pins s σ H D I h
 obtain ⟨W,⟨m0,w0⟩,turn⟩:=h
 refine wpAny_While (codeAny_whileLoop (fun n s'=>∃ σ' H',bG X pins σ' H' s'/\W n σ' H') ?_ m0 ⟨σ,H,I,w0⟩)
 rintro n s1 ⟨σ1,H1,I1,w1⟩
 refine iD hp (fm (hc pins s1 σ1 H1 _ I1 (turn n σ1 H1 w1)) fun b s2 ⟨H2,I2,q2⟩=>?_)
 cases b with
 | true =>
  obtain ⟨N,hN,q2⟩:=q2
  rw [if_pos rfl]
  refine iD hp (fm (hb pins s2 σ1 H2 _ I2 q2) fun f s3 q3=>?_)
  cases f with
  | next =>
   obtain ⟨σ3,H3,I3,n3⟩:=q3
   obtain ⟨m',hm,w3⟩:=hN σ3 H3 n3
   exact ⟨m',hm,σ3,H3,I3,w3⟩
  | cont =>
   obtain ⟨σ3,H3,I3,n3⟩:=q3
   obtain ⟨m',hm,w3⟩:=hN σ3 H3 n3
   exact ⟨m',hm,σ3,H3,I3,w3⟩
  | brk=>exact q3
  | ret v=>exact q3
 | false =>
  rw [if_neg aY]
  exact nX ⟨σ1,H2,I2,q2⟩
end
structure It where
 go:Nat->Hp->Prop
 yld:Nat->Hp->V->Hp->Prop
 stop:Nat->Hp->Prop
structure qS (X:Cx) (pins:List (ah×Obj)) (H:Hp) (b:ah):Prop where
 f0:H b=none
 f1:b≠X.env.locals
 f2:b∉X.fs
 f3:b∈X.ex\/X.s₀.heap.objs.size<=b
 f4:∀ x c,X.env.cells.lookup x=some c->c≠b
 f5:∀ p∈X.pn++pins,p.1≠b
theorem bG.fpOk {X:Cx}{pins:List (ah×Obj)}{σ:St}{H H':Hp}{s:af}{b:ah} (I:bG X pins σ H s) (hb:s.heap.objs.size<=b) (hn:H' b=none):qS X pins H' b:=by
 refine ⟨hn,eu (aH I.lt hb),I.nofs hb,.inr (bR I.sz hb),fun x c e z=>?_,fun p hp z=>?_⟩
 ·obtain ⟨v,q⟩:=I.cell x c e
  exact absurd (aH q.lt (by rw [z];exact hb)) (c6 _)
 ·exact absurd (aH (ap (I.pin p hp).1) (by rw [z];exact hb)) (c6 _)
structure yA (P:aO) (w:bd) (K:a8) (tg:a_) (J:It) (fp:List ah) (it:ah) (tn:Nat->bt->Prop):Prop where
 mem:it∈fp
 obj:∀ i h,tn i h->∀ b∈fp,∃ o,h.get? b=some o/\∀ v,o.data≠.cell v
 keep:∀ i h h',tn i h->(∀ b∈fp,∀ o,h.get? b=some o->h'.get? b=some o)->tn i h'
 item:∀ (X:Cx),X.prog=P->X.w=w->X.K=K->X.calm=true->∀ (i:Nat) (pins:List (ah×Obj)) (s:af) (σ:St) (H:Hp) (E:a9->af->Prop),bG X pins σ H s->(∀ b∈fp,qS X pins H b)->tn i s.heap->J.go i H ->
  aq (aL P w) X.A (jw (.ref it)) (fun r s1=>∃ u,r=some u /\
   aq (aL P w) X.A (gM tg (.ref it) u) (fun _ s2=>∃ x H',bG X pins σ H' s2/\dw x u/\J.yld i H x H'/\tn (i + 1) s2.heap/\∀ b∈fp,H' b=none) E s1) E s
 done:∀ (X:Cx),X.prog=P->X.w=w->X.K=K->X.calm=true->∀ (i:Nat) (pins:List (ah×Obj)) (s:af) (σ:St) (H:Hp) (E:a9->af->Prop),bG X pins σ H s->(∀ b∈fp,qS X pins H b)->tn i s.heap->J.stop i H ->
  aq (aL P w) X.A (jw (.ref it)) (fun r s1=>r=none/\bG X pins σ H s1) E s
 self:∀ (A:bg) (i:Nat) (s:af) (Q:a9->af->Prop) (E:a9->af->Prop),tn i s.heap->Q (.ref it) s->aq (aL P w) A (yo (.ref it)) Q E s
abbrev TI:=St->Hp->(It->Hp->Prop)->Prop
inductive Xo (X:Cx) (pins:List (ah×Obj)) (σ:St) (tg:a_) (R:It->Hp->Prop) (itv:a9) (s2:af):Prop
 | mk (it:ah) (fp:List ah) (tn:Nat->bt->Prop) (J:It) (H':Hp) (h0:itv=.ref it) (I:bG X pins σ H' s2) (T:yA X.prog X.w X.K tg J fp it tn) (t0:tn 0 s2.heap) (f:∀ b∈fp,qS X pins H' b) (q:R J H'):Xo X pins σ tg R itv s2
inductive Xp (X:Cx) (pins:List (ah×Obj)) (tn:Nat->bt->Prop) (fp:List ah) (W:Nat->Nat->St->Hp->Prop) (n:Nat) (s':af):Prop
 | mk (i:Nat) (σ':St) (H':Hp) (I:bG X pins σ' H' s') (t:tn i s'.heap) (f:∀ b∈fp,H' b=none) (q:W i n σ' H'):Xp X pins tn fp W n s'
def PI (X:Cx) (tg iter:a_) (wi:TI):Prop :=
 ∀ (pins:List (ah×Obj)) (s:af) (σ:St) (H:Hp) (R:It->Hp->Prop),bG X pins σ H s->wi σ H R ->
  aq (aL X.prog X.w) X.A (du iter X.env) (fun v s1=>aq (aL X.prog X.w) X.A (yo v) (Xo X pins σ tg R) X.xe s1) X.xe s
theorem IM {M : DO} {A : bg} {E : a9 -> af -> Prop} {s : af} {tg : a_} {it : ah} {u : a9} {o : Obj} {n : String} {vs : Array a9} {Q : Unit -> af -> Prop} (ho : s.heap.get? it = some o) (hc : o.cls = .type n) (hd : o.data = .fields vs)
    (hn : ["enumerate", "zip", "dict_itemiterator", "dict_reverseitemiterator", "odict_iterator", "itertools.zip_longest", "itertools.pairwise"].contains n = false) (hQ : Q () s) : aq M A (gM tg (.ref it) u) Q E s := by
  unfold gM
  cases tg <;> first
    | exact ae hQ
    | (cases u <;> first
        | exact ae hQ
        | (refine a7 (wpAny_load ho ?_)
           rw [hc, hd]
           show aq M A (if (["enumerate", "zip", "dict_itemiterator", "dict_reverseitemiterator", "odict_iterator", "itertools.zip_longest", "itertools.pairwise"].contains n && vs[0]? == some (cg _)) = true then _ else _) Q E s
           rw [if_neg (by intro h; rw [hn, Bb] at h; cases h)]
           exact ae hQ))
def Xq (K:a8) (a:ah):It :=
 ⟨fun i H=>∃ xs x,lZ K H a xs/\xs[i]?=some x,fun i H x H'=>H'=H/\∀ xs,lZ K H a xs->xs[i]?=some x,fun i H=>∃ xs,lZ K H a xs/\xs.length<=i⟩
def Xr (K:a8) (a:ah):It :=
 ⟨fun i H=>∃ xs x,kE K H a xs/\xs[i]?=some x,fun i H x H'=>H'=H/\∀ xs,kE K H a xs->xs[i]?=some x,fun i H=>∃ xs,kE K H a xs/\xs.length<=i⟩
def WV (lo:Int) (n:Nat):It:=⟨fun i _=>i<n,fun i H x H'=>H'=H/\x=.int (lo + i),fun i _=>n<=i⟩
theorem Kt {P:aO}{w:bd}{K:a8}{tg:a_} (a it:ah):yA P w K tg (Xq K a) [it] it (fun i h=>h.IsListIter it a i) where
 mem:=by simp
 obj:=fun i h st b hb=>by
  have e:b=it:=by simpa using hb
  subst e
  obtain ⟨o,e,c,d⟩:=st
  exact ⟨o,e,fun v z=>by rw [d] at z;cases z⟩
 keep:=fun i h h' st k=>st.at fun o e=>k it (by simp) o e
 item:=by
  intro X hP hw hK hc i pins s σ H E I hf st hg
  subst hP hw hK
  obtain ⟨xs,x,hq,hx⟩:=hg
  obtain ⟨its,rv,p,hz⟩:=I.list hq
  obtain ⟨u,hu,ru⟩:=rv.get hx
  obtain ⟨f0,f1,f2,f3,f4,f5⟩:=hf it (by simp)
  refine wpAny_pyNext_list_item st p.isList (x:=u) (by simpa using hu) fun h' st' sb=>?_
  have I1:bG X pins σ H { s with heap:=h' }:=I.turned (t':=s.toks) (fun b o hb e=>(sb.2 b hb).trans e) f0 f1 f3 f4 f5
  obtain ⟨o,e,c,d⟩:=id st'
  exact ⟨u,rfl,IM (s:={ s with heap:=h' }) e c d (by decide) ⟨x,H,I1,ru,⟨rfl,fun ys hy=>by rw [I.list_inj hy hq];exact hx⟩,st',fun b hb=>(hf b hb).1⟩⟩
 done:=by
  intro X hP hw hK hc i pins s σ H E I hf st hg
  subst hP hw hK
  obtain ⟨xs,hq,hx⟩:=hg
  obtain ⟨its,rv,p,hz⟩:=I.list hq
  obtain ⟨f0,f1,f2,f3,f4,f5⟩:=hf it (by simp)
  have hl:=rv.length
  exact wpAny_pyNext_list_end (I.ok.hd hc) st p.isList (by simp;omega) fun h' eb=>⟨rfl,I.turned (t':=s.toks) (fun b o hb e=>eb b o hb e) f0 f1 f3 f4 f5⟩
 self:=fun _ _ _ _ _ st h=>wpAny_pyIter_listiter st h
theorem GS {P:aO}{w:bd}{K:a8}{tg:a_} (a it:ah):yA P w K tg (Xr K a) [it] it (fun i h=>h.IsTupleIter it a i) where
 mem:=by simp
 obj:=fun i h st b hb=>by
  have e:b=it:=by simpa using hb
  subst e
  obtain ⟨o,e,c,d⟩:=st
  exact ⟨o,e,fun v z=>by rw [d] at z;cases z⟩
 keep:=fun i h h' st k=>st.at fun o e=>k it (by simp) o e
 item:=by
  intro X hP hw hK hc i pins s σ H E I hf st hg
  subst hP hw hK
  obtain ⟨xs,x,hq,hx⟩:=hg
  obtain ⟨its,rv,p,hz⟩:=I.tuple hq
  obtain ⟨u,hu,ru⟩:=rv.get hx
  obtain ⟨f0,f1,f2,f3,f4,f5⟩:=hf it (by simp)
  refine wpAny_pyNext_tuple_item st (show s.heap.IsTuple a its.toArray from p) (x:=u) (by simpa using hu) fun h' st' sb=>?_
  have I1:bG X pins σ H { s with heap:=h' }:=I.turned (t':=s.toks) (fun b o hb e=>(sb.2 b hb).trans e) f0 f1 f3 f4 f5
  obtain ⟨o,e,c,d⟩:=id st'
  exact ⟨u,rfl,IM (s:={ s with heap:=h' }) e c d (by decide) ⟨x,H,I1,ru,⟨rfl,fun ys hy=>by rw [I.tuple_inj hy hq];exact hx⟩,st',fun b hb=>(hf b hb).1⟩⟩
 done:=by
  intro X hP hw hK hc i pins s σ H E I hf st hg
  subst hP hw hK
  obtain ⟨xs,hq,hx⟩:=hg
  obtain ⟨its,rv,p,hz⟩:=I.tuple hq
  obtain ⟨f0,f1,f2,f3,f4,f5⟩:=hf it (by simp)
  have hl:=rv.length
  exact wpAny_pyNext_tuple_end (I.ok.hd hc) st (show s.heap.IsTuple a its.toArray from p) (by simp;omega) fun h' eb=>⟨rfl,I.turned (t':=s.toks) (fun b o hb e=>eb b o hb e) f0 f1 f3 f4 f5⟩
 self:=fun _ _ _ _ _ st h=>wpAny_pyIter_tupleiter st h
theorem GT {P:aO}{w:bd}{K:a8}{tg:a_} (it:ah) (lo:Int) (n:Nat):yA P w K tg (WV lo n) [it] it (fun i h=>IsRangeIter h it (lo + (i:Nat) * 1) ((n:Int) - (i:Nat)) 1) where
 mem:=by simp
 obj:=fun i h st b hb=>by
  have e:b=it:=by simpa using hb
  subst e
  exact ⟨_,st,fun v z=>by
   have z':Data.fields _=Data.cell v:=z
   cases z'⟩
 keep:=fun i h h' st k=>k it (by simp) _ st
 item:=by
  intro X hP hw hK hc i pins s σ H E I hf st hg
  subst hP hw hK
  obtain ⟨f0,f1,f2,f3,f4,f5⟩:=hf it (by simp)
  have W:=Walks.range (prog:=X.prog) (w:=X.w) (I.ok.hd hc) it lo 1 n
  refine W.item i s _ _ hg st fun v h' tk hv st' kk=>?_
  obtain ⟨t,rfl⟩:=hv
  have I1:bG X pins σ H { s with heap:=h',toks:=tk }:=I.turned (fun b o hb e=>kk b o (by simpa using hb) e) f0 f1 f3 f4 f5
  refine ⟨_,rfl,IM (s:={ s with heap:=h',toks:=tk }) (n:="range_iterator") st' rfl rfl (by decide) ⟨.int (lo + i),H,I1,⟨t,?_⟩,⟨rfl,rfl⟩,st',fun b hb=>(hf b hb).1⟩⟩
  rw [Int.mul_one]
 done:=by
  intro X hP hw hK hc i pins s σ H E I hf st hg
  subst hP hw hK
  obtain ⟨f0,f1,f2,f3,f4,f5⟩:=hf it (by simp)
  exact wpAny_pyNext_range_end (I.ok.hd hc) st (by have:n<=i:=hg;omega) fun h' eb=>⟨rfl,I.turned (t':=s.toks) (fun b o hb e=>eb b o hb e) f0 f1 f3 f4 f5⟩
 self:=fun _ _ _ _ _ st h=>wpAny_pyIter_rangeiter st h
end L2
namespace L2
open PySem PySem.Spec PyProof.Rows
section
variable {X:Cx}{tg:a_}
def Vc (K:a8) (tl:TE):TI:=fun σ H R=>tl σ H fun x H1=>∃ a,x=.ref a/\(∃ xs,lZ K H1 a xs)/\R (Xq K a) H1
def Xt (K:a8) (tl:TE):TI:=fun σ H R=>tl σ H fun x H1=>∃ a,x=.ref a/\(∃ xs,kE K H1 a xs)/\R (Xr K a) H1
theorem uP {l:a_}{tl:TE} (hl:PE X l tl):PI X tg l (Vc X.K tl):=by
 intro pins s σ H R I h
 refine fm (hl pins s σ H _ I h) fun v s1 h_16=>?_
 obtain ⟨x,H1,I1,r1,q1⟩:=h_16
 obtain ⟨a,e,⟨xs,hq⟩,q⟩:=q1
 subst e
 cases r1
 obtain ⟨its,rv,p,hz⟩:=I1.list hq
 refine iT p.isList ?_
 refine ⟨s1.heap.objs.size,[s1.heap.objs.size],_,_,H1,rfl,I1.kept (t':=s1.toks) fun b o e=>ag _ e,Kt a _,⟨_,az _ rfl,rfl,rfl⟩,fun b hb=>?_,q⟩
 have e:b=s1.heap.objs.size:=by simpa using hb
 subst e
 exact I1.fpOk (ar _) (I1.hok.fresh (ar _))
theorem Mr {l:a_}{tl:TE} (hl:PE X l tl):PI X tg l (Xt X.K tl):=by
 intro pins s σ H R I h
 refine fm (hl pins s σ H _ I h) fun v s1 h_17=>?_
 obtain ⟨x,H1,I1,r1,q1⟩:=h_17
 obtain ⟨a,e,⟨xs,hq⟩,q⟩:=q1
 subst e
 cases r1
 obtain ⟨its,rv,p,hz⟩:=I1.tuple hq
 refine gj (show s1.heap.IsTuple a its.toArray from p) ?_
 refine ⟨s1.heap.objs.size,[s1.heap.objs.size],_,_,H1,rfl,I1.kept (t':=s1.toks) fun b o e=>ag _ e,GS a _,⟨_,az _ rfl,rfl,rfl⟩,fun b hb=>?_,q⟩
 have e:b=s1.heap.objs.size:=by simpa using hb
 subst e
 exact I1.fpOk (ar _) (I1.hok.fresh (ar _))
theorem Ms {pins:List (ah×Obj)}{σ:St}{H:Hp}{s:af}{R:It->Hp->Prop}{E:a9->af->Prop}{lo hi:Int}{t u v:Tok}{tk:Nat} (I:bG X pins σ H s) (h1:-(2 ^ 62)<=lo) (h2:lo<2 ^ 62) (h3:-(2 ^ 62)<=hi) (h4:hi<2 ^ 62)
  (q:R (WV lo (hi - lo).toNat) H):aq (aL X.prog X.w) X.A (yo (.ref s.heap.objs.size)) (Xo X pins σ tg R) E { s with heap:=s.heap.push { cls:=.type "range",data:=.fields #[.int lo t,.int hi u,.int 1 v] },toks:=tk }:=by
 refine wpAny_pyIter_range (IsRange.new ..) (small_one h1 h2 h3 h4) ?_
 have I1:bG X pins σ H { s with heap:=s.heap.push { cls:=.type "range",data:=.fields #[.int lo t,.int hi u,.int 1 v] },toks:=tk }:=I.kept fun b o e=>ag _ e
 refine ⟨(s.heap.push { cls:=.type "range",data:=.fields #[.int lo t,.int hi u,.int 1 v] }).objs.size,[(s.heap.push { cls:=.type "range",data:=.fields #[.int lo t,.int hi u,.int 1 v] }).objs.size],_,_,H,rfl,
  I1.kept (t':=tk) fun b o e=>ag _ e,GT _ lo (hi - lo).toNat,?_,fun b hb=>?_,q⟩
 ·have e1:lo + ((0:Nat):Int) * 1=lo:=by simp
  have e2:(((hi - lo).toNat:Nat):Int) - ((0:Nat):Int)=Builtin.Range.rangeSize lo hi 1:=by rw [rangeSize_one];split<;>omega
  show IsRangeIter _ _ (lo + ((0:Nat):Int) * 1) ((((hi - lo).toNat:Nat):Int) - ((0:Nat):Int)) 1
  rw [e1,e2]
  exact az _ rfl
 ·have e:b=(s.heap.push { cls:=.type "range",data:=.fields #[.int lo t,.int hi u,.int 1 v] }).objs.size:=by simpa using hb
  subst e
  exact I1.fpOk (ar _) (I1.hok.fresh (ar _))
def Vd (ta:TA):TI:=fun σ H R=>ta σ H fun vs H1=>∃ j:Int,vs=[.int j]/\-(2 ^ 62)<=j/\j<2 ^ 62/\R (WV 0 j.toNat) H1
theorem Ku {a:a_}{ta:TA}{p pos:Pos} (hg:Gl X "range") (hm:X.mg "range"=none) (ha:PA X [a] ta) (hs:aA [a] X.env=[(false,du a X.env)]:=by rfl):PI X tg (.Call (.Name "range" p) [a] [] pos) (Vd ta):=by
 intro pins s σ H R I h
 refine Call_ (tN I hg hm boot_range (e_ (fm (ha pos pins s σ H _ I h) fun us s1 ⟨vs,H1,I1,r1,q1⟩=>?_) hs rfl))
 obtain ⟨j,e,q1,q2,q⟩:=q1
 subst e
 cases r1 with
 | cons r rr =>
  cases rr
  obtain ⟨t,rfl⟩:=r
  exact call_range_1 (Ms I1 (by omega) (by omega) q1 q2 (by simpa using q))
inductive Xu (g:TG) (tb:TS) (D:tM) (σ:St) (J:It) (H1:Hp):Prop
 | mk (W:Nat->Nat->St->Hp->Prop) (w0:∃ m,W 0 m σ H1) (turn:∀ i m σ H,W i m σ H ->
 (J.stop i H/\D.nx σ H)\/(J.go i H/\∃ N:St->Hp->Prop,(∀ σ' H',N σ' H'->∃ m',m'<m/\W (i + 1) m' σ' H')/\∀ x H',J.yld i H x H'->g x σ H' fun σ2 H2=>tb { D with nx:=N,ct:=N,bk:=D.nx } σ2 H2)):Xu g tb D σ J H1
def Xv (wi:TI) (g:TG) (tb:TS):TS:=fun D σ H=>wi σ H (Xu g tb D σ)
def w9 (fp:List ah) (h:bt):List (ah×Obj):=fp.filterMap fun b=>(h.get? b).map fun o=>(b,o)
theorem j_ {fp:List ah}{h:bt}{b:ah}{o:Obj} (hb:b∈fp) (e:h.get? b=some o):(b,o)∈w9 fp h:=List.mem_filterMap.mpr ⟨b,hb,by rw [e];rfl⟩
theorem Kv {fp:List ah}{h:bt}{p:ah×Obj} (hp:p∈w9 fp h):p.1∈fp/\h.get? p.1=some p.2:=by
 obtain ⟨b,hb,e⟩:=List.mem_filterMap.mp hp
 cases q:h.get? b with
 | none=>rw [q] at e;cases e
 | some o =>
  rw [q] at e
  have e':(b,o)=p:=bJ e
  subst e'
  exact ⟨hb,q⟩
theorem bG.pinned {pins:List (ah×Obj)}{σ:St}{H:Hp}{s:af}{fp:List ah} (I:bG X pins σ H s) (hf:∀ b∈fp,qS X pins H b) (ho:∀ b∈fp,∃ o,s.heap.get? b=some o/\∀ v,o.data≠.cell v):bG X (pins++w9 fp s.heap) σ H s :=
 I.pins_of fun p hp=>(List.mem_append.mp hp).elim (fun z=>I.pin p (aE _ z)) fun z=>by
  obtain ⟨hb,e⟩:=Kv z
  obtain ⟨f0,f1,f2,_⟩:=hf p.1 hb
  obtain ⟨o,e',d⟩:=ho p.1 hb
  rw [e] at e';cases e'
  exact ⟨e,f0,f1,f2,d⟩
theorem bG.unpinned {pins pl:List (ah×Obj)}{σ:St}{H:Hp}{s:af} (I:bG X (pins++pl) σ H s):bG X pins σ H s:=I.pins_of fun p hp=>I.pin p (aE _ (ba _ hp))
theorem Ct {iter:a_}{body:List cp}{wi:TI}{g:TG}{tb:TS}{pos:Pos} (hp:PassesOwn (aL X.prog X.w) X.A X.env X.xe) (hc:X.calm=true) (hi:PI X tg iter wi) (hg:PG X tg g) (hb:AB X body tb)
  (hs:∀ x,eB iter X.env x=pure x:=by intro _;rfl):PS X (.For tg iter body [] pos) (Xv wi g tb):=by
 intro pins s σ H D I h
 refine wpAny_For (fm (hi pins s σ H _ I h) fun v s1 h1=>fm h1 fun itv s2 h2=>?_) hs
 obtain ⟨it,fp,tn,J,H2,e,I2,T,st2,f2,W,⟨m0,w0⟩,turn⟩:=h2
 subst e
 have stat:∀ {H':Hp},(∀ b∈fp,H' b=none)->∀ b∈fp,qS X pins H' b:=fun hn b hb=>⟨hn b hb,(f2 b hb).f1,(f2 b hb).f2,(f2 b hb).f3,(f2 b hb).f4,(f2 b hb).f5⟩
 refine codeAny_forLoop_any (Xp X pins tn fp W) ?_ m0 ⟨0,σ,H2,I2,st2,fun b hb=>(f2 b hb).1,w0⟩
 rintro n s3 ⟨i,σ3,H3,I3,st3,fr3,w3⟩
 rcases turn i n σ3 H3 w3 with ⟨stop,qn⟩ | ⟨go,N,hN,step⟩
 ·refine iD hp (fm (T.done X rfl rfl rfl hc i pins s3 σ3 H3 X.xe I3 (stat fr3) st3 stop) fun r s4 ⟨hr,I4⟩=>?_)
  subst hr
  exact nX ⟨σ3,H3,I4,qn⟩
 ·refine iD hp (fm (T.item X rfl rfl rfl hc i pins s3 σ3 H3 X.xe I3 (stat fr3) st3 go) fun r s4 ⟨u,hr,h4⟩=>?_)
  subst hr
  refine iD hp (fm h4 fun _ s5 ⟨x,H5,I5,r5,y5,st5,fr5⟩=>?_)
  have I5':=I5.pinned (stat fr5) (T.obj _ _ st5)
  refine iD hp (fm (hg _ s5 σ3 H5 x u _ I5' r5 (step x H5 y5)) fun _ s6 ⟨σ6,H6,I6,q6⟩=>?_)
  refine iD hp (fm (hb _ s6 σ6 H6 _ I6 q6) fun f s7 q7=>?_)
  have again:∀ {σ7:St}{H7:Hp},bG X (pins++w9 fp s5.heap) σ7 H7 s7->N σ7 H7->∃ m,m<n/\Xp X pins tn fp W m s7:=fun {σ7 H7} I7 n7=>by
   obtain ⟨m',hm,w7⟩:=hN σ7 H7 n7
   refine ⟨m',hm,i + 1,σ7,H7,I7.unpinned,T.keep _ _ _ st5 fun b hb o e=>(I7.pin (b,o) (aE _ (aE _ (j_ hb e)))).1,fun b hb=>?_,w7⟩
   obtain ⟨o,e,d⟩:=T.obj _ _ st5 b hb
   exact (I7.pin (b,o) (aE _ (aE _ (j_ hb e)))).2.1
  cases f with
  | next=>obtain ⟨σ7,H7,I7,n7⟩:=q7;exact again I7 n7
  | cont=>obtain ⟨σ7,H7,I7,n7⟩:=q7;exact again I7 n7
  | brk=>obtain ⟨σ7,H7,I7,q7⟩:=q7;exact ⟨σ7,H7,I7.unpinned,q7⟩
  | ret v=>obtain ⟨x7,σ7,H7,I7,r7,q7⟩:=q7;exact ⟨x7,σ7,H7,I7.unpinned,r7,q7⟩
end
end L2
namespace L2
open PySem PySem.Spec PyProof.Rows
abbrev R2:=V->V->Hp->VK->Prop
def qy (X:Cx) (f:a9->a9->Sem a9) (r:R2):Prop :=
 ∀ (pins:List (ah×Obj)) (s:af) (σ:St) (H:Hp) (x y:V) (v u:a9) (Q:VK),bG X pins σ H s->dw x v->dw y u->r x y H Q ->
  aq (aL X.prog X.w) X.A (f v u) (EP X pins σ Q) X.xe s
def Xw (X:Cx) (f:a9->Sem a9) (r:V->Hp->VK->Prop):Prop :=
 ∀ (pins:List (ah×Obj)) (s:af) (σ:St) (H:Hp) (x:V) (v:a9) (Q:VK),bG X pins σ H s->dw x v->r x H Q ->
  aq (aL X.prog X.w) X.A (f v) (EP X pins σ Q) X.xe s
def jb (X:Cx) (f:a9) (r:List V->Hp->VK->Prop):Prop :=
 ∀ (pins:List (ah×Obj)) (s:af) (σ:St) (H:Hp) (xs:List V) (us:List a9) (Q:VK),bG X pins σ H s->da xs us->r xs H Q ->
  aq (aL X.prog X.w) X.A (call f us) (EP X pins σ Q) X.xe s
def Xx (X:Cx) (r:V->Hp->(Bool->Hp->Prop)->Prop):Prop :=
 ∀ (pins:List (ah×Obj)) (s:af) (σ:St) (H:Hp) (x:V) (v:a9) (Q:Bool->Hp->Prop),bG X pins σ H s->dw x v->r x H Q ->
  aq (aL X.prog X.w) X.A (truthy v) (TP X pins σ Q) X.xe s
def Ve (r:R2) (ta tb:TE):TE:=fun σ H Q=>ta σ H fun x H1=>tb σ H1 fun y H2=>r x y H2 Q
def YV (r:V->Hp->VK->Prop) (ta:TE):TE:=fun σ H Q=>ta σ H fun x H1=>r x H1 Q
inductive Yt (C:Int->Int->Prop) (g:Int->Int->V) (x:V) (y:V) (H:Hp) (Q:VK):Prop
 | mk (i j:_) (h0:x=.int i) (h1:y=.int j) (h2:C i j) (h3:Q (g i j) H):Yt C g x y H Q
def rI (C:Int->Int->Prop) (g:Int->Int->V):R2:=Yt C g
inductive Vf (g:Int->Int->V) (x:V) (y:V) (H:Hp) (Q:VK):Prop
 | mk (i j:_) (h0:x=.int i) (h1:y=.int j) (h2:Q (g i j) H):Vf g x y H Q
def Tn (g:Int->Int->V):R2:=Vf g
inductive Yu (g:Int->V) (x:V) (H:Hp) (Q:VK):Prop
 | mk (i:_) (h0:x=.int i) (h1:Q (g i) H):Yu g x H Q
def rU (g:Int->V):V->Hp->VK->Prop:=Yu g
section
variable {X:Cx}{a b c:a_}{ta tb tc:TE}{pos:Pos}
theorem To (ha:PE X a ta) (hb:PE X b tb) {pins:List (ah×Obj)}{s:af}{σ:St}{H:Hp}{R:V->V->Hp->Prop} (I:bG X pins σ H s)
  (h:ta σ H fun x H1=>tb σ H1 fun y H2=>R x y H2) {Q:a9->af->Prop}{f:a9->a9->Sem a9}
  (hf:∀ v u s2 x y H2,bG X pins σ H2 s2->dw x v->dw y u->R x y H2->aq (aL X.prog X.w) X.A (f v u) Q X.xe s2) :
  aq (aL X.prog X.w) X.A (du a X.env) (fun v s₁=>aq (aL X.prog X.w) X.A (du b X.env) (fun u s₂=>aq (aL X.prog X.w) X.A (f v u) Q X.xe s₂) X.xe s₁) X.xe s:=by
 refine fm (ha pins s σ H _ I h) fun v s1 h_19=>?_
 obtain ⟨x,H1,I1,r1,q1⟩:=h_19
 refine fm (hb pins s1 σ H1 _ I1 q1) fun u s2 h_20=>?_
 obtain ⟨y,H2,I2,r2,q2⟩:=h_20
 exact hf v u s2 x y H2 I2 r1 r2 q2
theorem RT {op:Operator}{r:R2} (ho:qy X (gm op) r) (ha:PE X a ta) (hb:PE X b tb):PE X (.BinOp a op b pos) (Ve r ta tb):=by
 intro pins s σ H Q I h
 exact wpAny_BinOp (To ha hb I h fun v u s2 x y H2 I2 rx ry q=>ho pins s2 σ H2 x y v u Q I2 rx ry q)
theorem Vg {op:UnaryOp}{r:V->Hp->VK->Prop} (ho:Xw X (unaryOp op) r) (ha:PE X a ta):PE X (.UnaryOp op a pos) (YV r ta):=by
 intro pins s σ H Q I h
 exact UnaryOp_ (fm (ha pins s σ H _ I h) fun v s1 h_21=>by obtain ⟨x,H1,I1,r1,q1⟩:=h_21;exact ho pins s1 σ H1 x v Q I1 r1 q1)
theorem Xy {f:a9->a9->Sem a9}{C:Int->Int->Prop}{g:Int->Int->Int}
  (rule:∀ (i j:Int) (t u:Tok) (s:af) (Q:a9->af->Prop) (E:a9->af->Prop),C i j->Q (.int (g i j) s.toks) { s with toks:=s.toks + 1 }->aq (aL X.prog X.w) X.A (f (.int i t) (.int j u)) Q E s) :
  qy X f (rI C fun i j=>.int (g i j)):=by
 intro pins s σ H x y v u Q I rx ry h
 obtain ⟨i,j,rfl,rfl,hc,q⟩:=h
 obtain ⟨t,rfl⟩:=rx
 obtain ⟨t',rfl⟩:=ry
 exact rule i j t t' s _ _ hc ⟨.int (g i j),H,I.tok _,⟨_,rfl⟩,q⟩
theorem Xz {f:a9->a9->Sem a9}{g:Int->Int->Int}
  (rule:∀ (i j:Int) (t u:Tok) (s:af) (Q:a9->af->Prop) (E:a9->af->Prop),Q (.int (g i j) s.toks) { s with toks:=s.toks + 1 }->aq (aL X.prog X.w) X.A (f (.int i t) (.int j u)) Q E s) :
  qy X f (Tn fun i j=>.int (g i j)):=by
 intro pins s σ H x y v u Q I rx ry h
 obtain ⟨i,j,rfl,rfl,q⟩:=h
 obtain ⟨t,rfl⟩:=rx
 obtain ⟨t',rfl⟩:=ry
 exact rule i j t t' s _ _ ⟨.int (g i j),H,I.tok _,⟨_,rfl⟩,q⟩
theorem Tp {f:a9->a9->Sem a9}{g:Int->Int->Bool}
  (rule:∀ (i j:Int) (t u:Tok) (s:af) (Q:a9->af->Prop) (E:a9->af->Prop),Q (.bool (g i j)) s->aq (aL X.prog X.w) X.A (f (.int i t) (.int j u)) Q E s) :
  qy X f (Tn fun i j=>.bl (g i j)):=by
 intro pins s σ H x y v u Q I rx ry h
 obtain ⟨i,j,rfl,rfl,q⟩:=h
 obtain ⟨t,rfl⟩:=rx
 obtain ⟨t',rfl⟩:=ry
 exact rule i j t t' s _ _ ⟨.bl (g i j),H,I,rfl,q⟩
def XA (i j:Int):Prop:=0<j/\j<1073741824
def Tq (i j:Int):Prop:=(-(2 ^ 64)<i/\i<2 ^ 64)\/(-(2 ^ 64)<j/\j<2 ^ 64)
theorem Tq.ok {i j:Int} (h:Tq i j):IntMulOk i j:=by
 rcases h with ⟨h1,h2⟩ | ⟨h1,h2⟩
 ·exact .of_left (intBits_le_64 h1 h2)
 ·exact .of_right (intBits_le_64 h1 h2)
theorem Tr:qy X (gm .Add) (Tn fun i j=>.int (i + j)):=Xz fun _ _ _ _ _ _ _ q=>add_int q
theorem Tt:qy X (gm .Mult) (rI Tq fun i j=>.int (i * j)):=Xy fun _ _ _ _ _ _ _ hc q=>mul_int q hc.ok
theorem Q5:qy X (gm .FloorDiv) (rI XA fun i j=>.int (i / j)):=Xy fun i j _ _ _ _ _ hc q=>by
 have h1:(0:Int)<j:=hc.1
 have h2:j<1073741824:=hc.2
 exact floordiv_int (by omega) (by rw [Int.fdiv_eq_ediv_of_nonneg i (by omega)];exact q) (.inl (PyProof.noPylong_small (by omega)))
theorem Tu:qy X (gm .Mod) (rI (fun _ j=>0<j) fun i j=>.int (i % j)):=Xy fun i j _ _ _ _ _ hc q=>by
 have h1:(0:Int)<j:=hc
 exact mod_int' (by omega) (by rw [Int.fmod_eq_emod_of_nonneg i (by omega)];exact q)
theorem YW {f:a9->Sem a9}{g:Int->Int}
  (rule:∀ (i:Int) (t:Tok) (s:af) (Q:a9->af->Prop) (E:a9->af->Prop),Q (.int (g i) s.toks) { s with toks:=s.toks + 1 }->aq (aL X.prog X.w) X.A (f (.int i t)) Q E s) :
  Xw X f (rU fun i=>.int (g i)):=by
 intro pins s σ H x v Q I rx h
 obtain ⟨i,rfl,q⟩:=h
 obtain ⟨t,rfl⟩:=rx
 exact rule i t s _ _ ⟨.int (g i),H,I.tok _,⟨_,rfl⟩,q⟩
theorem Tv:Xw X (unaryOp .USub) (rU fun i=>.int (-i)):=YW fun _ _ _ _ _ q=>neg_int q
end
def XB:V->V->Bool
 | .non,.non=>true | .non,.int _=>true | .int _,.non=>true | .non,.bl _=>true | .bl _,.non=>true | .non,.str _=>true | .str _,.non=>true
 | .int _,.int _=>true | .bl _,.bl _=>true | .str _,.str _=>true | .byt _,.byt _=>true
 | .int _,.str _=>true | .str _,.int _=>true | .bl _,.str _=>true | .str _,.bl _=>true
 | _,_=>false
def YX:R2:=fun x y H Q=>XB x y=true/\Q (.bl (!decide (x=y))) H
theorem Q6 {i j:Int}:decide (V.int i=V.int j)=(i == j):=by
 rw [eA]
 simp
theorem Tw {i j:Bool}:decide (V.bl i=V.bl j)=(i == j):=by
 rw [eA]
 simp
theorem Q7 {i j:Str}:decide (V.str i=V.str j)=(i == j):=by
 rw [eA]
 simp
theorem Q8 {i j:Array UInt8}:decide (V.byt i=V.byt j)=(i.toList == j.toList):=by
 rw [eA]
 cases i
 cases j
 simp
section
variable {X:Cx}{a b c:a_}{ta tb tc:TE}{pos:Pos}
theorem g_ {pins:List (ah×Obj)}{σ:St}{H:Hp}{s:af}{Q:VK}{k k':Bool} (I:bG X pins σ H s) (q:Q (.bl k) H) (e:k=k'):EP X pins σ Q (.bool k') s:=by
 subst e
 exact ⟨.bl k,H,I,rfl,q⟩
theorem Vh:qy X (bH .NotEq) YX:=by
 intro pins s σ H x y v u Q I rx ry h
 obtain ⟨hs,q⟩:=h
 cases x with
 | non =>
  cases rx
  cases y with
  | non=>cases ry;exact PySem.EqNone.ne_none_none (g_ I q (by simp))
  | bl j=>cases ry;exact PySem.EqNone.ne_none_bool (g_ I q (by simp))
  | int j=>obtain ⟨t',rfl⟩:=ry;exact PySem.EqNone.ne_none_int (g_ I q (by simp))
  | str j=>obtain ⟨t',rfl⟩:=ry;exact PySem.EqNone.ne_none_str (g_ I q (by simp))
  | _=>exact absurd (show false=true from hs) aY
 | bl i =>
  cases rx
  cases y with
  | non=>cases ry;exact PySem.EqNone.ne_bool_none (g_ I q (by simp))
  | bl j=>cases ry;exact ne_bool (g_ I q (congrArg not Tw))
  | str j=>obtain ⟨t',rfl⟩:=ry;exact PySem.EqMixed.ne_bool_str (g_ I q (by simp))
  | _=>exact absurd (show false=true from hs) aY
 | int i =>
  obtain ⟨t,rfl⟩:=rx
  cases y with
  | non=>cases ry;exact PySem.EqNone.ne_int_none (g_ I q (by simp))
  | int j=>obtain ⟨t',rfl⟩:=ry;exact ne_int (g_ I q (congrArg not Q6))
  | str j=>obtain ⟨t',rfl⟩:=ry;exact PySem.EqMixed.ne_int_str (g_ I q (by simp))
  | _=>exact absurd (show false=true from hs) aY
 | str i =>
  obtain ⟨t,rfl⟩:=rx
  cases y with
  | non=>cases ry;exact PySem.EqNone.ne_str_none (g_ I q (by simp))
  | bl j=>cases ry;exact PySem.EqMixed.ne_str_bool (g_ I q (by simp))
  | int j=>obtain ⟨t',rfl⟩:=ry;exact PySem.EqMixed.ne_str_int (g_ I q (by simp))
  | str j=>obtain ⟨t',rfl⟩:=ry;exact ne_str (g_ I q (congrArg not Q7))
  | _=>exact absurd (show false=true from hs) aY
 | byt i =>
  obtain ⟨t,rfl⟩:=rx
  cases y with
  | byt j=>obtain ⟨t',rfl⟩:=ry;exact PySem.W.ne_bytes (g_ I q (congrArg not Q8))
  | _=>exact absurd (show false=true from hs) aY
 | _=>cases y<;>exact absurd (show false=true from hs) aY
theorem Vi:qy X (bH .Lt) (Tn fun i j=>.bl (decide (i<j))):=Tp fun _ _ _ _ _ _ _ q=>lt_int q
theorem Vj:qy X (bH .LtE) (Tn fun i j=>.bl (decide (i<=j))):=Tp fun _ _ _ _ _ _ _ q=>le_int q
theorem Vk:qy X (bH .Gt) (Tn fun i j=>.bl (decide (j<i))):=Tp fun _ _ _ _ _ _ _ q=>gt_int q
theorem Kw:qy X (bH .Lt) (fun x y H Q=>∃ i j,x=.str i/\y=.str j/\Q (.bl (decide (i.cps.toList<j.cps.toList))) H):=by
 intro pins s σ H x y v u Q I rx ry h
 obtain ⟨i,j,rfl,rfl,q⟩:=h
 obtain ⟨t,rfl⟩:=rx
 obtain ⟨t',rfl⟩:=ry
 exact lt_str (g_ I q rfl)
theorem Tx:qy X (bH .Is) (fun x y H Q=>y=.non/\Q (.bl (decide (x=.non))) H):=by
 intro pins s σ H x y v u Q I rx ry h
 obtain ⟨rfl,q⟩:=h
 cases ry
 refine is_none_gen (g_ I q ?_)
 cases x<;>first
  | (cases rx;rfl)
  | (obtain ⟨t,rfl⟩:=rx;rfl)
theorem Q9:qy X (bH .IsNot) (fun x y H Q=>y=.non/\Q (.bl (!decide (x=.non))) H):=by
 intro pins s σ H x y v u Q I rx ry h
 obtain ⟨rfl,q⟩:=h
 cases ry
 refine isnot_none_gen (g_ I q ?_)
 cases x<;>first
  | (cases rx;rfl)
  | (obtain ⟨t,rfl⟩:=rx;rfl)
theorem GU (b:a_) {op:xQ} (h:op≠.In:=by decide) (h2:op≠.NotIn:=by decide):gY op b=false:=by
 have e1:(op == CmpOp.In)=false:=by cases op<;>first | rfl | exact absurd rfl h
 have e2:(op == CmpOp.NotIn)=false:=by cases op<;>first | rfl | exact absurd rfl h2
 cases b<;>simp [gY,e1,e2]
theorem Qa {op:xQ}{r:R2} (ho:qy X (bH op) r) (ha:PE X a ta) (hb:PE X b tb) (hm:gY op b=false):PE X (.Compare a [op] [b] pos) (Ve r ta tb):=by
 intro pins s σ H Q I h
 exact wpAny_Compare1 (To ha hb I h fun v u s2 x y H2 I2 rx ry q=>ho pins s2 σ H2 x y v u Q I2 rx ry q) hm
def RU (t:TE):TT:=fun σ H Q=>t σ H fun x H'=>∃ k,x=.bl k/\Q k H'
theorem IN {op:xQ}{r:R2} (ho:qy X (bH op) r) (ha:PE X a ta) (hb:PE X b tb) (hm:gY op b=false):PT X (.Compare a [op] [b] pos) (RU (Ve r ta tb)):=by
 intro pins s σ H Q I h
 refine Pj (fm (ha pins s σ H _ I h) fun v s1 ⟨x,H1,I1,r1,q1⟩=>fm (hb pins s1 σ H1 _ I1 q1) fun u s2 ⟨y,H2,I2,r2,q2⟩ =>
  fm (ho pins s2 σ H2 x y v u _ I2 r1 r2 q2) fun c s3 ⟨z,H3,I3,r3,k,e,q3⟩=>?_) hm
 subst e
 cases r3
 exact dm ⟨H3,I3,q3⟩
def GV (r r':R2) (ta tb tc:TE):TE:=fun σ H Q=>ta σ H fun x H1=>tb σ H1 fun y H2=>r x y H2 fun z H3=>∃ k,z=.bl k /\
 (if k=true then tc σ H3 fun w' H4=>r' y w' H4 Q else Q (.bl false) H3)
theorem Mt {op op':xQ}{r r':R2} (ho:qy X (bH op) r) (ho':qy X (bH op') r') (ha:PE X a ta) (hb:PE X b tb) (hc:PE X c tc)
  (hm:LN [op,op'] [b,c]=false:=by with_unfolding_all rfl):PE X (.Compare a [op,op'] [b,c] pos) (GV r r' ta tb tc):=by
 intro pins s σ H Q I h
 refine Compare_chain (fm (ha pins s σ H _ I h) fun v s1 ⟨x,H1,I1,r1,q1⟩=>chain_link (fm (hb pins s1 σ H1 _ I1 q1) fun u s2 ⟨y,H2,I2,r2,q2⟩ =>
  fm (ho pins s2 σ H2 x y v u _ I2 r1 r2 q2) fun d s3 ⟨z,H3,I3,r3,k,e,q3⟩=>?_)) hm
 subst e
 cases r3
 refine dm ?_
 cases k with
 | false=>exact ite_ff ⟨.bl false,H3,I3,rfl,q3⟩
 | true=>exact ite_tt (chain_last (fm (hc pins s3 σ H3 _ I3 q3) fun w' s4 h_22=>by obtain ⟨z',H4,I4,r4,q4⟩:=h_22;exact ho' pins s4 σ H4 y z' u w' Q I4 r2 r4 q4))
theorem Mu {op op':xQ}{r r':R2} (ho:qy X (bH op) r) (ho':qy X (bH op') r') (ha:PE X a ta) (hb:PE X b tb) (hc:PE X c tc)
  (hm:LN [op,op'] [b,c]=false:=by with_unfolding_all rfl):PT X (.Compare a [op,op'] [b,c] pos) (RU (GV r r' ta tb tc)):=by
 intro pins s σ H Q I h
 refine isTrue_chain (fm (ha pins s σ H _ I h) fun v s1 ⟨x,H1,I1,r1,q1⟩=>test_link (fm (hb pins s1 σ H1 _ I1 q1) fun u s2 ⟨y,H2,I2,r2,q2⟩ =>
  fm (ho pins s2 σ H2 x y v u _ I2 r1 r2 q2) fun d s3 ⟨z,H3,I3,r3,k,e,q3⟩=>?_)) hm
 subst e
 cases r3
 refine dm ?_
 cases k with
 | false =>
  obtain ⟨k',e',q'⟩:=q3
  cases e'
  exact ite_ff ⟨H3,I3,q'⟩
 | true =>
  refine ite_tt (test_last (fm (hc pins s3 σ H3 _ I3 q3) fun w' s4 ⟨z',H4,I4,r4,q4⟩=>fm (ho' pins s4 σ H4 y z' u w' _ I4 r2 r4 q4) fun d' s5 ⟨z2,H5,I5,r5,k2,e2,q5⟩=>?_))
  subst e2
  cases r5
  exact dm ⟨H5,I5,q5⟩
def Vl (K:a8) (x:V) (H:Hp) (k:Bool):Prop :=
 match x with
 | .non=>k=false
 | .bl b=>k=b
 | .int i=>k=(i != 0)
 | .str y=>y.length<=sizeLine/\k=((y.length:Int) != 0)
 | .byt y=>y.size<=sizeLine/\k=((y.size:Int) != 0)
 | .ref p=>(∃ xs,lZ K H p xs/\k=!xs.isEmpty)\/(∃ xs,kE K H p xs/\k=!xs.isEmpty)\/∃ kvs,H p=some (.dK kvs)/\k=!kvs.isEmpty
 | _=>False
theorem GW {κ:Type}{kvs:List (κ×V)}{vs:List (κ×a9)} (r:KV kvs vs):(!vs.isEmpty)=!kvs.isEmpty:=by
 cases r<;>rfl
theorem yB {xs:List V}{its:List a9} (r:da xs its):(!its.toArray.isEmpty)=!xs.isEmpty:=by
 cases r<;>simp
theorem wa:(sizeLine:Nat)<2 ^ 63:=by rw [DQ];decide
theorem Tz:Xx X (fun x H Q=>∃ k,Vl X.K x H k/\Q k H):=by
 intro pins s σ H x v Q I rx h
 obtain ⟨k,e,q⟩:=h
 have hl:=wa
 have hs:sizeLine=16777216:=DQ
 cases x with
 | non =>
  cases rx
  have e':k=false:=e
  subst e'
  exact truthy_none ⟨H,I,q⟩
 | bl b =>
  cases rx
  have e':k=b:=e
  subst e'
  exact dm ⟨H,I,q⟩
 | int i =>
  obtain ⟨t,rfl⟩:=rx
  have e':k=(i != 0):=e
  subst e'
  exact PySem.P.truthy_int ⟨H,I,q⟩
 | str y =>
  obtain ⟨t,rfl⟩:=rx
  obtain ⟨hy,e'⟩:y.length<=sizeLine/\k=((y.length:Int) != 0):=e
  subst e'
  exact PySem.P.truthy_str (by omega) ⟨H,I.tok _,q⟩
 | byt y =>
  obtain ⟨t,rfl⟩:=rx
  obtain ⟨hy,e'⟩:y.size<=sizeLine/\k=((y.size:Int) != 0):=e
  subst e'
  exact PySem.W.truthy_bytes (by omega) ⟨H,I.tok _,q⟩
 | ref p =>
  cases rx
  have e':(∃ xs,lZ X.K H p xs/\k=!xs.isEmpty)\/(∃ xs,kE X.K H p xs/\k=!xs.isEmpty)\/∃ kvs,H p=some (.dK kvs)/\k=!kvs.isEmpty:=e
  rcases e' with ⟨xs,hx,e'⟩ | ⟨xs,hx,e'⟩ | ⟨kvs,hx,e'⟩
  ·subst e'
   obtain ⟨its,r,pl,hz⟩:=I.list hx
   have hlen:=r.length
   exact wpAny_truthy_list pl.isList (by simp only [aJ];omega) ⟨H,I.tok _,by rw [yB r];exact q⟩
  ·subst e'
   obtain ⟨its,r,pl,hz⟩:=I.tuple hx
   have hlen:=r.length
   exact truthy_tuple pl (by simp only [aJ];omega) ⟨H,I.tok _,by rw [yB r];exact q⟩
  ·subst e'
   obtain ⟨hz,hS,vs,r,m⟩:kvs.length<=sizeLine/\(p == gd)=false/\∃ vs,KV kvs vs/\s.heap.DictOf (dv X.prog X.w) p vs:=I.hok p _ hx
   have hlen:kvs.length=vs.length:=j0 r
   exact wpAny_truthy_dict hS m (by omega) ⟨H,I.tok _,by rw [GW r];exact q⟩
 | _=>exact (show False from e).elim
theorem Mv (ha:PE X a ta) (he:∀ whole,vP a X.env whole=(do let v <- whole;wR a.pos;Gd [v] (truthy v))) :
  PT X a (fun σ H Q=>ta σ H fun x H'=>∃ k,Vl X.K x H' k/\Q k H'):=by
 intro pins s σ H Q I h
 exact isTrue_plain (fm (ha pins s σ H _ I h) fun v s1 h_23=>by obtain ⟨x,H1,I1,r1,q1⟩:=h_23;exact Tz pins s1 σ H1 x v Q I1 r1 q1) (he _)
theorem GX:qy X (gm .Add) (fun x y H Q=>∃ i j,x=.str i/\y=.str j/\i.length + j.length<=sizeLine/\Q (.str (i++j)) H):=by
 intro pins s σ H x y v u Q I rx ry h
 obtain ⟨i,j,rfl,rfl,hz,q⟩:=h
 obtain ⟨t,rfl⟩:=rx
 obtain ⟨t',rfl⟩:=ry
 exact add_str (fun t' tk=>⟨.str (i++j),H,I.tok _,⟨_,rfl⟩,q⟩) hz
theorem kF {x:V}{us:List a9} (r:da [x] us):∃ u,us=[u]/\dw x u:=by
 cases r with
 | cons r1 r2=>cases r2;exact ⟨_,rfl,r1⟩
theorem Mw {x y:V}{us:List a9} (r:da [x,y] us):∃ u w',us=[u,w']/\dw x u/\dw y w':=by
 cases r with
 | cons r1 r2 =>
  cases r2 with
  | cons r3 r4=>cases r4;exact ⟨_,_,rfl,r1,r3⟩
end
end L2
namespace L2
open PySem PySem.Spec PyProof.Rows
structure TC (h:bt) (x dx C:ah) (mA:Str->Option a9):Prop where
 obj:h.get? x=some (xr C dx)
 ns:h.Ns1 dx mA
 ne:dx≠x
theorem Kx {h:bt}{dx:ah}{mA:Str->Option a9} (n:h.Ns1 dx mA):∃ od,h.get? dx=some od/\∀ name,yp name od=some (mA name):=by
 obtain ⟨o,es,ep,ho,hd,hk,_,hm⟩:=n
 refine ⟨o,ho,fun name=>?_⟩
 have e:=hm name
 unfold nsFind findBy at e
 rw [<- Array.find?_toList] at e
 unfold yp
 rw [hd]
 dsimp only
 split
 ·rename_i y q
  rw [q] at e
  exact congrArg some e
 ·rename_i q
  rw [q] at e
  have a:es.toList.any (·.refKey)=false:=by
   rw [wS]
   intro y hy
   obtain ⟨z,t,hkey⟩:=hk y (Array.mem_toList_iff.mp hy)
   simp [DictEntry.refKey,hkey]
  have a':¬ es.toList.any (·.refKey)=true:=by rw [a];exact aY
  rw [if_neg a']
  exact congrArg some e
theorem TC.look {h:bt}{x dx C:ah}{mA:Str->Option a9} (I:TC h x dx C mA):∃ od,PySem.W.InstAt h x (xr C dx) C (some od)/\∀ name,yp name od=some (mA name) :=
 let ⟨od,ho,hl⟩:=Kx I.ns
 ⟨od,⟨I.obj,rfl,rfl,ho⟩,hl⟩
section
variable {prog:aO}{w:bd}{A:bg}{E:a9->af->Prop}{s:af}{K:a8}{x dx C f:ah}{mA:Str->Option a9}{name:Str}{v:a9}
end
theorem yy.some_of {v:V}{o:Option a9} (r:yy (some v) o):∃ u,o=some u/\dw v u:=by
 cases o with
 | none=>exact (show False from r).elim
 | some u=>exact ⟨u,rfl,r⟩
section
variable {P:aO}{w:bd}{H H':Hp}{h h':bt}{a C dx:ah}{fs fs':List (Str×V)}
theorem Qb (hok:qo P w H h) (e:H a=some (.ins C dx fs)):∃ mA,TC h a dx C mA/\(∀ f,yy (fs.lookup f) (mA f))/\PySem.Within mA (fs.map (·.1))/\fs.length<=1000/\H dx=some (.own a):=by
 obtain ⟨d,z,ne,ob,mA,n,r,q⟩:=(show db P w H h a (.ins C dx fs) from hok a _ e)
 exact ⟨mA,⟨ob,n,ne⟩,r,q,z,d⟩
end
structure XC (K:a8) (C:ah):Prop where
 pg:Kc K C Str.empty=true
 hd:PySem.W.hasDictIn K C=true
 po:PySem.W.plainOver K C=true
 sa:gH K (.ref C) "__setattr__"=some (some (.builtin "object.__setattr__"))
theorem XC.get {K:a8}{C:ah} (c:XC K C) (f:Str):Kc K C f=true:=c.pg
section
variable {X:Cx}{pins:List (ah×Obj)}{σ:St}{H:Hp}{s:af}{a C dx:ah}{fs:List (Str×V)}{f:Str}{v:V}{A:bg}{E:a9->af->Prop}
end
section
variable {X:Cx}{o e value:a_}{f:Str}{pos pos' tpos:Pos}{ta tv:TE}
end
section
variable {X:Cx}{pins:List (ah×Obj)}{σ:St}{H:Hp}{s:af}{A:bg}{E:a9->af->Prop}{Q:a9->af->Prop}{c:a9}{b:Bool}
inductive wc (K:a8) (H:Hp):V->a9->Prop where
 | non:wc K H .non (.type "NoneType")
 | bl (x:Bool):wc K H (.bl x) (.type "bool")
 | int (i:Int):wc K H (.int i) (.type "int")
 | str (x:Str):wc K H (.str x) (.type "str")
 | flt (x:UInt64):wc K H (.flt x) (.type "float")
 | lst {a:ah}{xs:List V} (e:H a=some (.lst xs)):wc K H (.ref a) (.type "list")
 | frz {a:ah}{o:Obj}{xs:List V} (e:H a=some (.frz o (.lst xs))):wc K H (.ref a) (.type "list")
 | tup {a:ah}{xs:List V} (e:H a=some (.tup xs)):wc K H (.ref a) (.type "tuple")
 | dK {a:ah}{kvs:List (cR×V)} (e:H a=some (.dK kvs)):wc K H (.ref a) (.type "dict")
 | dT {a:ah}{kvs:List (List cR×V)} (e:H a=some (.dT kvs)):wc K H (.ref a) (.type "dict")
 | ins {a C dx:ah}{fs:List (Str×V)} (e:H a=some (.ins C dx fs)) (cl:XC K C) (ha:gH K (.ref C) "__class__"=some (some (.builtin "object.__class__")))
   (hn:uD K (.builtin "object.__class__") "__get__"=some (some (.builtin "getset_descriptor.__get__"))) (htk:xu K (.builtin "object.__class__")=some true)
   (hm:eM K C (.type "object")=some true):wc K H (.ref a) (.ref C)
theorem oC {x:V}{u t:a9} (I:bG X pins σ H s) (rx:dw x u) (ty:wc X.K H x t) (e:dH X.K t c=some b) (h:∀ tk,Q (.bool b) { s with toks:=tk }) :
  aq (aL X.prog X.w) A (call (.builtin "isinstance") [u,c]) Q E s:=by
 cases ty with
 | non=>cases (show u=dW from rx);exact cF PySem.W.kitx_none I.kIn iN e (fun z=>nomatch z) h
 | bl y=>cases (show u=iB y from rx);exact cF PySem.W.kitx_bool I.kIn iN e (fun z=>nomatch z) h
 | int i=>obtain ⟨t,q⟩:=(show ∃ t,u=mP i t from rx);cases q;exact cF PySem.W.kitx_int I.kIn iN e (fun z=>nomatch z) h
 | str y=>obtain ⟨t,q⟩:=(show ∃ t,u=jv y t from rx);cases q;exact cF PySem.W.kitx_str I.kIn iN e (fun z=>nomatch z) h
 | flt y=>obtain ⟨t,q⟩:=(show ∃ t,u=Value.float y t from rx);cases q;exact cF PySem.W.kitx_float I.kIn iN e (fun z=>nomatch z) h
 | @lst a xs ea =>
  cases (show u=bL a from rx)
  obtain ⟨_,_,n,_,h1⟩:=(show db X.prog X.w H s.heap a (.lst xs) from I.hok a _ ea)
  exact cF uE I.kIn ⟨_,h1,rfl⟩ e (fun z=>nomatch z) h
 | @frz a ob xs ea =>
  cases (show u=bL a from rx)
  obtain ⟨_,_,_,n,_,h1⟩:=(show db X.prog X.w H s.heap a (.frz ob (.lst xs)) from I.hok a _ ea)
  exact cF uE I.kIn ⟨_,h1,rfl⟩ e (fun z=>nomatch z) h
 | @tup a xs ea =>
  cases (show u=bL a from rx)
  obtain ⟨_,_,_,p⟩:=(show db X.prog X.w H s.heap a (.tup xs) from I.hok a _ ea)
  obtain ⟨o,h1,h2,_⟩:=p
  exact cF Gs I.kIn ⟨o,h1,h2⟩ e (fun z=>nomatch z) h
 | @dK a kvs ea =>
  cases (show u=bL a from rx)
  obtain ⟨_,_,vs,_,p⟩:=(show db X.prog X.w H s.heap a (.dK kvs) from I.hok a _ ea)
  obtain ⟨o,es,ep,h1,h2,_⟩:=p
  exact cF IF I.kIn ⟨o,h1,h2.1⟩ e (fun z=>nomatch z) h
 | @dT a kvs ea =>
  cases (show u=bL a from rx)
  obtain ⟨_,_,xs,_,o,es,ep,h1,h2,_⟩:=(show db X.prog X.w H s.heap a (.dT kvs) from I.hok a _ ea)
  exact cF IF I.kIn ⟨o,h1,h2.1⟩ e (fun z=>nomatch z) h
 | @ins a C dx fs ea cl ha hn htk hm =>
  cases (show u=bL a from rx)
  obtain ⟨mA,O,_⟩:=Qb I.hok ea
  obtain ⟨od,J,_⟩:=O.look
  exact cF (PySem.W.kitx_own (cl.get _) cl.hd ha hn htk hm) I.kIn J e (fun z=>nomatch z) h
end
end L2
namespace L2
open PySem PySem.Spec PyProof.Rows
structure jt (k:Nat) (A:bg):Prop where
 hd:A.handled=none
 dp:A.depth + 3 * k + 5<Gu
 un:A.units + 16 * k + 200<kj
theorem jt.mono {j k:Nat}{A:bg} (r:jt k A) (h:j<=k):jt j A:=⟨r.hd,by have:=r.dp;omega,by have:=r.un;omega⟩
theorem jt.deeper {k:Nat}{A:bg} (r:jt (k + 1) A) (env:Env):jt k (A.deeper env) :=
 ⟨r.hd,by have:=r.dp;show A.depth + 1 + 3 * k + 5<_;omega,by have:=r.un;show A.units + 3 + 16 * k + 200<_;omega⟩
theorem jt.depth {k:Nat}{A:bg} (r:jt k A):A.depth<Gu:=by have:=r.dp;omega
theorem jt.units {k:Nat}{A:bg} (r:jt k A):A.units + 64<kj:=by have:=r.un;omega
def Mx:TA:=fun _ H Q=>Q [] H
def E7 (ta:TE) (tr:TA):TA:=fun σ H Q=>ta σ H fun x H1=>tr σ H1 fun xs H2=>Q (x::xs) H2
section
variable {X:Cx}{e:a_}{es:List a_}{te:TE}{t:TA}{pos:Pos}
theorem fe:PA X [] Mx:=fun _ _ _ _ H Q I h=>Calls.spliced_nil ⟨[],H,I,.nil,h⟩
theorem cf (ha:PE X e te) (hr:PA X es t) (hs:aA (e::es) X.env=(false,du e X.env)::aA es X.env:=by rfl):PA X (e::es) (E7 te t):=by
 intro pos pins s σ H Q I h
 rw [hs]
 show aq _ _ (spliced ((false,du e X.env)::fS pos (aA es X.env))) _ _ s
 refine Calls.spliced_cons (fm (ha pins s σ H _ I h) fun u s1 ⟨x,H1,I1,r1,q1⟩=>?_)
 exact fm (hr pos pins s1 σ H1 _ I1 q1) fun us s2 h_25=>by obtain ⟨xs,H2,I2,r2,q2⟩:=h_25;exact ⟨x::xs,H2,I2,.cons r1 r2,q2⟩
def XD (t:TA):TE:=fun σ H Q=>t σ H fun xs H1=>xs.length<=sizeLine/\∀ p,H1 p=none->Q (.ref p) (upd H1 p (.tup xs))
def XE (t:TA):TE:=fun σ H Q=>t σ H fun xs H1=>xs.length<=sizeLine/\∀ p,H1 p=none->Q (.ref p) (upd H1 p (.lst xs))
theorem My {x1} (h:PA X es t):PE X (.Tuple es x1 pos) (XD t):=by
 intro pins s σ H Q I hq
 refine wpAny_Tuple_spliced (fm (h pos pins s σ H _ I hq) fun us s1 ⟨xs,H1,I1,r,z,q⟩=>⟨by rw [<- r.length];exact z,?_⟩)
 have hf:H1 s1.heap.objs.size=none:=I1.hok.fresh (ar _)
 refine ⟨.ref s1.heap.objs.size,upd H1 s1.heap.objs.size (.tup xs),I1.laid (t':=s1.toks) (fun b u e=>ag _ e) (ar _) ?_,rfl,q _ hf⟩
 exact ⟨z,us,r,⟨_,az _ rfl,rfl,_,rfl⟩⟩
theorem o0 (h:PA X es t):PE X (.List es pos) (XE t):=by
 intro pins s σ H Q I hq
 refine wpAny_List_spliced (fm (h pos pins s σ H _ I hq) fun us s1 ⟨xs,H1,I1,r,z,q⟩=>⟨by rw [<- r.length];exact z,?_⟩)
 have hf:H1 s1.heap.objs.size=none:=I1.hok.fresh (ar _)
 refine ⟨.ref s1.heap.objs.size,upd H1 s1.heap.objs.size (.lst xs),I1.laid (t':=s1.toks) (fun b u e=>ag _ e) (ar _) ?_,rfl,q _ hf⟩
 exact ⟨z,us,0,r,az _ rfl⟩
end
abbrev Sp:=List V->Hp->VK->XK->Prop
abbrev IP:=List Env->Hp->af->XK->a9->af->Prop
structure GY (P:aO) (w:bd) (K:a8) (mg:Str->Option a9) (base:bt) (A:bg) (outer:List Env) (s:af) (H:Hp):Prop where
 frames:A.frames=some outer
 mod:Mod K mg base
 bs:∀ b o,base.get? b=some o->s.heap.get? b=some o/\H b=none
 bsz:base.objs.size<=s.heap.objs.size
 funs:s.heap.FunFrames base outer
 frf:∀ b∈rP outer,H b=none
 hok:qo P w H s.heap
 bare:qC s.gens
inductive CE (outer:List Env) (P:aO) (w:bd) (H:Hp) (s:af) (Q:VK) (u:a9) (s':af):Prop
 | mk (v H':_) (h0:s'.os=s.os) (h1:qC s'.gens) (h2:Un (rP outer) [] H H' s.heap s'.heap) (h3:qo P w H' s'.heap) (h4:dw v u) (h5:Q v H'):CE outer P w H s Q u s'
def CR (CX:IP) (outer:List Env) (P:aO) (w:bd) (H:Hp) (s:af) (Q:VK) (E:XK) (r:vQ) (s':af):Prop :=
 match r with
 | .ok (.ret u)=>CE outer P w H s Q u s'
 | .ok _=>False
 | .error e=>CX outer H s E e s'
structure sO (P:aO) (w:bd) (K:a8) (mg:Str->Option a9) (base:bt) (CX:IP) (k:Nat) (f:ah) (fd:dL) (ps:List Str) (sp:Sp):Prop where
 len:∀ vs H Q E,sp vs H Q E->vs.length=ps.length
 run:∀ (A:bg) (outer:List Env) (s:af) (H:Hp) (args:Args) (us:List a9) (vs:List V) (Q:VK) (E:XK),jt k A->GY P w K mg base A outer s H->Ao s fd args (ps.zip us)->da vs us->sp vs H Q E ->
  hZ (aL P w) A (.call (.ref f) args) (CR CX outer P w H s Q E) s
theorem sO.imp {P:aO}{w:bd}{K:a8}{mg:Str->Option a9}{base:bt}{CX:IP}{k:Nat}{f:ah}{fd:dL}{ps:List Str}{sp sp':Sp} (F:sO P w K mg base CX k f fd ps sp)
  (h:∀ vs H Q E,sp' vs H Q E->sp vs H Q E):sO P w K mg base CX k f fd ps sp' :=
 ⟨fun vs H Q E q=>F.len vs H Q E (h _ _ _ _ q),fun A outer s H args us vs Q E hr he hb hv hs=>F.run A outer s H args us vs Q E hr he hb hv (h _ _ _ _ hs)⟩
section
variable {X:Cx}{pins:List (ah×Obj)}{σ:St}{H:Hp}{s s':af}
theorem bG.env0 (I:bG X pins σ H s):GY X.prog X.w X.K X.mg X.base X.A X.stack s H :=
 ⟨I.ok.frames,I.ok.mod,I.bs,bR I.ok.bsz I.sz,I.stack,I.stkFree,I.hok,I.bare⟩
theorem bG.after {Q:VK}{u:a9} (I:bG X pins σ H s) (h:CE X.stack X.prog X.w H s Q u s'):EP X pins σ Q u s':=by
 obtain ⟨v,H',os,bare,un,hok,r,q⟩:=h
 obtain ⟨hh,g,d,t,os'⟩:=s'
 obtain rfl:os'=s.os:=os
 exact ⟨v,H',I.call (h':=hh) (g':=g) (d':=d) (t':=t) (ch:=[]) un hok bare (fun b z=>absurd z (by simp)),r,q⟩
end
def IQ (sp:Sp) (dvs:List V) (E:XK) (t:TA):TE:=fun σ H Q=>t σ H fun vs H1=>sp (vs++dvs) H1 Q E
def jA (K:a8) (fd:dL) (ps:List Str) (ds:List a9):Prop :=
 ∀ (s:af) (us:List a9),K.In s.heap->(us++ds).length=ps.length->Ao s fd ⟨us,[]⟩ (ps.zip (us++ds))
theorem jA.all {K:a8}{fd:dL}{ps:List Str} (h:∀ us:List a9,us.length=ps.length->bindArgs fd ⟨us,[]⟩=pure (ps.zip us)):jA K fd ps []:=fun s us _ hl=>by
 rw [bV] at hl ⊢
 exact .of_eq (h us hl)
def jB (CX:IP) (X:Cx) (E:XK):Prop:=∀ (pins:List (ah×Obj)) (σ:St) (H:Hp) (s:af) (e:a9) (s':af),bG X pins σ H s->CX X.stack H s E e s'->X.xe e s'
section
variable {X:Cx}{CX:IP}{k:Nat}{f C:ah}{fd:dL}{ps:List Str}{sp:Sp}{dvs:List V}{ds:List a9}{E:XK}{x m:Str}{p pos apos:Pos}{e o:a_}{es:List a_}{ta:TE}{t:TA}
theorem Mz {pins:List (ah×Obj)}{σ:St}{H:Hp}{s:af}{Q:VK}{us:List a9}{vs:List V} (F:sO X.prog X.w X.K X.mg X.base CX k f fd ps sp) (hr:jt k X.A) (hb:jA X.K fd ps ds) (hd:da dvs ds) (hx:jB CX X E)
  (I:bG X pins σ H s) (r:da vs us) (h:sp (vs++dvs) H Q E):aq (aL X.prog X.w) X.A (call (.ref f) us) (EP X pins σ Q) X.xe s:=by
 have r2:da (vs++dvs) (us++ds):=r.append hd
 have hl:(us++ds).length=ps.length:=by rw [<- r2.length];exact F.len _ _ _ _ h
 refine yq (oz (F.run X.A X.stack s H ⟨us,[]⟩ (us++ds) (vs++dvs) Q E hr I.env0 (hb s us I.kIn hl) r2 h) fun r s' hq=>?_)
 cases r with
 | error e=>exact hx pins σ H s e s' I hq
 | ok fl =>
  cases fl with
  | ret u=>exact I.after hq
  | next=>exact eN hq
  | brk=>exact eN hq
  | cont=>exact eN hq
theorem IR (F:sO X.prog X.w X.K X.mg X.base CX k f fd ps sp) (hr:jt k X.A) (hg:Gl X x) (hm:X.mg x=some (.ref f)) (hk:e6 X.K (.ref f)=true) (hb:jA X.K fd ps ds) (hd:da dvs ds) (hx:jB CX X E)
  (ha:PA X (e::es) t) (hdb:(x == ("__debug__" : Str))=false:=by decide) (he:aA (e::es) X.env=(false,du e X.env)::aA es X.env:=by rfl) (hpl:(fS pos (aA es X.env)).any (·.1)=false:=by rfl) :
  PE X (.Call (.Name x p) (e::es) [] pos) (IQ sp dvs E t):=by
 intro pins s σ H Q I h
 refine jW (xY I hg hm ?_ hdb)
 refine tF (h₀:=X.base) I.ok.mod.kin hk (fm (ha pos pins s σ H _ I h) fun us s1 ⟨vs,H1,I1,r,q⟩=>⟨I1.kIn,?_⟩) he hpl
 exact Mz F hr hb hd hx I1 r q
end
section
variable {X:Cx}{CX:IP}{k:Nat}{f C:ah}{fd:dL}{ps ks:List Str}{sp:Sp}{E:XK}{x m:Str}{p pos apos kpos:Pos}{e o:a_}{es:List a_}{kws:List Ap}{te ta:TE}{t tk:TA}{nm:Option Str}
variable {g:List a9->List a9->List a9}{gV:List V->List V->List V}
end
structure bu (N P:List Str) (sc:eT):Prop where
 kind:sc.kind=.function
 co:sc.isCoroutine=false
 gen:sc.isGenerator=false
 nd:N.Nodup
 pre:N.take P.length=P
 par:∀ x∈P,sc.names.lookup x=some .local\/sc.names.lookup x=some .cell
 nofree:∀ y∈sc.names,y.2≠.free
theorem Bk {kindOf:Str->Option jN}{x:Str}:∀ {binds:List (Str×a9)}{m:Str->Option a9},(∀ v,(x,v)∉binds)->Gv kindOf binds m x=m x
 | [],_,_=>rfl
 | (n,v)::r,m,h=>by
  unfold Gv
  rw [Bk fun w hw=>h w (am _ hw)]
  split
  ·have:x≠n:=by rintro rfl;exact h v ao
   simp [this]
  ·rfl
theorem Bl {kindOf:Str->Option jN}{x:Str}:∀ {binds:List (Str×a9)}{m:Str->Option a9},(∀ v,(x,v)∉binds)->Gw kindOf binds m x=m x
 | [],_,_=>rfl
 | (n,v)::r,m,h=>by
  unfold Gw
  rw [Bl fun w hw=>h w (am _ hw)]
  split
  ·rfl
  ·have:x≠n:=by rintro rfl;exact h v ao
   simp [this]
theorem Bm {kindOf:Str->Option jN}{x:Str}{v:a9}:∀ {P:List Str}{vs:List a9}{i:Nat}{m:Str->Option a9},P.Nodup->P[i]?=some x->vs[i]?=some v->kindOf x=some .local ->
  Gv kindOf (P.zip vs) m x=some v
 | [],_,_,_,_,h,_,_=>by simp at h
 | _::_,[],_,_,_,_,h,_=>by simp at h
 | p::P,w::vs,0,m,nd,h1,h2,hk=>by
  simp at h1 h2;subst h1;subst h2
  show Gv kindOf ((p,w)::P.zip vs) m p=_
  unfold Gv
  rw [Bk fun v hv=>(List.nodup_cons.mp nd).1 (qK hv).1,if_pos hk]
  simp
 | p::P,w::vs,i + 1,m,nd,h1,h2,hk=>by
  show Gv kindOf ((p,w)::P.zip vs) m x=_
  unfold Gv
  exact Bm (i:=i) (List.nodup_cons.mp nd).2 (by simpa using h1) (by simpa using h2) hk
theorem Bo {kindOf:Str->Option jN}{x:Str}{v:a9}:∀ {P:List Str}{vs:List a9}{i:Nat}{m:Str->Option a9},P.Nodup->P[i]?=some x->vs[i]?=some v->kindOf x≠some .local ->
  Gw kindOf (P.zip vs) m x=some v
 | [],_,_,_,_,h,_,_=>by simp at h
 | _::_,[],_,_,_,_,h,_=>by simp at h
 | p::P,w::vs,0,m,nd,h1,h2,hk=>by
  simp at h1 h2;subst h1;subst h2
  show Gw kindOf ((p,w)::P.zip vs) m p=_
  unfold Gw
  rw [Bl fun v hv=>(List.nodup_cons.mp nd).1 (qK hv).1,if_neg hk]
  simp
 | p::P,w::vs,i + 1,m,nd,h1,h2,hk=>by
  show Gw kindOf ((p,w)::P.zip vs) m x=_
  unfold Gw
  exact Bo (i:=i) (List.nodup_cons.mp nd).2 (by simpa using h1) (by simpa using h2) hk
def start (N:List Str) (vs:List V):St:=vs.map some++mX (N.length - vs.length) none
def j4 (CX:IP) (P:aO) (w:bd) (K:a8) (mg:Str->Option a9) (base:bt) (N:List Str) (qual:Str) (scope:eT) (f:ah) (cd:a9) (A:bg) (outer:List Env) (s:af) (H:Hp) (E:XK):Cx where
 prog:=P
 w:=w
 K:=K
 mg:=mg
 base:=base
 A:=A.deeper (j3 qual scope s.heap.objs.size f cd)
 N:=N
 s₀:=s
 H₀:=H
 env:=j3 qual scope s.heap.objs.size f cd
 outer:=outer
 stack:=j3 qual scope s.heap.objs.size f cd::outer
 ex:=[]
 calm:=true
 fn:=fun _=>true
 pn:=[]
 xe:=fun e s'=>aq (aL P w) (A.deeper (j3 qual scope s.heap.objs.size f cd)) (leaving (j3 qual scope s.heap.objs.size f cd) e) (fun _ s''=>CX outer H s E e s'') (fun e' s''=>CX outer H s E e' s'') s'
theorem E8 {sc:eT}{n:Nat}{x:Str} (h:sc.names.lookup x=some .cell):∃ c,(bn n sc.names []).lookup x=some c:=by
 have q:=fk sc.names n [] (.inl h)
 exact Option.isSome_iff_exists.mp q
theorem Bp {CX:IP}{P:aO}{w:bd}{K:a8}{mg:Str->Option a9}{base:bt}{N ps:List Str}{qual:Str}{scope:eT}{f:ah}{cd:a9}{A:bg}{outer:List Env}{s s1:af}{H:Hp}{E:XK}{us:List a9}{vs:List V}
  (S:bu N ps scope) (hd:A.handled=none) (e0:GY P w K mg base A outer s H) (hl:vs.length=ps.length) (r:da vs us)
  (x:InCallC s s.heap.objs.size (Gv (j3 qual scope s.heap.objs.size f cd).kindOf (ps.zip us) fun _=>none) (bn (s.heap.objs.size + 1) scope.names []) (Gw (j3 qual scope s.heap.objs.size f cd).kindOf (ps.zip us) fun _=>none) s1) :
  bG (j4 CX P w K mg base N qual scope f cd A outer s H E) [] (start N vs) H s1:=by
 have hpl:ps.length<=N.length:=by have:=congrArg sX S.pre;rw [xT] at this;omega
 obtain ⟨h1,tk,rfl,hk⟩:=x.done
 have noA:∀ b:ah,b∉(j4 CX P w K mg base N qual scope f cd A outer s H E).ex:=fun b z=>absurd (show b∈([] : List ah) from z) (by simp)
 refine ⟨⟨e0.mod,S.kind,rfl,rfl,ar _,fun y z c h1 h2=>?_,fun y hy=>?_,fun y c _ h=>?_,fun _=>hd,Around.frames_deeper e0.frames,.inr ⟨rfl,rfl⟩,fun b z=>absurd z (noA b),e0.bs,e0.bsz,fun b _ _=>noA b,fun b z=>absurd z (noA b),e0.funs,e0.frf⟩,
  rfl,e0.bare,Un.kept hk,⟨_,x.toInCall.ns,fun i y v h1 h2 h3=>?_⟩,fun y c h=>⟨_,x.cell y c h⟩,e0.hok.fresh (ar _),fun y c h=>?_,fun p hp=>absurd (show p∈([] : List (ah×Obj)) from hp) (by simp),e0.hok.kept hk,?_⟩
 ·exact name_of_addr x.apart (dG h1) (dG h2)
 ·have hy:scope.names.lookup y=some .cell\/scope.names.lookup y=some .free:=hy
  rcases hy with hy | hy
  ·exact E8 hy
  ·exact absurd rfl (S.nofree _ (dG hy))
 ·exact bC (x.above y c (dG h))
 ·have hi:i<vs.length:=by
   unfold start at h2
   by_cases hi:i<vs.length
   ·exact hi
   ·rw [bq (by simpa using hi)] at h2
    rw [bQ] at h2
    split at h2<;>cases h2
  have ha:vs[i]?=some v:=by
   unfold start at h2
   rw [bw (by simpa using hi),aP] at h2
   cases e:vs[i]? with
   | none=>rw [e] at h2;cases h2
   | some a=>rw [e] at h2;cases h2;rfl
  obtain ⟨u,hu,rv⟩:=r.get ha
  have hp:ps[i]?=some y:=by
   rw [<- S.pre,List.getElem?_take_of_lt (by omega)];exact h1
  have ndP:ps.Nodup:=by rw [<- S.pre];exact S.nd.sublist (List.take_sublist _ _)
  refine ⟨u,rv,?_⟩
  rcases S.par y (cO hp) with k | k
  ·exact .inl ⟨k,Bm ndP hp hu k⟩
  ·obtain ⟨c,e⟩:=E8 (n:=s.heap.objs.size + 1) k
   refine .inr ⟨.inl k,c,e,?_⟩
   have q:=x.cell y c e
   rw [Bo ndP hp hu (by show scope.names.lookup y≠_;rw [k];decide)] at q
   exact q
 ·exact e0.hok.fresh (bC (x.above y c (dG h)))
 ·unfold start
  show _=N.length
  rw [aB,al,cZ]
  omega
theorem RV {CX:IP}{P:aO}{w:bd}{K:a8}{mg:Str->Option a9}{base:bt}{k:Nat}{f:ah}{name qual:Str}{params:Arguments}{body:List cp}{scope:eT}{dV kV doc pm cdv ct oc:a9}{an od:Option ah}
  {osl:Array (Option a9)}{N ps:List Str}{sp:Sp} (lk:K.lookup f=some ⟨oc,od,.func (eO name qual params body scope dV kV doc pm an cdv ct),osl⟩) (hcd:jx K cdv qual=true) (S:bu N ps scope)
  (len:∀ vs H Q E,sp vs H Q E->vs.length=ps.length)
  (hbody:∀ (A:bg) (outer:List Env) (s:af) (H:Hp) (vs:List V) (Q:VK) (E:XK),jt k (A.deeper (j3 qual scope s.heap.objs.size f cdv))->sp vs H Q E ->
   ∃ t,AB (j4 CX P w K mg base N qual scope f cdv A outer s H E) body t/\t { nx:=fun _ H'=>Q .non H',rt:=Q } (start N vs) H) :
  sO P w K mg base CX (k + 1) f (eO name qual params body scope dV kV doc pm an cdv ct) ps sp:=by
 refine ⟨len,fun A outer s H args us vs Q E hr e0 hb r hsp=>?_⟩
 have hl:=len _ _ _ _ hsp
 have KX:K.In s.heap:=e0.mod.kin.keeps fun b o e=>(e0.bs b o e).1
 have lim:s.heap.NoLimit:=e0.mod.nolimit.keeps fun b o e=>(e0.bs b o e).1
 have hkind:∀ y∈ps.zip us,scope.names.lookup y.1=some .local\/(scope.names.lookup y.1=some .cell/\((bn (s.heap.objs.size + 1) scope.names []).lookup y.1).isSome=true):=fun ⟨n,v⟩ hy=>by
  rcases S.par n (qK hy).1 with q | q
  ·exact .inl q
  ·exact .inr ⟨q,fk _ _ _ (.inl q)⟩
 refine Pk hr.depth (KX _ _ lk) rfl S.co S.gen rfl (Gx KX hcd) (hb _ _ _ _ ?_)
 refine Gy S.kind hkind fun env he s1 x=>?_
 subst he
 refine ⟨lim.keeps x.toInCall.keep,codeAny_func ?_⟩
 obtain ⟨t,ht,hq⟩:=hbody A outer s H vs Q E (hr.deeper _) hsp
 have I:bG (j4 CX P w K mg base N qual scope f cdv A outer s H E) [] (start N vs) H s1:=Bp S hr.hd e0 hl r x
 refine bE (ht [] s1 (start N vs) H _ I hq) (fun fl s' hs=>?_) fun e s' hs=>hs
 have fin:∀ {σ':St}{H':Hp}{v:V}{u:a9},bG (j4 CX P w K mg base N qual scope f cdv A outer s H E) [] σ' H' s'->dw v u->Q v H'->CE outer P w H s Q u s' :=
  fun {σ' H' v u} J rv q=>⟨v,H',J.os,J.bare,J.base,J.hok,rv,q⟩
 cases fl with
 | ret u =>
  obtain ⟨v,σ',H',J,rv,q⟩:=hs
  exact fin J rv q
 | next =>
  obtain ⟨σ',H',J,q⟩:=hs
  exact fin (v:=V.non) (u:=dW) J rfl q
 | brk =>
  obtain ⟨_,_,_,q⟩:=hs
  exact eN q
 | cont =>
  obtain ⟨_,_,_,q⟩:=hs
  exact eN q
end L2
namespace L2
open PySem PySem.Spec PyProof.Rows
section
variable {X:Cx}{x:Str}{p pos:Pos}{e:a_}{es:List a_}{t:TA}{id T:String}{r:List V->Hp->VK->Prop}
def UY (r:List V->Hp->VK->Prop) (t:TA):TE:=fun σ H Q=>t σ H fun vs H1=>r vs H1 Q
theorem oE (hc:jb X (.builtin id) r) (hg:Gl X x) (hm:X.mg x=none) (hv:ij x=some (.builtin id)) (ha:PA X (e::es) t) (hn:x≠"__name__":=by decide) (hdb:(x == ("__debug__" : Str))=false:=by decide)
  (he:aA (e::es) X.env=(false,du e X.env)::aA es X.env:=by rfl) (hpl:(fS pos (aA es X.env)).any (·.1)=false:=by rfl):PE X (.Call (.Name x p) (e::es) [] pos) (UY r t):=by
 intro pins s σ H Q I h
 refine jW (tN I hg hm hv ?_ hn hdb)
 exact PyProof.Rows.callWith_builtin1 (fm (ha pos pins s σ H _ I h) fun us s1 h_27=>by obtain ⟨vs,H1,I1,r1,q1⟩:=h_27;exact hc pins s1 σ H1 vs us Q I1 r1 q1) he hpl
theorem we (hc:jb X (.type T) r) (hg:Gl X x) (hm:X.mg x=none) (hv:ij x=some (.type T)) (ha:PA X (e::es) t) (hn:x≠"__name__":=by decide) (hdb:(x == ("__debug__" : Str))=false:=by decide)
  (he:aA (e::es) X.env=(false,du e X.env)::aA es X.env:=by rfl) (hpl:(fS pos (aA es X.env)).any (·.1)=false:=by rfl):PE X (.Call (.Name x p) (e::es) [] pos) (UY r t):=by
 intro pins s σ H Q I h
 refine jW (tN I hg hm hv ?_ hn hdb)
 exact e_ (fm (ha pos pins s σ H _ I h) fun us s1 h_28=>by obtain ⟨vs,H1,I1,r1,q1⟩:=h_28;exact hc pins s1 σ H1 vs us Q I1 r1 q1) he hpl
end
end L2
namespace HT
open PySem PyProof.Rows
section
open PySem.SeqAt
open PySem.AutoSeq1 (wpAny_loadPart')
open PySem.MeetsSeq PySem.MeetsSeq2 PySem.MeetsSeq3
end
section
variable {prog:aO}{w:bd}{A:bg}{E:a9->af->Prop}{s:af}
theorem Qc {t b:ah}{vs ws:List a9}{Q:a9->af->Prop} (ht:Gp s.heap t vs.toArray) (hb:Gp s.heap b ws.toArray) (hv:vs≠[])
  (h1:ws=[]->Q (.ref t) s) (h2:ws≠[]->Q (.ref s.heap.objs.size) { s with heap:=s.heap.push { cls:=.type "tuple",data:=.seq (vs++ws).toArray } })
  (hsz:vs.length + ws.length<=sizeLine):aq (aL prog w) A (gm .Add (.ref t) (.ref b)) Q E s:=by
 obtain ⟨⟨cls,dd,data,sl⟩,ho,hc,n,hd⟩:=id ht
 obtain ⟨⟨cls2,dd2,data2,sl2⟩,ho2,hc2,n2,hd2⟩:=id hb
 simp only at hc hd hc2 hd2
 subst hc hd hc2 hd2
 have e:vs.toArray++ws.toArray=(vs++ws).toArray:=by simp
 by_cases hw:ws=[]
 ·exact Aq ⟨_,ho,rfl⟩ ⟨_,ho2,rfl⟩ Ce Kd oX oA (nY _ _)
   (tuple_addW1 t b vs.toArray ws.toArray n n2 dd dd2 sl sl2 (by simpa using hv) (by simp [hw])) ⟨ho,ho2,h1 hw⟩
 ·refine Aq ⟨_,ho,rfl⟩ ⟨_,ho2,rfl⟩ Ce Kd oX oA (nY _ _)
   (tuple_addW2 t b vs.toArray ws.toArray n n2 dd dd2 sl sl2 (by simpa using hv) (by simpa using hw) (by rw [aJ,aJ];exact hsz)) ⟨ho,ho2,?_⟩
  rw [e]
  exact h2 hw
def iR (n d:Nat):Option Int->Nat
 | none=>d
 | some v=>if v<0 then (v + (n:Int)).toNat else min v.toNat n
theorem E9 (n d:Nat):iR n d none=d:=rfl
theorem IS (n d k:Nat):iR n d (some (k:Int))=min k n:=by
 show (if (k:Int)<0 then ((k:Int) + (n:Int)).toNat else min (k:Int).toNat n)=min k n
 rw [if_neg (by omega),jX]
theorem TD (n d:Nat) (hd:d<=n) (o:Option Int):iR n d o<=n:=by
 cases o with
 | none=>exact hd
 | some v =>
  show (if v<0 then (v + (n:Int)).toNat else min v.toNat n)<=n
  by_cases hv:v<0
  ·rw [if_pos hv];omega
  ·rw [if_neg hv];exact qw _ _
theorem IT (v:Int) (n d:Nat):(if v<0 then max (v + (n:Int)) 0 else min v (n:Int))=((iR n d (some v):Nat):Int):=by
 show (if v<0 then max (v + (n:Int)) 0 else min v (n:Int))=(((if v<0 then (v + (n:Int)).toNat else min v.toNat n):Nat):Int)
 by_cases hv:v<0
 ·simp only [if_pos hv];omega
 ·simp only [if_neg hv];omega
theorem GZ (lo hi:Option Int) (n:Nat):kX lo hi 1 (n:Int)=(((iR n 0 lo:Nat):Int),((iR n n hi:Nat):Int)):=by
 have h1:¬ ((1:Int)<0):=by omega
 unfold kX
 simp only [h1,if_false]
 refine Prod.ext ?_ ?_
 ·cases lo with
  | none=>rfl
  | some v=>exact IT v n 0
 ·cases hi with
  | none=>rfl
  | some v=>exact IT v n n
theorem G_ (i j:Nat):i6 (i:Int) (j:Int) 1=j - i:=by
 unfold i6
 have h1:(1:Int) > 0:=by omega
 simp only [h1,if_true,Int.ediv_one]
 split<;>omega
theorem yC {v:a9}{o:Option Int}{Q:Option Int->af->Prop} (p:vR v o) (h:Q o s):aq (aL prog w) A (Builtin.Slice.slicePartIndex v) Q E s:=by
 cases p with
 | none=>exact slicePart_none h
 | int i t=>exact slicePart_int h
theorem oF {sl:ah}{vl vu:a9}{lo hi:Option Int}{n:Nat}{Q:Int×Int×Nat->af->Prop} (hs:s.heap.IsSliceOf sl vl vu .none) (pl:vR vl lo) (pu:vR vu hi)
  (h:Q (((iR n 0 lo:Nat):Int),1,iR n n hi - iR n 0 lo) s):aq (aL prog w) A (uF (.ref sl) (pure (n:Int))) Q E s:=by
 obtain ⟨os,hos,hcs,hds⟩:=id hs
 unfold uF Builtin.Slice.sliceFields
 refine a7 (a7 (dS hos hds (x:=vl) rfl (a7 (dS hos hds (x:=vu) rfl (a7 (dS hos hds (x:=.none) rfl (ae ?_)))))))
 refine a7 (slicePart_none ?_)
 show aq _ _ (if ((1:Int) == 0)=true then _ else _) _ _ s
 rw [if_neg (by decide)]
 refine a7 (yC pl (a7 (yC pu (a7 (ae ?_)))))
 show aq _ _ (match kX lo hi 1 (n:Int) with | (lo,hi)=>pure (lo,(1:Int),i6 lo hi 1)) _ _ s
 rw [GZ lo hi n]
 show aq _ _ (pure (((iR n 0 lo:Nat):Int),(1:Int),i6 ((iR n 0 lo:Nat):Int) ((iR n n hi:Nat):Int) 1)) _ _ s
 rw [G_]
 exact ae h
theorem MA (xs:Array a9) (i k:Nat):((bv k).filterMap fun (m:Nat)=>xs[((i:Int) + (m:Int) * 1).toNat]?).toArray=((xs.toList.drop i).take k).toArray:=by
 have e:(fun (m:Nat)=>xs[((i:Int) + (m:Int) * 1).toNat]?)=fun m=>xs[i + m]?:=by
  funext m
  have:((i:Int) + (m:Int) * 1).toNat=i + m:=by omega
  rw [this]
 rw [e]
 have:=pick_run xs i k
 rw [mY] at this
 have e2:((fun x=>xs[x]?)∘fun x=>i + x)=fun m=>xs[i + m]?:=rfl
 rw [e2] at this
 rw [this]
theorem uQ {t sl:ah}{items:Array a9}{vl vu:a9}{lo hi:Option Int}{Q:a9->af->Prop} (ht:Gp s.heap t items) (hs:s.heap.IsSliceOf sl vl vu .none) (pl:vR vl lo) (pu:vR vu hi)
  (hw:¬ (iR items.size 0 lo=0/\iR items.size items.size hi=items.size))
  (h:Q (.ref s.heap.objs.size) { s with heap:=s.heap.push { cls:=.type "tuple",data:=.seq ((items.toList.drop (iR items.size 0 lo)).take (iR items.size items.size hi - iR items.size 0 lo)).toArray } })
  (hsz:items.size<=sizeLine):aq (aL prog w) A (qD (.ref t) (.ref sl)) Q E s:=by
 have htake:sizeOk (.seq ((items.toList.drop (iR items.size 0 lo)).take (iR items.size items.size hi - iR items.size 0 lo)).toArray):=by
  show ((items.toList.drop (iR items.size 0 lo)).take (iR items.size items.size hi - iR items.size 0 lo)).toArray.size<=sizeLine
  rw [aJ,xT,xU,av]
  omega
 have hj:iR items.size items.size hi<=items.size:=TD _ _ (ar _) hi
 obtain ⟨os,hos,hcs,hds⟩:=id hs
 have hTs:s.TypeIs (.ref sl) "slice":=⟨os,hos,hcs⟩
 unfold qD
 try with_reducible refine cr ?_
 first | refine a7 (ae ?_) | skip
 refine a7 (wpAny_sequenceKey ht.typeIs (by decide) ?_)
 refine a7 (cn (name:=gF "__getitem__") ht.typeIs fU
  (c8 fU ht.typeIs entry_tuple_getitem ?_ (args_tuple_getitem _ _)))
 show aq _ _ (uG (.ref t) >>= _) _ _ s
 refine a7 (tupleItemsOf_ ht ?_)
 refine a7 (kY hTs ?_)
 rw [if_pos (by decide)]
 refine a7 (oF hs pl pu ?_)
 have hno:¬ ((((iR items.size 0 lo:Nat):Int) == 0 && (1:Int) == 1 && (iR items.size items.size hi - iR items.size 0 lo) == items.size)=true):=by
  intro q
  rw [aT,aT] at q
  have q1:((iR items.size 0 lo:Nat):Int)=0:=eq_of_beq q.1.1
  have q2:iR items.size items.size hi - iR items.size 0 lo=items.size:=eq_of_beq q.2
  exact hw ⟨by omega,by omega⟩
 show aq _ _ (if (((iR items.size 0 lo:Nat):Int) == 0 && (1:Int) == 1 && (iR items.size items.size hi - iR items.size 0 lo) == items.size)=true then _ else _) _ _ s
 rw [if_neg hno,MA]
 first
  | exact a7 (m:=il _) (bW (ae ⟨_,rfl,ae h⟩) htake)
  | exact a7 (m:=il _) (bW (a7 (ae (ae ⟨_,rfl,ae h⟩))) htake)
  | exact a7 (a7 (m:=il _) (bW (ae (ae ⟨_,rfl,ae h⟩)) htake))
  | exact a7 (a7 (m:=il _) (bW (ae ⟨_,rfl,ae h⟩) htake))
end
end HT
namespace L2
open PySem PySem.Spec PyProof.Rows
abbrev TO:=St->Hp->(Option Int->Hp->Prop)->Prop
def PO (X:Cx) (e:Option a_) (t:TO):Prop :=
 ∀ (pins:List (ah×Obj)) (s:af) (σ:St) (H:Hp) (Q:Option Int->Hp->Prop),bG X pins σ H s->t σ H Q ->
  aq (aL X.prog X.w) X.A (evalPart e X.env) (fun u s'=>∃ o H',bG X pins σ H' s'/\vR u o/\Q o H') X.xe s
def Qd:TO:=fun _ H Q=>Q none H
def Vm (t:TE):TO:=fun σ H Q=>t σ H fun x H1=>∃ i,x=.int i/\Q (some i) H1
section
variable {X:Cx}{e:a_}{te:TE}{lo hi:Option a_}{tl th:TO}{pos p2:Pos}
theorem Qe:PO X none Qd:=by
 intro pins s σ H Q I h
 rw [evalPart_none]
 exact ae ⟨none,H,I,.none,h⟩
theorem Qf (h:PE X e te):PO X (some e) (Vm te):=by
 intro pins s σ H Q I hw
 rw [evalPart_some]
 refine fm (h pins s σ H _ I hw) fun u s1 h_29=>?_
 obtain ⟨x,H1,I1,r1,q1⟩:=h_29
 obtain ⟨i,rfl,q⟩:=q1
 obtain ⟨t,rfl⟩:=r1
 exact ⟨some i,H1,I1,.int i t,q⟩
def Vn (X:Cx) (r:V->Option Int->Option Int->Hp->VK->Prop):Prop :=
 ∀ (pins:List (ah×Obj)) (s:af) (σ:St) (H:Hp) (x:V) (v vl vu:a9) (lo hi:Option Int) (sl:ah) (Q:VK),bG X pins σ H s->dw x v->s.heap.IsSliceOf sl vl vu .none->vR vl lo->vR vu hi->r x lo hi H Q ->
  ∃ T id,yr (.type T) "__getitem__"=pure (some (.builtin id))/\s.TypeIs v T/\aq (aL X.prog X.w) X.A (qD v (.ref sl)) (EP X pins σ Q) X.xe s
def YY (r:V->Option Int->Option Int->Hp->VK->Prop) (te:TE) (tl th:TO):TE:=fun σ H Q=>te σ H fun x H1=>tl σ H1 fun l H2=>th σ H2 fun u H3=>r x l u H3 Q
theorem MB {r:V->Option Int->Option Int->Hp->VK->Prop} (hr:Vn X r) (he:PE X e te) (hl:PO X lo tl) (hu:PO X hi th):PE X (.Subscript e (.Slice lo hi none p2) pos) (YY r te tl th):=by
 intro pins s σ H Q I h
 refine Subscript_ (fm (he pins s σ H _ I h) fun v s1 ⟨x,H1,I1,r1,q1⟩=>?_)
 refine wpAny_Slice (fm (hl pins s1 σ H1 _ I1 q1) fun vl s2 ⟨l,H2,I2,pl,q2⟩=>fm (hu pins s2 σ H2 _ I2 q2) fun vu s3 ⟨u,H3,I3,pu,q3⟩=>?_)
 rw [evalPart_none]
 refine ae ?_
 have I4:bG X pins σ H3 { s3 with heap:=s3.heap.push { cls:=.type "slice",data:=.fields #[vl,vu,.none] } }:=I3.kept (t':=s3.toks) fun b ob q=>ag _ q
 obtain ⟨T,id,hT,ht,hg⟩:=hr pins { s3 with heap:=s3.heap.push { cls:=.type "slice",data:=.fields #[vl,vu,.none] } } σ H3 x v vl vu l u s3.heap.objs.size Q I4 r1 (Heap.IsSliceOf.new ..) pl pu q3
 show aq (aL X.prog X.w) X.A (Ke e (.Slice lo hi none p2) v (.ref s3.heap.objs.size)) (EP X pins σ Q) X.xe { s3 with heap:=s3.heap.push { cls:=.type "slice",data:=.fields #[vl,vu,.none] } }
 exact tail_any (ops:=[.ref s3.heap.objs.size,v]) ht hT hg (by with_unfolding_all rfl)
def Ea (xs:List V) (lo hi:Option Int):List V:=(xs.drop (HT.iR xs.length 0 lo)).take (HT.iR xs.length xs.length hi - HT.iR xs.length 0 lo)
theorem wX (xs:List V) (lo hi:Option Int):(Ea xs lo hi).length<=xs.length:=by
 unfold Ea
 rw [xT,xU]
 omega
def XF (K:a8):V->Option Int->Option Int->Hp->VK->Prop:=fun x lo hi H Q=>∃ a xs,x=.ref a/\kE K H a xs /\
 ¬ (HT.iR xs.length 0 lo=0/\HT.iR xs.length xs.length hi=xs.length)/\∀ p,H p=none->Q (.ref p) (upd H p (.tup (Ea xs lo hi)))
theorem TF:Vn X (XF X.K):=by
 intro pins s σ H x v vl vu lo hi sl Q I rx hs pl pu h
 obtain ⟨a,xs,rfl,hx,hw,q⟩:=h
 cases rx
 obtain ⟨its,r,ht,hz⟩:=I.tuple hx
 have hlen:its.toArray.size=xs.length:=by rw [aJ];exact r.length.symm
 refine ⟨"tuple",_,PyProof.Rows.slot_tuple_getitem.lookup,ht.typeIs,?_⟩
 refine HT.uQ ht hs pl pu (by rw [hlen];exact hw) ?_ (by rw [hlen];exact hz)
 rw [hlen]
 refine ⟨.ref s.heap.objs.size,_,I.laid (t':=s.toks) (o:=.tup (Ea xs lo hi)) (fun b ob q=>ag _ q) (ar _) ?_,rfl,q _ (I.hok.fresh (ar _))⟩
 exact ⟨bR (wX xs lo hi) hz,_,(r.drop (HT.iR xs.length 0 lo)).take (HT.iR xs.length xs.length hi - HT.iR xs.length 0 lo),xt _ _⟩
inductive MC (K:a8) (x:V) (y:V) (H:Hp) (Q:VK):Prop
 | mk (a b xs ys:_) (h0:x=.ref a) (h1:y=.ref b) (h2:kE K H a xs) (h3:kE K H b ys) (h4:xs≠[]) (h5:xs.length + ys.length<=sizeLine) (h6:(ys=[]->Q (.ref a) H)) (h7:(ys≠[]->∀ p,H p=none->Q (.ref p) (upd H p (.tup (xs++ys))))):MC K x y H Q
def Vo (K:a8):R2:=MC K
theorem da.nil_iff {xs:List V}{us:List a9} (r:da xs us):us=[]↔xs=[]:=by
 cases r with
 | nil=>simp
 | cons _ _=>simp
theorem Qg:qy X (gm .Add) (Vo X.K):=by
 intro pins s σ H x y v u Q I rx ry h
 obtain ⟨a,b,xs,ys,rfl,rfl,ha,hb,hx,hz,q1,q2⟩:=h
 cases rx
 cases ry
 obtain ⟨its,r1,p1,_⟩:=I.tuple ha
 obtain ⟨its2,r2,p2,_⟩:=I.tuple hb
 refine HT.Qc p1 p2 (fun z=>hx (r1.nil_iff.mp z)) (fun z=>⟨.ref a,H,I,rfl,q1 (r2.nil_iff.mp z)⟩) (fun z=>?_) (by rw [<- r1.length,<- r2.length];exact hz)
 refine ⟨.ref s.heap.objs.size,_,I.laid (t':=s.toks) (o:=.tup (xs++ys)) (fun b ob q=>ag _ q) (ar _) ?_,rfl,q2 (fun w=>z (r2.nil_iff.mpr w)) _ (I.hok.fresh (ar _))⟩
 exact ⟨by rw [aB];exact hz,_,r1.append r2,xt _ _⟩
end
end L2
namespace L2
open PySem PySem.Spec PyProof.Rows
def RW (n:Nat) (i:Int):Option Nat:=if 0<=i then (if i<n then some i.toNat else none) else if -(n:Int)<=i then some (i + n).toNat else none
def Eb {α:Type} (xs:List α) (i:Int):Option α:=(RW xs.length i).bind fun j=>xs[j]?
theorem Qh {n:Nat}{i:Int}{j:Nat} (h:RW n i=some j):seqIndex? i n=some j/\j<n/\-(n:Int)<=i/\i<n:=by
 unfold RW at h
 by_cases h0:0<=i
 ·rw [if_pos h0] at h
  by_cases h1:i<n
  ·rw [if_pos h1] at h
   have e:i.toNat=j:=bJ h
   exact ⟨by rw [seqIndex_of h0 h1,e],by omega,by omega,h1⟩
  ·rw [if_neg h1] at h;cases h
 ·rw [if_neg h0] at h
  by_cases h1:-(n:Int)<=i
  ·rw [if_pos h1] at h
   have e:(i + n).toNat=j:=bJ h
   exact ⟨by rw [seqIndex_neg (by omega) h1,e],by omega,h1,by omega⟩
  ·rw [if_neg h1] at h;cases h
theorem Cu {α:Type}{xs:List α}{i:Int}{v:α} (h:Eb xs i=some v):∃ j,seqIndex? i xs.length=some j/\xs[j]?=some v/\j<xs.length/\-(xs.length:Int)<=i/\i<xs.length:=by
 unfold Eb at h
 cases e:RW xs.length i with
 | none=>rw [e] at h;cases h
 | some j =>
  rw [e] at h
  obtain ⟨h1,h2,h3,h4⟩:=Qh e
  exact ⟨j,h1,h,h2,h3,h4⟩
theorem uR {α:Type}{xs:List α}{j:Nat}{v:α} (h:xs[j]?=some v):Eb xs (j:Int)=some v:=by
 have hj:j<xs.length:=(List.getElem?_eq_some_iff.mp h).1
 have e:RW xs.length (j:Int)=some j:=by
  unfold RW
  rw [if_pos (by omega),if_pos (by omega)];simp
 unfold Eb;rw [e];exact h
def uS (b:a_):Prop:=∀ o i,DR b false o i=operate [o,i] (qD o i)
def Vp (X:Cx) (r:R2):Prop :=
 ∀ (value slice:a_) (pins:List (ah×Obj)) (s:af) (σ:St) (H:Hp) (x y:V) (v u:a9) (Q:VK),bG X pins σ H s->dw x v->dw y u->r x y H Q ->
  DR slice false v u=operate [v,u] (qD v u)->aq (aL X.prog X.w) X.A (Ke value slice v u) (EP X pins σ Q) X.xe s
def WW (X:Cx) (id:String) (r:V->List V->Hp->VK->Prop):Prop :=
 ∀ (pins:List (ah×Obj)) (s:af) (σ:St) (H:Hp) (x:V) (xs:List V) (v:a9) (us:List a9) (Q:VK),bG X pins σ H s->dw x v->da xs us->r x xs H Q ->
  aq (aL X.prog X.w) X.A (call (.builtin id) (v::us)) (EP X pins σ Q) X.xe s
section
variable {X:Cx}{a b:a_}{ta tb:TE}{pos:Pos}
theorem RX {r:R2} (hr:Vp X r) (ha:PE X a ta) (hb:PE X b tb) (hs:uS b):PE X (.Subscript a b pos) (Ve r ta tb):=by
 intro pins s σ H Q I h
 exact Subscript_ (To ha hb I h fun v u s2 x y H2 I2 rx ry q=>hr a b pins s2 σ H2 x y v u Q I2 rx ry q (hs _ _))
inductive RY (K:a8) (x:V) (y:V) (H:Hp) (Q:VK):Prop
 | mk (p xs i v:_) (h0:x=.ref p) (h1:y=.int i) (h2:lZ K H p xs) (h3:Eb xs i=some v) (h4:Q v H):RY K x y H Q
def XG (K:a8):R2:=RY K
inductive RZ (K:a8) (x:V) (y:V) (H:Hp) (Q:VK):Prop
 | mk (p xs i v:_) (h0:x=.ref p) (h1:y=.int i) (h2:kE K H p xs) (h3:Eb xs i=some v) (h4:Q v H):RZ K x y H Q
def XH (K:a8):R2:=RZ K
inductive R_ (x:V) (y:V) (H:Hp) (Q:VK):Prop
 | mk (z i c:_) (h0:x=.str z) (h1:y=.int i) (h2:z.length<=sizeLine) (h3:Eb z.cps.toList i=some c) (h4:Q (.str ⟨#[c]⟩) H):R_  x y H Q
def XI:R2:=R_
theorem oZ:Vp X (XG X.K):=by
 intro value slice pins s σ H x y v u Q I rx ry h hs
 obtain ⟨p,xs,i,z,rfl,rfl,hq,he,q⟩:=h
 cases rx
 obtain ⟨t,rfl⟩:=ry
 obtain ⟨its,r,pl,hz⟩:=I.list hq
 obtain ⟨j,h1,h2,h3,h4,h5⟩:=Cu he
 obtain ⟨w,ew,rw'⟩:=r.get h2
 have hl:=r.length
 have hn:=wa
 have fin:EP X pins σ Q w s:=⟨z,H,I,rw',q⟩
 by_cases h0:0<=i
 ·have hj:i.toNat=j:=by
   rw [seqIndex_of h0 h5] at h1
   exact bJ h1
  exact item_listR pl.isList h0 (by omega) (by rw [hj];simpa using ew) fin hs
 ·have hj:(i + (its.toArray.size:Int)).toNat=j:=by
   rw [seqIndex_neg (by omega) h4] at h1
   rw [aJ,<- hl]
   exact bJ h1
  exact M3 (x:=w) pl.isList.typeIs slot_list_getitem.lookup
   (wpAny_getItem_list_neg (Q:=fun r s'=>r=w/\EP X pins σ Q r s') pl.isList (by omega) (by rw [aJ]<;>omega) (by omega) (by rw [hj];simpa using ew) ⟨rfl,fin⟩) hs
theorem TH:Vp X (XH X.K):=by
 intro value slice pins s σ H x y v u Q I rx ry h hs
 obtain ⟨p,xs,i,z,rfl,rfl,hq,he,q⟩:=h
 cases rx
 obtain ⟨t,rfl⟩:=ry
 obtain ⟨its,r,pl,hz⟩:=I.tuple hq
 obtain ⟨j,h1,h2,h3,h4,h5⟩:=Cu he
 obtain ⟨w,ew,rw'⟩:=r.get h2
 have hl:=r.length
 have hn:=wa
 have fin:EP X pins σ Q w s:=⟨z,H,I,rw',q⟩
 exact M3 (x:=w) pl.typeIs slot_tuple_getitem.lookup
  (getItem_tuple (j:=j) (Q:=fun r s'=>r=w/\EP X pins σ Q r s') pl (by omega) (by omega) (by rw [aJ,<- hl];exact h1) (by simpa using ew) ⟨rfl,fin⟩) hs
theorem TJ:Vp X XI:=by
 intro value slice pins s σ H x y v u Q I rx ry h hs
 obtain ⟨z,i,c,rfl,rfl,hz,he,q⟩:=h
 obtain ⟨t,rfl⟩:=rx
 obtain ⟨t',rfl⟩:=ry
 obtain ⟨j,h1,h2,h3,h4,h5⟩:=Cu he
 have hl:z.cps.toList.length=z.length:=by simp [Str.length]
 rw [hl] at h1 h4 h5
 have hn:=wa
 exact tail_any (typeIs_str s z t) slot_str_getitem.lookup (getItem_str (c:=c) (by
  have e1:decide (i < -(2 ^ 63:Int))=false:=decide_eq_false (by omega)
  have e2:decide (i ≥ 2 ^ 63)=false:=decide_eq_false (by omega)
  rw [e1,e2,Bool.or_false]) (by rw [h1];simpa using h2) ⟨.str ⟨#[c]⟩,H,I.tok _,⟨_,rfl⟩,q⟩) hs
theorem Cv (lo hi:Option Int) (n:Nat):(mU lo hi none n).1=((HT.iR n 0 lo:Nat):Int)/\(mU lo hi none n).2.1=((HT.iR n n hi:Nat):Int)/\(mU lo hi none n).2.2=1:=by
 refine ⟨?_,?_,rfl⟩
 ·cases lo with
  | none=>simp [mU,HT.iR]
  | some i =>
   simp only [mU,HT.iR,gN,show (1:Int) > 0 by decide,if_true]
   by_cases h:i<0
   ·simp only [h,if_true]<;>omega
   ·simp only [h,if_false]<;>omega
 ·cases hi with
  | none=>simp [mU,HT.iR]
  | some i =>
   simp only [mU,HT.iR,gN,show (1:Int) > 0 by decide,if_true]
   by_cases h:i<0
   ·simp only [h,if_true]<;>omega
   ·simp only [h,if_false]<;>omega
theorem AC (its:List a9) (lo hi:Option Int):slicePick its.toArray lo hi none=((its.drop (HT.iR its.length 0 lo)).take (HT.iR its.length its.length hi - HT.iR its.length 0 lo)).toArray:=by
 obtain ⟨h1,h2,h3⟩:=Cv lo hi its.toArray.size
 unfold slicePick
 rw [h1,h2,h3]
 simp only [sliceRange_one,pick_run,aJ]<;>rfl
def XJ (K:a8):V->Option Int->Option Int->Hp->VK->Prop:=fun x lo hi H Q=>∃ a xs,x=.ref a/\lZ K H a xs/\∀ p,H p=none->Q (.ref p) (upd H p (.lst (Ea xs lo hi)))
theorem Qi:Vn X (XJ X.K):=by
 intro pins s σ H x v vl vu lo hi sl Q I rx hs pl pu h
 obtain ⟨a,xs,rfl,hx,q⟩:=h
 cases rx
 obtain ⟨its,r,ht,hz⟩:=I.list hx
 have hlen:=r.length
 refine ⟨"list",_,slot_list_getitem.lookup,ht.isList.typeIs,?_⟩
 refine wpAny_getItem_list_slice ht.isList hs pl pu .none (by simp) ?_ (by rw [aJ]<;>omega)
 rw [AC,<- hlen]
 refine ⟨.ref s.heap.objs.size,_,I.laid (t':=s.toks) (o:=.lst (Ea xs lo hi)) (fun b ob q=>ag _ q) (ar _) ?_,rfl,q _ (I.hok.fresh (ar _))⟩
 exact ⟨bR (wX xs lo hi) hz,_,0,(r.drop (HT.iR xs.length 0 lo)).take (HT.iR xs.length xs.length hi - HT.iR xs.length 0 lo),az _ rfl⟩
def qT:V->Bool
 | .non=>true
 | .bl _=>true
 | .int _=>true
 | .str _=>true
 | _=>false
def Qj:V->V->Bool
 | .non,.non=>true
 | .bl a,.bl b=>a == b
 | .bl a,.int b=>(if a then 1 else 0) == b
 | .int a,.bl b=>a == (if b then 1 else 0)
 | .int a,.int b=>a == b
 | .str a,.str b=>a == b
 | _,_=>false
theorem TK {A:bg}{s:af}{y x:V}{u v:a9} (ry:dw y u) (rx:dw x v) (fy:qT y=true) (fx:qT x=true):Kf A s u v (Qj y x):=by
 cases y with
 | non =>
  cases ry
  cases x with
  | non=>cases rx;exact SeqAt.EqAt.same _
  | bl b=>cases rx;exact SeqAt.EqAt.none_bool b
  | int b=>obtain ⟨t,rfl⟩:=rx;exact SeqAt.EqAt.none_int b t
  | str b=>obtain ⟨t,rfl⟩:=rx;exact SeqAt.EqAt.none_str b t
  | _=>exact absurd (show false=true from fx) aY
 | bl a =>
  cases ry
  cases x with
  | non=>cases rx;exact SeqAt.EqAt.bool_none a
  | bl b=>cases rx;exact Bc a b
  | int b=>obtain ⟨t,rfl⟩:=rx;exact SeqAt.EqAt.bool_int a b t
  | str b=>obtain ⟨t,rfl⟩:=rx;exact SeqAt.EqAt.bool_str a b t
  | _=>exact absurd (show false=true from fx) aY
 | int a =>
  obtain ⟨t',rfl⟩:=ry
  cases x with
  | non=>cases rx;exact SeqAt.EqAt.int_none a t'
  | bl b=>cases rx;exact SeqAt.EqAt.int_bool a t' b
  | int b=>obtain ⟨t,rfl⟩:=rx;exact SeqAt.EqAt.int_int a t' b t
  | str b=>obtain ⟨t,rfl⟩:=rx;exact DM a t' b t
  | _=>exact absurd (show false=true from fx) aY
 | str a =>
  obtain ⟨t',rfl⟩:=ry
  cases x with
  | non=>cases rx;exact SeqAt.EqAt.str_none a t'
  | bl b=>cases rx;exact SeqAt.EqAt.str_bool a t' b
  | int b=>obtain ⟨t,rfl⟩:=rx;exact DN a t' b t
  | str b=>obtain ⟨t,rfl⟩:=rx;exact SeqAt.EqAt.str_str a t' b t
  | _=>exact absurd (show false=true from fx) aY
 | _=>exact absurd (show false=true from fy) aY
def H9 (x:V) (u:a9):Bool:=match u with
 | .none=>Qj .non x
 | .bool b=>Qj (.bl b) x
 | .int i _=>Qj (.int i) x
 | .str z _=>Qj (.str z) x
 | _=>false
theorem MD {x y:V}{u:a9} (r:dw y u) (f:qT y=true):H9 x u=Qj y x:=by
 cases y with
 | non=>cases r;rfl
 | bl b=>cases r;rfl
 | int i=>obtain ⟨t,rfl⟩:=r;rfl
 | str z=>obtain ⟨t,rfl⟩:=r;rfl
 | _=>exact absurd (show false=true from f) aY
theorem uT {x:V}:∀ {xs:List V}{us:List a9},da xs us->xs.all qT=true->us.any (H9 x)=xs.any fun y=>Qj y x
 | _,_,.nil,_=>rfl
 | y::xs,u::us,.cons r t,f=>by
  rw [uH,aT] at f
  rw [ef,ef,MD r f.1,uT t f.2]
theorem qU {A:bg}{s:af}{x:V}{v:a9} (rx:dw x v) (fx:qT x=true):∀ {xs:List V}{us:List a9},da xs us->xs.all qT=true->∀ u∈us,Kf A s u v (H9 x u)
 | _,_,.nil,_=>fun u hu=>by cases hu
 | y::xs,u::us,.cons r t,f=>fun u' hu=>by
  rw [uH,aT] at f
  rcases List.mem_cons.mp hu with rfl | hu
  ·rw [MD r f.1];exact TK r rx f.1 fx
  ·exact qU rx fx t f.2 u' hu
def WX (x:V) (xs:List V):Bool:=xs.any fun y=>Qj y x
inductive Vq (K:a8) (neg:Bool) (x:V) (y:V) (H:Hp) (Q:VK):Prop
 | mk (p xs:_) (h0:y=.ref p) (h1:(lZ K H p xs\/kE K H p xs)) (h2:qT x=true) (h3:xs.all qT=true) (h4:Q (.bl (if neg then !WX x xs else WX x xs)) H):Vq K neg x y H Q
def XM (K:a8) (neg:Bool):R2:=Vq K neg
theorem Ky:qy X (bH .In) (XM X.K false):=by
 intro pins s σ H x y v u Q I rx ry h
 obtain ⟨p,xs,rfl,hq,fx,fs,q⟩:=h
 cases ry
 rcases hq with hq | hq
 ·obtain ⟨its,r,pl,hz⟩:=I.list hq
  refine SeqAt.in_listAt (H9 x) pl.isList (fun w hw=>qU rx fx r fs w (by simpa using hw)) ⟨.bl _,H,I,rfl,?_⟩
  rw [show its.toArray.any (H9 x)=its.any (H9 x) by simp,uT r fs]
  exact q
 ·obtain ⟨its,r,pl,hz⟩:=I.tuple hq
  refine SeqAt.in_tupleAt (H9 x) pl (fun w hw=>qU rx fx r fs w (by simpa using hw)) ⟨.bl _,H,I,rfl,?_⟩
  rw [show its.toArray.any (H9 x)=its.any (H9 x) by simp,uT r fs]
  exact q
theorem Cy:qy X (bH .NotIn) (XM X.K true):=by
 intro pins s σ H x y v u Q I rx ry h
 obtain ⟨p,xs,rfl,hq,fx,fs,q⟩:=h
 cases ry
 rcases hq with hq | hq
 ·obtain ⟨its,r,pl,hz⟩:=I.list hq
  refine SeqAt.notIn_listAt (H9 x) pl.isList (fun w hw=>qU rx fx r fs w (by simpa using hw)) ⟨.bl _,H,I,rfl,?_⟩
  rw [show its.toArray.any (H9 x)=its.any (H9 x) by simp,uT r fs]
  exact q
 ·obtain ⟨its,r,pl,hz⟩:=I.tuple hq
  refine SeqAt.notIn_tupleAt (H9 x) pl (fun w hw=>qU rx fx r fs w (by simpa using hw)) ⟨.bl _,H,I,rfl,?_⟩
  rw [show its.toArray.any (H9 x)=its.any (H9 x) by simp,uT r fs]
  exact q
theorem uU:jb X (.builtin "len") (fun xs H Q=>∃ p ys,xs=[.ref p]/\(lZ X.K H p ys\/kE X.K H p ys)/\Q (.int ys.length) H):=by
 intro pins s σ H xs us Q I r h
 obtain ⟨p,ys,rfl,hq,q⟩:=h
 obtain ⟨u,rfl,rx⟩:=kF r
 cases rx
 have hn:=wa
 rcases hq with hq | hq
 ·obtain ⟨its,r',pl,hz⟩:=I.list hq
  have hlen:=r'.length
  exact Calls.call_len_list pl.isList (by simp only [aJ]<;>omega) ⟨.int ys.length,H,I.tok _,⟨s.toks + 1,by rw [aJ,hlen]⟩,q⟩
 ·obtain ⟨its,r',pl,hz⟩:=I.tuple hq
  have hlen:=r'.length
  exact len_tuple pl (by simp only [aJ]<;>omega) ⟨.int ys.length,H,I.tok _,⟨s.toks + 1,by rw [aJ,hlen]⟩,q⟩
theorem Cz:jb X (.builtin "len") (fun xs H Q=>∃ z,xs=[.str z]/\z.length<=sizeLine/\Q (.int z.length) H):=by
 intro pins s σ H xs us Q I r h
 obtain ⟨z,rfl,hz,q⟩:=h
 obtain ⟨u,rfl,t,rfl⟩:=kF r
 have hn:=wa
 exact len_str (by omega) ⟨.int z.length,H,I.tok _,⟨_,rfl⟩,q⟩
theorem uV:jb X (.type "list") (fun xs H Q=>∃ p ys,xs=[.ref p]/\(lZ X.K H p ys\/kE X.K H p ys)/\∀ l,H l=none->Q (.ref l) (upd H l (.lst ys))):=by
 intro pins s σ H xs us Q I r h
 obtain ⟨p,ys,rfl,hq,q⟩:=h
 obtain ⟨u,rfl,rx⟩:=kF r
 cases rx
 have fin:∀ (its:List a9),da ys its->ys.length<=sizeLine->∀ (h':bt) (c':Nat),(∀ b o',s.heap.get? b=some o'->h'.get? b=some o') ->
   h'.get? s.heap.objs.size=some { cls:=.type "list",dict:=none,data:=.seq its.toArray c',slots:=#[] }->EP X pins σ Q (.ref s.heap.objs.size) { s with heap:=h' }:=fun its r' hz h' c' kp e =>
  ⟨.ref s.heap.objs.size,_,I.laid (t':=s.toks) kp (ar _) (show db X.prog X.w _ h' _ (.lst ys) from ⟨hz,its,c',r',e⟩),rfl,q _ (I.hok.fresh (ar _))⟩
 rcases hq with hq | hq
 ·obtain ⟨its,r',pl,hz⟩:=I.list hq
  have hlen:=r'.length
  obtain ⟨o,ho,hc,n,hd⟩:=pl.isList
  exact call_list_seq p (.inl rfl) ho hc hd (fun h' c' kp e=>fin its r' hz h' c' kp e) (by simp only [aJ]<;>omega)
 ·obtain ⟨its,r',pl,hz⟩:=I.tuple hq
  have hlen:=r'.length
  obtain ⟨o,ho,hc,n,hd⟩:=pl
  exact call_list_seq p (.inr rfl) ho hc hd (fun h' c' kp e=>fin its r' hz h' c' kp e) (by simp only [aJ]<;>omega)
theorem t4:jb X (.type "tuple") (fun xs H Q=>∃ p ys,xs=[.ref p]/\((lZ X.K H p ys/\∀ l,H l=none->Q (.ref l) (upd H l (.tup ys)))\/(kE X.K H p ys/\Q (.ref p) H))):=by
 intro pins s σ H xs us Q I r h
 obtain ⟨p,ys,rfl,h⟩:=h
 obtain ⟨u,rfl,rx⟩:=kF r
 cases rx
 rcases h with ⟨hq,q⟩ | ⟨hq,q⟩
 ·obtain ⟨its,r',pl,hz⟩:=I.list hq
  have hlen:=r'.length
  refine call_tuple_list pl.isList (fun h' kp=>?_) (by simp only [aJ]<;>omega)
  have I1:bG X pins σ H { s with heap:=h' }:=I.kept (t':=s.toks) kp
  have I2:bG X pins σ (upd H h'.objs.size (.tup ys)) { s with heap:=h'.push { cls:=.type "tuple",data:=.seq its.toArray } } :=
   I1.laid (t':=s.toks) (fun b o e=>ag _ e) (ar _) (show db X.prog X.w _ _ _ (.tup ys) from ⟨hz,its,r',xt _ _⟩)
  exact ⟨.ref h'.objs.size,_,I2,rfl,q _ (I1.hok.fresh (ar _))⟩
 ·obtain ⟨its,r',pl,hz⟩:=I.tuple hq
  exact call_tuple_same pl ⟨.ref p,H,I,rfl,q⟩
def XN (K:a8) (T:String) (x:V) (H:Hp):Prop:=match x with
 | .str _=>T="str"
 | .int _=>T="int"
 | .ref p=>(T="list"/\∃ xs,lZ K H p xs)\/(T="tuple"/\∃ o,K.lookup p=some o/\o.cls=.type "tuple"/\o.dict=none) \/
   (T="dict"/\((∃ kvs,H p=some (.dK kvs))\/∃ kvs,H p=some (.dT kvs)))\/(T="set"/\∃ S n,H p=some (.set S n))
 | _=>False
theorem ME {pins:List (ah×Obj)}{σ:St}{H:Hp}{s:af}{T:String}{x:V}{v:a9} (I:bG X pins σ H s) (r:dw x v) (ty:XN X.K T x H) :
  s.TypeIs v T/\∀ a,v=.ref a->∃ ob,s.heap.get? a=some ob/\ob.dict=none:=by
 cases x with
 | str z =>
  obtain ⟨t,rfl⟩:=r
  cases (show T="str" from ty)
  exact ⟨typeIs_str s z t,fun _ e=>nomatch e⟩
 | int i =>
  obtain ⟨t,rfl⟩:=r
  cases (show T="int" from ty)
  exact ⟨typeIs_int s i t,fun _ e=>nomatch e⟩
 | ref p =>
  cases r
  rcases ty with ⟨rfl,xs,hq⟩ | ⟨rfl,o,hk,hc,hd⟩ | ⟨rfl,hk⟩ | ⟨rfl,S,n,hk⟩
  ·obtain ⟨its,_,pl,_⟩:=I.list hq
   refine ⟨pl.isList.typeIs,fun a e=>?_⟩
   cases e
   obtain ⟨o,n,e,c,hd,_⟩:=pl
   exact ⟨o,e,hd⟩
  ·refine ⟨⟨o,I.kIn p o hk,hc⟩,fun a e=>?_⟩
   cases e
   exact ⟨o,I.kIn _ o hk,hd⟩
  ·have z:∃ o,s.heap.get? p=some o/\o.ExactDict:=by
    rcases hk with ⟨kvs,hk⟩ | ⟨kvs,hk⟩
    ·obtain ⟨_,_,_,_,o,_,_,e,ex,_⟩:=I.hok p _ hk
     exact ⟨o,e,ex⟩
    ·obtain ⟨_,_,_,_,o,_,_,e,ex,_⟩:=I.hok p _ hk
     exact ⟨o,e,ex⟩
   obtain ⟨o,e,ex⟩:=z
   refine ⟨⟨o,e,ex.1⟩,fun a e2=>?_⟩
   cases e2
   exact ⟨o,e,ex.2.1⟩
  ·obtain ⟨o,_,_,_,e,ex,_⟩:=I.hok p _ hk
   refine ⟨⟨o,e,ex.1⟩,fun a e2=>?_⟩
   cases e2
   exact ⟨o,e,ex.2.1⟩
 | _=>exact eN ty
def XO (K:a8) (T:String) (r:V->List V->Hp->VK->Prop) (to:TE):TE:=fun σ H Q=>to σ H fun x H1=>XN K T x H1/\r x [] H1 Q
def YZ (K:a8) (T:String) (r:V->List V->Hp->VK->Prop) (to:TE) (t:TA):TE:=fun σ H Q=>to σ H fun x H1=>XN K T x H1/\t σ H1 fun xs H2=>r x xs H2 Q
variable {o e:a_}{es:List a_}{to:TE}{t:TA}{name:Str}{apos cpos:Pos}{T id:String}{r:V->List V->Hp->VK->Prop}
theorem TL (pa:PlainAttrs T) (slot:Slot T name id) (hty:typeOf (.builtin id)=pure (.type "method_descriptor")) (hm:WW X id r) (ho:PE X o to)
  (hbase:qL o name X.env (du o X.env)=du o X.env:=by rfl) (hline:(apos.endLine == cpos.line)=true:=by rfl):PE X (.Call (.Attribute o name apos) [] [] cpos) (XO X.K T r to):=by
 intro pins s σ H Q I h
 refine wpAny_Call_method0_late hbase hline (fm (ho pins s σ H _ I h) fun v s1 ⟨x,H1,I1,r1,ty,q1⟩=>?_)
 obtain ⟨h1,h2⟩:=ME I1 r1 ty
 exact ⟨T,id,pa,slot,hty,h1,h2,DX rfl (PySem.evalArgs_none (hm pins s1 σ H1 x [] v [] Q I1 r1 .nil q1))⟩
theorem Br (pa:PlainAttrs T) (slot:Slot T name id) (hty:typeOf (.builtin id)=pure (.type "method_descriptor")) (hm:WW X id r) (ho:PE X o to) (ha:PA X (e::es) t)
  (hbase:qL o name X.env (du o X.env)=du o X.env:=by rfl)
  (hfew:((fS cpos (aA (e::es) X.env)).all (fun x=>!x.1) && (backToKw cpos (Px [] X.env)).all (fun x=>x.1.isSome)
   && decide ((e::es).length + ([] : List Ap).length + (if ([] : List Ap).isEmpty then 0 else 1)<30))=true:=by rfl)
  (hline:(apos.endLine == cpos.line)=true:=by rfl) (hs:aA (e::es) X.env=(false,du e X.env)::aA es X.env:=by rfl) (hplain:(fS cpos (aA es X.env)).any (·.1)=false:=by rfl) :
  PE X (.Call (.Attribute o name apos) (e::es) [] cpos) (YZ X.K T r to t):=by
 intro pins s σ H Q I h
 refine wpAny_Call_method_late hbase hfew hline rfl (fm (ho pins s σ H _ I h) fun v s1 ⟨x,H1,I1,r1,ty,q1⟩=>?_)
 obtain ⟨h1,h2⟩:=ME I1 r1 ty
 refine ⟨T,id,pa,slot,hty,h1,h2,?_⟩
 have hA:=ha cpos pins s1 σ H1 _ I1 q1
 rw [hs] at hA ⊢
 refine DX (by show (false || (fS cpos (aA es X.env)).any (·.1))=false;rw [hplain]<;>rfl) (Gz ?_)
 exact fm hA fun us s2 h_30=>by obtain ⟨vs,H2,I2,r2,q2⟩:=h_30;exact hm pins s2 σ H2 x vs v us Q I2 r1 r2 q2
end
end L2
namespace L2
open PySem PySem.Spec PyProof.Rows
def XQ (X:Cx) (id:String) (r:V->List V->Hp->VK->Prop):Prop :=
 ∀ (pins:List (ah×Obj)) (s:af) (σ:St) (H:Hp) (x:V) (xs:List V) (v:a9) (us:List a9) (Q:VK),bG X pins σ H s->dw x v->da xs us->r x xs H Q ->
  aq (aL X.prog X.w) X.A (call (.builtin id) (v::us)) (EP X pins σ Q) X.xe s
theorem da.one {x:V}{us:List a9} (h:da [x] us):∃ u,us=[u]/\dw x u:=by
 cases h with | cons r t=>cases t;exact ⟨_,rfl,r⟩
theorem da.zero:∀ {us:List a9},da [] us->us=[]
 | _,.nil=>rfl
theorem da.dropLast {xs:List V}{us:List a9} (h:da xs us):da xs.dropLast us.dropLast:=by
 induction h with
 | nil=>exact .nil
 | cons r t ih =>
  cases t with
  | nil=>exact .nil
  | cons q t'=>exact .cons r ih
theorem Ha {α:Type} (l:List α):l.eraseIdx (l.length - 1)=l.dropLast:=by
 induction l with
 | nil=>rfl
 | cons a r ih =>
  cases r with
  | nil=>rfl
  | cons b r =>
   have e:(a::b::r).length - 1=((b::r).length - 1) + 1:=by
    have h1:(a::b::r).length=r.length + 2:=rfl
    have h2:(b::r).length=r.length + 1:=rfl
    omega
   rw [e,DY,ih]
   all_goals rfl
section
variable {X:Cx}{pins:List (ah×Obj)}{σ:St}{H:Hp}{s:af}{l b:ah}{xs ys zs:List V}
theorem bG.lset {its its':List a9}{n:Nat}{f:Array a9->Array a9}{t':Nat} (I:bG X pins σ H s) (hH:H l=some (.lst xs))
  (e:s.heap.get? l=some { cls:=.type "list",data:=.seq its.toArray n }) (hf:f its.toArray=its'.toArray) (hv:da ys its') (hz:ys.length<=sizeLine) :
  bG X pins σ (upd H l (.lst ys)) { s with heap:=s.heap.update l (kZ f),toks:=t' }:=by
 have q:=PySem.IsL.update e f
 rw [hf] at q
 refine I.write (x:=l) (e:=l) (by rw [hH];exact trivial) (.inl rfl) (fun b' u hb hu=>(qF s.heap (kZ f) (de hb)).trans hu) ⟨_,q⟩ ?_
 exact ⟨hz,its',_,hv,q⟩
theorem bG.lnew {its:List a9}{t':Nat} (I:bG X pins σ H s) (hv:da ys its) (hz:ys.length<=sizeLine) :
  bG X pins σ (upd H s.heap.objs.size (.lst ys)) { s with heap:=s.heap.push { cls:=.type "list",data:=.seq its.toArray },toks:=t' } :=
 I.laid (fun _ _ q=>ag _ q) (ar _) ⟨hz,its,0,hv,az _ rfl⟩
theorem bG.fresh (I:bG X pins σ H s):H s.heap.objs.size=none:=I.hok.fresh (ar _)
theorem bG.lstM (I:bG X pins σ H s) (hH:H l=some (.lst xs)):Ys s.heap l xs:=by
 obtain ⟨z,its,n,r,e⟩:=I.hok l _ hH
 exact ⟨z,its,n,r,r.length,e⟩
theorem MF {n:Nat} (h:n<=sizeLine):lM n=false:=by
 unfold lM
 exact decide_eq_false (by omega)
end
section
variable {X:Cx}
inductive Ec (x:V) (vs:List V) (H:Hp) (Q:VK):Prop
 | mk (l xs y:_) (h0:x=.ref l) (h1:vs=[y]) (h2:H l=some (.lst xs)) (h3:xs.length<sizeLine) (h4:Q .non (upd H l (.lst (xs++[y])))):Ec  x vs H Q
def Qk:V->List V->Hp->VK->Prop:=Ec
theorem Bs:XQ X "list.append" Qk:=by
 intro pins s σ H x vs v us Q I rx rv h
 obtain ⟨l,xs,y,rfl,rfl,hH,hz,q⟩:=h
 cases rx
 obtain ⟨u,rfl,ru⟩:=rv.one
 obtain ⟨z,its,n,r,hl,e⟩:=I.lstM hH
 refine tG F.slot_list_append ⟨_,e,rfl⟩ F.entry_list_append (F.args_list_append_2 _ _) (PySem.list_append l its.toArray n u (by rw [aJ];omega)) ⟨e,?_⟩
 refine ⟨.non,_,I.lset (its':=its++[u]) hH e (by simp) (r.append (.cons ru .nil)) ?_,rfl,q⟩
 rw [aB,cH]
 omega
inductive Ed (x:V) (vs:List V) (H:Hp) (Q:VK):Prop
 | mk (l b xs zs:_) (h0:x=.ref l) (h1:vs=[.ref b]) (h2:H l=some (.lst xs)) (h3:H b=some (.lst zs)) (h4:xs.length + zs.length<=sizeLine) (h5:Q .non (upd H l (.lst (xs++zs)))):Ed  x vs H Q
def Ql:V->List V->Hp->VK->Prop:=Ed
theorem Bt:XQ X "list.extend" Ql:=by
 intro pins s σ H x vs v us Q I rx rv h
 obtain ⟨l,b,xs,zs,rfl,rfl,hH,hB,hz,q⟩:=h
 cases rx
 obtain ⟨u,rfl,ru⟩:=rv.one
 cases ru
 obtain ⟨z,its,n,r,hl,e⟩:=I.lstM hH
 obtain ⟨z2,its2,n2,r2,hl2,e2⟩:=I.lstM hB
 have hsz:its.toArray.size + its2.toArray.size<=sizeLine:=by rw [aJ,aJ];omega
 have hlong:¬ (!its.toArray.isEmpty && lM (its.toArray.size + its2.toArray.size))=true:=by
  rw [MF hsz,mZ]
  exact aY
 refine tG F.slot_list_extend ⟨_,e,rfl⟩ F.entry_list_extend (F.args_list_extend_2 _ _)
  (AutoSeq1.list_extend_list_list_0 l its.toArray n b its2.toArray n2 hlong (by rw [aJ];omega) (by omega)) ⟨e,e2,?_⟩
 refine ⟨.non,_,I.lset (its':=its++its2) hH e (by simp) (r.append r2) ?_,rfl,q⟩
 rw [aB]
 omega
def XR:V->List V->Hp->VK->Prop:=fun x vs H Q=>∃ l xs y,x=.ref l/\vs=[]/\H l=some (.lst xs)/\xs[xs.length - 1]?=some y/\Q y (upd H l (.lst xs.dropLast))
theorem TM:XQ X "list.pop" XR:=by
 intro pins s σ H x vs v us Q I rx rv h
 obtain ⟨l,xs,y,rfl,rfl,hH,hy,q⟩:=h
 cases rx
 have hus:=rv.zero
 subst hus
 obtain ⟨z,its,n,r,hl,e⟩:=I.lstM hH
 obtain ⟨u,hu,ru⟩:=r.get hy
 have hy':its.toArray[its.toArray.size - 1]?=some u:=by
  show its.toArray[its.length - 1]?=some u
  rw [<- cX,<- hl]
  exact hu
 refine tG F.slot_list_pop ⟨_,e,rfl⟩ F.entry_list_pop (F.args_list_pop_1 _) (MeetsSeq.list_pop_last l its.toArray n u hy' (by rw [aJ];omega)) ⟨e,?_⟩
 refine ⟨y,_,I.lset (its':=its.dropLast) hH e ?_ r.dropLast ?_,ru,q⟩
 ·show its.toArray.eraseIdxIfInBounds (its.toArray.size - 1)=its.dropLast.toArray
  rw [aJ,List.eraseIdxIfInBounds_toArray,Ha]
 ·rw [List.length_dropLast]
  omega
end
section
variable {prog:aO}{w:bd}{A:bg}{E:a9->af->Prop}{s:af}
end
section
variable {X:Cx}
end
end L2
namespace Att
open PySem PySem.W PySem.Calls PyProof.Rows
theorem xC {P:Params}{h:bt}:∀ (ns:List Int) (vs:List a9),WellAll P h vs (ns.map WData.int)->M4 vs ns:=by
 intro ns
 induction ns with
 | nil =>
  intro vs w
  rw [eX] at w
  cases w
  exact .nil
 | cons n ns ih =>
  intro vs w
  rw [aI] at w
  cases w with
  | cons a b =>
   cases a
   exact .cons _ _ (ih _ b)
theorem Kz {l:OpenLaw}{n:Nat} (hn:l.most=some n) {P:Params}{h:bt}{args:List WData}{vals:List a9}
  (hpre:l.row.toRowW.claim.pre args=true) (hwl:WellAll P h vals args) :
  ∃ a vs ns,vals=[bL a]/\args=[WData.list (ns.map WData.int)]/\h.get? a=some { cls:=.type "list",data:=.seq vs.toArray }/\M4 vs ns/\ns.length<=n:=by
 have hsh:WShape.hasAll [] args [.list .int]=true:=(pre_splitW hpre).1
 have hc:l.pre.holds [] { args:=args }=true:=(pre_splitW hpre).2
 obtain ⟨d,r,rfl,h1,h2⟩:=hasAllW_cons hsh
 obtain rfl:=hasAllW_nil h2
 obtain ⟨xs,rfl,h3⟩:=hasW_list h1
 obtain ⟨ns,rfl⟩:=items_int h3
 have hlen:ns.length<=n:=by
  unfold OpenLaw.pre at hc
  have h4:(WTm.not (.lt (.lit (.int (n:Int))) (.len (.arg 0)))).holds [] { args:=[.list (ns.map .int)] }=true:=by
   have h4:=(holds_andW hc).1
   rw [hn] at h4
   exact h4
  have h5:=condW_of h4 (w_not (w_lt w_lit (w_len_list (w_arg rfl))))
  rw [al] at h5
  refine Py fun q=>?_
  have q':(n:Int)<((ns.length:Nat):Int):=by omega
  first
   | (rw [decide_eq_true q'] at h5;exact absurd h5 (by decide))
   | (simp at h5;omega)
 cases hwl with
 | cons w1 w2 =>
  cases w2
  cases w1 with
  | list ho hall=>exact ⟨_,_,ns,rfl,rfl,ho,xC ns _ hall,hlen⟩
theorem KA (l:OpenLaw) (args:List WData):l.row.toRowW.claim.post args (.bool true) args=true :=
 postW_of (r:=l.row.toRowW) (X:=(true == true))
  (show WShape.has [] (.bool true) .bool=true by first | rfl | decide | simp [WShape.has,WShape.arms,WShape.armsAll])
  (show (WTm.eq .res (.lit (.bool true))).value [] { args:=args,res:=some (.bool true),after:=args }=some (.bool (true == true)) from w_eq_bool (w_res rfl) w_lit) rfl
theorem attach_call {l:OpenLaw}{n:Nat}{q:aO}{loose:List Str}{XP:(Str->Option a9)->bt->Prop}{YP:bd->bt->Prop}{d:DefRec}
  (hn:l.most=some n) (hdf:d.params.defaults=[])
  (call:∀ (w:bd) (s₀ s₁:af) (mg mb:Str->Option a9) (fa:ah) (o:Obj) (pm cd doc:a9) (a:ah) (vs:List a9) (ns:List Int),
   Ground q loose [] XP w s₀ mg mb s₁.heap->YP w s₁.heap ->
   s₁.heap.get? fa=some o->o.data=.func (docDef d.name d.params d.body d.scope pm cd doc)->s₁.heap.CodeRec cd d.name->mg d.name=some (.ref fa) ->
   s₁.heap.get? a=some { cls:=.type "list",data:=.seq vs.toArray }->M4 vs ns->ns.length<=n->s₁.gens=#[] ->
   hZ (aL l.prog w) wT (.call (.ref fa) ⟨[.ref a],[]⟩) (fun r s'=>r=.ok (.ret (.bool true))/\OldK s₁.heap s'.heap/\s'.os=s₁.os/\qC s'.gens) s₁) :
  WalkO q loose XP YP l.row.toRowW d [] (fun f vs=>Kg f vs):=by
 intro w s₀ s₁ mg mb G Y fa o pm cd doc dV kV ho hd hcd hD hmg hg args vals as hpre hlay hrd hwl hlo
 obtain rfl:dV=.none:=Dflts.none hD hdf
 obtain rfl:kV=.none:=Dflts.noKw hD
 obtain ⟨a,vs,ns,rfl,rfl,hobj,hints,hlen⟩:=Kz hn hpre hwl
 refine enter_call (oz (call w s₀ s₁ mg mb fa o pm cd doc a vs ns G Y ho (fd_plain hd) hcd hmg hobj hints hlen hg) fun r s' hq=>?_)
 obtain ⟨rfl,h2,h3,h4⟩:=hq
 exact ⟨.inl ⟨.bool true,.bool true,[],rfl,fun _=>rfl,.bool true,KA l _,fun _=>⟨Bd,fun _ hm=>(nomatch hm)⟩⟩,h2,h3,h4⟩
section
variable {prog:aO}{w:bd}{A:bg}{E:a9->af->Prop}{s:af}{K:Frag}
def XS (h:bt) (L d:ah):List (ah×Obj):=(bv h.objs.size).filterMap fun a=>if a=L\/a=d then none else (h.get? a).map fun o=>(a,o)
end
end Att
namespace L2
open PySem PySem.Spec PyProof.Rows
theorem KB {vs:List a9}{ns:List Int} (h:M4 vs ns):da (ns.map V.int) vs:=by
 induction h with
 | nil=>exact .nil
 | cons n t h ih=>exact .cons ⟨t,rfl⟩ ih
def TQ (H:Hp):Prop:=∀ b,H b=none\/∃ o xs,H b=some (.frz o (.lst xs))
theorem MG {P:aO}{w:bd}{K:a8}{mg mb:Str->Option a9}{CX:IP}{k:Nat}{fa a:ah}{fd:dL}{x:Str}{sp:Sp}{s₁:af}{vs:List a9}{ns:List Int}
  (KX:K.In s₁.heap) (hns:s₁.heap.Ns bM mg) (hb:s₁.heap.Ns builtinsNs mb) (hbb:∀ x:Str,x≠"__name__"->mb x=ij x) (hlim:s₁.heap.NoLimit) (hg:s₁.gens=#[])
  (ha:s₁.heap.get? a=some { cls:=.type "list",data:=.seq vs.toArray }) (hi:M4 vs ns) (hl:ns.length<=sizeLine) (hr:jt k wT)
  (F:∀ base:bt,K.In base->base.Ns bM mg->sO P w K mg base CX k fa fd [x] sp) (hbind:∀ (s:af) (u:a9),Ao s fd ⟨[u],[]⟩ [(x,u)])
  (hsp:∀ H:Hp,TQ H->lZ K H a (ns.map V.int)->sp [.ref a] H (fun v _=>v=.bl true) fun _ _ _=>False)
  (hCX:∀ H e s',CX [] H s₁ (fun _ _ _=>False) e s'->False) :
  hZ (aL P w) wT (.call (.ref fa) ⟨[.ref a],[]⟩) (fun r s'=>r=.ok (.ret (.bool true))/\OldK s₁.heap s'.heap/\s'.os=s₁.os/\qC s'.gens) s₁:=by
 have rv:=KB hi
 have lenV:=hi.length
 have core:∀ H:Hp,TQ H->lZ K H a (ns.map V.int)->qo P w H s₁.heap->(∀ b,H b≠none->b=a)->(H a≠none->K.lookup a=none) ->
   hZ (aL P w) wT (.call (.ref fa) ⟨[.ref a],[]⟩) (fun r s'=>r=.ok (.ret (.bool true))/\OldK s₁.heap s'.heap/\s'.os=s₁.os/\qC s'.gens) s₁:=by
  intro H hO hS hok hA hK
  have base_of:∀ {b:ah}{o:Obj},s₁.heap.get? b=some o->H b=none->(Cm s₁.heap H).get? b=some o:=fun e n=>Mf e n
  have noA:∀ {b:ah}{o:Obj}{es:Array Cf}{ep:Nat},s₁.heap.get? b=some o->o.data=.dict es ep->H b=none:=fun {b o es ep} e d=>by
   cases q:H b with
   | none=>rfl
   | some u =>
    have e':b=a:=hA b (by rw [q];simp)
    subst e'
    rw [ha] at e;cases e
    have d':Data.seq vs.toArray _=Data.dict es ep:=d
    cases d'
  have nsK:∀ {b:ah}{m:Str->Option a9},s₁.heap.Ns b m->(Cm s₁.heap H).Ns b m:=fun {b m} ⟨o,es,ep,e,d,r⟩=>⟨o,es,ep,base_of e (noA e d),d,r⟩
  have hKb:K.In (Cm s₁.heap H):=fun b o e=>base_of (KX b o e) (by
   cases q:H b with
   | none=>rfl
   | some u =>
    have e':b=a:=hA b (by rw [q];simp)
    subst e'
    rw [hK (by rw [q];simp)] at e;cases e)
  have hM:Mod K mg (Cm s₁.heap H):=⟨hKb,nsK hns,⟨mb,nsK hb,hbb⟩,let ⟨mc,h1,h2⟩:=hlim;⟨mc,nsK h1,h2⟩⟩
  have e0:GY P w K mg (Cm s₁.heap H) wT [] s₁ H:=⟨rfl,hM,fun b o e=>Q1 e,Nat.le_of_eq (Kq _ _),trivial,fun b hb=>absurd (show b∈([] : List ah) from hb) (by simp),hok,.of_eq hg⟩
  refine oz ((F _ hKb (nsK hns)).run wT [] s₁ H ⟨[.ref a],[]⟩ [.ref a] [.ref a] _ _ hr e0 (hbind s₁ (.ref a)) (.cons rfl .nil) (hsp H hO hS)) fun r s' h=>?_
  cases r with
  | error e=>exact (hCX H e s' h).elim
  | ok fl =>
   cases fl with
   | next=>exact eN h
   | brk=>exact eN h
   | cont=>exact eN h
   | ret u =>
    obtain ⟨v,H',os,bare,un,hok',r',q⟩:=h
    have q':v=.bl true:=q
    subst q'
    obtain rfl:u=iB true:=r'
    refine ⟨rfl,OldK.of_keep fun b o e=>?_,os,bare⟩
    cases q:H b with
    | none=>exact un.keep b o e q (by intro z;exact absurd (show b∈([] : List ah) from z) (by simp)) (by simp)
    | some u =>
     rcases hO b with z | ⟨ob,xs,z⟩
     ·rw [q] at z;cases z
     ·have z2:=un.frzs b ob _ z
      obtain ⟨e1,_⟩:=hok b _ z
      obtain ⟨e2,_⟩:=hok' b _ z2
      rw [e] at e1;cases e1
      exact e2
 cases hk:K.lookup a with
 | some o =>
  have e:=KX a o hk
  rw [ha] at e
  cases e
  refine core (fun _=>none) (fun _=>.inl rfl) (.inr ⟨_,vs.toArray,_,hk,rfl,rfl,rfl,by rw [aJ,lenV];exact hl,by simpa using rv⟩) (fun b u z=>by have z':(none:Option HO)=some u:=z;cases z') (fun b z=>absurd rfl z) fun z=>absurd rfl z
 | none =>
  refine core (fun b=>if b=a then some (.frz { cls:=.type "list",data:=.seq vs.toArray } (.lst (ns.map V.int))) else none) (fun b=>?_) (.inl (.inr ⟨{ cls:=.type "list",data:=.seq vs.toArray },if_pos rfl⟩)) (fun b u z=>?_) (fun b z=>?_) fun _=>hk
  ·by_cases hb:b=a
   ·exact .inr ⟨_,_,if_pos hb⟩
   ·exact .inl (if_neg hb)
  ·by_cases hb:b=a
   ·have z':=(if_pos hb).symm.trans z
    cases z'
    subst hb
    exact ⟨ha,by rw [al];exact hl,vs,_,rv,ha⟩
   ·have z':=(if_neg hb).symm.trans z
    cases z'
  ·by_cases hb:b=a
   ·exact hb
   ·exact absurd (if_neg hb) z
end L2
namespace L2
open PySem PySem.Spec PyProof.Rows
abbrev Z6 {K:a8}{h:bt} (_:K.In h):a8:=K
theorem Qm {l:xv}{n k:Nat}{q:aO}{loose:List Str}{XP:(Str->Option a9)->bt->Prop}{YP:bd->bt->Prop}{d:DefRec}{K:Params->a8}{CX:bd->IP}{sp:bd->Sp}{x:Str}
  (hn:l.most=some n) (hn2:n<=sizeLine) (hdf:d.params.defaults=[]) (hr:jt k wT)
  (hY:∀ (w:bd) (h:bt),YP w h->(K w.params).In h)
  (F:∀ (w:bd) (mg:Str->Option a9) (fa:ah) (h:bt),(K w.params).In h->h.Ns bM mg->mg d.name=some (.ref fa) ->
   ∃ fd:dL,(∀ (s:af) (u:a9),Ao s fd ⟨[u],[]⟩ [(x,u)]) /\
    ∀ base:bt,(K w.params).In base->base.Ns bM mg->sO l.prog w (K w.params) mg base (CX w) k fa fd [x] (sp w))
  (hsp:∀ (w:bd) (H:Hp) (a:ah) (ns:List Int),ns.length<=n->TQ H->lZ (K w.params) H a (ns.map V.int)->sp w [.ref a] H (fun v _=>v=.bl true) fun _ _ _=>False)
  (hCX:∀ (w:bd) (H:Hp) (s:af) (e:a9) (s':af),CX w [] H s (fun _ _ _=>False) e s'->False) :
  Pl q loose XP YP l.row.toRowW d [] (fun f vs=>Kg f vs):=by
 refine Att.attach_call hn hdf fun w s₀ s₁ mg mb fa o pm cd doc a vs ns G Y ho hd hcd hmg hobj hints hlen hg=>?_
 have KX:=hY w _ Y
 obtain ⟨fd,hb,hF⟩:=F w mg fa _ KX G.T.g hmg
 exact MG KX G.T.g G.T.b G.T.builtins G.T.nolimit hg hobj hints (bR hlen hn2) hr hF hb (fun H hO hS=>hsp w H a ns hlen hO hS) fun H e s'=>hCX w H s₁ e s'
end L2
namespace L2
open PySem PySem.Spec PyProof.Rows
def nh (s:cp):Arguments:=match s with
 | .FunctionDef _ a _ _ _ _ _ _ _ _=>a
 | _=>{ posonlyargs:=[],args:=[],vararg:=none,kwonlyargs:=[],kw_defaults:=[],kwarg:=none,defaults:=[] }
def iE (s:cp):List cp:=match s with
 | .FunctionDef _ _ b _ _ _ _ _ _ _=>b
 | _=>[]
def ax (s:cp):eT:=match s with
 | .FunctionDef _ _ _ _ _ _ sc _ _ _=>sc
 | _=>{ kind:=.function,names:=[],isGenerator:=false,isCoroutine:=false }
abbrev Yv:IP:=fun _ _ _ _ _ _=>False
abbrev E0:XK:=fun _ _ _=>False
structure Ee (K:a8) (x qual:Str) (st:cp) (f:ah) (fd:dL):Prop where
 ex:∃ (oc:a9) (od:Option ah) (kV doc pm:a9) (an:Option ah) (cdv ct:a9) (osl:Array (Option a9)),
  fd=eO x qual (nh st) (iE st) (ax st) .none kV doc pm an cdv ct/\K.lookup f=some ⟨oc,od,.func fd,osl⟩/\jx K cdv qual=true
 kp:e6 K (.ref f)=true
section
variable {P:aO}{w:bd}{K:a8}{mg:Str->Option a9}{base:bt}
theorem Ee.binds {x qual:Str}{st:cp}{f:ah}{fd:dL}{ps:List Str} (F:Ee K x qual st f fd)
  (h:∀ (kV doc pm:a9) (an:Option ah) (cdv ct:a9) (us:List a9),us.length=ps.length->bindArgs (eO x qual (nh st) (iE st) (ax st) .none kV doc pm an cdv ct) ⟨us,[]⟩=pure (ps.zip us)):jA K fd ps []:=by
 obtain ⟨oc,od,kV,doc,pm,an,cdv,ct,osl,rfl,lk,hcd⟩:=F.ex
 exact .all (h kV doc pm an cdv ct)
theorem MH {x qual:Str}{st:cp}{f:ah}{oc:a9}{od an:Option ah}{osl:Array (Option a9)}{kV doc pm cdv ct:a9} (l:K.lookup f=some ⟨oc,od,.func (eO x qual (nh st) (iE st) (ax st) .none kV doc pm an cdv ct),osl⟩)
  (c:jx K cdv qual=true) (k:e6 K (.ref f)=true):Ee K x qual st f (eO x qual (nh st) (iE st) (ax st) .none kV doc pm an cdv ct):=⟨⟨oc,od,kV,doc,pm,an,cdv,ct,osl,rfl,l,c⟩,k⟩
end
theorem gI {A:bg}{k:Nat} (hr:jt k A):A.units + 1<kj:=vS (Nat.add_le_add_left (by decide:1<=64) _) hr.units
theorem cA {n:Nat} (h:n<=1000):n<sizeLine:=vS h (by decide)
section
variable {X:Cx}
theorem pv (i:Nat) {x:Str}{pos:Pos} (hN:X.N[i]?=some x:=by rfl) (hv:Kr X.env.scope x:=by first | exact fv rfl | exact dD (fv rfl) | exact dD (dD rfl)) (hd:(x == ("__debug__" : Str))=false:=by decide)
  (hcd:(x == ("__classdict__" : Str))=false:=by decide):PE X (.Name x pos) (Ks i):=lY hN hv hd hcd
end
theorem xD {A B:Prop} (h:B):if false=true then A else B:=by
 rw [if_neg aY]
 exact h
theorem AD {A B:Prop} (h:A):if true=true then A else B:=by
 rw [if_pos rfl]
 exact h
def dB (H H':Hp):Prop:=∀ b o,H b=some o->H' b=some o
theorem dB.refl (H:Hp):dB H H:=fun _ _ h=>h
theorem dB.trans {H H1 H2:Hp} (a:dB H H1) (b:dB H1 H2):dB H H2:=fun c o h=>b c o (a c o h)
theorem dB.free {H H':Hp} (e:dB H H') {l:ah} (h:H' l=Option.none):H l=Option.none:=by
 cases q:H l with
 | none=>rfl
 | some o =>
  rw [e l o q] at h
  cases h
theorem dB.seq {K:a8}{H H':Hp}{a:ah}{xs:List V} (e:dB H H') (h:lZ K H a xs):lZ K H' a xs:=by
 rcases h with (h | ⟨o,h⟩) | h
 ·exact .inl (.inl (e _ _ h))
 ·exact .inl (.inr ⟨o,e _ _ h⟩)
 ·exact .inr h
end L2
end
section
namespace L2
open PySem PySem.Spec PyProof.Rows
section
variable {κ:Type} [DecidableEq κ]
def oG (kvs:List (κ×V)) (k:κ):Option V:=(kvs.find? fun kv=>decide (kv.1=k)).map (·.2)
def kG (kvs:List (κ×V)) (k:κ) (v:V):List (κ×V) :=
 if (kvs.any fun kv=>decide (kv.1=k))=true then kvs.map (fun kv=>if kv.1=k then (kv.1,v) else kv) else kvs++[(k,v)]
def MI (kvs:List (κ×V)) (k:κ):List (κ×V):=kvs.filter fun kv=>decide (kv.1≠k)
theorem yD {p:κ×V}{r:List (κ×V)}{k:κ} (e:p.1=k):oG (p::r) k=some p.2:=by simp [oG,cc,e]
theorem yE {p:κ×V}{r:List (κ×V)}{k:κ} (e:¬ p.1=k):oG (p::r) k=oG r k:=by simp [oG,cc,e]
theorem Ef (k:κ):∀ kvs:List (κ×V),(kvs.any fun kv=>decide (kv.1=k))=(oG kvs k).isSome
 | []=>rfl
 | p::r=>by
  rw [ef]
  by_cases e:p.1=k
  ·simp only [yD e,decide_eq_true e,Bool.true_or,uw]
  ·rw [yE e,decide_eq_false e,oS];exact Ef k r
theorem ni (kvs:List (κ×V)) (k:κ) (v:V):(kG kvs k v).length<=kvs.length + 1:=by
 unfold kG
 split
 ·rw [al];omega
 ·rw [aB,aU,bO];omega
theorem yy.isSome_eq {o:Option V}{u:Option a9} (r:yy o u):o.isSome=u.isSome:=by
 cases o with
 | none=>cases u with
  | none=>rfl
  | some _=>exact (show False from r).elim
 | some _=>cases u with
  | none=>exact (show False from r).elim
  | some _=>rfl
theorem KV.val {kvs:List (κ×V)}{vs:List (κ×a9)} (r:KV kvs vs) (k:κ):yy (oG kvs k) (Ar vs k):=by
 unfold KV at r
 induction r with
 | nil=>exact iN
 | @cons p q ps qs h t ih =>
  obtain ⟨h1,h2⟩:=h
  by_cases e:p.1=k
  ·have e':q.1=k:=h1.symm.trans e
   have b:Ar (q::qs) k=some q.2:=by simp [Ar,cc,e']
   rw [yD e,b];exact h2
  ·have e':¬ q.1=k:=fun z=>e (h1.trans z)
   have b:Ar (q::qs) k=Ar qs k:=by simp [Ar,cc,e']
   rw [yE e,b];exact ih
theorem KV.any {kvs:List (κ×V)}{vs:List (κ×a9)} (r:KV kvs vs) (k:κ):(kvs.any fun kv=>decide (kv.1=k))=vs.any fun kv=>decide (kv.1=k):=by
 unfold KV at r
 induction r with
 | nil=>rfl
 | cons h t ih=>rw [ef,ef,ih,h.1]
theorem KV.repl {kvs:List (κ×V)}{vs:List (κ×a9)} (r:KV kvs vs) (k:κ) {y:V}{u:a9} (ry:dw y u) :
  KV (kvs.map fun kv=>if kv.1=k then (kv.1,y) else kv) (vs.map fun kv=>if kv.1=k then (kv.1,u) else kv):=by
 unfold KV at r ⊢
 induction r with
 | nil=>exact .nil
 | @cons p q ps qs h t ih =>
  rw [aI,aI]
  refine .cons ?_ ih
  obtain ⟨h1,h2⟩:=h
  by_cases e:p.1=k
  ·rw [if_pos e,if_pos (h1.symm.trans e)];exact ⟨h1,ry⟩
  ·rw [if_neg e,if_neg (fun z=>e (h1.trans z))];exact ⟨h1,h2⟩
theorem KV.put {kvs:List (κ×V)}{vs:List (κ×a9)} (r:KV kvs vs) (k:κ) {y:V}{u:a9} (ry:dw y u):KV (kG kvs k y) (GA vs k u):=by
 unfold kG GA
 rw [r.any k]
 by_cases e:(vs.any fun kv=>decide (kv.1=k))=true
 ·rw [if_pos e,if_pos e];exact r.repl k ry
 ·rw [if_neg e,if_neg e];exact Paired.snoc r ⟨rfl,ry⟩
theorem KV.length {kvs:List (κ×V)}{vs:List (κ×a9)} (r:KV kvs vs):kvs.length=vs.length:=j0 r
end
theorem Bu {P:aO}{w:bd}{k:cR}{u:a9} (r:dw (kV k) u):(dv P w).is k u=true:=by
 cases k with
 | inl i=>obtain ⟨t,e⟩:=(show ∃ t,u=mP i t from r);subst e;exact E4 P w i t
 | inr x=>obtain ⟨t,e⟩:=(show ∃ t,u=jv x t from r);subst e;exact E5 P w x t
theorem Bv {P:aO}{w:bd}:∀ {ks:List cR}{us:List a9},da (ks.map kV) us->ItemsAre (dv P w) ks us
 | [],_,r=>by rw [eX] at r;cases r;exact .nil
 | k::ks,_,r=>by
  rw [aI] at r
  cases r with
  | cons h t=>exact .cons (Bu h) (Bv t)
abbrev KT (H:Hp):List (List cR×V)->List (List cR×ah×a9)->Prop:=Go fun p q=>p.1=q.1/\H q.2.1=some (.tup (p.1.map kV))/\dw p.2 q.2.2
theorem KT.val {H:Hp}{kvs:List (List cR×V)}{xs:List (List cR×ah×a9)} (r:KT H kvs xs) (k:List cR):yy (oG kvs k) ((GB xs k).map (·.2)):=by
 induction r with
 | nil=>exact iN
 | @cons p q ps qs h t ih =>
  obtain ⟨h1,_,h2⟩:=h
  by_cases e:p.1=k
  ·have e':q.1=k:=h1.symm.trans e
   have b:GB (q::qs) k=some q.2:=by simp [GB,cc,e']
   rw [yD e,b];exact h2
  ·have e':¬ q.1=k:=fun z=>e (h1.trans z)
   have b:GB (q::qs) k=GB qs k:=by simp [GB,cc,e']
   rw [yE e,b];exact ih
theorem KT.repl {H:Hp}{kvs:List (List cR×V)}{xs:List (List cR×ah×a9)} (r:KT H kvs xs) (k:List cR) {y:V}{u:a9} (ry:dw y u) :
  KT H (kvs.map fun kv=>if kv.1=k then (kv.1,y) else kv) (xs.map (putAt k u)):=by
 induction r with
 | nil=>exact .nil
 | @cons p q ps qs h t ih =>
  rw [aI,aI]
  refine .cons ?_ ih
  obtain ⟨h1,h2,h3⟩:=h
  unfold putAt
  by_cases e:p.1=k
  ·rw [if_pos e,if_pos (h1.symm.trans e)];exact ⟨h1,h2,ry⟩
  ·rw [if_neg e,if_neg (fun z=>e (h1.trans z))];exact ⟨h1,h2,h3⟩
theorem KT.put {H:Hp}{kvs:List (List cR×V)}{xs:List (List cR×ah×a9)} (r:KT H kvs xs) (k:List cR) {b:ah}{y:V}{u:a9} (hb:H b=some (.tup (k.map kV))) (ry:dw y u) :
  KT H (kG kvs k y) (storedH xs k b u):=by
 have e:(kvs.any fun kv=>decide (kv.1=k))=(GB xs k).isSome:=by
  rw [Ef,(r.val k).isSome_eq,vL]
 unfold kG storedH
 rw [e]
 by_cases q:(GB xs k).isSome=true
 ·rw [if_pos q,if_pos q];exact r.repl k ry
 ·rw [if_neg q,if_neg q];exact Paired.snoc r ⟨rfl,hb,ry⟩
theorem KT.keeps {H H':Hp}{kvs:List (List cR×V)}{xs:List (List cR×ah×a9)} (r:KT H kvs xs) (ht:∀ b ys,H b=some (.tup ys)->H' b=some (.tup ys)):KT H' kvs xs :=
 Paired.mapP r fun _ _ z=>⟨z.1,ht _ _ z.2.1,z.2.2⟩
section
variable {P:aO}{w:bd}{H:Hp}{h:bt}{a:ah}
theorem S0 {u:HO} (ok:qo P w H h) (e:Rd H a u):db P w H h a u:=e.ok ok
theorem Eg {kvs:List (cR×V)} (ok:qo P w H h) (e:Rd H a (.dK kvs)):kvs.length<=sizeLine/\(a == gd)=false/\∃ vs,KV kvs vs/\h.DictOf (dv P w) a vs :=
 show db P w H h a (.dK kvs) from S0 ok e
theorem Vr {kvs:List (cR×V)} (ok:qo P w H h) (e:H a=some (.dK kvs)):kvs.length<=sizeLine/\(a == gd)=false/\∃ vs,KV kvs vs/\h.DictOf (dv P w) a vs:=Eg ok (.inl e)
theorem wf {ks:List cR} (ok:qo P w H h) (e:H a=some (.tup (ks.map kV))):(sI (dv P w)).is h ks a:=by
 obtain ⟨_,its,r,o,h1,h2,n,h3⟩:=(show db P w H h a (.tup (ks.map kV)) from ok a _ e)
 exact ⟨o,its.toArray,n,h1,h2,h3,by simpa using Bv r⟩
theorem Eh {kvs:List (List cR×V)} (ok:qo P w H h) (e:Rd H a (.dT kvs)):kvs.length<=sizeLine/\(a == gd)=false /\
  ∃ xs,KT H kvs xs/\h.DictOfH (sI (dv P w)) a xs:=by
 obtain ⟨z,y,xs,r,o,es,ep,h1,h2,h3,h4,h5⟩:=(show db P w H h a (.dT kvs) from S0 ok e)
 refine ⟨z,y,xs,r,o,es,ep,h1,h2,h3,h4,fun x hx=>?_,h5⟩
 have all:∀ {l:List (List cR×V)}{m:List (List cR×ah×a9)},KT H l m->∀ x∈m,(sI (dv P w)).is h x.1 x.2.1:=by
  intro l m q
  induction q with
  | nil=>intro x hx;exact nomatch hx
  | @cons p q ps qs hq t ih =>
   intro x hx
   rcases List.mem_cons.mp hx with e | hx
   ·subst e
    exact wf ok (by rw [<- hq.1];exact hq.2.1)
   ·exact ih x hx
 exact all r x hx
theorem S1 {kvs:List (List cR×V)} (ok:qo P w H h) (e:H a=some (.dT kvs)):kvs.length<=sizeLine/\(a == gd)=false /\
  ∃ xs,KT H kvs xs/\h.DictOfH (sI (dv P w)) a xs:=Eh ok (.inl e)
end
def xE (H:Hp) (a:ah) (y:V) (r:Option V):Prop :=
 (∃ kvs k,Rd H a (.dK kvs)/\y=kV k/\r=oG kvs k)\/∃ kvs k b,Rd H a (.dT kvs)/\y=.ref b/\H b=some (.tup (k.map kV))/\r=oG kvs k
def Ei (H:Hp) (a:ah) (y v:V) (H':Hp):Prop :=
 (∃ kvs k,H a=some (.dK kvs)/\y=kV k/\kvs.length<sizeLine/\H'=upd H a (.dK (kG kvs k v))) \/
 ∃ kvs k b,H a=some (.dT kvs)/\y=.ref b/\H b=some (.tup (k.map kV))/\kvs.length<sizeLine/\H'=upd H a (.dT (kG kvs k v))
theorem xE.k {H:Hp}{a:ah}{kvs:List (cR×V)}{k:cR} (e:H a=some (.dK kvs)):xE H a (kV k) (oG kvs k):=.inl ⟨kvs,k,.inl e,rfl,rfl⟩
theorem xE.t {H:Hp}{a b:ah}{kvs:List (List cR×V)}{k:List cR} (e:H a=some (.dT kvs)) (eb:H b=some (.tup (k.map kV))):xE H a (.ref b) (oG kvs k):=.inr ⟨kvs,k,b,.inl e,rfl,eb,rfl⟩
theorem Ei.k {H:Hp}{a:ah}{kvs:List (cR×V)}{k:cR}{v:V} (e:H a=some (.dK kvs)) (hl:kvs.length<sizeLine):Ei H a (kV k) v (upd H a (.dK (kG kvs k v))):=.inl ⟨kvs,k,e,rfl,hl,rfl⟩
theorem Ei.t {H:Hp}{a b:ah}{kvs:List (List cR×V)}{k:List cR}{v:V} (e:H a=some (.dT kvs)) (eb:H b=some (.tup (k.map kV))) (hl:kvs.length<sizeLine) :
  Ei H a (.ref b) v (upd H a (.dT (kG kvs k v))):=.inr ⟨kvs,k,b,e,rfl,eb,hl,rfl⟩
section
variable {X:Cx}{pins:List (ah×Obj)}{σ:St}{H:Hp}{s:af}{a:ah}{y v:V}{u r:a9}{o:Option V}{A:bg}{E:a9->af->Prop}
theorem bG.big (I:bG X pins σ H s):gd<s.heap.objs.size:=by
 have h:bM<s.heap.objs.size:=(I.mod.glob.keeps I.bk).lt
 exact xw (by decide) h
theorem KC {Q:a9->af->Prop} (hu:A.units + 1<kj) (I:bG X pins σ H s) (g:xE H a y (some v)) (ry:dw y u) (h:∀ w' s',bG X pins σ H s'->dw v w'->Q w' s') :
  aq (aL X.prog X.w) A (qD (.ref a) u) Q E s:=by
 rcases g with ⟨kvs,k,e,ey,l⟩ | ⟨kvs,k,b,e,ey,eb,l⟩
 ·subst ey
  obtain ⟨z,hd,vs,rel,dd⟩:=Eg I.hok e
  obtain ⟨w',hw,rw'⟩:=yy.some_of (v:=v) (o:=Ar vs k) (by rw [l];exact rel.val k)
  exact wpAny_getItem_of (Bu ry) dd.mapOf hw (h w' _ (I.tok _) rw')
 ·subst ey
  cases (show u=bL b from ry)
  obtain ⟨z,hd,xs,rel,dd⟩:=Eh I.hok e
  obtain ⟨w',hw,rw'⟩:=yy.some_of (v:=v) (o:=(GB xs k).map (·.2)) (by rw [l];exact rel.val k)
  obtain ⟨p,hp,hp2⟩:=Option.map_eq_some_iff.mp hw
  refine wpAny_getItem_heap (oY hu) (wf I.hok eb) dd hp ?_
  rw [hp2]
  exact h w' _ (I.tok _) rw'
theorem d_in {Q:a9->af->Prop} (hu:A.units + 1<kj) (I:bG X pins σ H s) (g:xE H a y o) (ry:dw y u) (h:∀ s',bG X pins σ H s'->Q (.bool o.isSome) s') :
  aq (aL X.prog X.w) A (bH .In u (.ref a)) Q E s:=by
 rcases g with ⟨kvs,k,e,ey,l⟩ | ⟨kvs,k,b,e,ey,eb,l⟩
 ·subst ey
  obtain ⟨z,hd,vs,rel,dd⟩:=Eg I.hok e
  refine wpAny_in_of (Bu ry) hd dd.mapOf ?_
  rw [<- (rel.val k).isSome_eq,<- l]
  exact h _ (I.tok _)
 ·subst ey
  cases (show u=bL b from ry)
  obtain ⟨z,hd,xs,rel,dd⟩:=Eh I.hok e
  refine wpAny_in_heap (oY hu) (wf I.hok eb) hd dd ?_
  have q:=(rel.val k).isSome_eq
  rw [vL] at q
  rw [<- q,<- l]
  exact h _ (I.tok _)
theorem Qn {Q:a9->af->Prop} (hu:A.units + 1<kj) (I:bG X pins σ H s) (g:xE H a y o) (ry:dw y u) (h:∀ s',bG X pins σ H s'->Q (.bool (!o.isSome)) s') :
  aq (aL X.prog X.w) A (bH .NotIn u (.ref a)) Q E s:=by
 rcases g with ⟨kvs,k,e,ey,l⟩ | ⟨kvs,k,b,e,ey,eb,l⟩
 ·subst ey
  obtain ⟨z,hd,vs,rel,dd⟩:=Eg I.hok e
  refine wpAny_notIn_of (Bu ry) hd dd.mapOf ?_
  rw [<- (rel.val k).isSome_eq,<- l]
  exact h _ (I.tok _)
 ·subst ey
  cases (show u=bL b from ry)
  obtain ⟨z,hd,xs,rel,dd⟩:=Eh I.hok e
  refine wpAny_notIn_heap (oY hu) (wf I.hok eb) hd dd ?_
  have q:=(rel.val k).isSome_eq
  rw [vL] at q
  rw [<- q,<- l]
  exact h _ (I.tok _)
theorem CA {h':bt}{t':Nat}{ob:HO} (I:bG X pins σ H s) (mu:V4 (H a)) (hs:bF a s.heap h') (he:∃ q,h'.get? a=some q) (new:db X.prog X.w (upd H a ob) h' a ob) :
  bG X pins σ (upd H a ob) { s with heap:=h',toks:=t' } :=
 I.write (x:=a) (e:=a) mu (.inl rfl) (fun b q hb z=>(hs.2 b hb).trans z) he new
theorem MJ {P:aO}{w:bd}{H':Hp}{h':bt}{kvs:List (cR×V)}{vs:List (cR×a9)} (z:kvs.length<=sizeLine) (hd:(a == gd)=false) (rel:KV kvs vs) (dd:h'.DictOf (dv P w) a vs) :
  db P w H' h' a (.dK kvs):=⟨z,hd,vs,rel,dd⟩
theorem KD {H':Hp}{Q:Unit->af->Prop} (hu:A.units + 1<kj) (I:bG X pins σ H s) (g:Ei H a y v H') (ry:dw y u) (rv:dw v r) (h:∀ s',bG X pins σ H' s'->Q () s') :
  aq (aL X.prog X.w) A (setItem (.ref a) u r) Q E s:=by
 rcases g with ⟨kvs,k,e,ey,l,eH⟩ | ⟨kvs,k,b,e,ey,eb,l,eH⟩
 ·subst ey eH
  obtain ⟨z,hd,vs,rel,dd⟩:=Vr I.hok e
  have hz:vs.length<=sizeLine:=by rw [<- rel.length];exact z
  have hl:(kG kvs k v).length<=sizeLine:=by have:=ni kvs k v;omega
  refine wpAny_setItem_pairs (hsz:=hz) (Bu ry) dd fun h' dd' hs=>h _ ?_
  have he:∃ q,h'.get? a=some q:=let ⟨q,_,_,hq,_⟩:=dd';⟨q,hq⟩
  exact CA I (by rw [e];exact iN) hs he (MJ hl hd (rel.put k rv) dd')
 ·subst ey eH
  cases (show u=bL b from ry)
  obtain ⟨z,hd,xs,rel,dd⟩:=S1 I.hok e
  have hz:xs.length<=sizeLine:=by rw [<- j0 rel];exact z
  have hl:(kG kvs k v).length<=sizeLine:=by have:=ni kvs k v;omega
  refine wpAny_setItem_heap (hsz:=hz) (oY hu) (wf I.hok eb) dd fun h' dd' hs=>h _ ?_
  obtain ⟨q,es,ep,hq,h2,h3,h4,_,h5⟩:=dd'
  refine CA I (by rw [e];exact iN) hs ⟨q,hq⟩ ⟨hl,hd,_,(rel.put k eb rv).keeps fun c ys ec=>?_,q,es,ep,hq,h2,h3,h4,h5⟩
  rw [aS (Me ec e (fun z=>nomatch z))]
  exact ec
end
section
variable {X:Cx}{pins:List (ah×Obj)}{σ:St}{H:Hp}{s:af}{a:ah}{kvs:List (cR×V)}{k:cR}{u:a9}{A:bg}{E:a9->af->Prop}
end
def Vs (i:a_):Prop:=∀ ov iv,DR i false ov iv=operate [ov,iv] (qD ov iv)
theorem Qo {prog:aO}{w:bd}{A:bg}{E:a9->af->Prop}{s:af}{env:Env}{value slice:a_}{pos:Pos}{T id:String}{Q:a9->af->Prop}
  (hl:yr (.type T) "__getitem__"=pure (some (.builtin id))) (hs:Vs slice)
  (h:aq (aL prog w) A (du value env) (fun o s₁=>aq (aL prog w) A (du slice env) (fun i s₂=>s₂.TypeIs o T/\aq (aL prog w) A (qD o i) Q E s₂) E s₁) E s) :
  aq (aL prog w) A (du (.Subscript value slice pos) env) Q E s:=by
 refine Subscript_ (bE h (fun o s₁ h₁=>bE h₁ (fun i s₂ h₂=>?_) fun _ _ x=>x) fun _ _ x=>x)
 obtain ⟨hT,h₂⟩:=h₂
 unfold Ke
 refine a7 ?_
 rw [getitemInPython_of_ne hT.not_modules]
 refine a7 (wpAny_specialOf hT hl ?_)
 have fin:aq (aL prog w) A (DR slice false o i) (fun r s₃=>aq (aL prog w) A (letTemporaryGo value o r >>= fun _=>pure r) Q E s₃) E s₂:=by
  rw [hs o i]
  exact wpAny_operating (bE h₂ (fun r s₃ h₃=>a7 (wpAny_letTemporaryGo (ae h₃))) fun _ _ x=>x)
 first
  | exact ae (a7 fin)
  | exact a7 (ae (a7 fin))
  | exact a7 fin
theorem Ej {X:Cx}{pins:List (ah×Obj)}{σ:St}{H:Hp}{s:af}{a:ah}{y:V}{o:Option V} (I:bG X pins σ H s) (g:xE H a y o):s.TypeIs (.ref a) "dict":=by
 rcases g with ⟨kvs,k,e,_,_⟩ | ⟨kvs,k,b,e,_,_,_⟩
 ·obtain ⟨_,_,vs,_,dd⟩:=Eg I.hok e
  exact dd.typeIs
 ·obtain ⟨_,_,xs,_,dd⟩:=Eh I.hok e
  exact dd.typeIs
def Vt (td ty:TE):TE:=fun σ H Q=>td σ H fun x H1=>ty σ H1 fun y H2=>∃ a v,x=.ref a/\xE H2 a y (some v)/\Q v H2
def S2 (td ty tv:TE):TS:=fun D σ H=>tv σ H fun v H1=>td σ H1 fun x H2=>ty σ H2 fun y H3=>∃ a H4,x=.ref a/\Ei H3 a y v H4/\D.nx σ H4
section
variable {X:Cx}{o i e value:a_}{pos pos' tpos:Pos}{td ty tv:TE}
theorem IU (hu:X.A.units + 1<kj) (ho:PE X o td) (hi:PE X i ty) (hs:Vs i):PE X (.Subscript o i pos) (Vt td ty):=by
 intro pins s σ H Q I h
 refine Qo PySem.F.slot_dict_getitem.lookup hs (fm (ho pins s σ H _ I h) fun u s1 ⟨x,H1,I1,rx,q1⟩=>fm (hi pins s1 σ H1 _ I1 q1) fun iv s2 ⟨y,H2,I2,ry,a,v,ex,g,q2⟩=>?_)
 subst ex
 obtain rfl:u=bL a:=rx
 exact ⟨Ej I2 g,KC hu I2 g ry fun w' s3 I3 rw'=>⟨v,H2,I3,rw',q2⟩⟩
theorem IV (hu:X.A.units + 1<kj) (ho:PE X o td) (hi:PE X i ty) (hv:PE X value tv) (hs:gL value (some (.Subscript o i pos')) pos.line X.env=pure false) :
  PS X (.Assign [.Subscript o i pos'] value pos) (S2 td ty tv):=by
 intro pins s σ H D I h
 refine wpAny_Assign_Subscript (fm (hv pins s σ H _ I h) fun r s1 ⟨v,H1,I1,rv,q1⟩=>fm (ho pins s1 σ H1 _ I1 q1) fun u s2 ⟨x,H2,I2,rx,q2⟩=>fm (hi pins s2 σ H2 _ I2 q2) fun iv s3 ⟨y,H3,I3,ry,a,H4,ex,g,q3⟩=>?_) hs
 subst ex
 obtain rfl:u=bL a:=rx
 exact KD hu I3 g ry rv fun s4 I4=>⟨σ,H4,I4,q3⟩
end
theorem MK {P:aO}{w:bd}{H:Hp} (h:bt) (hb:gd<h.objs.size):db P w H (h.push { cls:=.type "dict",data:=.dict #[] }) h.objs.size (.dK []) :=
 ⟨c_ _,beq_eq_false_iff_ne.mpr (de (aC hb)),[],.nil,Ge h⟩
theorem ML {P:aO}{w:bd}{H:Hp} (h:bt) (hb:gd<h.objs.size):db P w H (h.push { cls:=.type "dict",data:=.dict #[] }) h.objs.size (.dT []) :=
 ⟨c_ _,beq_eq_false_iff_ne.mpr (de (aC hb)),[],.nil,_,#[],0,az _ rfl,⟨rfl,rfl,rfl⟩,rfl,rfl,gP⟩
def TU:TE:=fun _ H Q=>∀ p,H p=none->Q (.ref p) (upd H p (.dK []))
section
variable {X:Cx}{pos:Pos}
theorem MM:PE X (.Dict [] [] pos) TU:=fun pins s σ H Q I h =>
 wpAny_Dict_empty ⟨.ref s.heap.objs.size,_,I.laid (a:=s.heap.objs.size) (o:=.dK []) (t':=s.toks) (fun _ _ q=>ag _ q) (ar _) (MK s.heap I.big),rfl,h _ (I.hok.fresh (ar _))⟩
end
def yF (kvs more:List (cR×V)):List (cR×V):=more.foldl (fun acc kv=>kG acc kv.1 kv.2) kvs
theorem KV.merge:∀ {more:List (cR×V)}{rs:List (cR×a9)}{kvs:List (cR×V)}{vs:List (cR×a9)},KV more rs->KV kvs vs->KV (yF kvs more) (merged vs rs):=by
 intro more rs kvs vs r
 unfold KV at r
 induction r generalizing kvs vs with
 | nil=>intro q;exact q
 | @cons p q ps qs h t ih =>
  intro r0
  have e:KV (kG kvs p.1 p.2) (GA vs q.1 q.2):=by
   have:=r0.put p.1 h.2
   rw [<- h.1];exact this
  exact ih e
theorem t5:∀ (more kvs:List (cR×V)),(yF kvs more).length<=kvs.length + more.length
 | [],kvs=>by show kvs.length<=kvs.length + 0;omega
 | p::r,kvs=>by
  have h1:=t5 r (kG kvs p.1 p.2)
  have h2:=ni kvs p.1 p.2
  show (yF (kG kvs p.1 p.2) r).length<=_
  rw [aU];omega
section
variable {X:Cx}{pins:List (ah×Obj)}{σ:St}{H:Hp}{s:af}{a:ah}{y d:V}{u r:a9}{o:Option V}{A:bg}{E:a9->af->Prop}
end
section
variable {X:Cx}{o e f:a_}{apos cpos:Pos}{td ty tx:TE}
end
section
variable {X:Cx}{pins:List (ah×Obj)}{σ:St}{H:Hp}{s:af}{a:ah}{kvs:List (cR×V)}{A:bg}{E:a9->af->Prop}
end
section
variable {X:Cx}{pins:List (ah×Obj)}{σ:St}{H:Hp}{s:af}{a:ah}{y:V}{u:a9}{A:bg}{E:a9->af->Prop}
end
end L2
namespace L2
open PySem PySem.Spec PyProof.Rows
section
variable {X:Cx}
end
section
variable {κ:Type} [DecidableEq κ]
theorem uW:∀ {l:List κ}{k:κ},l.Nodup->¬ k∈l->(l++[k]).Nodup
 | [],k,_,_=>by simp
 | a::r,k,h,hk=>by
  obtain ⟨h1,h2⟩:=List.nodup_cons.mp h
  show (a::(r++[k])).Nodup
  refine List.nodup_cons.mpr ⟨fun m=>?_,uW h2 fun m=>hk (List.mem_cons.mpr (dD m))⟩
  rcases List.mem_append.mp m with q | q
  ·exact h1 q
  ·exact hk (List.mem_cons.mpr (fv (List.mem_singleton.mp q).symm))
end
end L2
end
namespace L2
open PySem PySem.Spec PyProof.Rows
section
section
variable {prog:aO}{w:bd}{A:bg}{R:vQ->af->Prop}{s:af}
theorem CB {elt target iter:a_}{ifs:List a_}{scope:eT}{pos:Pos}{it acc:a9}{env:Env} (I:Nat->af->Prop)
  (turn:∀ n s,I n s->aq (aL prog w) A (jw it) (fun r s₁=>match r with
   | none=>R (.ok .next) s₁
   | some v=>aq (aL prog w) A (gM target it v) (fun _ s₁'=>aq (aL prog w) A (qJ target env v) (fun _ s₂ =>
     aq (aL prog w) A (forIn ifs true fun c r=>if r=true then do let ok <- vP c env (du c env);pure (fR ok) else pure (fR r)) (fun ok s₃ =>
      if ok=true then aq (aL prog w) A (du elt env) (fun x s₄ =>
       aq (aL prog w) A (call (.builtin "list.append") [acc,x]) (fun _ s₅=>∃ m,m<n/\I m s₅) (fun _ _=>False) s₄) (fun _ _=>False) s₃
      else ∃ m,m<n/\I m s₃) (fun _ _=>False) s₂) (fun _ _=>False) s₁') (fun _ _=>False) s₁) (fun _ _=>False) s)
  (n:Nat) (h:I n s) :
  hZ (aL prog w) A (.compLoop (.ListComp elt [⟨target,iter,ifs,0⟩] scope pos) 0 it acc env) R s:=by
 refine codeAny_loop rfl I (fun n s hI=>?_) n h
 show aq _ A ((compTurn (.ListComp elt [⟨target,iter,ifs,0⟩] scope pos) 0 it acc env).onRaise (fun x=>do Cg x env;theTreesLotGoes x)) _ _ s
 refine wpAny_noted ?_
 rw [compTurn_list]
 have nf:∀ {α:Type}{t:Sem α}{Q:α->af->Prop}{E':a9->af->Prop}{s:af},aq (aL prog w) A t Q (fun _ _=>False) s->aq (aL prog w) A t Q E' s :=
  fun h=>bE h (fun _ _ q=>q) fun _ _ f=>f.elim
 refine a7 (iM (a7 (nf (bE (turn n s hI) (fun r s₁ h₁=>?_) fun _ _ h'=>h'))))
 cases r with
 | none=>exact ae h₁
 | some v =>
  refine a7 (nf (bE h₁ (fun _ s₁' h₁'=>?_) fun _ _ h'=>h'))
  refine a7 (nf (bE h₁' (fun _ s₂ h₂=>a7 (nf (bE h₂ (fun ok s₃ h₃=>?_) fun _ _ h'=>h'))) fun _ _ h'=>h'))
  cases ok with
  | false=>exact ae ⟨rfl,h₃⟩
  | true =>
   exact a7 (a7 (nf (bE h₃ (fun x s₄ h₄=>a7 (nf (bE h₄ (fun _ s₅ h₅=>ae (ae ⟨rfl,h₅⟩)) fun _ _ h'=>h'))) fun _ _ h'=>h')))
end
theorem Hb {env : Env} (names : List (Str × jN)) : ∀ (cs : List (Str × ah)), (∀ y ∈ names, y.2 = .free -> ∃ c, env.cells.lookup y.1 = some c) ->
    (∀ x c, cs.lookup x = some c -> env.cells.lookup x = some c) ->
    ∃ cl, (forIn names cs fun (x : Str × jN) (cs : List (Str × ah)) => match x with
        | (name, kind) => if (kind == cw) = true then do let a <- cellOf env name; pure (fR ((name, a) :: cs)) else pure (fR cs) : Sem (List (Str × ah))) = pure cl /\
      (∀ x c, cl.lookup x = some c -> env.cells.lookup x = some c) /\ (∀ y ∈ names, y.2 = .free -> ∃ c, cl.lookup y.1 = some c) /\ (∀ x c, cs.lookup x = some c -> ∃ c', cl.lookup x = some c') := by
  induction names with
  | nil => intro cs _ h2; exact ⟨cs, rfl, h2, fun _ h => absurd h (by simp), fun x c h => ⟨c, h⟩⟩
  | cons nk r ih =>
    obtain ⟨n, k⟩ := nk
    intro cs h1 h2
    by_cases hk : k = .free
    · subst hk
      obtain ⟨a, ha⟩ := h1 (n, .free) ao rfl
      have h2' : ∀ x c, ((n, a) :: cs).lookup x = some c -> env.cells.lookup x = some c := fun x c h => by
        rw [cV] at h
        cases e : x == n with
        | true => rw [e] at h; have : x = n := by simpa using e
                  subst this; cases h; exact ha
        | false => rw [e] at h; exact h2 x c h
      obtain ⟨cl, e1, e2, e3, e4⟩ := ih ((n, a) :: cs) (fun y hy => h1 y (am _ hy)) h2'
      refine ⟨cl, ?_, e2, fun y hy hf => ?_, fun x c h => ?_⟩
      · rw [jq]
        have hc : cellOf env n = pure a := by unfold cellOf; rw [ha]
        simp only [beq_self_eq_true, if_true, hc]
        exact e1
      · rcases List.mem_cons.mp hy with rfl | hy
        · exact e4 n a (by simp)
        · exact e3 y hy hf
      · cases e : x == n with
        | true => exact e4 x a (by rw [cV, e])
        | false => exact e4 x c (by rw [cV, e]; exact h)
    · obtain ⟨cl, e1, e2, e3, e4⟩ := ih cs (fun y hy => h1 y (am _ hy)) h2
      refine ⟨cl, ?_, e2, fun y hy hf => ?_, e4⟩
      · rw [jq]
        have hk' : (k == cw) = false := by simpa using hk
        simp only [hk', c7, if_false]
        exact e1
      · rcases List.mem_cons.mp hy with rfl | hy
        · exact absurd hf hk
        · exact e3 y hy hf
theorem tO {scope:eT}{env:Env} (h:∀ y∈scope.names,y.2=.free->∃ c,env.cells.lookup y.1=some c):∃ cl,closureFor scope env=pure cl /\
  (∀ x c,cl.lookup x=some c->env.cells.lookup x=some c)/\(∀ y∈scope.names,y.2=.free->∃ c,cl.lookup y.1=some c):=by
 obtain ⟨cl,e1,e2,e3,_⟩:=Hb (env:=env) scope.names [] h (fun x c h=>by simp at h)
 refine ⟨cl,?_,e2,e3⟩
 simp only [closureFor]
 rw [show (forIn scope.names ([] : List (Str×ah)) fun x r=>_)=(pure cl:Sem (List (Str×ah))) from e1]
 rfl
end
section
def cS (X:Cx) (N':List Str) (scope:eT) (cl:List (Str×ah)) (C:ah) (s₀:af) (H₀:Hp) (ex:List ah) (pn:List (ah×Obj)):Cx :=
 { X with N:=N',s₀:=s₀,H₀:=H₀,env:=compEnvC scope cl C X.env,outer:=X.stack,stack:=X.stack,ex:=ex,fn:=fun y=>scope.names.lookup y == some .cell,pn:=pn,xe:=fun _ _=>False }
def Pt (X:Cx) (ifs:List a_) (t:TT):Prop :=
 ∀ (pins:List (ah×Obj)) (s:af) (σ:St) (H:Hp) (Q:Bool->Hp->Prop),bG X pins σ H s->t σ H Q ->
  aq (aL X.prog X.w) X.A (forIn ifs true fun c r=>if r=true then do let ok <- vP c X.env (du c X.env);pure (fR ok) else pure (fR r)) (TP X pins σ Q) X.xe s
def XT:TT:=fun _ H Q=>Q true H
theorem Qp {X:Cx}:Pt X [] XT:=fun pins s σ H Q I h=>wpAny_tests_nil ⟨H,I,h⟩
theorem Qq {X:Cx}{c:a_}{t:TT} (h:PT X c t):Pt X [c] t:=fun pins s σ H Q I hw=>wpAny_tests_one (h pins s σ H Q I hw)
structure o6 (X:Cx) (scope:eT) (N':List Str) (nt:Nat) (ix:List Nat):Prop where
 kind:scope.kind=.function
 cel:∀ y∈scope.names,y.2=.cell->scope.names.lookup y.1=some .cell
 loc:∀ y∈scope.names,y.2=.local->scope.names.lookup y.1=some .local
 free:∀ y∈scope.names,y.2=.free->X.env.scope.names.lookup y.1=some .cell\/X.env.scope.names.lookup y.1=some .free
 cap:∀ k i,ix[k]?=some i->∃ x,X.N[i]?=some x/\N'[nt + k]?=some x/\scope.names.lookup x=some .free
 len:N'.length=nt + ix.length
def ju (nt:Nat) (ix:List Nat) (σ:St):St:=mX nt none++ix.map fun i=>(σ[i]?).join
theorem sP {env:Env}{x:Str}{names:List (Str×jN)}:names.lookup x=some .free ->
  (names.map fun (n,k)=>if (k == cw && env.scope.kind == .function && env.kindOf n == some .cell) then (n,dZ) else (n,k)).lookup x=some .free \/
  (names.map fun (n,k)=>if (k == cw && env.scope.kind == .function && env.kindOf n == some .cell) then (n,dZ) else (n,k)).lookup x=some .cell:=by
 induction names with
 | nil=>intro h;simp at h
 | cons nk r ih =>
  obtain ⟨n,k⟩:=nk
  intro h
  show yt x ((if (k == cw && env.scope.kind == .function && env.kindOf n == some .cell)=true then (n,dZ) else (n,k))::_)=_ \/
   yt x ((if (k == cw && env.scope.kind == .function && env.kindOf n == some .cell)=true then (n,dZ) else (n,k))::_)=_
  cases hx:x == n with
  | true =>
   simp only [cV,hx] at h
   cases h
   by_cases hc:(cw == cw && env.scope.kind == .function && env.kindOf n == some .cell)=true
   ·rw [if_pos hc];right;simp [cV,hx]
   ·rw [if_neg hc];left;simp [cV,hx]
  | false =>
   simp only [cV,hx] at h
   by_cases hc:(k == cw && env.scope.kind == .function && env.kindOf n == some .cell)=true
   ·rw [if_pos hc];simp only [cV,hx];exact ih h
   ·rw [if_neg hc];simp only [cV,hx];exact ih h
theorem uX {env:Env}{x:Str}{names:List (Str×jN)} :
  ((names.map fun (n,k)=>if (k == cw && env.scope.kind == .function && env.kindOf n == some .cell) then (n,dZ) else (n,k)).lookup x=some .free \/
  (names.map fun (n,k)=>if (k == cw && env.scope.kind == .function && env.kindOf n == some .cell) then (n,dZ) else (n,k)).lookup x=some .cell) ->
  (x,cw)∈names\/(x,dZ)∈names:=by
 induction names with
 | nil=>intro h;simp at h
 | cons nk r ih =>
  obtain ⟨n,k⟩:=nk
  intro h
  have h:yt x ((if (k == cw && env.scope.kind == .function && env.kindOf n == some .cell)=true then (n,dZ) else (n,k))::_)=_ \/
   yt x ((if (k == cw && env.scope.kind == .function && env.kindOf n == some .cell)=true then (n,dZ) else (n,k))::_)=_:=h
  cases hx:x == n with
  | true =>
   have e:x=n:=by simpa using hx
   subst e
   by_cases hc:(k == cw && env.scope.kind == .function && env.kindOf x == some .cell)=true
   ·have:k=.free:=by simp at hc;exact hc.1.1
    subst this;left;exact ao
   ·rw [if_neg hc] at h;simp only [cV,hx] at h
    rcases h with h | h
    ·cases h;left;exact ao
    ·cases h;right;exact ao
  | false =>
   have h':=ih (by
    by_cases hc:(k == cw && env.scope.kind == .function && env.kindOf n == some .cell)=true
    ·rw [if_pos hc] at h;simp only [cV,hx] at h;exact h
    ·rw [if_neg hc] at h;simp only [cV,hx] at h;exact h)
   rcases h' with h' | h'
   ·left;exact am _ h'
   ·right;exact am _ h'
inductive S3 (nt:Nat) (ix:List Nat) (g:TG) (tt:TT) (te:TE) (σ:St) (Q:VK) (J:It) (H1:Hp):Prop
 | mk (W:Nat->Nat->List V->Hp->Prop) (w0:∃ m,W 0 m [] H1) (turn:∀ i m acc H,W i m acc H ->
 (J.stop i H/\∀ p,H p=none->Q (.ref p) (upd H p (.lst acc))) \/
 (J.go i H/\acc.length<sizeLine/\∀ x H',J.yld i H x H'->g x (ju nt ix σ) H' fun σ2 H2=>tt σ2 H2 fun b H3 =>
  if b=true then te σ2 H3 fun y H4=>∃ m',m'<m/\W (i + 1) m' (acc++[y]) H4 else ∃ m',m'<m/\W (i + 1) m' acc H3)):S3 nt ix g tt te σ Q J H1
def MN (nt:Nat) (ix:List Nat) (wi:TI) (g:TG) (tt:TT) (te:TE):TE:=fun σ H Q=>wi σ H (S3 nt ix g tt te σ Q)
theorem iX:∀ (names:List (Str×jN)) (n:Nat) (acc:List (Str×ah)),bn n names acc=bn n names []++acc
 | [],_,_=>rfl
 | (y,k)::r,n,acc=>by
  unfold bn
  split
  ·rw [iX r (n + 1) ((y,n)::acc),iX r (n + 1) [(y,n)],gE];rfl
  ·exact iX r n acc
theorem o7 {x:Str}{c:ah}:∀ (names:List (Str×jN)) (n:Nat) (acc:List (Str×ah)),(x,c)∈bn n names acc->(x,dZ)∈names\/(x,c)∈acc
 | [],_,_,h=>.inr h
 | (y,k)::r,n,acc,h=>by
  unfold bn at h
  split at h
  ·rename_i hk
   have hk:k=.cell:=by simpa using hk
   rcases o7 r _ _ h with z | z
   ·exact .inl (am _ z)
   ·rcases List.mem_cons.mp z with z | z
    ·cases z;subst hk;exact .inl ao
    ·exact .inr z
  ·exact (o7 r _ _ h).imp (am _) id
theorem kH {names:List (Str×jN)}{n:Nat}{cl:List (Str×ah)}{x:Str}{c:ah} (h:(bn n names cl).lookup x=some c) :
  (x,c)∈bn n names []\/((bn n names []).lookup x=none/\cl.lookup x=some c):=by
 rw [iX,LO] at h
 cases e:(bn n names []).lookup x with
 | some d=>rw [e] at h;cases h;exact .inl (dG e)
 | none=>rw [e] at h;exact .inr ⟨rfl,h⟩
theorem IW {M:DO}{A:bg}{E:a9->af->Prop}{s:af}{scope:eT}{globals:ah}{cl:List (Str×ah)}{qual:Str}{func:Option ah}{code:a9}{outer:Env}{builtins:ah}{Q:Env->af->Prop}
  (hQ:∀ h₁,h₁=pushCells (s.heap.push { cls:=.type "dict",data:=.dict #[] }) scope.names->Q (newEnv scope s.heap.objs.size globals (bn (s.heap.objs.size + 1) scope.names cl) qual func code (some outer) builtins) { s with heap:=h₁ }) :
  aq M A (vT scope globals cl [] qual func code (some outer) builtins) Q E s:=by
 simp only [vT,uw,if_true]
 refine a7 (Pz ?_)
 refine a7 (wpAny_layCells _ (fun name kind cells=>by cases hkc:kind == dZ<;>simp [hkc]) _ _ _ _ ?_)
 rw [show ({ s with heap:=s.heap.push { cls:=.type "dict",data:=.dict #[] } }:af).heap.objs.size=s.heap.objs.size + 1 from cx ..]
 refine a7 ?_
 rw [m_]
 exact ae (ae (hQ _ rfl))
theorem Bw (h:bt) (names:List (Str×jN)):CellsOk (pushCells (h.push { cls:=.type "dict",data:=.dict #[] }) names) (h.objs.size + 1) (bn (h.objs.size + 1) names []):=by
 have ok:=cellsFrom_ok names (h.push { cls:=.type "dict",data:=.dict #[] }) (h.objs.size + 1) [] ⟨fun _ _ hm=>(nomatch hm),Bd⟩ (by rw [cx];exact ar _)
 rw [cx] at ok
 exact ok
section
variable {X:Cx}{pins:List (ah×Obj)}{σ:St}{H:Hp}{s:af}
theorem Ek {scope:eT}{N':List Str}{nt:Nat}{ix:List Nat}{cl:List (Str×ah)}{C:ah}{fp:List ah}{h₁:bt}{t':Nat}{m:Str->Option a9}
  (S:o6 X scope N' nt ix) (I:bG X pins σ H s) (c1:∀ x c,cl.lookup x=some c->X.env.cells.lookup x=some c) (c2:∀ y∈scope.names,y.2=.free->∃ c,cl.lookup y.1=some c)
  (hf:∀ b∈fp,qS X pins H b) (ff:∀ b∈fp,b<s.heap.objs.size) (hC:s.heap.objs.size<=C) (hns:h₁.Ns C m) (old:∀ b o,s.heap.get? b=some o->h₁.get? b=some o) (ok:CellsOk h₁ (C + 1) (bn (C + 1) scope.names [])) :
  bG (cS X N' scope (bn (C + 1) scope.names cl) C s H fp (X.pn++pins)) [] (ju nt ix σ) H { s with heap:=h₁,toks:=t' }:=by
 have cellOld:∀ {c v},s.heap.IsCell c v->h₁.IsCell c v:=fun {c v} ⟨o,ho,hd⟩=>⟨o,old _ _ ho,hd⟩
 have up:∀ {x c},(x,c)∈bn (C + 1) scope.names []->s.heap.objs.size<c:=fun {x c} h=>aH (jY hC) (ok.empty x c h).2
 have low:∀ {x c},cl.lookup x=some c->c<s.heap.objs.size:=fun {x c} h=>by
  obtain ⟨v,q⟩:=I.cell x c (c1 x c h)
  exact q.lt
 refine ⟨⟨I.ok.mod,S.kind,I.ok.glob,I.ok.blt,hC,fun x y c h1 h2=>?_,fun x hx=>?_,fun x c h h2=>?_,I.ok.hd,I.ok.frames,.inl rfl,fun b hb=>⟨?_,fun x c h=>?_⟩,I.bs,bR I.ok.bsz I.sz,fun b o h hb=>?_,fun b hb z=>?_,I.stack,I.stkFree⟩,
  rfl,I.bare,Un.kept old,⟨m,hns,fun i x v h1 h2 h3=>?_⟩,fun x c h=>?_,I.hok.fresh hC,fun x c h=>?_,fun p hp=>?_,I.hok.kept old,?_⟩
 ·rcases kH h1 with a | ⟨_,a⟩<;>rcases kH h2 with b | ⟨_,b⟩
  ·exact name_of_addr ok.apart a b
  ·exact absurd (up a) (xx (low b))
  ·exact absurd (up b) (xx (low a))
  ·exact I.ok.inj x y c (c1 x c a) (c1 y c b)
 ·have hx':(x,cw)∈scope.names\/(x,dZ)∈scope.names:=uX (env:=X.env) (hx.elim .inr .inl)
  have hs:((bn (C + 1) scope.names cl).lookup x).isSome=true:=by
   rcases hx' with z | z
   ·obtain ⟨c,e⟩:=c2 _ z rfl
    exact fk _ _ _ (.inr (by rw [e];rfl))
   ·exact fk _ _ _ (.inl (S.cel _ z rfl))
  exact Option.isSome_iff_exists.mp hs
 ·rcases kH h2 with a | ⟨a,_⟩
  ·exact bC (up a)
  ·have:=fk (x:=x) scope.names (C + 1) [] (.inl (by simpa [cS] using h))
   rw [a] at this;cases this
 ·exact aC (aH (ff b hb) hC)
 ·rcases kH h with a | ⟨_,a⟩
  ·exact eu (xw (ff b hb) (up a))
  ·exact (hf b hb).f4 x c (c1 x c a)
 ·rcases (hf b hb).f3 with z | z
  ·exact I.ok.noex b o h z
  ·exact absurd (aH (ap h) (bR I.ok.bsz z)) (c6 _)
 ·rcases List.mem_cons.mp (I.stkSub b z) with e | e
  ·exact (hf b hb).f1 e
  ·exact (hf b hb).f2 e
 ·have hnt:nt<=i:=by
   refine Py fun hlt=>?_
   have h2':(ju nt ix σ)[i]?=some (some v):=h2
   unfold ju at h2'
   rw [bw (by simpa using hlt),bQ,if_pos hlt] at h2'
   cases h2'
  have h2':(ju nt ix σ)[i]?=some (some v):=h2
  unfold ju at h2'
  rw [bq (by simpa using hnt),cZ,aP] at h2'
  cases e:ix[i - nt]? with
  | none=>rw [e] at h2';cases h2'
  | some j =>
   rw [e] at h2'
   have hj:σ[j]?=some (some v):=by
    have q:(σ[j]?).join=some v:=bJ h2'
    cases e3:σ[j]? with
    | none=>rw [e3] at q;cases q
    | some o=>rw [e3] at q;cases o with
     | none=>cases q
     | some v'=>cases q;rfl
   obtain ⟨x',n1,n2,fr⟩:=S.cap _ _ e
   rw [Nat.add_sub_cancel' hnt] at n2
   have h1':N'[i]?=some x:=h1
   rw [h1'] at n2
   cases n2
   obtain ⟨mm,hn,hl⟩:=I.loc
   have hfree:=S.free (x,.free) (dG fr) rfl
   obtain ⟨u,r,l⟩:=hl j x v n1 hj (hfree.elim (fun z=>.inr (.inl z)) fun z=>.inr (.inr z))
   refine ⟨u,r,?_⟩
   rcases l with ⟨k,_⟩ | ⟨k,c,hc,hcell⟩
   ·have k:X.env.scope.names.lookup x=some .local:=k
    rcases hfree with z | z<;>(rw [z] at k;cases k)
   ·obtain ⟨c',hc'⟩:=c2 _ (dG fr) rfl
    have:=c1 x c' hc'
    rw [hc] at this
    cases this
    have hno:(bn (C + 1) scope.names []).lookup x=none:=by
     cases e:(bn (C + 1) scope.names []).lookup x with
     | none=>rfl
     | some d =>
      rcases o7 _ _ _ (dG e) with z | z
      ·have q:=S.cel _ z rfl
       rw [fr] at q;cases q
      ·cases z
    refine .inr ⟨?_,c,by show (bn (C + 1) scope.names cl).lookup x=some c;rw [iX,LO,hno];exact hc',cellOld hcell⟩
    rcases sP (env:=X.env) fr with z | z
    ·exact .inr z
    ·exact .inl z
 ·rcases kH h with a | ⟨_,a⟩
  ·exact ⟨none,(ok.empty x c a).1⟩
  ·obtain ⟨v,q⟩:=I.cell x c (c1 x c a)
   exact ⟨v,cellOld q⟩
 ·rcases kH h with a | ⟨_,a⟩
  ·exact I.hok.fresh (bC (up a))
  ·exact I.freeC x c (c1 x c a)
 ·have hp:p∈X.pn++pins:=(List.mem_append.mp hp).elim id fun z=>absurd z (by simp)
  obtain ⟨e,n,ne,nf,d⟩:=I.pin p hp
  refine ⟨old _ _ e,n,aC (aH (ap e) hC),fun z=>?_,d⟩
  rcases List.mem_cons.mp (I.stkSub p.1 z) with e | e
  ·exact ne e
  ·exact nf e
 ·show (ju nt ix σ).length=N'.length
  rw [S.len];simp [ju]
end
end
section
theorem Un.grow {fs ex:List ah}{H H1:Hp}{h h1 h2:bt} (u:Un fs ex H H1 h h1) {C D:ah}{o:HO} (sb:bF C h1 h2) (hC:h.objs.size<=C) (hD:h.objs.size<=D) (hn:H1 D=none):Un fs ex H (upd H1 D o) h h2 where
 keep:=fun b ob q n hb hx=>(sb.2 b (aC (aH (ap q) hC))).trans (u.keep b ob q n hb hx)
 slot:=fun b ob q n hb hx=>by
  obtain ⟨sl,e⟩:=u.slot b ob q n hb hx
  exact ⟨sl,(sb.2 b (aC (aH (ap q) hC))).trans e⟩
 free:=fun b ob q n hx=>by rw [aS (aC (aH (ap q) hD))];exact u.free b ob q n hx
 there:=fun b ob q hx=>by
  obtain ⟨o',e⟩:=u.there b ob q hx
  exact ⟨o',(sb.2 b (aC (aH (ap q) hC))).trans e⟩
 tups:=fun b xs q=>by have z:=u.tups b xs q;rw [aS (bj z hn)];exact z
 frzs:=fun b ob xs q=>by have z:=u.frzs b ob xs q;rw [aS (bj z hn)];exact z
 tbls:=fun b ps q=>by
  obtain ⟨m,z⟩:=u.tbls b ps q
  exact ⟨m,by rw [aS (bj z hn)];exact z⟩
theorem yG {P:aO}{w:bd}{H:Hp}{h h':bt}{C:ah} (k:qo P w H h) (hC:H C=none) (sb:bF C h h'):qo P w H h':=fun b ob e=>by
 refine (k b ob e).stay (fun c w' hc q=>(sb.2 c ?_).trans q) (fun _ q=>q) fun _ _ q=>q
 rintro rfl
 rcases hc with rfl | hc
 ·rw [hC] at e;cases e
 ·rw [hC] at hc;cases hc
theorem rQ {P:aO}{w:bd}{H:Hp}{h:bt}{D:ah}{o:HO} (k:qo P w H h) (hD:H D=none) (new:db P w (upd H D o) h D o):qo P w (upd H D o) h:=fun b ob e=>by
 by_cases hb:b=D
 ·subst hb;rw [aW] at e;cases e;exact new
 ·rw [aS hb] at e
  exact (k b ob e).stay (fun c w' hc q=>q) (fun c q=>by rw [aS (bj q hD)];exact q) fun c x q=>by rw [aS (bj q hD)];exact q
theorem nf {M:DO}{A:bg}{α:Type}{t:Sem α}{Q:α->af->Prop}{E':a9->af->Prop}{s:af} (h:aq M A t Q (fun _ _=>False) s):aq M A t Q E' s :=
 bE h (fun _ _ q=>q) fun _ _ f=>f.elim
theorem bG.pin1 {X:Cx}{σ:St}{H:Hp}{s:af}{D:ah}{o:Obj} (I:bG X [] σ H s) (e:s.heap.get? D=some o) (n:H D=none) (ne:D≠X.env.locals) (nf:D∉X.fs) (d:∀ v,o.data≠.cell v):bG X [(D,o)] σ H s :=
 I.pins_of fun p hp=>by
  have:p=(D,o):=by simpa using hp
  subst this
  exact ⟨e,n,ne,nf,d⟩
def S4 (nt:Nat) (g:TG):Prop:=∀ x σ0 H (Q:St->Hp->Prop),g x σ0 H Q->g x σ0 H (fun σ2 H2=>Q σ2 H2/\σ2.length=σ0.length/\∀ j,nt<=j->σ2[j]?=σ0[j]?)
theorem MO {nt i:Nat} (h:i<nt):S4 nt (wW i):=fun x σ0 H Q q=>⟨q,by simp,fun j hj=>ak (by omega)⟩
theorem Qr {nt i k n:Nat}{K:a8} (h:i<nt) (h':k<nt):S4 nt (Tj K n (ac (wW i) (ac (wW k) aF))):=by
 rintro x σ0 H Q ⟨a,xs,rfl,sq,hl,v,r,rfl,v',r',rfl,rfl,q⟩
 exact ⟨a,_,rfl,sq,hl,v,_,rfl,v',_,rfl,rfl,q,by simp,fun j hj=>by rw [ak (by omega),ak (by omega)]⟩
inductive Yw (X:Cx) (pins:List (ah×Obj)) (N':List Str) (scope:eT) (cl:List (Str×ah)) (C:ah) (s2:af) (H2:Hp) (fp:List ah) (nt:Nat) (ix:List Nat) (σ:St) (tn:Nat->bt->Prop) (W:Nat->Nat->List V->Hp->Prop) (n:Nat) (s':af):Prop
 | mk (i:Nat) (acc:List V) (its:List a9) (nn:Nat) (H':Hp) (I:bG (cS X N' scope cl C s2 H2 fp (X.pn++pins)) [(s2.heap.objs.size,{ cls:=.type "list",data:=.seq its.toArray nn })] (ju nt ix σ) H' s') (v:da acc its) (l:acc.length<=sizeLine) (t:tn i s'.heap) (f:∀ b∈fp,H' b=none) (w:W i n acc H'):Yw X pins N' scope cl C s2 H2 fp nt ix σ tn W n s'
theorem yH {X:Cx}{elt tg iter:a_}{ifs:List a_}{scope:eT}{pos:Pos}{g:TG}{tt:TT}{te:TE}{N':List Str}{nt:Nat}{ix:List Nat}
  (hc:X.calm=true) (S:o6 X scope N' nt ix) (lo:S4 nt g)
  (hb:∀ cl C s₀ H₀ ex pn,PG (cS X N' scope cl C s₀ H₀ ex pn) tg g/\Pt (cS X N' scope cl C s₀ H₀ ex pn) ifs tt/\PE (cS X N' scope cl C s₀ H₀ ex pn) elt te)
  {cl:List (Str×ah)} (c1:∀ x c,cl.lookup x=some c->X.env.cells.lookup x=some c) (c2:∀ y∈scope.names,y.2=.free->∃ c,cl.lookup y.1=some c)
  {pins:List (ah×Obj)}{σ:St}{H2:Hp}{s2:af}{it:ah}{fp:List ah}{tn:Nat->bt->Prop}{J:It}{Q:VK}{E:a9->af->Prop}
  (I2:bG X pins σ H2 s2) (T:yA X.prog X.w X.K tg J fp it tn) (st2:tn 0 s2.heap) (f2:∀ b∈fp,qS X pins H2 b)
  {W:Nat->Nat->List V->Hp->Prop} (w0:∃ m,W 0 m [] H2)
  (turn:∀ i m acc H,W i m acc H->(J.stop i H/\∀ p,H p=none->Q (.ref p) (upd H p (.lst acc))) \/
   (J.go i H/\acc.length<sizeLine/\∀ x H',J.yld i H x H'->g x (ju nt ix σ) H' fun σ2 H2=>tt σ2 H2 fun b H3 =>
    if b=true then te σ2 H3 fun y H4=>∃ m',m'<m/\W (i + 1) m' (acc++[y]) H4 else ∃ m',m'<m/\W (i + 1) m' acc H3))
  {RR:a9->ah->vQ->af->Prop}
  (hRR:∀ D C m s' (acc:List V) H',H' D=none->qS X pins (upd H' D (.lst acc)) C->Q (.ref D) (upd H' D (.lst acc))->s'.heap.Ns C m->(∀ h',bF C s'.heap h'->bG X pins σ (upd H' D (.lst acc)) { s' with heap:=h' })->RR (.ref D) C (.ok .next) s') :
  aq (aL X.prog X.w) X.A (newList []) (fun acc s₃=>aq (aL X.prog X.w) X.A (vT scope X.env.globals cl [] X.env.qual none .none (some X.env)) (fun cenv s₄ =>
   hZ (aL X.prog X.w) X.A (.compStart (.ListComp elt [⟨tg,iter,ifs,0⟩] scope pos) 0 (.ref it) acc { cenv with scope:=relabel scope X.env }) (RR acc cenv.locals) s₄) E s₃) E s2:=by
 refine bW (IW fun h₁ hh₁=>?_)
 dsimp only at hh₁ ⊢
 generalize hG2:s2.heap.push { cls:=.type "list",dict:=none,data:=.seq ([] : List a9).toArray }=G2 at hh₁ ⊢
 have hC:G2.objs.size=s2.heap.objs.size + 1:=by rw [<- hG2,cx]
 have hDC:s2.heap.objs.size≠G2.objs.size:=by rw [hC];exact aC (d_ _)
 have hCle:s2.heap.objs.size<=G2.objs.size:=by rw [hC];exact iS _
 have below:∀ b,b<s2.heap.objs.size->b≠G2.objs.size:=fun b hb=>by rw [hC];exact aC (fj hb)
 have kp:∀ b o,G2.get? b=some o->h₁.get? b=some o:=fun b o e=>by rw [hh₁];exact ux _ _ b o (ag _ e)
 have hns₁:h₁.Ns G2.objs.size (fun _=>none):=by rw [hh₁];exact (Heap.Ns.new G2 (.type "dict")).keeps (ux _ _)
 have ok₁:CellsOk h₁ (G2.objs.size + 1) (bn (G2.objs.size + 1) scope.names []):=by rw [hh₁];exact Bw G2 scope.names
 have cne:∀ x c,(bn (G2.objs.size + 1) scope.names cl).lookup x=some c->X.env.cells.lookup x=some c\/s2.heap.objs.size<c:=fun x c e=>by
  rcases kH e with a | ⟨_,a⟩
  ·exact .inr (aH (jY hCle) (ok₁.empty x c a).2)
  ·exact .inl (c1 x c a)
 have old:∀ b o,s2.heap.get? b=some o->h₁.get? b=some o:=fun b o e=>kp b o (hG2 ▸ ag _ e)
 have hacc:h₁.get? s2.heap.objs.size=some { cls:=.type "list",dict:=none,data:=.seq ([] : List a9).toArray }:=kp _ _ (hG2 ▸ az _ rfl)
 have ff:∀ b∈fp,b<s2.heap.objs.size:=fun b hb=>by
  obtain ⟨o,e,_⟩:=T.obj _ _ st2 b hb
  exact ap e
 have I3:bG (cS X N' scope (bn (G2.objs.size + 1) scope.names cl) G2.objs.size s2 H2 fp (X.pn++pins)) [] (ju nt ix σ) H2 { s2 with heap:=h₁,toks:=s2.toks }:=Ek S I2 c1 c2 f2 ff hCle hns₁ old ok₁
 obtain ⟨pg,pt,pe⟩:=hb (bn (G2.objs.size + 1) scope.names cl) G2.objs.size s2 H2 fp (X.pn++pins)
 have hDfs:s2.heap.objs.size∉rP X.stack:=fun z=>by
  rcases List.mem_cons.mp (I2.stkSub _ z) with e | e
  ·exact absurd I2.lt (by rw [<- e];exact c6 _)
  ·exact I2.nofs (ar _) e
 have nod:∀ (its:List a9) (n:Nat) v,({ cls:=.type "list",data:=.seq its.toArray n }:Obj).data≠.cell v:=fun _ _ _ z=>nomatch z
 have st1:tn 0 h₁:=T.keep _ _ _ st2 fun b _ o e=>old b o e
 have hDf:s2.heap.objs.size∉fp:=fun z=>absurd (ff _ z) (c6 _)
 have stat:∀ {H':Hp}{pl:List (ah×Obj)},(∀ p∈pl,p.1∉fp)->(∀ b∈fp,H' b=none)->∀ b∈fp,qS (cS X N' scope (bn (G2.objs.size + 1) scope.names cl) G2.objs.size s2 H2 fp (X.pn++pins)) pl H' b:=fun hpl hn b hb=>by
  obtain ⟨f0,f1,f2',f3,f4,f5⟩:=f2 b hb
  refine ⟨hn b hb,below b (ff b hb),fun z=>?_,.inl hb,fun x c e=>(cne x c e).elim (f4 x c) fun q z=>xx q (by rw [z];exact ff b hb),fun p hp z=>?_⟩
  ·rcases List.mem_cons.mp (I2.stkSub _ z) with e | e
   ·exact f1 e
   ·exact f2' e
  ·rcases List.mem_append.mp hp with q | q
   ·exact f5 p q z
   ·exact hpl p q (z ▸ hb)
 obtain ⟨m0,w0⟩:=w0
 have loop:hZ (aL X.prog X.w) X.A (.compLoop (.ListComp elt [⟨tg,iter,ifs,0⟩] scope pos) 0 (.ref it) (.ref s2.heap.objs.size) (compEnvC scope (bn (G2.objs.size + 1) scope.names cl) G2.objs.size X.env))
    (RR (.ref s2.heap.objs.size) G2.objs.size) { s2 with heap:=h₁,toks:=s2.toks }:=by
  refine CB (Yw X pins N' scope (bn (G2.objs.size + 1) scope.names cl) G2.objs.size s2 H2 fp nt ix σ tn W) ?_ m0
   ⟨0,[],[],0,H2,I3.pin1 hacc (I2.hok.fresh (ar _)) hDC hDfs (nod _ _),.nil,c_ _,st1,fun b hb=>(f2 b hb).1,w0⟩
  rintro n s3 ⟨i,acc,its,nn,H3,J3,rv,hz,st3,fr3,w3⟩
  have plD:∀ p∈[(s2.heap.objs.size,({ cls:=.type "list",data:=.seq its.toArray nn }:Obj))],p.1∉fp:=fun p hp=>by
   have:p=(s2.heap.objs.size,({ cls:=.type "list",data:=.seq its.toArray nn }:Obj)):=by simpa using hp
   rw [this];exact hDf
  rcases turn i n acc H3 w3 with ⟨stop,qn⟩ | ⟨go,hlt,step⟩
  ·refine fm (T.done (cS X N' scope (bn (G2.objs.size + 1) scope.names cl) G2.objs.size s2 H2 fp (X.pn++pins)) rfl rfl rfl hc i _ s3 _ H3 _ J3 (stat plD fr3) st3 stop) fun r s4 h_0=>?_
   obtain ⟨hr,I4⟩:=h_0
   subst hr
   obtain ⟨pD,pN,_⟩:=I4.pin (s2.heap.objs.size,_) (aE _ (List.mem_singleton.mpr rfl))
   obtain ⟨mm,hn,_⟩:=I4.loc
   have hCn:H3 G2.objs.size=none:=I4.free
   refine hRR _ _ mm s4 acc H3 pN (I2.fpOk hCle (by rw [aS (de hDC)];exact hCn)) (qn _ pN) hn fun h' sb=>?_
   have hu:Un (rP X.stack) fp H2 (upd H3 s2.heap.objs.size (.lst acc)) s2.heap h':=Un.grow I4.base sb hCle (ar _) pN
   refine I2.call' (s':={ s4 with heap:=h' }) (ch:=fp) I4.os hu ?_ I4.bare fun b hb=>?_
   ·refine rQ (yG I4.hok hCn sb) pN ⟨hz,its,nn,rv,(sb.2 _ hDC).trans pD⟩
   ·obtain ⟨_,f1,_,f3,f4,f5⟩:=f2 b hb
    exact ⟨f3,f1,f4,f5⟩
  ·refine fm (T.item (cS X N' scope (bn (G2.objs.size + 1) scope.names cl) G2.objs.size s2 H2 fp (X.pn++pins)) rfl rfl rfl hc i _ s3 _ H3 _ J3 (stat plD fr3) st3 go) fun r s4 h_1=>?_
   obtain ⟨u,hr,h4⟩:=h_1
   subst hr
   refine fm h4 fun _ s5 h_2=>?_
   obtain ⟨x,H5,I5,r5,y5,st5,fr5⟩:=h_2
   have I5':=I5.pinned (stat plD fr5) (T.obj _ _ st5)
   refine fm (pg _ s5 _ H5 x u _ I5' r5 (lo _ _ _ _ (step x H5 y5))) fun _ s6 h_3=>?_
   obtain ⟨σ6,H6,I6,q6,l6,k6⟩:=h_3
   have hw:∀ (j:Nat) v,(ju nt ix σ)[j]?=some (some v)->σ6[j]?=some (some v):=fun j v e=>by
    by_cases hj:nt<=j
    ·rw [k6 j hj];exact e
    ·unfold ju at e
     rw [bw (by simpa using hj),bQ,if_pos (by omega)] at e
     cases e
   refine fm (pt _ s6 σ6 H6 _ I6 q6) fun b s7 h_4=>?_
   obtain ⟨H7,I7,q7⟩:=h_4
   have fpk:∀ {s8:af}{σ8:St}{H8:Hp},bG (cS X N' scope (bn (G2.objs.size + 1) scope.names cl) G2.objs.size s2 H2 fp (X.pn++pins)) ([(s2.heap.objs.size,{ cls:=.type "list",data:=.seq its.toArray nn })]++w9 fp s5.heap) σ8 H8 s8 ->
     tn (i + 1) s8.heap/\∀ b∈fp,H8 b=none:=fun {s8 σ8 H8} I8=>by
    refine ⟨T.keep _ _ _ st5 fun b hb o e=>(I8.pin (b,o) (aE _ (aE _ (j_ hb e)))).1,fun b hb=>?_⟩
    obtain ⟨o,e,d⟩:=T.obj _ _ st5 b hb
    exact (I8.pin (b,o) (aE _ (aE _ (j_ hb e)))).2.1
   cases b with
   | false =>
    simp only [c7,if_false] at q7 ⊢
    obtain ⟨m',hm,w7⟩:=q7
    obtain ⟨t7,f7⟩:=fpk I7
    exact ⟨m',hm,i + 1,acc,its,nn,H7,(I7.weak l6.symm hw).unpinned,rv,hz,t7,f7,w7⟩
   | true =>
    simp only [if_true] at q7 ⊢
    refine fm (pe _ s7 σ6 H7 _ I7 q7) fun u8 s8 h_5=>?_
    obtain ⟨y,H8,I8,r8,m',hm,w8⟩:=h_5
    obtain ⟨t8,f8⟩:=fpk I8
    obtain ⟨pD,pN,_⟩:=I8.pin (s2.heap.objs.size,_) (aE _ (ba _ (List.mem_singleton.mpr rfl)))
    have hl:=rv.length
    refine wpAny_list_append_plain ⟨nn,pD⟩ (hsz:=by rw [aJ];omega) ?_
    intro h9 pl9 sb9
    obtain ⟨n9,e9⟩:=pl9
    have e9':h9.get? s2.heap.objs.size=some { cls:=.type "list",data:=.seq (its++[u8]).toArray n9 }:=by rw [e9];simp
    refine ⟨m',hm,i + 1,acc++[y],its++[u8],n9,H8,?_,rv.append (.cons r8 .nil),by rw [aB,cH];omega,T.keep _ _ _ t8 fun b hb o e=>sb9.extBut b o (fun z=>hDf (z ▸ hb)) e,f8,w8⟩
    have I8':bG (cS X N' scope (bn (G2.objs.size + 1) scope.names cl) G2.objs.size s2 H2 fp (X.pn++pins)) [] (ju nt ix σ) H8 s8:=(I8.weak l6.symm hw).pins_of fun p hp=>absurd hp (by simp)
    have I9:bG (cS X N' scope (bn (G2.objs.size + 1) scope.names cl) G2.objs.size s2 H2 fp (X.pn++pins)) [] (ju nt ix σ) H8 { s8 with heap:=h9,toks:=s8.toks } :=
     I8'.turned (it:=s2.heap.objs.size) (fun b o hb e=>sb9.extBut b o hb e) pN hDC (.inr (ar _)) (fun x c e z=>by
      rcases cne x c e with e | e
      ·obtain ⟨v,q⟩:=I2.cell x c e
       exact absurd q.lt (by rw [z];exact c6 _)
      ·exact absurd e (by rw [z];exact c6 _)) fun p hp z=>by
      have hp:p∈X.pn++pins:=(List.mem_append.mp hp).elim id fun z=>absurd z (by simp)
      exact absurd (ap (I2.pin p hp).1) (by rw [z];exact c6 _)
    exact I9.pin1 e9' pN hDC hDfs (nod _ _)
 exact codeAny_compStart_list loop (T.self _ 0 _ _ _ st1 loop)
end
section
theorem El {X:Cx}{elt tg iter:a_}{ifs:List a_}{scope:eT}{pos:Pos}{wi:TI}{g:TG}{tt:TT}{te:TE}{N':List Str}{nt:Nat}{ix:List Nat}
  (hc:X.calm=true) (S:o6 X scope N' nt ix) (lo:S4 nt g) (hi:PI X tg iter wi)
  (hb:∀ cl C s₀ H₀ ex pn,PG (cS X N' scope cl C s₀ H₀ ex pn) tg g/\Pt (cS X N' scope cl C s₀ H₀ ex pn) ifs tt/\PE (cS X N' scope cl C s₀ H₀ ex pn) elt te)
  (hs:∀ x,eB iter X.env x=pure x:=by intro _;rfl):PE X (.ListComp elt [⟨tg,iter,ifs,0⟩] scope pos) (MN nt ix wi g tt te):=by
 intro pins s σ H Q I h
 obtain ⟨cl,hcl,c1,c2⟩:=tO (scope:=scope) (env:=X.env) fun y hy hf=>I.ok.has y.1 (S.free y hy hf)
 rw [eval_ListComp]
 refine qM (use:=none) rfl hs hcl S.kind S.loc (fm (hi pins s σ H _ I h) fun v s1 h1=>fm h1 fun itv s2 h2=>?_)
 obtain ⟨it,fp,tn,J,H2,e,I2,T,st2,f2,W,w0,turn⟩:=h2
 subst e
 refine yH (RR:=fun acc C=>compPost (aL X.prog X.w) X.A X.xe none (EP X pins σ Q) acc C) hc S lo hb c1 c2 I2 T st2 f2 w0 turn ?_
 intro D C m s' acc H' hD _ q hn hI
 exact ⟨m,hn,fun h' sb=>⟨.ref D,_,hI h' sb,rfl,q⟩⟩
def Vu (i:Nat) (te:TE):TS:=fun D σ H=>te σ H fun x H1=>D.nx (σ.set i (some x)) H1
theorem Hc {X:Cx}{elt tg iter:a_}{ifs:List a_}{scope:eT}{pos spos py:Pos}{wi:TI}{g:TG}{tt:TT}{te:TE}{N':List Str}{nt:Nat}{ix:List Nat}{i:Nat}{y:Str}
  (hN:X.N.Nodup) (hiN:X.N[i]?=some y) (hy:X.env.scope.names.lookup y=some .local)
  (hc:X.calm=true) (S:o6 X scope N' nt ix) (lo:S4 nt g) (hi:PI X tg iter wi)
  (hb:∀ cl C s₀ H₀ ex pn,PG (cS X N' scope cl C s₀ H₀ ex pn) tg g/\Pt (cS X N' scope cl C s₀ H₀ ex pn) ifs tt/\PE (cS X N' scope cl C s₀ H₀ ex pn) elt te)
  (hsw:gL (.ListComp elt [⟨tg,iter,ifs,0⟩] scope pos) (some (.Name y py)) spos.line X.env=pure true:=by rfl)
  (hs:∀ x,eB iter X.env x=pure x:=by intro _;rfl):PS X (.Assign [.Name y py] (.ListComp elt [⟨tg,iter,ifs,0⟩] scope pos) spos) (Vu i (MN nt ix wi g tt te)):=by
 intro pins s σ H D I h
 obtain ⟨cl,hcl,c1,c2⟩:=tO (scope:=scope) (env:=X.env) fun y hy hf=>I.ok.has y.1 (S.free y hy hf)
 rw [exec_Assign_Name_used _ _ _ _ hsw]
 refine a7 (iM (a7 ?_))
 show aq _ X.A (do let _ <- comprehension (.ListComp elt [⟨tg,iter,ifs,0⟩] scope pos) scope X.env _ (newList []) false (du iter X.env) (some (qJ (.Name y py) X.env))) _ _ s
 refine a7 (bE (qM (use:=some (qJ (.Name y py) X.env)) (Q:=fun _ s'=>SP X pins D .next s') rfl hs hcl S.kind S.loc
  (fm (hi pins s σ H _ I h) fun v s1 h1=>fm h1 fun itv s2 h2=>?_)) (fun _ s' hq=>ae (ae hq)) fun _ _ e=>e)
 obtain ⟨it,fp,tn,J,H2,e,I2,T,st2,f2,W,w0,turn⟩:=h2
 subst e
 refine yH (Q:=fun x H1=>D.nx (σ.set i (some x)) H1) (RR:=fun acc C=>compPost (aL X.prog X.w) X.A X.xe (some (qJ (.Name y py) X.env)) (fun _ s'=>SP X pins D .next s') acc C) hc S lo hb c1 c2 I2 T st2 f2 w0 turn ?_
 intro L C m s' acc H' hD fC q hn hI
 show aq _ X.A (qJ (.Name y py) X.env (.ref L)) _ _ _
 have I3:bG X pins σ (upd H' L (.lst acc)) s':=hI s'.heap (.refl ..)
 refine wpAny_assign_Name (Bj I3 hN hiN (.inl hy) (v:=.ref L) rfl (fun s4 I4 ⟨a,sb,ha⟩=>?_) (.inr hy))
 obtain ⟨g0,g1,g2,g3,g4,g5⟩:=fC
 have hCa:C≠a:=by
  rcases ha with z | z
  ·rw [z];exact g1
  ·exact fun e=>g4 y a z e.symm
 refine ⟨m,hn.sameBut sb hCa,fun h5 sb5=>?_⟩
 exact ⟨_,_,I4.turned (t':=s4.toks) (fun b o hb e=>(sb5.2 b hb).trans e) g0 g1 g3 g4 g5,q⟩
end
section
def jO (e:Int×a9):Str:=match e.2 with
 | .str x _=>x
 | _=>⟨#[]⟩
def tP (w:bd) (e:Int×a9):Prop:=∃ x tk,e=(hashStr w x,jv x tk)
structure cY (w:bd) (h:bt) (a:ah) (es:Array (Int×a9)) (ep:Nat) (t:eC):Prop where
 at_:h.get? a=some { cls:=.type "set",dict:=none,data:=.set es ep t }
 txt:∀ e∈es.toList,tP w e
 nd:(es.toList.map jO).Nodup
 few:es.size<iO
 fits:t.fits es.size=true
 led:t.led=!w.params.followText "set-order"
 pl:es.size=0\/t.plain=false
inductive l7 (w:bd) (h:bt) (a:ah) (ss:List Str):Prop
 | mk (es ep t:_) (h0:cY w h a es ep t) (h1:(es.toList.map jO).Perm ss):l7 w h a ss
theorem Hd (t:eC) (es:Array (Int×a9)) (h:Int) (x:a9):(layNew t es h x).2.1.led=t.led:=by
 unfold layNew
 cases t.freeSlot h with
 | none=>rfl
 | some p =>
  obtain ⟨slot,d⟩:=p
  show ((t.put slot).1.orStandIn _).led=_
  unfold Gf
  split<;>rfl
theorem CC (t:eC) (es:Array (Int×a9)) (h:Int) (x:a9):t.plain=false->(layNew t es h x).2.1.plain=false:=by
 intro hp
 unfold layNew
 cases t.freeSlot h with
 | none=>rfl
 | some p =>
  obtain ⟨slot,d⟩:=p
  show ((t.put slot).1.orStandIn _).plain=_
  unfold Gf
  split
  ·exact hp
  ·rfl
theorem Em {t t':eC}{hs:Array Int}{n:Nat}{o:Array Nat} (h:t.relaid hs n=some (t',o)):t'.led=t.led/\t'.plain=t.plain:=by
 unfold Kh Al at h
 cases e:uy (cy n - 1) hs with
 | none=>rw [e] at h;cases h
 | some ow =>
  rw [e] at h
  have h:=bJ h
  have h1:=congrArg Prod.fst h
  subst h1
  exact ⟨rfl,rfl⟩
theorem KG (t:eC) (es:Array (Int×a9)) (n:Nat):(vU t es n).2.1.led=t.led/\(t.plain=false->(vU t es n).2.1.plain=false):=by
 unfold vU
 cases e:t.relaid (es.map (·.1)) n with
 | none=>exact ⟨rfl,fun _=>rfl⟩
 | some p =>
  obtain ⟨t',o⟩:=p
  obtain ⟨h1,h2⟩:=Em e
  dsimp only
  split
  ·exact ⟨h1,fun h=>h2.trans h⟩
  ·exact ⟨rfl,fun _=>rfl⟩
theorem MP {w:bd}{P:aO}{l:List (Int×a9)} (h:∀ e∈l,tP w e):ElemsOf (strKind P w) l:=fun e he=>by
 obtain ⟨x,tk,rfl⟩:=h e he
 exact ⟨⟨x,by simp [PySem.strKind,uu],rfl⟩,rfl⟩
theorem WY (P:aO) (w:bd) (x:Str) (tk:Tok):(strKind P w).is x (.str x tk)=true:=by simp [PySem.strKind,uu]
theorem IX {P:aO}{w:bd}{e:Int×a9} (h:tP w e) (x:Str):(strKind P w).is x e.2=true↔jO e=x:=by
 obtain ⟨y,tk,rfl⟩:=h
 constructor
 ·intro q
  have:=(strKind P w).inj _ _ _ q (WY P w y tk)
  rw [this];rfl
 ·rintro rfl
  exact WY P w _ tk
section
variable {P:aO}{w:bd}{A:bg}{E:a9->af->Prop}{s:af}
theorem rR {h:bt}{a:ah}{es es':Array (Int×a9)}{ep:Nat}{t t':eC} (I:cY w h a es ep t):(h.update a (qN es' t')).get? a=some { cls:=.type "set",dict:=none,data:=.set es' (ep + 1) t' }:=by
 have q:=fV (qN es' t') I.at_ rfl
 exact q
theorem Bx {a:ah}{ss:List Str}{x:Str}{tk:Tok}{Q:Bool->af->Prop} (hS:l7 w s.heap a ss) (hr:ss.length + 1<iO)
  (h:∀ h' tk',bF a s.heap h'->l7 w h' a (if x∈ss then ss else ss++[x])->Q (!decide (x∈ss)) { s with heap:=h',toks:=tk' }) :
  aq (aL P w) A (setAddHashed a (.str x tk) ((strKind P w).hash x)) Q E s:=by
 obtain ⟨es,ep,t,I,pm⟩:=hS
 have hlen:es.size=ss.length:=by rw [<- pm.length_eq,al,av]
 have hel:ElemsOf (strKind P w) es.toList:=MP I.txt
 unfold setAddHashed setAddHashedIn
 refine cr (a7 (bA (s:=s) I.at_ rfl I.fits ?_))
 dsimp only
 rw [byScan_of rfl I.few hel]
 rw [if_pos rfl]
 unfold setAddByScan
 refine a7 (a7 (gf (a7 (wpAny_setScan_of (s:=s) (WY P w x tk) I.at_ rfl I.fits hel ?_))))
 have inmem:x∈ss↔∃ e∈es.toList,(strKind P w).is x e.2=true:=by
  rw [<- pm.mem_iff,List.mem_map]
  constructor
  ·rintro ⟨e,he,q⟩;exact ⟨e,he,(IX (I.txt e he) x).mpr q⟩
  ·rintro ⟨e,he,q⟩;exact ⟨e,he,(IX (I.txt e he) x).mp q⟩
 cases hf:List.findIdx? (fun e=>(strKind P w).is x e.2) es.toList with
 | some j =>
  obtain ⟨hj,hp,_⟩:=List.findIdx?_eq_some_iff_getElem.mp hf
  have hin:x∈ss:=inmem.mpr ⟨_,gQ hj,hp⟩
  have q:=h s.heap s.toks (.refl ..) (by rw [if_pos hin];exact ⟨es,ep,t,I,pm⟩)
  rw [decide_eq_true hin] at q
  exact ae (ae q)
 | none =>
  have hout:x∉ss:=fun z=>by
   obtain ⟨e,he,q⟩:=inmem.mp z
   rw [List.findIdx?_eq_none_iff.mp hf e he] at q
   cases q
  have h:=fun h' tk' sb=>h h' tk' sb
  rw [decide_eq_false hout,if_neg hout] at h
  have p1:=layNew_perm t es ((strKind P w).hash x) (.str x tk)
  have f1:=layNew_fits t es ((strKind P w).hash x) (.str x tk)
  have l1:=Hd t es ((strKind P w).hash x) (.str x tk)
  have q1:=CC t es ((strKind P w).hash x) (.str x tk)
  generalize layNew t es ((strKind P w).hash x) (.str x tk)=L at p1 f1 l1 q1 ⊢
  obtain ⟨es1,t1,wd,gv⟩:=L
  dsimp only at p1 f1 l1 q1 ⊢
  rw [LP] at p1
  have tx1:∀ e∈es1.toList,tP w e:=fun e he=>by
   rcases List.mem_append.mp (p1.mem_iff.mp he) with z | z
   ·exact I.txt e z
   ·rw [dY] at z;exact ⟨x,tk,z⟩
  have km:(es1.toList.map jO).Perm (ss++[x]):=(p1.map jO).trans (by rw [aX];exact pm.append_right _)
  have nd1:(ss++[x]).Nodup:=by
   rw [M5]
   exact ⟨pm.nodup_iff.mp I.nd,by simp,fun y hy z hz e=>hout (by rw [dY] at hz;rw [<- hz,<- e];exact hy)⟩
  have sz1:es1.size=es.size + 1:=by rw [<- av,p1.length_eq,aB,av];rfl
  have few1:es1.size<iO:=by omega
  have gw:∀ (b:Bool) {s₁:af}{Q':Unit->af->Prop},Q' () s₁->aq (aL P w) A (match b with | true=>rule "set.scan.the-table-gave-way" | false=>pure ()) Q' E s₁ :=
   fun b _ _ z=>by cases b<;>first | exact ae z | exact gf z
  have tail:∀ t2:eC,t2.fits es1.size=true->t2.led=t.led->t2.plain=false->aq (aL P w) A (do
    storeSet a es1 t2
    if (!wd && t2.tooFull)=true then do
      (match (vU t2 es1 (ia es1.size)).2.2 with | true=>rule "set.scan.the-table-gave-way" | false=>pure ())
      storeSet a (vU t2 es1 (ia es1.size)).1 (vU t2 es1 (ia es1.size)).2.1
      pure (some true)
     else pure (some true)) (fun r s'=>r=some true/\Q true s') E s:=fun t2 f2 l2 n2=>by
   refine a7 (iU (s:=s) I.at_ rfl ?_ (fI few1))
   have at1:=rR (es':=es1) (t':=t2) I
   have sb1:=bI s.heap a (qN es1 t2)
   have I1:cY w (s.heap.update a (qN es1 t2)) a es1 (ep + 1) t2:=⟨at1,tx1,km.nodup_iff.mpr nd1,few1,f2,l2.trans I.led,.inr n2⟩
   split
   ·have p2:=relayAll_perm t2 es1 (ia es1.size)
    have f3:=relayAll_fits t2 es1 (ia es1.size)
    have l3:=KG t2 es1 (ia es1.size)
    generalize vU t2 es1 (ia es1.size)=R3 at p2 f3 l3 ⊢
    obtain ⟨es2,t3,gv2⟩:=R3
    dsimp only at p2 f3 l3 ⊢
    have few2:es2.size<iO:=by rw [<- av,p2.length_eq,av];exact few1
    have km2:=(p2.map jO).trans km
    refine a7 (gw _ (a7 (iU (s:={ s with heap:=s.heap.update a (qN es1 t2) }) I1.at_ rfl ?_ (fI few2))))
    refine ae ⟨rfl,h _ _ (sb1.trans (bI _ a _)) ⟨es2,ep + 1 + 1,t3,⟨rR I1,fun e he=>tx1 e (p2.mem_iff.mp he),km2.nodup_iff.mpr nd1,few2,f3,l3.1.trans (l2.trans I.led),.inr (l3.2 n2)⟩,km2⟩⟩
   ·exact ae ⟨rfl,h _ _ sb1 ⟨es1,ep + 1,t2,I1,km⟩⟩
  refine a7 (gw gv ?_)
  cases hp:t1.plain with
  | true =>
   simp only [if_true]
   rw [hashByValue_scannable 8 (x:=.str x tk) rfl]
   refine a7 (ae ?_)
   refine bE (tail { t1 with plain:=false } (by cases t1;exact f1) l1 rfl) (fun r s' z=>?_) fun _ _ z=>z
   obtain ⟨rfl,z⟩:=z
   exact ae z
  | false =>
   simp only [c7,if_false]
   refine a7 (ae ?_)
   refine bE (tail t1 f1 l1 hp) (fun r s' z=>?_) fun _ _ z=>z
   obtain ⟨rfl,z⟩:=z
   exact ae z
theorem Eo {a:ah}{ss:List Str}{x:Str}{tk:Tok}{Q:Bool->af->Prop} (hS:l7 w s.heap a ss) (hr:ss.length + 1<iO)
  (h:∀ h' tk',bF a s.heap h'->l7 w h' a (if x∈ss then ss else ss++[x])->Q (!decide (x∈ss)) { s with heap:=h',toks:=tk' }) :
  aq (aL P w) A (setAdd a (.str x tk)) Q E s:=by
 unfold setAdd
 refine cr (a7 ((strKind P w).pyHash (k:=x) (WY P w x tk) ?_))
 exact Bx (s:={ s with toks:=s.toks + 1 }) hS hr h
end
end
section
abbrev fo (w:bd):Obj:={ cls:=.type "set",dict:=none,data:=.set #[] 0 (.fresh 0 0 (!w.params.followText "set-order")) }
theorem By (w:bd) {h:bt}{a:ah} (e:h.get? a=some (fo w)):l7 w h a [] :=
 ⟨#[],0,_,⟨e,fun e he=>by simp at he,by simp,by decide,rfl,rfl,.inl rfl⟩,by simp⟩
def dz:List Str->List Str->List Str
 | acc,[]=>acc
 | acc,x::r=>dz (if x∈acc then acc else acc++[x]) r
theorem iF:∀ (l acc:List Str) (x:Str),x∈dz acc l↔x∈acc\/x∈l
 | [],acc,x=>by simp [dz]
 | y::r,acc,x=>by
  rw [dz,iF r]
  by_cases h:y∈acc
  ·rw [if_pos h];simp only [bh]
   constructor
   ·exact fun z=>z.elim .inl fun z=>.inr (.inr z)
   ·rintro (z | z | z)
    ·exact .inl z
    ·exact .inl (z ▸ h)
    ·exact .inr z
  ·rw [if_neg h];simp [Am,or_assoc]
theorem ip:∀ (l acc:List Str),acc.Nodup->(dz acc l).Nodup
 | [],acc,h=>h
 | y::r,acc,h=>by
  rw [dz]
  refine ip r _ ?_
  by_cases hy:y∈acc
  ·rw [if_pos hy];exact h
  ·rw [if_neg hy,M5]
   exact ⟨h,by simp,fun a ha b hb e=>hy (by rw [dY] at hb;rw [<- hb,<- e];exact ha)⟩
theorem f_:∀ (l acc:List Str),(dz acc l).length<=acc.length + l.length
 | [],acc=>by simp [dz]
 | y::r,acc=>by
  rw [dz]
  have:=f_ r (if y∈acc then acc else acc++[y])
  by_cases hy:y∈acc
  ·rw [if_pos hy] at this ⊢;simp only [aU];omega
  ·rw [if_neg hy] at this ⊢;simp only [aU,aB,cH,bO] at this ⊢;omega
section
variable {prog:aO}{w:bd}{A:bg}{E:a9->af->Prop}{s:af}{R:vQ->af->Prop}
theorem l7.keep {h h':bt}{a:ah}{ss:List Str} (x:l7 w h a ss) (k:∀ o,h.get? a=some o->h'.get? a=some o):l7 w h' a ss :=
 let ⟨es,ep,t,I,p⟩:=x;⟨es,ep,t,⟨k _ I.at_,I.txt,I.nd,I.few,I.fits,I.led,I.pl⟩,p⟩
theorem AE {I:ah}{fp wr:List ah}{n:Nat}{Pv:Nat->a9->Prop}{St:Nat->bt->Prop} (W:LQ prog w A.in1 I fp wr n Pv St) (D:ah) (hD:D∉fp) (xs:List Str) (hx:xs.length=n)
  (hv:∀ i v,Pv i v->∃ x t,xs[i]?=some x/\v=.str x t) (hb:n + 1<iO) :
  ∀ (k i:Nat) (s:af) (acc:List Str),n - i=k->i<=n->acc.length<=i->St i s.heap->l7 w s.heap D acc ->
   (∀ h' tk,(∀ b o,b∉D::wr->s.heap.get? b=some o->h'.get? b=some o)->l7 w h' D (dz acc (xs.drop i))->R (.ok (.ret .none)) { s with heap:=h',toks:=tk }) ->
   hZ (aL prog w) A (.builtin "set.update.loop" ⟨[.ref D,.ref I],[]⟩) R s:=by
 have hDw:D∉wr:=fun z=>hD (W.sub _ z)
 intro k
 induction k with
 | zero =>
  intro i s acc hk hi hl st hS hR
  obtain rfl:i=n:=by omega
  refine fJ oT ?_
  rw [eY i7 _]
  show aq _ A.in1 (jw (.ref I) >>= _) _ _ s
  refine a7 (W.done s _ _ st fun h' tk kp=>?_)
  refine ae (hR h' tk (fun b o hb e=>kp b o (fun z=>hb (am _ z)) e) ?_)
  rw [Gg (by omega)]
  exact hS.keep fun o e=>kp D o hDw e
 | succ k ih =>
  intro i s acc hk hi hl st hS hR
  have hlt:i<n:=by omega
  refine fJ oT ?_
  rw [eY i7 _]
  show aq _ A.in1 (jw (.ref I) >>= _) _ _ s
  refine a7 (W.item i s _ _ hlt st fun v h' tk hP st' kp=>?_)
  obtain ⟨x,t,hxi,rfl⟩:=hv i v hP
  have hS':l7 w h' D acc:=hS.keep fun o e=>kp D o hDw e
  refine a7 (cr (Eo (s:={ s with heap:=h',toks:=tk }) hS' (by omega) fun h2 tk2 sb hS2=>?_))
  refine ae ⟨mQ i7 _,ih (i + 1) _ (if x∈acc then acc else acc++[x]) (by omega) hlt ?_ (W.frame _ _ _ st' fun b hb o e=>?_) hS2 fun h3 tk3 k3 hS3=>?_⟩
  ·by_cases z:x∈acc
   ·rw [if_pos z];omega
   ·rw [if_neg z,aB,cH];omega
  ·rw [sb.2 b fun z=>hD (z ▸ hb)];exact e
  ·refine hR h3 tk3 (fun b o hb e=>k3 b o hb ?_) ?_
   ·rw [sb.2 b fun z=>hb (by rw [z];exact ao)]
    exact kp b o (fun z=>hb (am _ z)) e
   ·have hd:xs.drop i=x::xs.drop (i + 1):=by
     obtain ⟨h1,h2⟩:=List.getElem?_eq_some_iff.mp hxi
     rw [Ch h1,h2]
    rw [hd,dz];exact hS3
theorem MQ (a:a9) {Q₁:a9->af->Prop} (h:Q₁ (.ref s.heap.objs.size) { s with heap:=s.heap.push (fo w) }) :
  hZ (aL prog w) A (.call (.builtin "set.__new__") ⟨[.type "set",a],[]⟩) (wants Q₁ E) s:=by
 refine DZ ?_
 show aq _ A.in1 (do checkBuiltinCall "set.__new__" ⟨[.type "set",a],[]⟩;again (.builtin "set.__new__" ⟨[.type "set",a],[]⟩)) _ _ s
 refine a7 (eg (F.newCall_set_1 a) (ae ⟨mQ F.plain_set_new _,fJ F.entry_set_new ?_⟩))
 rw [eY F.plain_set_new _]
 unfold im.«set.__new__» PB
 have hsub:=M6
 obtain ⟨hp,g,d,tk,os⟩:=s
 dsimp only
 wp_walk
 refine i3 (ae ?_)
 dsimp only
 simp only [newObj]
 refine a7 (Pz (ae ?_))
 exact ae h
structure TV (prog:aO) (w:bd) (A:bg) (T:String) (l:ah) (o:Obj) (items:Array a9):Prop where
 ty:o.cls=.type T
 s1:isSubtype (.type T) (.type "set")=pure false
 s2:isSubtype (.type T) (.type "frozenset")=pure false
 nd:(iC T == iC "dict")=false
 iter:∀ (s:af) (Q:a9->af->Prop) (E:a9->af->Prop),s.heap.get? l=some o ->
  (∀ ob St,LQ prog w A.in1 s.heap.objs.size [s.heap.objs.size,l] [s.heap.objs.size] items.size (fun i v=>items[i]?=some v) St->St 0 (s.heap.push ob)->Q (.ref s.heap.objs.size) { s with heap:=s.heap.push ob })->aq (aL prog w) A (yo (.ref l)) Q E s
theorem uY {T:String}{l:ah}{ol:Obj}{items:Array a9}{xs:List Str}{Q:a9->af->Prop}
  (src:TV prog w A.in1.in1 T l ol items) (hol:s.heap.get? l=some ol) (hi:∀ (i:Nat) (v:a9),items[i]?=some v->∃ x t,xs[i]?=some x/\v=jv x t) (hx:xs.length=items.size) (hb:items.size + 1<iO)
  (h:∀ (h':bt) (tk:Nat),l7 w h' s.heap.objs.size (dz [] xs)->(∀ b o,s.heap.get? b=some o->h'.get? b=some o)->Q (.ref s.heap.objs.size) { s with heap:=h',toks:=tk }) :
  aq (aL prog w) A (call (.type "set") [.ref l]) Q E s:=by
 obtain ⟨c,tl,hmro⟩:=F.called_set.mro
 have hmade:=F.called_set.made
 have hsub:=F.called_set.sub
 refine yq (DZ ?_)
 show aq _ _ (callAny (.type "set") _) _ _ _
 refine ae ⟨LR _ (by decide +kernel),fJ F.entry_type_call ?_⟩
 rw [Around.under_plain (weight_type_call_type "set" [.ref l] []) rfl]
 have h1:=F.called_set.notType
 have h2:=F.called_set.canCreate
 have hct:=F.typeCall_set_1 (.ref l)
 repeat (any_goals (first | assumption | wp_step))
 refine oz (MQ (.ref l) (E:=E) (Q₁:=fun obj s₁=>obj=.ref s.heap.objs.size/\s₁={ s with heap:=s.heap.push (fo w) }) ⟨rfl,rfl⟩) fun r s₁ hr=>?_
 cases r with
 | error e=>exact hr
 | ok fl =>
  cases fl with
  | ret obj =>
   obtain ⟨rfl,rfl⟩:=hr
   have hS:(s.heap.push (fo w)).get? s.heap.objs.size=some (fo w):=az _ rfl
   have hT:PD { s with heap:=s.heap.push (fo w) } (.ref s.heap.objs.size) "set":=⟨_,hS,rfl⟩
   have hli:=F.called_set.init.lookup
   have hbi:=F.called_set.init.bind (.ref s.heap.objs.size)
   repeat (any_goals (first | assumption | wp_step))
   refine oz (vV (R:=wants (fun r s₂=>r=.none/\∃ h' tk,s₂={ s with heap:=h',toks:=tk }/\l7 w h' s.heap.objs.size (dz [] xs) /\
     (∀ b o,s.heap.get? b=some o->h'.get? b=some o)) E) F.called_set.init.plain F.entry_set_init (check_set_init_1 hT ?_)) fun r₂ s₂ hr₂=>?_
   ·obtain ⟨oc,od,odt,os'⟩:=ol
    obtain ⟨ty,s1,s2,nd,iter⟩:=src
    have ty:oc=.type T:=ty
    subst ty
    have hol':(s.heap.push (fo w)).get? l=some { cls:=.type T,dict:=od,data:=odt,slots:=os' }:=ag _ hol
    unfold im.«set.__init__» noKeywords jr
    generalize hPI:yo=PI
    wp_walk
    subst hPI
    refine iter { s with heap:=s.heap.push (fo w) } _ _ hol' fun ob St W st=>?_
    have hlS:l<s.heap.objs.size:=ap hol
    refine a7 (wpAny_runValue ?_)
    have szp:(s.heap.push (fo w)).objs.size=s.heap.objs.size + 1:=cx ..
    refine AE (A:=A.in1.in1) W s.heap.objs.size (by rw [szp];simp only [bh,aV,or_false,not_or];exact ⟨aC (d_ _),eu hlS⟩) xs hx hi hb items.size 0 _ [] (by omega) (c_ _) (ar _) st (By w (ag _ hS)) fun h' tk kp hS'=>?_
    show aq _ _ _ _ _ _
    refine ae ?_
    show aq _ _ (ret dW) _ _ _
    refine ae ⟨rfl,h',tk,rfl,hS',fun b o e=>kp b o ?_ (ag _ (ag _ e))⟩
    have:=ap e
    rw [szp]
    simp only [bh,aV,or_false,not_or]
    exact ⟨aC this,aC (fj this)⟩
   ·cases r₂ with
    | error e=>exact hr₂
    | ok fl₂ =>
     cases fl₂ with
     | ret r =>
      obtain ⟨rfl,h',tk,rfl,hS',hk'⟩:=hr₂
      repeat (any_goals (first | assumption | wp_step))
      exact h _ _ hS' hk'
     | next=>exact hr₂.elim
     | brk=>exact hr₂.elim
     | cont=>exact hr₂.elim
  | next=>exact hr.elim
  | brk=>exact hr.elim
  | cont=>exact hr.elim
theorem MR {l:ah}{o:Obj}{its:List a9} (hh:A.handled=none) (e0:o.cls=.type "list") (e1:∃ n,o.data=.seq its.toArray n):TV prog w A "list" l o its.toArray :=
 ⟨e0,F.sub_list_set,F.sub_list_frozenset,by decide,fun s Q E e h=>iT ⟨_,e,e0,e1⟩
  (h _ _ (uI (by simpa using hh) _ l (aC (ap e)) its.toArray) ⟨⟨_,az _ rfl,rfl,rfl⟩,⟨_,ag _ e,e0,e1⟩⟩)⟩
theorem Qs {l:ah}{o:Obj}{its:List a9} (hh:A.handled=none) (e0:o.cls=.type "tuple") (e1:∃ n,o.data=.seq its.toArray n):TV prog w A "tuple" l o its.toArray :=
 ⟨e0,F.sub_tuple_set,F.sub_tuple_frozenset,by decide,fun s Q E e h=>gj ⟨_,e,e0,e1⟩
  (h _ _ (Walks.tuple (by simpa using hh) _ l (aC (ap e)) its.toArray) ⟨⟨_,az _ rfl,rfl,rfl⟩,⟨_,ag _ e,e0,e1⟩⟩)⟩
end
end
end L2
section
namespace L2
open PySem PySem.Spec PyProof.Rows
namespace SI
theorem entry_iter:GC table "set.__iter__"=some im.«frozenset.__iter__» :=
 GD (id':="frozenset.__iter__") (by kernel_rfl) rfl (by decide +kernel) (by kernel_rfl)
theorem slot_next:Slot "set_iterator" "__next__" "set_iterator.__next__":=by
 refine .of (owner:="set_iterator") (n:="__next__") ?_ ?_ ?_ ?_ ?_ ?_
 ·rw [D_,uJ];kernel_rfl
 ·decide +kernel
 ·decide +kernel
 ·decide +kernel
 ·first
   | exact .inl (by decide +kernel)
   | exact .inr (by decide +kernel)
 ·rw [GE];kernel_rfl
theorem entry_next:GC table "set_iterator.__next__"=some im.«set_iterator.__next__» :=
 entryFor_of_tree (by kernel_rfl)
theorem Ep:Manifest.owners.lookup (String.ofList ['r','o','t','a','r','e','t','i','_','t','e','s'].reverse)=some Manifest.sig_set_iterator:=by kernel_rfl
theorem args_next (a:a9):argsOk "set_iterator.__next__" ⟨[a],[]⟩:=by
 unfold argsOk
 rw [signature?_of (id:="set_iterator.__next__") (n:=['_','_','t','x','e','n','_','_']) (o:=['r','o','t','a','r','e','t','i','_','t','e','s']) (by kernel_rfl) Ep]
 kernel_rfl
theorem args_iter (a:a9):argsOk "set_iterator.__iter__" ⟨[a],[]⟩:=by
 unfold argsOk
 rw [signature?_of (id:="set_iterator.__iter__") (n:=['_','_','r','e','t','i','_','_']) (o:=['r','o','t','a','r','e','t','i','_','t','e','s']) (by kernel_rfl) Ep]
 kernel_rfl
theorem entry_self:GC table "set_iterator.__iter__"=some im.«dict_keyiterator.__iter__» :=
 GD (id':="dict_keyiterator.__iter__") (by kernel_rfl) rfl (by decide +kernel) (by kernel_rfl)
theorem slot_iter:Slot "set_iterator" "__iter__" "set_iterator.__iter__":=by
 refine .of (owner:="set_iterator") (n:="__iter__") ?_ ?_ ?_ ?_ ?_ ?_
 ·rw [D_,uJ];kernel_rfl
 ·decide +kernel
 ·decide +kernel
 ·decide +kernel
 ·first
   | exact .inl (by decide +kernel)
   | exact .inr (by decide +kernel)
 ·rw [GE];kernel_rfl
end SI
end L2
end
namespace L2
open PySem PySem.Spec PyProof.Rows
section
theorem tQ {α:Type}:∀ {l:List α}{i:Nat} (h:i<l.length),(l[i]::l.eraseIdx i).Perm l
 | x::r,0,_=>.refl _
 | x::r,i + 1,h=>by
  have q:=tQ (l:=r) (i:=i) (by simpa using h)
  rw [List.getElem_cons_succ,DY]
  exact (List.Perm.swap _ _ _).trans (q.cons x)
section
variable {M:DO}{A:bg}{E:a9->af->Prop}{s:af}
theorem KH {src:Source}{n:Nat}{Q:Nat->af->Prop} (hn:n≠0) (h:∀ i d,i<n->Q i { s with drawn:=d }):aq M A (choose src n) Q E s :=
 fun _ _ _=>⟨hn,h _ _ (Ci _ (Nat.pos_of_ne_zero hn))⟩
theorem uZ {α:Type}:∀ (n:Nat) (xs:List α) (s:af) (Q:List α->af->Prop),n=xs.length->(∀ ys d,ys.Perm xs->Q ys { s with drawn:=d })->aq M A (drawOrder n xs) Q E s
 | 0,xs,s,Q,hn,h=>by
  obtain rfl:xs=[]:=List.length_eq_zero_iff.mp hn.symm
  exact ae (h [] s.drawn .nil)
 | n + 1,[],s,Q,hn,h=>by cases hn
 | n + 1,x::r,s,Q,hn,h=>by
  show aq M A (choose .order (x::r).length >>= _) Q E s
  refine a7 (KH (by simp) fun i d hi=>?_)
  rw [aR hi]
  refine a7 (uZ n _ _ _ (by rw [Be hi];omega) fun ys d' p=>ae ?_)
  exact h _ _ ((p.cons _).trans (tQ hi))
end
theorem IY {α:Type} (next:Nat->Nat):∀ (n k:Nat) (left:List α) (out:Array α),n=left.length->(As next n k left out).toList.Perm (out.toList++left)
 | 0,k,left,out,hn=>by
  obtain rfl:left=[]:=List.length_eq_zero_iff.mp hn.symm
  rw [As,bV]
 | n + 1,k,left,out,hn=>by
  have hl:next k % left.length<left.length:=Ci _ (by omega)
  rw [As,aR hl]
  refine (IY next n (k + 1) _ _ (by rw [Be hl];omega)).trans ?_
  rw [LP,gE]
  exact (tQ hl).append_left _
theorem wg {α:Type} (next:Nat->Nat) (xs:Array α):(oU next xs).toList.Perm xs.toList:=by
 have:=IY next xs.size 0 xs.toList #[] (by simp)
 simpa [oU] using this
def CD (h:bt) (I S:ah) (first:a9) (i n ep:Nat):Prop:=h.get? I=some { cls:=.type "set_iterator",data:=.fields #[first,.int i 0,.ref S,.int n 0,.int ep 0] }
section
variable {prog:aO}{w:bd}{A:bg}{E:a9->af->Prop}{s:af}{I S:ah}{es:Array (Int×a9)}{ep:Nat}{t:eC}{i n:Nat}{first:a9}
theorem CD.put {f f':a9}{j j':Nat}{k:Nat}{x:a9}{h:bt} (hit:CD h I S f j n ep) (e:(#[f,.int j 0,.ref S,.int n 0,.int ep 0] : Array a9).setIfInBounds k x=#[f',.int j' 0,.ref S,.int n 0,.int ep 0]) :
  CD (h.update I (el (·.setIfInBounds k x))) I S f' j' n ep:=by
 have q:=fV (el (·.setIfInBounds k x)) hit rfl
 unfold CD
 rw [q]
 show some ({ cls:=.type "set_iterator",data:=.fields ((#[f,.int j 0,.ref S,.int n 0,.int ep 0] : Array a9).setIfInBounds k x) }:Obj)=_
 rw [e]
theorem rT {Q:Option a9->af->Prop} (hit:CD s.heap I S first i n ep) (hS:cY w s.heap S es ep t) (hn:n=es.size)
  (h:aq (aL prog w) A.in1 (do
   if let .int slot _:=first then
    match <- M7 S slot.toNat i ep with
    | some (x,next) =>
     i4 (.ref I) 0 (cg next)
     i4 (.ref I) 1 (cg (i + 1))
     ret x
    | none=>i4 (.ref I) 2 .none;sJ (<- tH (.type "StopIteration") [])
   else
    let some places <- seqItems? first | PF "internal:set_iterator"
    match places[i]? with
    | some (.int place _) =>
     let x <- setNextDrawn S place.toNat ep
     i4 (.ref I) 1 (cg (i + 1))
     ret x
    | some _=>PF "internal:set_iterator"
    | none=>i4 (.ref I) 0 (cg 0);i4 (.ref I) 2 .none;sJ (<- tH (.type "StopIteration") []))
   (fun fin s'=>∃ v,fin=.done (.ret v)/\Q (some v) s') (fun e s'=>aq (aL prog w) A (GF e (.type "StopIteration")) (fun b s''=>b=true/\Q none s'') E s') s) :
  aq (aL prog w) A (jw (.ref I)) Q E s:=by
 unfold jw
 refine a7 (iP ?_)
 refine cn (name:=gF "__next__") ⟨_,hit,rfl⟩ SI.slot_next ?_
 refine c8 SI.slot_next ⟨_,hit,rfl⟩ SI.entry_next ?_ (SI.args_next _)
 show aq _ _ (fieldsOf (.ref I) >>= _) _ _ s
 refine a7 (GG hit rfl ?_)
 show aq _ _ (setEntries S >>= _) _ _ s
 refine a7 (wpAny_setEntries_of hS.at_ rfl hS.fits ?_)
 rw [if_neg (by rw [hn];simp)]
 refine bE h (fun fin s' z=>?_) fun e s' z=>?_
 ·obtain ⟨v,rfl,q⟩:=z
  exact ⟨v,rfl,ae q⟩
 ·refine a7 (bE z (fun b s'' ⟨hb,q⟩=>?_) fun _ _ z=>z)
  subst hb
  exact ae q
theorem CF {B:bg}{Q:Option a9->af->Prop}{Q':Fin->af->Prop}{o:Obj}{vs:Array a9} (hh:B.handled=none) (ho:s.heap.get? I=some o) (hd:o.data=.fields vs) (hz:2<vs.size)
  (h:∀ h',IG I s.heap h'->Q none { s with heap:=h' }) :
  aq (aL prog w) B (do i4 (.ref I) 2 .none;sJ (<- tH (.type "StopIteration") []))
   Q' (fun e s'=>aq (aL prog w) A (GF e (.type "StopIteration")) (fun b s''=>b=true/\Q none s'') E s') s:=by
 refine a7 (gq ho hd hz ?_)
 show aq _ _ (tH (.type "StopIteration") [] >>= _) _ _ _
 refine a7 ?_
 simp only [tH,PH]
 refine a7 (bW ?_ (by size_fits))
 refine a7 (m:=k_ _ _) (eg (a:=dW) ?_ ?_)
 ·first
   | rfl
   | (simp only [k_];rfl)
 refine bW ?_ (by size_fits)
 simp only [sJ]
 refine a7 (Ki ?_)
 rw [hh]
 refine a7 (ae (PJ ?_))
 refine i5 (T:="StopIteration") (b:=true) ⟨_,az _ rfl,rfl⟩ vW ⟨rfl,?_⟩
 exact h _ (((bI ..).extBut.push _).push _)
end
end
section
section
variable {prog:aO}{w:bd}{A:bg}{E:a9->af->Prop}{s:af}{I S:ah}{es:Array (Int×a9)}{ep:Nat}{t:eC}{i n:Nat}{first:a9}
theorem cY.keep {h h':bt} (x:cY w h S es ep t) (k:∀ o,h.get? S=some o->h'.get? S=some o):cY w h' S es ep t:=⟨k _ x.at_,x.txt,x.nd,x.few,x.fits,x.led,x.pl⟩
theorem CG {Q:a9->af->Prop} (hit:CD s.heap I S first i n ep) (h:Q (.ref I) s):aq (aL prog w) A (yo (.ref I)) Q E s:=by
 refine At ⟨_,hit,rfl⟩ SI.slot_iter (c8 SI.slot_iter ⟨_,hit,rfl⟩ SI.entry_self ?_ (SI.args_iter _))
 show aq _ _ (ret (.ref I)) _ _ s
 exact ae ⟨_,rfl,"set_iterator",_,⟨_,hit,rfl⟩,SI.slot_next.lookup,h⟩
theorem fB {Q:Bool->af->Prop}{B:bg} (h:Q (w.params.followText "set-order") s):aq (aL prog w) B setsByText Q E s:=by
 unfold setsByText
 exact a7 (i3 (ae h))
theorem MS {B:bg}{Q':Fin->af->Prop}{x:a9}{nx:Nat}{E':a9->af->Prop} (hit:CD s.heap I S first i n ep)
  (h:∀ h',CD h' I S (.int nx 0) (i + 1) n ep->bF I s.heap h'->Q' (.done (.ret x)) { s with heap:=h' }) :
  aq (aL prog w) B (do i4 (.ref I) 0 (cg nx);i4 (.ref I) 1 (cg (i + 1));ret x) Q' E' s:=by
 refine a7 (gq hit rfl (by simp) ?_)
 have h1:CD (s.heap.update I (el (·.setIfInBounds 0 (cg nx)))) I S (.int nx 0) i n ep:=hit.put (by simp [cg])
 refine a7 (gq h1 rfl (by simp) ?_)
 have h2:CD ((s.heap.update I (el (·.setIfInBounds 0 (cg nx)))).update I (el (·.setIfInBounds 1 (cg (i + 1))))) I S (.int nx 0) (i + 1) n ep:=h1.put (by simp [cg])
 exact ae (h _ h2 ((bI ..).trans (bI ..)))
theorem wj (f:Nat->Nat) (es:Array (Int×a9)):(oU f es).size=es.size:=by
 rw [<- av,(wg f es).length_eq,av]
theorem He (hh:A.handled=none) (hw:w.params.followText "set-order"=true) (hne:S≠I) :
  LQ prog w A I [I,S] [I] es.size (fun i v=>((oU (w.params.setOrder S ep) es).toList.map (·.2))[i]?=some v) (fun i h=>CD h I S (.int 0 0) i es.size ep/\cY w h S es ep t) where
 sub:=fun b hb=>by simp at hb;simp [hb]
 frame:=fun i h h' st k=>⟨k I (by simp) _ st.1,st.2.keep fun o e=>k S (by simp) o e⟩
 item:=fun i s Q E hi st hQ=>by
  obtain ⟨hit,hS⟩:=st
  refine rT hit hS rfl ?_
  dsimp only
  unfold M7 setWalk
  refine a7 (a7 (bA hS.at_ rfl hS.fits (a7 (fB ?_))))
  rw [hw]
  simp only [if_true,bne_self_eq_false,c7,if_false]
  refine a7 (a7 (bA hS.at_ rfl hS.fits (a7 (fB ?_))))
  rw [hw]
  simp only [if_true]
  refine a7 (i3 (ae (ae ?_)))
  have hi':i<(oU (w.params.setOrder S ep) es).size:=by rw [wj];exact hi
  show aq _ _ (match ((oU (w.params.setOrder S ep) es)[i]?).map fun e=>(e.2,(0:Int).toNat) with
   | some (x,next)=>do i4 (.ref I) 0 (cg next);i4 (.ref I) 1 (cg (i + 1));ret x
   | none=>do i4 (.ref I) 2 .none;sJ (<- tH (.type "StopIteration") [])) _ _ s
  rw [getElem?_pos _ i hi']
  refine MS (nx:=0) hit fun h' h1 sb=>⟨_,rfl,hQ _ h' s.toks ?_ ⟨h1,hS.keep fun o e=>(sb.2 S hne).trans e⟩ fun b o hb e=>(sb.2 b fun z=>hb (by simp [z])).trans e⟩
  simp [hi']
 done:=fun s Q E st hQ=>by
  obtain ⟨hit,hS⟩:=st
  refine rT hit hS rfl ?_
  dsimp only
  unfold M7 setWalk
  refine a7 (a7 (bA hS.at_ rfl hS.fits (a7 (fB ?_))))
  rw [hw]
  simp only [if_true,bne_self_eq_false,c7,if_false]
  refine a7 (a7 (bA hS.at_ rfl hS.fits (a7 (fB ?_))))
  rw [hw]
  simp only [if_true]
  refine a7 (i3 (ae (ae ?_)))
  show aq _ _ (match ((oU (w.params.setOrder S ep) es)[es.size]?).map fun e=>(e.2,(0:Int).toNat) with
   | some (x,next)=>do i4 (.ref I) 0 (cg next);i4 (.ref I) 1 (cg (es.size + 1));ret x
   | none=>do i4 (.ref I) 2 .none;sJ (<- tH (.type "StopIteration") [])) _ _ s
  rw [getElem?_neg _ es.size (by rw [wj];exact c6 _)]
  exact CF (by simpa using hh) hit rfl (by simp) fun h' eb=>hQ h' s.toks fun b o hb e=>eb b o (fun z=>hb (by simp [z])) e
 self:=fun i s Q E st h=>CG st.1 h
inductive XU (h:bt) (T:ah) (ps:List Nat):Prop
 | mk (o k:_) (h0:h.get? T=some o) (h1:o.data=.seq (ps.map fun (p:Nat)=>mP (p:Int) 0).toArray k):XU h T ps
theorem Es (hh:A.handled=none) {T:ah}{ps:List Nat} (hne:S≠I) (hT:T≠I) (hp:∀ p∈ps,p<es.size) (hn:ps.length=es.size) :
  LQ prog w A I [I,S,T] [I] es.size (fun i v=>(ps.map fun p=>(es.getD p (0,.none)).2)[i]?=some v) (fun i h=>CD h I S (.ref T) i es.size ep/\cY w h S es ep t/\XU h T ps) where
 sub:=fun b hb=>by simp at hb;simp [hb]
 frame:=fun i h h' st k=>⟨k I (by simp) _ st.1,st.2.1.keep fun o e=>k S (by simp) o e,let ⟨o,q,e,d⟩:=st.2.2;⟨o,q,k T (by simp) o e,d⟩⟩
 item:=fun i s Q E hi st hQ=>by
  obtain ⟨hit,hS,o,q,e,d⟩:=st
  refine rT hit hS rfl ?_
  dsimp only
  refine a7 (eE e d ?_)
  have hi':i<ps.length:=by omega
  dsimp only
  rw [show ((ps.map fun (p:Nat)=>mP (p:Int) 0).toArray)[i]?=some (.int (ps[i] : Nat) 0) by simp [hi']]
  dsimp only
  unfold setNextDrawn
  refine a7 (a7 (bA hS.at_ rfl hS.fits ?_))
  have hlt:=hp ps[i] (gQ hi')
  simp only [bne_self_eq_false,c7,if_false,jX]
  rw [getElem?_pos es ps[i] hlt]
  refine ae ?_
  refine a7 (gq hit rfl (by simp) ?_)
  have h1:CD (s.heap.update I (el (·.setIfInBounds 1 (cg (i + 1))))) I S (.ref T) (i + 1) es.size ep:=hit.put (by simp [cg])
  have sb:bF I s.heap (s.heap.update I (el (·.setIfInBounds 1 (cg (i + 1))))):=bI ..
  refine ae ⟨_,rfl,hQ _ _ s.toks ?_ ⟨h1,hS.keep fun o e=>(sb.2 S hne).trans e,o,q,(sb.2 T hT).trans e,d⟩ fun b o hb e=>(sb.2 b fun z=>hb (by simp [z])).trans e⟩
  simp [hi',hlt]
 done:=fun s Q E st hQ=>by
  obtain ⟨hit,hS,o,q,e,d⟩:=st
  refine rT hit hS rfl ?_
  dsimp only
  refine a7 (eE e d ?_)
  dsimp only
  rw [show ((ps.map fun (p:Nat)=>mP (p:Int) 0).toArray)[es.size]?=none by simp [<- hn]]
  dsimp only
  refine a7 (gq hit rfl (by simp) ?_)
  have h1:CD (s.heap.update I (el (·.setIfInBounds 0 (cg 0)))) I S (.int 0 0) es.size es.size ep:=hit.put (by simp [cg])
  have sb:bF I s.heap (s.heap.update I (el (·.setIfInBounds 0 (cg 0)))):=bI ..
  exact CF (s:={ s with heap:=s.heap.update I (el (·.setIfInBounds 0 (cg 0))) }) (by simpa using hh) h1 rfl (by simp) fun h' eb=>hQ h' s.toks fun b o hb e=>eb b o (fun z=>hb (by simp [z])) ((sb.2 b fun z=>hb (by simp [z])).trans e)
 self:=fun i s Q E st h=>CG st.1 h
theorem MT {p:Array Nat}{j:Nat} (h:p=#[j]):ib p 0=0:=by subst h;simp [ib,Au]
theorem MU {p:Array Nat}{j:Nat} (h:p=#[j]):ib p (j + 1)=1:=by subst h;simp [ib,Au]
theorem KI {t : eC} (h : t.fits 1 = true) : ∃ j, t.place = #[j] := by
  have h1 : t.place.size = 1 := by
    simp only [n5, aT, beq_iff_eq] at h; exact h.1
  exact ⟨t.place[0], by apply Array.ext; · simp [h1]
                        · intro i h2 h3; have : i = 0 := by omega
                          subst this; simp⟩
theorem TW {B:bg}{k:Unit->Sem (Option (a9×Nat))}{Q:Option (a9×Nat)->af->Prop} (hl:t.led=true) (h:aq (aL prog w) B (k ()) Q E s) :
  aq (aL prog w) B ((if (!t.led && !es.isEmpty)=true then PF "set:maker-not-led" else pure ()) >>= k) Q E s:=by
 rw [if_neg (by rw [hl];simp)]
 exact a7 (ae h)
theorem u_ {B:bg}{slot g:Nat}{Q:Option (a9×Nat)->af->Prop} (hw:w.params.followText "set-order"=false) (hS:cY w s.heap S es ep t) (h1:es.size<=1)
  (h:Q (match es[ib t.place slot]?,t.place[ib t.place slot]? with | some (_,x),some j=>some (x,j + 1) | _,_=>none) s):aq (aL prog w) B (M7 S slot g ep) Q E s:=by
 unfold M7
 refine a7 (bA hS.at_ rfl hS.fits (a7 (fB ?_)))
 rw [hw]
 simp only [c7,if_false]
 split
 ·rename_i z
  exact absurd (show (!t.plain && decide (es.size > 1))=true from z) (by simp;omega)
 ·have hl:t.led=true:=by rw [hS.led,hw];rfl
  exact TW hl (ae h)
theorem KJ (hh:A.handled=none) (hw:w.params.followText "set-order"=false) (hne:S≠I) (h1:es.size<=1) :
  LQ prog w A I [I,S] [I] es.size (fun i v=>(es.toList.map (·.2))[i]?=some v)
   (fun i h=>∃ k,CD h I S (.int (k:Nat) 0) i es.size ep/\cY w h S es ep t/\(i=0->k=0)/\(i=1->es.size=1->∃ j,t.place=#[j]/\k=j + 1)) where
 sub:=fun b hb=>by simp at hb;simp [hb]
 frame:=fun i h h' st k=>let ⟨c,a1,a2,a3⟩:=st;⟨c,k I (by simp) _ a1,a2.keep fun o e=>k S (by simp) o e,a3⟩
 item:=fun i s Q E hi st hQ=>by
  obtain ⟨c,hit,hS,c0,c1⟩:=st
  have hi0:i=0:=by omega
  subst hi0
  obtain rfl:c=0:=c0 rfl
  have e1:es.size=1:=by omega
  obtain ⟨j,hj⟩:=KI (t:=t) (by rw [<- e1];exact hS.fits)
  refine rT hit hS rfl ?_
  dsimp only
  refine a7 (u_ hw hS h1 ?_)
  rw [show (((0:Nat):Int).toNat)=0 from rfl,MT hj,getElem?_pos es 0 (by omega),hj]
  refine MS (nx:=j + 1) hit fun h' h1 sb=>⟨_,rfl,hQ _ h' s.toks ?_ ⟨j + 1,h1,hS.keep fun o e=>(sb.2 S hne).trans e,by simp,fun _ _=>⟨j,hj,rfl⟩⟩ fun b o hb e=>(sb.2 b fun z=>hb (by simp [z])).trans e⟩
  simp [e1]
 done:=fun s Q E st hQ=>by
  obtain ⟨c,hit,hS,c0,c1⟩:=st
  refine rT hit hS rfl ?_
  dsimp only
  refine a7 (u_ hw hS h1 ?_)
  have hz:es[ib t.place ((c:Nat):Int).toNat]?=none:=by
   rcases Nat.eq_zero_or_pos es.size with z | z
   ·rw [getElem?_neg];omega
   ·have e1:es.size=1:=by omega
    obtain ⟨j,hj,hc⟩:=c1 e1 e1
    rw [hc,show (((j + 1:Nat):Int).toNat)=j + 1 from rfl,MU hj,getElem?_neg];omega
  rw [hz]
  exact CF (by simpa using hh) hit rfl (by simp) fun h' eb=>hQ h' s.toks fun b o hb e=>eb b o (fun z=>hb (by simp [z])) e
 self:=fun i s Q E st h=>let ⟨_,a1,_⟩:=st;CG a1 h
theorem Hf {Q:a9->af->Prop} (hh:A.handled=none) (hS:cY w s.heap S es ep t)
  (h:∀ (I:ah) (fp:List ah) (ord:List a9) (St:Nat->bt->Prop) (h':bt) (d:Drawn),s.heap.objs.size<=I->(∀ b∈fp,b=S\/s.heap.objs.size<=b)->(∀ b∈fp,b<h'.objs.size)->ord.Perm (es.toList.map (·.2))->(∀ B:bg,B.handled=none->LQ prog w B I fp [I] ord.length (fun i v=>ord[i]?=some v) St)->St 0 h' ->
   (∀ b o,s.heap.get? b=some o->h'.get? b=some o)->PD { s with heap:=h',drawn:=d } (.ref I) "set_iterator"->Q (.ref I) { s with heap:=h',drawn:=d }):aq (aL prog w) A (yo (.ref S)) Q E s:=by
 have hT:s.TypeIs (.ref S) "set":=⟨_,hS.at_,rfl⟩
 have hlt:=ap hS.at_
 refine At hT F.slot_set_iter (c8 F.slot_set_iter hT SI.entry_iter ?_ (F.args_set_iter_1 _))
 show aq _ _ (tJ S >>= _) _ _ s
 unfold tJ
 refine a7 (a7 (wpAny_setEntries_of hS.at_ rfl hS.fits (ae ?_)))
 show aq _ _ (setDrawn S >>= _) _ _ s
 unfold setDrawn
 refine a7 (a7 (bA hS.at_ rfl hS.fits (a7 (fB (ae ?_)))))
 have fin:∀ (first:a9) (fp:List ah) (ord:List a9) (St:Nat->bt->Prop) (h':bt) (d:Drawn),(∀ b o,s.heap.get? b=some o->h'.get? b=some o)->s.heap.objs.size<=h'.objs.size ->
   (∀ b∈fp,b=S\/b=h'.objs.size\/(s.heap.objs.size<=b/\b<h'.objs.size))->ord.Perm (es.toList.map (·.2))->(∀ B:bg,B.handled=none->LQ prog w B h'.objs.size fp [h'.objs.size] ord.length (fun i v=>ord[i]?=some v) St) ->
   (∀ h'':bt,(∀ b o,h'.get? b=some o->h''.get? b=some o)->CD h'' h'.objs.size S first 0 es.size ep->St 0 h'') ->
   aq (aL prog w) A.in1 (setEpoch S >>= fun e=>newFields "set_iterator" [first,cg 0,.ref S,cg es.size,cg e] >>= fun x=>ret x) (fun fin s'=>∃ v,fin=.done (.ret v)/\∃ T' r,s'.TypeIs v T'/\yr (.type T') "__next__"=pure (some r)/\Q v s') E { s with heap:=h',drawn:=d }:=by
  intro first fp ord St h' d kp hsz hfp pm W st
  have hS':cY w h' S es ep t:=hS.keep fun o e=>kp S o e
  refine a7 (wpAny_setEpoch_of (s:={ s with heap:=h',drawn:=d }) hS'.at_ rfl hS'.fits ?_)
  refine a7 (bW ?_ (by size_fits))
  have gp:∀ b o,h'.get? b=some o->(h'.push { cls:=.type "set_iterator",dict:=none,data:=.fields #[first,cg 0,.ref S,cg es.size,cg ep] }).get? b=some o:=fun b o e=>ag _ e
  have it:(h'.push { cls:=.type "set_iterator",dict:=none,data:=.fields #[first,cg 0,.ref S,cg es.size,cg ep] }).get? h'.objs.size=some { cls:=.type "set_iterator",dict:=none,data:=.fields #[first,cg 0,.ref S,cg es.size,cg ep] }:=az _ rfl
  refine ae ⟨_,rfl,"set_iterator",_,⟨_,it,rfl⟩,SI.slot_next.lookup,h h'.objs.size fp ord St _ d hsz (fun b hb=>?_) (fun b hb=>?_) pm W (st _ gp it) (fun b o e=>gp b o (kp b o e)) ⟨_,it,rfl⟩⟩
  ·rcases hfp b hb with z | z | z
   ·exact .inl z
   ·exact .inr (by rw [z];exact hsz)
   ·exact .inr z.1
  ·rw [cx]
   rcases hfp b hb with z | z | z
   ·rw [z];exact fj (aH hlt hsz)
   ·rw [z];exact d_ _
   ·exact fj z.2
 dsimp only
 split
 ·rename_i z
  have z:(!w.params.followText "set-order" && (!t.plain && decide (es.size > 1)))=true:=z
  refine a7 (uZ _ _ _ _ (by simp) fun ys d pm=>?_)
  simp only [PH]
  have hyl:ys.length=es.size:=by have:=pm.length_eq;rwa [fi] at this
  have zl:=fI hS.few
  refine a7 (bW ?_ (by show (ys.map fun (i:Nat)=>cg i).toArray.size<=sizeLine;simp;omega))
  have tp:∀ ob:Obj,(s.heap.push ob).objs.size=s.heap.objs.size + 1:=fun ob=>cx ..
  refine fin (.ref s.heap.objs.size) [s.heap.objs.size + 1,S,s.heap.objs.size] (ys.map fun p=>(es.getD p (0,.none)).2)
   (fun i h=>CD h (s.heap.objs.size + 1) S (.ref s.heap.objs.size) i es.size ep/\cY w h S es ep t/\XU h s.heap.objs.size ys) (s.heap.push _) d
   (fun b o e=>ag _ e) (by rw [tp];exact iS _) (fun b hb=>?_) ?_ (fun B hB=>?_) (fun h'' k it=>⟨by rw [tp] at it;exact it,hS.keep fun o e=>k S o (ag _ e),_,_,k _ _ (az _ rfl),rfl⟩)
  ·simp only [bh,aV,or_false] at hb
   rcases hb with y | y | y
   ·exact .inr (.inl (by rw [tp];exact y))
   ·exact .inl y
   ·exact .inr (.inr ⟨by rw [y];exact ar _,by rw [tp,y];exact d_ _⟩)
  ·refine (pm.map _).trans (.of_eq ?_)
   apply xV
   ·simp
   ·intro k h1 h2
    have:k<es.size:=by simpa using h1
    simp [this]
  ·rw [al,hyl,tp]
   exact Es hB (aC (fj hlt)) (aC (d_ _)) (fun p hp=>List.mem_range.mp (pm.mem_iff.mp hp)) hyl
 ·rename_i z
  have z:¬ (!w.params.followText "set-order" && (!t.plain && decide (es.size > 1)))=true:=z
  refine a7 (ae ?_)
  have hne:S≠s.heap.objs.size:=aC hlt
  cases hw:w.params.followText "set-order" with
  | true =>
   refine fin (cg 0) [s.heap.objs.size,S] ((oU (w.params.setOrder S ep) es).toList.map (·.2)) (fun i h=>CD h s.heap.objs.size S (.int 0 0) i es.size ep/\cY w h S es ep t) s.heap s.drawn (fun _ _ e=>e) (ar _) (fun b hb=>?_) ((wg _ es).map _) (fun B hB=>?_) (fun h'' k it=>⟨it,hS.keep fun o e=>k S o e⟩)
   ·simp only [bh,aV,or_false] at hb
    exact hb.elim (fun z=>.inr (.inl z)) .inl
   ·rw [al,av,wj]
    exact He hB hw hne
  | false =>
   have h1:es.size<=1:=by
    rw [hw] at z
    rcases hS.pl with y | y
    ·omega
    ·rw [y] at z;simpa using z
   refine fin (cg 0) [s.heap.objs.size,S] (es.toList.map (·.2)) (fun i h=>∃ k,CD h s.heap.objs.size S (.int (k:Nat) 0) i es.size ep/\cY w h S es ep t/\(i=0->k=0)/\(i=1->es.size=1->∃ j,t.place=#[j]/\k=j + 1)) s.heap s.drawn (fun _ _ e=>e) (ar _) (fun b hb=>?_) (.refl _) (fun B hB=>?_) (fun h'' k it=>⟨0,it,hS.keep fun o e=>k S o e,fun _=>rfl,fun y=>by cases y⟩)
   ·simp only [bh,aV,or_false] at hb
    exact hb.elim (fun z=>.inr (.inl z)) .inl
   ·rw [al,av]
    exact KJ hB hw hne h1
end
end
section
section
variable {prog:aO}{w:bd}{A:bg}{E:a9->af->Prop}{s:af}{S:ah}{es:Array (Int×a9)}{ep:Nat}{t:eC}
theorem Et {Q:List a9->af->Prop} (hh:A.handled=none) (hS:cY w s.heap S es ep t)
  (h:∀ (ord:List a9) (h':bt) (d:Drawn) (tk:Nat),ord.Perm (es.toList.map (·.2))->(∀ b o,s.heap.get? b=some o->h'.get? b=some o)->s.heap.objs.size<=h'.objs.size->Q ord { s with heap:=h',drawn:=d,toks:=tk }) :
  aq (aL prog w) A (collect (.ref S)) Q E s:=by
 have hlt:=ap hS.at_
 unfold collect
 refine a7 (wpAny_runValue (fJ F.entry_proto_collect ?_))
 rw [eY F.plain_proto_collect _]
 show aq _ A.in1 (newList [] >>= fun l=>again (.builtin "list.__iadd__" ⟨[l,.ref S],[]⟩)) _ _ s
 refine a7 (bW ?_)
 refine ae ⟨mQ F.plain_list_iadd _,fJ F.entry_list_iadd ?_⟩
 rw [eY F.plain_list_iadd _]
 let s1:af:={ s with heap:=s.heap.push { cls:=.type "list",data:=.seq ([] : List a9).toArray } }
 have sz1:s1.heap.objs.size=s.heap.objs.size + 1:=cx ..
 have at1:s1.heap.get? s.heap.objs.size=some { cls:=.type "list",data:=.seq ([] : List a9).toArray }:=az _ rfl
 have hS1:cY w s1.heap S es ep t:=hS.keep fun o e=>ag _ e
 show aq _ A.in1 (uK (.ref s.heap.objs.size) (.ref S) (.ref s.heap.objs.size)) _ _ s1
 have hT1:s1.TypeIs (.ref S) "set":=⟨_,hS1.at_,rfl⟩
 unfold uK
 refine a7 (kY hT1 ?_)
 have e1:wU (.ref s.heap.objs.size) (.ref S)=false:=by simp [wU,eu hlt]
 have e2:(iC "set" == iC "list")=false:=by decide
 have e3:(iC "set" == iC "tuple")=false:=by decide
 simp only [e1,e2,e3,Bool.or_false,c7,if_false]
 refine a7 (Hf (A:=A.in1) (by simpa using hh) hS1 fun I fp ord St h' d hI hfp hfl pm W st kp tI=>?_)
 let s2:af:={ s1 with heap:=h',drawn:=d }
 have hS2:cY w s2.heap S es ep t:=hS1.keep fun o e=>kp S o e
 have hT2:s2.TypeIs (.ref S) "set":=⟨_,hS2.at_,rfl⟩
 refine a7 (cr ?_)
 unfold Builtin.List.listLengthHint
 refine a7 (wpAny_specialOf (s:=s2) hT2 F.slot_set_len.lookup ?_)
 dsimp only
 rw [show splitId "set.__len__"=some ("set","__len__") from by decide +kernel]
 dsimp only
 refine a7 (i5 (b:=true) (s:=s2) hT2 (by rw [GE];kernel_rfl) ?_)
 rw [if_neg (by decide),if_pos (by decide)]
 refine a7 (kY (s:=s2) hT2 (ae ?_))
 rw [if_pos (by decide)]
 refine a7 (gf ?_)
 have nS:s.heap.objs.size∉fp:=fun z=>by
  rcases hfp _ z with q | q
  ·exact absurd hlt (by rw [<- q];exact c6 _)
  ·rw [sz1] at q;exact absurd q (Nat.not_succ_le_self _)
 have at2:s2.heap.get? s.heap.objs.size=some { cls:=.type "list",data:=.seq ([] : List a9).toArray }:=kp _ _ at1
 refine a7 ?_
 show aq _ A.in1 (updateSeq s.heap.objs.size (·.push .none) >>= fun _=>updateSeq s.heap.objs.size (·.pop)) _ _ s2
 refine a7 (wpAny_updateSeq at2 rfl ?_)
 have at3:=fV (kZ (·.push dW)) at2 rfl
 refine wpAny_updateSeq at3 rfl ?_
 have at4:=fV (kZ (·.pop)) at3 rfl
 have oth:∀ b o,b≠s.heap.objs.size->s2.heap.get? b=some o->((s2.heap.update s.heap.objs.size (kZ (·.push dW))).update s.heap.objs.size (kZ (·.pop))).get? b=some o :=
  fun b o hb e=>(qF _ _ (de hb)).trans ((qF _ _ (de hb)).trans e)
 have zl:ord.length<=sizeLine:=by rw [pm.length_eq,al,av];exact fI hS.few
 have W1:=W A.in1 (by simpa using hh)
 refine ae ⟨mQ F.plain_extend_loop _,codeAny_extend_loopS (A:=A) W1.toS zl _ nS _ ord.length 0 { s2 with heap:=(s2.heap.update s.heap.objs.size (kZ (·.push dW))).update s.heap.objs.size (kZ (·.pop)) } _ _ rfl (c_ _) (W1.frame 0 _ _ st fun b hb o e=>oth b o (fun z=>nS (z ▸ hb)) e) at4 (ItemsOf.nil _) fun s' acc' c' hm hS' hacc=>?_⟩
 show aq _ A (load s.heap.objs.size >>= _) _ _ s'
 refine a7 (wpAny_load hS' (ae ?_))
 have hacc':acc'.toList=ord:=by
  apply List.ext_getElem?
  intro j
  rw [cX]
  by_cases hj:j<acc'.size
  ·have:=hacc.2 j acc'[j] (by simp [hj])
   rw [this];simp [hj]
  ·rw [getElem?_neg acc' j hj,cJ (by rw [<- hacc.1];omega)]
 rw [hacc']
 obtain ⟨h3,g3,d3,t3,o3⟩:=s'
 obtain rfl:g3=s.gens:=hm.gens
 obtain rfl:d3=d:=hm.drawn
 obtain rfl:o3=s.os:=hm.os
 have old:∀ b o,s.heap.get? b=some o->h3.get? b=some o:=fun b o e=>by
  have hb:=ap e
  refine hm.heap b o ?_ (oth b o (aC hb) (kp b o (ag _ e)))
  simp only [bh,aV,or_false,not_or]
  exact ⟨aC hb,aC (aH hb (by have q:=hI;rw [sz1] at q;exact Nat.le_of_succ_le q))⟩
 refine h ord h3 _ t3 pm old ?_
 have:=ap (show h3.get? s.heap.objs.size=some _ from hS')
 exact bC this
theorem Eu {x:a9}{Q:a9->af->Prop} (hc:aq (aL prog w) A.in1 (collect x) (fun vs s1=>∃ ss,tK vs ss/\vs.length<64 /\
   ∀ (h':bt) (vs':List a9) (ss':List Str) (e:Nat),(∀ b o,s1.heap.get? b=some o->h'.get? b=some o)->h'.get? s1.heap.objs.size=some (seqObj "list" vs'.toArray e)->tK vs' ss'->ss'.Perm ss->sortedS ss'=true ->
    Q (.ref s1.heap.objs.size) { s1 with heap:=h' }) E s):aq (aL prog w) A (call (.builtin "sorted") [x]) Q E s:=by
 refine Bf kind_sorted plain_sorted entry_sorted (args_sorted1 _) ?_
 unfold im.«sorted»
 refine a7 (m:=checkCount "sorted" 1 1 _) (ae ?_)
 refine a7 (bE hc (fun vs s1 z=>?_) fun _ _ z=>z)
 obtain ⟨ss,hss,h64,hq⟩:=z
 refine a7 (wpAny_newList ?_)
 have at1:(s1.heap.push (seqObj "list" vs.toArray 0)).get? s1.heap.objs.size=some (seqObj "list" vs.toArray 0):=az _ rfl
 show aq _ _ _ _ _ { s1 with heap:=s1.heap.push (seqObj "list" vs.toArray 0) }
 refine a7 (cr (c8 slot_list_sort ⟨_,at1,rfl⟩ entry_list_sort (list_sort_treeK strKind_oneLt at1 hss.keysOf (fun v₁ v₂ bX e=>keyKind_strs (by rw [<- e];exact hss)) h64 fun st' a1 a2=>⟨_,rfl,?_⟩) (args_list_sort _)))
 obtain ⟨ss',p1,p2,p3⟩:=sorted_out_str hss a1 a2
 obtain ⟨e,at2⟩:=sortedHeap_at (out:=(arrOf st').map (·.2)) at1
 refine ae ⟨_,rfl,hq _ _ ss' e (fun b o q=>?_) at2 p1 p2 p3⟩
 have hb:=ap q
 rw [sortedHeap_old (aC hb) (by rw [cx];exact fj hb)]
 exact ag _ q
end
end
section
def qp (x y:Str):Bool:=decide (x.cps.toList<y.cps.toList)
def Hg (x:Str):List Str->List Str
 | []=>[x]
 | y::r=>if qp y x then y::Hg x r else x::y::r
def jC:List Str->List Str
 | []=>[]
 | x::r=>Hg x (jC r)
theorem wk (x:Str):∀ l,(Hg x l).Perm (x::l)
 | []=>.refl _
 | y::r=>by
  rw [Hg]
  split
  ·exact ((wk x r).cons y).trans (.swap ..)
  ·exact .refl _
theorem hG:∀ l,(jC l).Perm l
 | []=>.refl _
 | x::r=>(wk x _).trans ((hG r).cons x)
theorem tR (x:Str):qp x x=false:=decide_eq_false (List.lt_irrefl _)
theorem rV {x y z:Str} (h1:qp x y=true) (h2:qp y z=true):qp x z=true :=
 decide_eq_true (List.lt_trans (of_decide_eq_true h1) (of_decide_eq_true h2))
theorem xZ {x y:Str} (h1:qp x y=false) (h2:qp y x=false):x=y:=by
 have h1:¬ x.cps.toList<y.cps.toList:=of_decide_eq_false h1
 have h2:¬ y.cps.toList<x.cps.toList:=of_decide_eq_false h2
 have:x.cps.toList=y.cps.toList:=List.le_antisymm (List.not_lt.mp h2) (List.not_lt.mp h1)
 cases x;cases y
 exact congrArg Str.mk (Array.toList_inj.mp this)
abbrev Pu (l:List Str):Prop:=l.Pairwise fun a b=>qp b a=false
theorem MV (x:Str):∀ l,Pu l->Pu (Hg x l)
 | [],_=>by simp [Hg,Pu]
 | y::r,h=>by
  obtain ⟨h1,h2⟩:=List.pairwise_cons.mp h
  rw [Hg]
  split
  ·rename_i hy
   refine List.pairwise_cons.mpr ⟨fun z hz=>?_,MV x r h2⟩
   rcases List.mem_cons.mp ((wk x r).mem_iff.mp hz) with e | e
   ·subst e
    cases q:qp z y with
    | false=>rfl
    | true=>exact absurd (rV q hy) (by rw [tR];decide)
   ·exact h1 z e
  ·rename_i hy
   have hy:qp y x=false:=by simpa using hy
   refine List.pairwise_cons.mpr ⟨fun z hz=>?_,h⟩
   rcases List.mem_cons.mp hz with e | e
   ·subst e;exact hy
   ·cases q:qp z x with
    | false=>rfl
    | true =>
     have hzy:=h1 z e
     cases q2:qp x y with
     | true=>rw [rV q q2] at hzy;cases hzy
     | false=>rw [<- xZ hy q2,hzy] at q;cases q
theorem qV:∀ l,Pu (jC l)
 | []=>.nil
 | x::r=>MV x _ (qV r)
theorem v3:∀ (p:Str) (l:List Str),risingS p l=true->Pu (p::l)
 | p,[],_=>by simp [Pu]
 | p,x::r,h=>by
  rw [risingS,aT] at h
  obtain ⟨h1,h2⟩:=h
  have h1:qp x p=false:=by
   rw [ltCps_eq] at h1
   simpa [qp] using h1
  have ih:=v3 x r h2
  refine List.pairwise_cons.mpr ⟨fun z hz=>?_,ih⟩
  rcases List.mem_cons.mp hz with e | e
  ·rw [e];exact h1
  ·have hzx:=(List.pairwise_cons.mp ih).1 z e
   cases q:qp z p with
   | false=>rfl
   | true =>
    cases q2:qp p x with
    | true=>rw [rV q q2] at hzx;cases hzx
    | false=>rw [xZ q2 h1,hzx] at q;cases q
theorem CH:∀ (l:List Str),sortedS l=true->Pu l
 | [],_=>.nil
 | x::r,h=>v3 x r h
theorem Bz:∀ {l l':List Str},l.Perm l'->Pu l->Pu l'->l=l'
 | [],l',p,_,_=>by rw [List.nil_perm.mp p]
 | x::r,[],p,_,_=>by have:=p.length_eq;simp at this
 | x::r,y::r',p,h,h'=>by
  obtain ⟨a1,a2⟩:=List.pairwise_cons.mp h
  obtain ⟨b1,b2⟩:=List.pairwise_cons.mp h'
  have e:x=y:=by
   have hx:x∈y::r':=p.mem_iff.mp ao
   have hy:y∈x::r:=p.mem_iff.mpr ao
   rcases List.mem_cons.mp hx with e | e
   ·exact e
   ·rcases List.mem_cons.mp hy with e' | e'
    ·exact e'.symm
    ·exact xZ (b1 x e) (a1 y e')
  subst e
  rw [Bz (List.Perm.cons_inv p) a2 b2]
theorem Ev {l l':List Str} (p:l'.Perm l) (h:sortedS l'=true):l'=jC l:=Bz (p.trans (hG l).symm) (CH _ h) (qV l)
theorem wl {l:List Str} (h:Pu l) (nd:l.Nodup):l.Pairwise fun a b=>qp a b=true:=by
 induction l with
 | nil=>exact .nil
 | cons x r ih =>
  obtain ⟨a1,a2⟩:=List.pairwise_cons.mp h
  obtain ⟨n1,n2⟩:=List.nodup_cons.mp nd
  refine List.pairwise_cons.mpr ⟨fun y hy=>?_,ih a2 n2⟩
  cases q:qp x y with
  | true=>rfl
  | false=>exact absurd (xZ q (a1 y hy) ▸ hy) n1
theorem lj:∀ {ss:List Str}{us:List a9},da (ss.map V.str) us->tK us ss
 | [],_,.nil=>.nil
 | x::r,_,.cons h t=>by obtain ⟨tk,rfl⟩:=h;exact .cons x tk (lj t)
theorem o_:∀ {ss:List Str}{us:List a9},tK us ss->da (ss.map V.str) us
 | _,_,.nil=>.nil
 | _,_,.cons x t h=>.cons ⟨t,rfl⟩ (o_ h)
theorem fL:∀ {ss:List Str}{us:List a9},tK us ss->us.length=ss.length
 | _,_,.nil=>rfl
 | _,_,.cons x t h=>by simp [fL h]
theorem yI {ss:List Str}{us:List a9} (h:tK us ss) (i:Nat) (v:a9) (e:us[i]?=some v):∃ x t,ss[i]?=some x/\v=jv x t:=by
 induction h generalizing i with
 | nil=>simp at e
 | cons y t _ ih =>
  cases i with
  | zero=>simp at e;exact ⟨y,t,by simp,e.symm⟩
  | succ i=>simp at e;simpa using ih i e
theorem v4 {w:bd}:∀ {l:List (Int×a9)},(∀ e∈l,tP w e)->tK (l.map (·.2)) (l.map jO)
 | [],_=>.nil
 | e::r,h=>by
  obtain ⟨x,tk,rfl⟩:=h e ao
  exact .cons x tk (v4 fun e he=>h e (am _ he))
theorem CI {us us':List a9}{ss:List Str} (h:tK us ss) (p:us'.Perm us):∃ ss',tK us' ss'/\ss'.Perm ss:=by
 refine ⟨us'.map strOf,strsAre_map _ fun v hv=>h.all v (p.mem_iff.mp hv),?_⟩
 rw [<- h.strs]
 exact p.map _
def ll (w:bd) (a:ah) (ss:List Str):HO:=.ext fun h=>l7 w h a ss
theorem CJ {P:aO}{w:bd}{H:Hp}{h:bt}{a:ah}{ss:List Str} (x:l7 w h a ss):db P w H h a (ll w a ss) :=
 ⟨x,let ⟨_,_,_,I,_⟩:=x;⟨_,I.at_⟩,fun _ _ y k=>y.keep k⟩
section
variable {X:Cx}
theorem Ew (hc:X.calm=true):jb X (.type "set") (fun xs H Q=>∃ p ss,xs=[.ref p]/\(lZ X.K H p (ss.map V.str)\/kE X.K H p (ss.map V.str))/\ss.length + 1<iO/\∀ a,H a=none->Q (.ref a) (upd H a (ll X.w a (dz [] ss)))):=by
 intro pins s σ H xs us Q I r h
 obtain ⟨p,ss,rfl,hq,hz,q⟩:=h
 obtain ⟨u,rfl,rx⟩:=kF r
 cases rx
 have hh:=I.ok.hd hc
 have fin:∀ (h':bt) (tk:Nat),l7 X.w h' s.heap.objs.size (dz [] ss)->(∀ b o,s.heap.get? b=some o->h'.get? b=some o)->EP X pins σ Q (.ref s.heap.objs.size) { s with heap:=h',toks:=tk }:=fun h' tk hS kp =>
  ⟨.ref s.heap.objs.size,_,I.laid (t':=tk) kp (ar _) (CJ hS),rfl,q _ (I.hok.fresh (ar _))⟩
 rcases hq with hq | hq
 ·obtain ⟨its,r',⟨o,n,ho,h1,h2,h3⟩,_⟩:=I.list hq
  have sa:=lj r'
  exact uY (MR (by simpa using hh) h1 ⟨n,h3⟩) ho (fun i v e=>yI sa i v (by simpa using e)) (by simp [fL sa]) (by simp [fL sa];exact hz) fin
 ·obtain ⟨its,r',⟨o,ho,h1,n,h3⟩,_⟩:=I.tuple hq
  have sa:=lj r'
  exact uY (Qs (by simpa using hh) h1 ⟨n,h3⟩) ho (fun i v e=>yI sa i v (by simpa using e)) (by simp [fL sa]) (by simp [fL sa];exact hz) fin
theorem wn:jb X (.builtin "sorted") (fun xs H Q=>∃ p ss,xs=[.ref p]/\lZ X.K H p (ss.map V.str)/\ss.length<64/\∀ l,H l=none->Q (.ref l) (upd H l (.lst ((jC ss).map V.str)))):=by
 intro pins s σ H xs us Q I r h
 obtain ⟨p,ss,rfl,hq,hz,q⟩:=h
 obtain ⟨u,rfl,rx⟩:=kF r
 cases rx
 obtain ⟨its,r',pl,hl⟩:=I.list hq
 have sa:=lj r'
 refine sorted_strs pl.isList sa (by rw [fL sa];exact hz) fun out ss' a1 a2 a3=>?_
 obtain ⟨e,he⟩:=sortedAll_at s.heap its out
 have kp:∀ b o,s.heap.get? b=some o->(sortedAll s.heap its out).get? b=some o:=fun b o=>sortedAll_old
 obtain rfl:=Ev a2 a3
 refine ⟨.ref (s.heap.objs.size + 1),upd H (s.heap.objs.size + 1) (.lst ((jC ss).map V.str)),I.laid (t':=s.toks) kp (iS _) (show db X.prog X.w _ _ _ (.lst _) from ⟨?_,out.toList,e,o_ a1,by simpa [seqObj] using he⟩),rfl,q _ (I.hok.fresh (iS _))⟩
 rw [al,(hG ss).length_eq]
 have:=hl
 rw [al] at this
 exact this
theorem xF (hc:X.calm=true):jb X (.builtin "sorted") (fun xs H Q=>∃ p ss,xs=[.ref p]/\H p=some (ll X.w p ss)/\ss.length<64/\∀ l,H l=none->Q (.ref l) (upd H l (.lst ((jC ss).map V.str)))):=by
 intro pins s σ H xs us Q I r h
 obtain ⟨p,ss,rfl,hq,hz,q⟩:=h
 obtain ⟨u,rfl,rx⟩:=kF r
 cases rx
 have hh:=I.ok.hd hc
 obtain ⟨⟨es,ep,t,S,pm⟩,_⟩:=(show db X.prog X.w H s.heap p (ll X.w p ss) from I.hok p _ hq)
 refine Eu (Et (by simpa using hh) S fun ord h' d tk po kp sz=>?_)
 obtain ⟨ss1,sa,p1⟩:=CI (v4 S.txt) po
 have ln:ss1.length=ss.length:=(p1.trans pm).length_eq
 refine ⟨ss1,sa,by rw [fL sa,ln];exact hz,fun h2 vs' ss' e kp2 at2 sa2 p2 s2=>?_⟩
 have kk:∀ b o,s.heap.get? b=some o->h2.get? b=some o:=fun b o e=>kp2 b o (kp b o e)
 have es':ss'=jC ss:=Ev (p2.trans (p1.trans pm)) s2
 subst es'
 have fr:=I.hok.fresh sz
 have ok2:db X.prog X.w (upd H h'.objs.size (.lst ((jC ss).map V.str))) h2 h'.objs.size (.lst ((jC ss).map V.str)) :=
  ⟨by rw [al,(hG ss).length_eq];exact bR (bC hz) (by rw [DQ];decide),vs',e,o_ sa2,at2⟩
 exact ⟨.ref h'.objs.size,_,I.call' (s':={ s with heap:=h2,drawn:=d,toks:=tk }) (ch:=[]) rfl (Un.laid kk sz fr) (I.hok.laid kk sz ok2) I.bare (fun b z=>absurd z (by simp)),rfl,q _ fr⟩
end
end
section
section
variable {X:Cx}
theorem wY {prog:aO}{w:bd}{B:bg}{bs:List Bool}{its:List a9} (r:da (bs.map V.bl) its):TruthOf prog w B (fun i v=>its.toArray[i]?=some v) (fun i=>bs.getD i false):=by
 intro i v s Q E hv hq
 have hv:its[i]?=some v:=by simpa using hv
 have hl:=r.length
 rw [al] at hl
 obtain ⟨hi,_⟩:=List.getElem?_eq_some_iff.mp hv
 have hb:bs[i]?=some bs[i]:=aR (by omega)
 obtain ⟨u,hu,ru⟩:=r.get (i:=i) (x:=.bl bs[i]) (by rw [aP,hb];rfl)
 rw [hv] at hu;cases hu
 cases ru
 have hq:Q (bs.getD i false) s:=hq
 rw [dq,hb] at hq
 exact dm hq
theorem MW (bs:List Bool):(bv bs.length).all (fun i=>bs.getD i false)=bs.all id:=by
 rw [eA,b_,b_]
 constructor
 ·intro h b hb
  obtain ⟨i,hi,rfl⟩:=fz hb
  have:=h i (List.mem_range.mpr hi)
  simpa [dq,hi] using this
 ·intro h i hi
  have hi:=List.mem_range.mp hi
  have:=h bs[i] (gQ hi)
  simpa [dq,hi] using this
theorem MX (bs:List Bool):(bv bs.length).any (fun i=>bs.getD i false)=bs.any id:=by
 rw [eA,gR,gR]
 constructor
 ·rintro ⟨i,hi,h⟩
  have hi:=List.mem_range.mp hi
  exact ⟨bs[i],gQ hi,by simpa [dq,hi] using h⟩
 ·rintro ⟨b,hb,h⟩
  obtain ⟨i,hi,rfl⟩:=fz hb
  exact ⟨i,List.mem_range.mpr hi,by simpa [dq,hi] using h⟩
theorem yJ (hc:X.calm=true):jb X (.builtin "all") (fun xs H Q=>∃ p,∃ bs:List Bool,xs=[.ref p]/\lZ X.K H p (bs.map V.bl)/\Q (.bl (bs.all id)) H):=by
 intro pins s σ H xs us Q I r h
 obtain ⟨p,bs,rfl,hq,q⟩:=h
 obtain ⟨u,rfl,rx⟩:=kF r
 cases rx
 obtain ⟨its,r',pl,hl⟩:=I.list hq
 have ln:its.toArray.size=bs.length:=by have:=r'.length;simp at this ⊢;omega
 obtain ⟨o,ho,hk⟩:=pl.isList
 refine call_all_walk (iT pl.isList ⟨_,_,_,_,_,_,_,rfl,uI (by simpa using I.ok.hd hc) _ p (aC (ap ho)) its.toArray,⟨⟨_,az _ rfl,rfl,rfl⟩,pl.isList.push _⟩,wY r',fun h' tk kp=>?_⟩)
 rw [ln,MW]
 refine ⟨.bl _,H,I.kept (t':=tk) fun b o e=>kp b o ?_ (ag _ e),rfl,q⟩
 simp only [dY]
 exact aC (ap e)
theorem yK (hc:X.calm=true):jb X (.builtin "any") (fun xs H Q=>∃ p,∃ bs:List Bool,xs=[.ref p]/\lZ X.K H p (bs.map V.bl)/\Q (.bl (bs.any id)) H):=by
 intro pins s σ H xs us Q I r h
 obtain ⟨p,bs,rfl,hq,q⟩:=h
 obtain ⟨u,rfl,rx⟩:=kF r
 cases rx
 obtain ⟨its,r',pl,hl⟩:=I.list hq
 have ln:its.toArray.size=bs.length:=by have:=r'.length;simp at this ⊢;omega
 obtain ⟨o,ho,hk⟩:=pl.isList
 refine call_any_walk (iT pl.isList ⟨_,_,_,_,_,_,_,rfl,uI (by simpa using I.ok.hd hc) _ p (aC (ap ho)) its.toArray,⟨⟨_,az _ rfl,rfl,rfl⟩,pl.isList.push _⟩,wY r',fun h' tk kp=>?_⟩)
 rw [ln,MX]
 refine ⟨.bl _,H,I.kept (t':=tk) fun b o e=>kp b o ?_ (ag _ e),rfl,q⟩
 simp only [dY]
 exact aC (ap e)
theorem KL:qy X (bH .LtE) (fun x y H Q=>∃ i j,x=.str i/\y=.str j/\Q (.bl (!decide (j.cps.toList<i.cps.toList))) H):=by
 intro pins s σ H x y v u Q I rx ry h
 obtain ⟨i,j,rfl,rfl,q⟩:=h
 obtain ⟨t,rfl⟩:=rx
 obtain ⟨t',rfl⟩:=ry
 exact PySem.P.le_str (g_ I q rfl)
end
end
section
def Vv (x:Str):It:=⟨fun i _=>i<x.cps.size,fun i H v H'=>H'=H/\∃ c,x.cps[i]?=some c/\v=.str ⟨#[c]⟩,fun i _=>x.cps.size<=i⟩
theorem MY {P:aO}{w:bd}{K:a8}{tg:a_} (x:Str) (t:Tok) (it:ah):yA P w K tg (Vv x) [it] it (fun i h=>h.IsStrIter it (ic x) x t i) where
 mem:=by simp
 obj:=fun i h st b hb=>by
  obtain rfl:b=it:=by simpa using hb
  obtain ⟨o,e,c,d⟩:=st
  exact ⟨o,e,fun v z=>by rw [d] at z;cases z⟩
 keep:=fun i h h' st k=>let ⟨o,e,r⟩:=st;⟨o,k it (by simp) o e,r⟩
 item:=by
  intro X hP hw hK hc i pins s σ H E I hf st hg
  subst hP hw hK
  have hg:i<x.cps.size:=hg
  obtain ⟨f0,f1,f2,f3,f4,f5⟩:=hf it (by simp)
  have hx:x.cps[i]?=some x.cps[i]:=getElem?_pos _ i hg
  have go:∀ (h':bt) (tk tk':Nat),h'.IsStrIter it (ic x) x t (i + 1)->bF it s.heap h'->∃ u,some (jv ⟨#[x.cps[i]]⟩ tk)=some u /\
    aq (aL X.prog X.w) X.A (gM tg (.ref it) u) (fun _ s2=>∃ v H',bG X pins σ H' s2/\dw v u/\(Vv x).yld i H v H'/\s2.heap.IsStrIter it (ic x) x t (i + 1)/\∀ b∈[it],H' b=none) E { s with heap:=h',toks:=tk' }:=fun h' tk tk' st' sb=>by
   have I1:bG X pins σ H { s with heap:=h',toks:=tk' }:=I.turned (fun b o hb e=>(sb.2 b hb).trans e) f0 f1 f3 f4 f5
   refine ⟨_,rfl,?_⟩
   have q:∃ v H',bG X pins σ H' { s with heap:=h',toks:=tk' }/\dw v (jv ⟨#[x.cps[i]]⟩ tk)/\(Vv x).yld i H v H'/\h'.IsStrIter it (ic x) x t (i + 1)/\∀ b∈[it],H' b=none :=
    ⟨.str ⟨#[x.cps[i]]⟩,H,I1,⟨tk,rfl⟩,⟨rfl,_,hx,rfl⟩,st',fun b hb=>(hf b hb).1⟩
   unfold gM
   cases tg<;>exact ae q
  cases ha:x.cps.all (·<128)
  ·have ty:ic x="str_iterator":=by unfold ic;rw [ha];rfl
   rw [ty] at st
   exact wpAny_pyNext_wide_item st hx fun h' st' sb=>go h' _ _ (by rw [ty];exact st') sb
  ·have ty:ic x="str_ascii_iterator":=by unfold ic;rw [ha];rfl
   rw [ty] at st
   exact wpAny_pyNext_ascii_item st hx fun h' st' sb=>go h' _ _ (by rw [ty];exact st') sb
 done:=by
  intro X hP hw hK hc i pins s σ H E I hf st hg
  subst hP hw hK
  have hg:x.cps.size<=i:=hg
  obtain ⟨f0,f1,f2,f3,f4,f5⟩:=hf it (by simp)
  have hx:x.cps[i]?=none:=getElem?_neg _ i (Nat.not_lt.mpr hg)
  unfold ic at st
  cases ha:x.cps.all (·<128)
  ·rw [ha] at st
   exact wpAny_pyNext_wide_end (I.ok.hd hc) st hx fun h' eb=>⟨rfl,I.turned (t':=s.toks) (fun b o hb e=>eb b o hb e) f0 f1 f3 f4 f5⟩
  ·rw [ha] at st
   exact wpAny_pyNext_ascii_end (I.ok.hd hc) st hx fun h' eb=>⟨rfl,I.turned (t':=s.toks) (fun b o hb e=>eb b o hb e) f0 f1 f3 f4 f5⟩
 self:=fun _ _ _ _ _ st h=>by
  unfold ic at st
  cases ha:x.cps.all (·<128)
  ·rw [ha] at st;exact wpAny_pyIter_striter_wide st h
  ·rw [ha] at st;exact wpAny_pyIter_striter_ascii st h
def XV (tl:TE):TI:=fun σ H R=>tl σ H fun v H1=>∃ x,v=.str x/\R (Vv x) H1
theorem MZ {X:Cx}{tg l:a_}{tl:TE} (hl:PE X l tl):PI X tg l (XV tl):=by
 intro pins s σ H R I h
 refine fm (hl pins s σ H _ I h) fun v s1 h_0=>?_
 obtain ⟨y,H1,I1,r1,q1⟩:=h_0
 obtain ⟨x,rfl,q⟩:=q1
 obtain ⟨t,rfl⟩:=r1
 refine wpAny_pyIter_strU ?_
 refine ⟨s1.heap.objs.size,[s1.heap.objs.size],_,_,H1,rfl,I1.kept (t':=s1.toks) fun b o e=>ag _ e,MY x t _,⟨_,az _ rfl,rfl,rfl⟩,fun b hb=>?_,q⟩
 obtain rfl:b=s1.heap.objs.size:=by simpa using hb
 exact I1.fpOk (ar _) (I1.hok.fresh (ar _))
end
section
section
variable {X:Cx}{pins:List (ah×Obj)}{σ:St}{H H':Hp}{s:af}{h':bt}
theorem bG.turnedL {t':Nat}{ch:List ah} (I:bG X pins σ H s) (k:∀ b o,b∉ch->s.heap.get? b=some o->h'.get? b=some o) (hf:∀ b∈ch,qS X pins H b):bG X pins σ H { s with heap:=h',toks:=t' }:=by
 have nt:∀ b u,H b=some u->b∉ch:=fun b u e z=>by rw [(hf b z).1] at e;cases e
 refine I.step (g':=s.gens) (d':=s.drawn) (ch:=ch) (fun b hb=>?_) (fun b o _ _ hc e _=>k b o hc e) (fun b o _ _ hc e _=>⟨o.slots,k b o hc e⟩) (fun _ _ _ _ n=>n)
  (fun b o hc e=>⟨o,k b o hc e⟩) (fun _ _ e=>e) (fun _ _ _ e=>e) (fun b ps e=>⟨#[],by rw [e];simp⟩) (fun m hm=>?_) (fun b u e=>?_) I.bare
 ·obtain ⟨f0,f1,f2,f3,f4,f5⟩:=hf b hb
  exact ⟨f3,f1,f4,f5⟩
 ·obtain ⟨o,es,ep,ho,r⟩:=hm
  exact ⟨o,es,ep,k _ o (fun z=>(hf _ z).f1 rfl) ho,r⟩
 ·refine (I.hok b u e).stay (fun c v hc q=>k c v ?_ q) (fun _ q=>q) fun _ _ q=>q
  rcases hc with z | z
  ·rw [z];exact nt b u e
  ·exact nt c _ z
theorem bG.track {D:ah}{ho:HO} (I:bG X pins σ H s) (hf:qS X pins H D) (new:db X.prog X.w (upd H D ho) s.heap D ho):bG X pins σ (upd H D ho) s:=by
 obtain ⟨f0,f1,f2,f3,f4,f5⟩:=hf
 have I':bG X pins σ (upd H D ho) { s with heap:=s.heap,gens:=s.gens,drawn:=s.drawn,toks:=s.toks }:=I.step (ch:=[D]) (fun b hb=>by
   obtain rfl:b=D:=by simpa using hb
   exact ⟨f3,f1,f4,f5⟩) (fun b o _ _ _ e _=>e) (fun b o _ _ _ e _=>⟨o.slots,e⟩) (fun b o hc e n=>by rw [aS (fun z=>hc (by simp [z]))];exact n) (fun b o _ e=>⟨o,e⟩)
  (fun b xs e=>by rw [aS (bj e f0)];exact e) (fun b o xs e=>by rw [aS (bj e f0)];exact e) (fun b ps e=>⟨#[],by rw [aS (bj e f0),e];simp⟩) (fun m hm=>hm) (rQ I.hok f0 new) I.bare
 exact I'
end
section
variable {prog:aO}{w:bd}{A:bg}{E:a9->af->Prop}{s:af}{it l:ah}{i:Nat}{items:Array a9}
theorem v5 {x:a9}{Q:a9->af->Prop} (ti:s.heap.IsTupleIter it l i) (tl:s.heap.IsTuple l items) (hx:items[i]?=some x)
  (q:∀ h',h'.IsTupleIter it l (i + 1)->bF it s.heap h'->Q x { s with heap:=h' }):aq (aL prog w) A (cD (.ref it)) Q E s:=by
 obtain ⟨oi,ei,ci,di⟩:=id ti
 obtain ⟨ot,et,_,nt,dt⟩:=tl
 unfold cD
 refine a7 (cn (name:=gF "__next__") ti.typeIs iW ?_)
 refine c8 iW ti.typeIs DS ?_ (Cj _)
 show aq _ _ (GH (.ref it) 0 >>= _) _ _ s
 refine a7 (dS ei di (x:=.ref l) rfl ?_)
 show aq _ _ (if (bL l == dW)=true then _ else _) _ _ s
 rw [if_neg (fun z:(bL l == dW)=true=>aY z)]
 show aq _ _ (GH (.ref it) 1 >>= _) _ _ s
 refine a7 (dS ei di (x:=.int i 0) rfl ?_)
 show aq _ _ (seqItems? (.ref l) >>= _) _ _ s
 refine a7 (eE et dt ?_)
 simp only [jX,hx]
 refine a7 (gq ei di (by simp) (ae ⟨x,rfl,ae (q _ ?_ (bI ..))⟩))
 refine ⟨_,fV _ ei (Obj.isFreed_of_fields (M8 di _)),(Obj.cls_mapFields ..).trans ci,?_⟩
 rw [M8 di];simp [cg]
theorem v6 {Q:a9->af->Prop} (hh:A.handled=none) (ti:s.heap.IsTupleIter it l i) (tl:s.heap.IsTuple l items) (hx:items[i]?=none)
  (q:∀ h' e,IG it s.heap h'->(∃ o,h'.get? e=some o/\o.cls=.type "StopIteration")->E (.ref e) { s with heap:=h' }):aq (aL prog w) A (cD (.ref it)) Q E s:=by
 obtain ⟨oi,ei,ci,di⟩:=id ti
 obtain ⟨ot,et,_,nt,dt⟩:=tl
 unfold cD
 refine a7 (cn (name:=gF "__next__") ti.typeIs iW ?_)
 refine c8 iW ti.typeIs DS ?_ (Cj _)
 show aq _ _ (GH (.ref it) 0 >>= _) _ _ s
 refine a7 (dS ei di (x:=.ref l) rfl ?_)
 show aq _ _ (if (bL l == dW)=true then _ else _) _ _ s
 rw [if_neg (fun z:(bL l == dW)=true=>aY z)]
 show aq _ _ (GH (.ref it) 1 >>= _) _ _ s
 refine a7 (dS ei di (x:=.int i 0) rfl ?_)
 show aq _ _ (seqItems? (.ref l) >>= _) _ _ s
 refine a7 (eE et dt ?_)
 simp only [jX,hx]
 refine a7 (gf (a7 (gq ei di (by simp) ?_)))
 show aq _ _ (tH (.type "StopIteration") [] >>= _) _ _ _
 refine a7 ?_
 simp only [tH,PH]
 refine a7 (bW ?_ (by size_fits))
 refine a7 (m:=k_ _ _) (eg (a:=dW) ?_ ?_)
 ·first
   | rfl
   | (simp only [k_];rfl)
 refine bW ?_ (by size_fits)
 simp only [sJ]
 refine a7 (Ki ?_)
 rw [show A.in1.handled=none from hh]
 refine a7 (ae (PJ ?_))
 exact q _ _ (((bI ..).extBut.push _).push _) ⟨_,az _ rfl,rfl⟩
theorem KM (hh:A.handled=none) (it l:ah) (hne:l≠it) (items:Array a9) :
  Draws prog w A it [it,l] items.size (fun i v=>items[i]?=some v) (fun i h=>h.IsTupleIter it l i/\h.IsTuple l items) where
 live:=fun i h st=>let ⟨o,e,_⟩:=st.1;⟨o,e⟩
 frame:=fun i h h' st k=>⟨let ⟨o,e,r⟩:=st.1;⟨o,k it (by simp) o e,r⟩,let ⟨o,e,r⟩:=st.2;⟨o,k l (by simp) o e,r⟩⟩
 item:=fun i s Q E hi st q=>v5 st.1 st.2 (x:=items[i]) (by simp [hi]) fun h' t' sb=>q _ h' s.toks (by simp [hi]) ⟨t',st.2.extBut sb.extBut hne⟩ sb
 done:=fun s Q E st q=>v6 hh st.1 st.2 (by simp) q
end
theorem yL (l:ah) (items:Array a9) (n:Nat) (dct:Option ah) (sl:Array (Option a9)) :
  Meets (im.«enumerate.__new__» ⟨[.type "enumerate",.ref l],[]⟩) (fun _ R s=>s.heap.get? l=some { cls:=.type "tuple",dict:=dct,data:=.seq items n,slots:=sl } /\
   R (.ok (.ret (.ref (s.heap.push { cls:=.type "tuple_iterator",data:=.fields #[.ref l,.int 0 0] }).objs.size)))
    { s with heap:=(s.heap.push { cls:=.type "tuple_iterator",data:=.fields #[.ref l,.int 0 0] }).push { cls:=.type "enumerate",data:=.fields #[.none,.bool false,.ref s.heap.objs.size,cg 0,.none,.none] } }) :=
 .of_wp fun prog w A R s h=>by
  obtain ⟨hp,g,d,tk,os⟩:=s
  obtain ⟨hl,h⟩:=h
  have hsub:=PySem.sub_enumerate
  have hL:Gh (Gi ⟨hp,g,d,tk,os⟩) l items:=⟨_,hl,rfl,n,rfl⟩
  wp_walk using fZ hl
  refine wpAny_stack_any fun st=>ae ?_
  split
  ·rename_i c _ _ _ _ _
   cases (c == iC "enumerate")
   ·wp_walk using fZ hl,gj hL
    exact ⟨_,rfl,h⟩
   ·wp_walk using fZ hl,gj hL
    exact ⟨_,rfl,h⟩
  ·wp_walk using fZ hl,gj hL
   exact ⟨_,rfl,h⟩
end
section
section
variable {prog:aO}{w:bd}{A:bg}{E:a9->af->Prop}{s:af}
theorem AF {l:ah}{items:Array a9}{Q:a9->af->Prop} (hL:s.heap.IsTuple l items)
  (h:∀ h',IsEnum h' (s.heap.objs.size + 1) s.heap.objs.size 0 .none->h'.IsTupleIter s.heap.objs.size l 0->(∀ b o,s.heap.get? b=some o->h'.get? b=some o)->h'.objs.size=s.heap.objs.size + 2 ->
   Q (.ref (s.heap.objs.size + 1)) { s with heap:=h' }):aq (aL prog w) A (call (.type "enumerate") [.ref l]) Q E s:=by
 obtain ⟨⟨c,dc,dt,sl⟩,hl,hc,n,hd⟩:=hL
 obtain rfl:c=.type "tuple":=hc
 obtain rfl:dt=.seq items n:=hd
 refine callType_new F.called_enumerate (by decide) (F.typeCall_enumerate_1 _) (F.newCall_enumerate_1 _) (fun obj=>F.args_object_init_2 obj _) F.entry_enumerate_new (yL l items n dc sl) ⟨hl,?_⟩
 have z1:(s.heap.push { cls:=.type "tuple_iterator",data:=.fields #[.ref l,.int 0 0] }).objs.size=s.heap.objs.size + 1:=cx ..
 show _/\_
 rw [z1]
 have he:IsEnum ((s.heap.push { cls:=.type "tuple_iterator",data:=.fields #[.ref l,.int 0 0] }).push { cls:=.type "enumerate",data:=.fields #[.none,.bool false,.ref s.heap.objs.size,cg 0,.none,.none] }) (s.heap.objs.size + 1) s.heap.objs.size 0 .none:=by
  have q:=az (s.heap.push { cls:=.type "tuple_iterator",data:=.fields #[.ref l,.int 0 0] }) (o:={ cls:=.type "enumerate",data:=.fields #[.none,.bool false,.ref s.heap.objs.size,cg 0,.none,.none] }) rfl
  rw [z1] at q
  exact q
 exact ⟨⟨_,he,rfl⟩,h _ he ⟨_,ag _ (az _ rfl),rfl,rfl⟩ (fun b o e=>ag _ (ag _ e)) (by rw [cx,z1])⟩
end
def XX (K:a8) (a:ah):It :=
 ⟨fun i H=>∃ xs x,kE K H a xs/\xs[i]?=some x,fun i H v H'=>∃ p,H p=none/\v=.ref p/\∀ xs,kE K H a xs->∃ x,xs[i]?=some x/\H'=upd H p (.tup [.int i,x]),fun i H=>∃ xs,kE K H a xs/\xs.length<=i⟩
theorem KN {P:aO}{w:bd}{K:a8}{elts:List a_}{x1}{pos:Pos} (a e it:ah) (hei:e≠it):yA P w K (.Tuple elts x1 pos) (XX K a) [e,it] e (fun i h=>(∃ old,IsEnum h e it i old)/\h.IsTupleIter it a i) where
 mem:=by simp
 obj:=fun i h st b hb=>by
  simp only [bh,aV,or_false] at hb
  rcases hb with rfl | rfl
  ·obtain ⟨⟨old,q⟩,_⟩:=st
   exact ⟨_,q,fun v z=>by cases z⟩
  ·obtain ⟨_,o,q,_,d⟩:=st
   exact ⟨o,q,fun v z=>by rw [d] at z;cases z⟩
 keep:=fun i h h' st k=>⟨let ⟨old,q⟩:=st.1;⟨old,k e (by simp) _ q⟩,let ⟨o,q,r⟩:=st.2;⟨o,k it (by simp) o q,r⟩⟩
 item:=by
  intro X hP hw hK hc i pins s σ H E I hf st hg
  subst hP hw hK
  obtain ⟨xs,x,hq,hx⟩:=hg
  obtain ⟨its,rv,p,hz⟩:=I.tuple hq
  obtain ⟨u,hu,ru⟩:=rv.get hx
  obtain ⟨⟨old,he⟩,hit⟩:=st
  have hit0:=hit
  obtain ⟨oi,ei,_⟩:=hit0
  have hai:a≠it:=fun z=>by
   obtain ⟨o1,e1,c1,_⟩:=p
   obtain ⟨o2,e2,c2,_⟩:=hit
   rw [z,e2] at e1;cases e1;rw [c2] at c1;exact absurd (IH c1) (by decide)
  have hae:a≠e:=fun z=>by
   obtain ⟨o1,e1,c1,_⟩:=p
   rw [z,he] at e1;cases e1;exact absurd (IH (show iC "enumerate"=iC "tuple" from c1)) (by decide)
  have hlt:i<its.toArray.size:=by simp;exact (List.getElem?_eq_some_iff.mp hu).1
  have he0:=ap he
  refine wpAny_pyNext_enum_itemD (KM (by simpa using I.ok.hd hc) it a hai its.toArray) he ⟨hit,p⟩ hlt hei (by simp [hei,de hae]) ?_
  intro x' h1 tk hx' eo st1 tup sz k1
  have hx'':its[i]?=some x':=by simpa using hx'
  rw [hu] at hx'';cases hx''
  refine ⟨_,rfl,GI eo fun h2 e2 sb2=>?_⟩
  have szn:s.heap.objs.size≠e:=eu he0
  have I2:bG X pins σ H { s with heap:=h2,toks:=tk + 1 }:=I.turnedL (ch:=[e,it]) (fun b o hb q=>by
   simp only [bh,aV,or_false,not_or] at hb
   exact (sb2.2 b hb.1).trans (k1 b o hb.1 hb.2 q)) hf
  have fT:=I.fpOk (H':=H) (ar _) (I.hok.fresh (ar _))
  have tup2:h2.get? s.heap.objs.size=some { cls:=.type "tuple",data:=.seq #[.int i tk,u] }:=(sb2.2 _ szn).trans tup
  have I3:=I2.track (ho:=.tup [.int i,x]) fT ⟨by show 2<=sizeLine;decide,[.int i tk,u],.cons ⟨tk,rfl⟩ (.cons ru .nil),⟨_,tup2,rfl,0,rfl⟩⟩
  refine ⟨.ref s.heap.objs.size,_,I3,rfl,⟨_,fT.1,rfl,fun ys hy=>?_⟩,⟨⟨u,?_⟩,?_⟩,fun b hb=>?_⟩
  ·rw [I.tuple_inj hy hq];exact ⟨x,hx,rfl⟩
  ·have:(((i + 1:Nat):Int))=(i:Int) + 1:=by omega
   rw [this];exact e2
  ·obtain ⟨o,q,r⟩:=st1.1
   exact ⟨o,(sb2.2 it (de hei)).trans q,r⟩
  ·rw [aS]
   ·exact (hf b hb).1
   ·simp only [bh,aV,or_false] at hb
    rcases hb with z | z
    ·rw [z];exact aC he0
    ·rw [z];exact aC (ap ei)
 done:=by
  intro X hP hw hK hc i pins s σ H E I hf st hg
  subst hP hw hK
  obtain ⟨xs,hq,hx⟩:=hg
  obtain ⟨its,rv,p,hz⟩:=I.tuple hq
  obtain ⟨⟨old,he⟩,hit⟩:=st
  have hl:=rv.length
  have hT:s.TypeIs (.ref e) "enumerate":=⟨_,he,rfl⟩
  unfold jw
  refine a7 (iP (cn (name:=gF "__next__") hT LS ?_))
  refine c8 LS hT F.entry_enumerate_next ?_ (F.args_enumerate_next_1 _)
  show aq _ _ (GH (.ref e) 2 >>= _) _ _ _
  refine a7 (dS he rfl (x:=.ref it) rfl ?_)
  refine a7 (v6 (by simpa using I.ok.hd hc) hit (show s.heap.IsTuple a its.toArray from p) (by simp;omega) fun h' z eb hz'=>?_)
  obtain ⟨o,ho,hcl⟩:=hz'
  refine a7 (i5 (T:="StopIteration") (b:=true) ⟨o,ho,hcl⟩ vW ?_)
  exact ae ⟨rfl,I.turnedL (t':=s.toks) (ch:=[e,it]) (fun b o hb q=>eb b o (by
   simp only [bh,aV,or_false,not_or] at hb;exact hb.2) q) hf⟩
 self:=fun _ _ _ _ _ st h=>let ⟨⟨_,q⟩,_⟩:=st;qG q h
def Vw (K:a8) (ta:TA):TI:=fun σ H R=>ta σ H fun vs H1=>∃ a xs,vs=[.ref a]/\kE K H1 a xs/\R (XX K a) H1
theorem Qt {X:Cx}{elts:List a_}{x1}{tpos p pos:Pos}{a:a_}{ta:TA} (hg:Gl X "enumerate") (hm:X.mg "enumerate"=none) (ha:PA X [a] ta) (hs:aA [a] X.env=[(false,du a X.env)]:=by rfl) :
  PI X (.Tuple elts x1 tpos) (.Call (.Name "enumerate" p) [a] [] pos) (Vw X.K ta):=by
 intro pins s σ H R I h
 refine Call_ (tN I hg hm boot_enumerate (e_ (fm (ha pos pins s σ H _ I h) fun us s1 ⟨vs,H1,I1,r1,q1⟩=>?_) hs rfl))
 obtain ⟨ad,xs,rfl,hq,q⟩:=q1
 obtain ⟨u,rfl,rx⟩:=kF r1
 cases rx
 obtain ⟨its,rv,tp,hz⟩:=I1.tuple hq
 refine AF (show s1.heap.IsTuple ad its.toArray from tp) fun h' e1 t1 kp sz=>?_
 refine qG e1 ?_
 have I2:bG X pins σ H1 { s1 with heap:=h' }:=I1.kept (t':=s1.toks) kp
 refine ⟨s1.heap.objs.size + 1,[s1.heap.objs.size + 1,s1.heap.objs.size],_,_,H1,rfl,I2,KN ad _ _ (eu (d_ _)),⟨⟨.none,e1⟩,t1⟩,fun b hb=>?_,q⟩
 simp only [bh,aV,or_false] at hb
 rcases hb with z | z
 ·rw [z];exact I1.fpOk (iS _) (I1.hok.fresh (iS _))
 ·rw [z];exact I1.fpOk (ar _) (I1.hok.fresh (ar _))
end
section
section
variable {prog:aO}{w:bd}{A:bg}{E:a9->af->Prop}{s:af}{z TI TO i1 i2 l1 l2:ah}{k1 k2:Nat}{xs ys:Array a9}{x y a b:a9}
theorem j5 {h h':bt}{it l:ah}{k:Nat}{c:ah} (t:h.IsTupleIter it l k) (sb:bF c h h') (ne:it≠c):h'.IsTupleIter it l k:=t.extBut sb.extBut ne
theorem p7 {h h':bt}{l:ah}{xs:Array a9}{c:ah} (t:h.IsTuple l xs) (sb:bF c h h') (ne:l≠c):h'.IsTuple l xs:=t.extBut sb.extBut ne
theorem M_ {Q:a9->af->Prop} (D:PK z TI TO i1 i2 l1 l2) (za:vX s.heap z TI TO .none) (pa:jZ s.heap TI (.ref i1) (.ref i2)) (pb:jZ s.heap TO a b)
  (u1:s.heap.IsTupleIter i1 l1 k1) (u2:s.heap.IsTupleIter i2 l2 k2) (v1:s.heap.IsTuple l1 xs) (v2:s.heap.IsTuple l2 ys) (hx:xs[k1]?=some x) (hy:ys[k2]?=some y)
  (q:∀ h',vX h' z TI TO (cg s.heap.objs.size)->jZ h' TO x y->h'.IsTupleIter i1 l1 (k1 + 1)->h'.IsTupleIter i2 l2 (k2 + 1)->jZ h' s.heap.objs.size x y ->
   (∀ c o,c≠z->c≠TO->c≠i1->c≠i2->s.heap.get? c=some o->h'.get? c=some o)->Q (.ref s.heap.objs.size) { s with heap:=h' }) :
  aq (aL prog w) A (im.«zip.__next__» ⟨[.ref z],[]⟩) (fun fin s'=>∃ v,fin=.done (.ret v)/\Q v s') E s:=by
 show aq _ _ (GH (.ref z) 2 >>= _) _ _ _
 refine a7 (dS za rfl (x:=.bool false) rfl ?_)
 show aq _ _ (GH (.ref z) 3 >>= _) _ _ _
 refine a7 (dS za rfl (x:=.ref TI) rfl ?_)
 refine a7 (eE pa rfl ?_)
 show aq _ _ (eP (.ref z) >>= _) _ _ _
 refine a7 ?_
 unfold eP
 refine a7 (dS za rfl (x:=.none) rfl (ae ?_))
 simp only [if_true]
 refine a7 (gf ?_)
 refine a7 (dS za rfl (x:=.ref TO) rfl ?_)
 refine a7 (io za (by simp) fun g1 z1 b1=>?_)
 replace z1:vX g1 z TI TO .ellipsis:=z1
 refine a7 ?_
 simp only [Pm,PL,jq,m_]
 refine a7 (a7 (xW ?_))
 show aq _ _ (cD (.ref i1) >>= _) _ _ _
 refine a7 (v5 (j5 u1 b1 D.i1z) (p7 v1 b1 D.l1z) hx fun g2 w1 b2=>ae ?_)
 have p2:jZ g2 TO a b:=b2.extBut _ _ D.TOi1 (b1.extBut _ _ D.TOz pb)
 refine a7 (eE p2 rfl (a7 (vY p2 fun g3 p3 b3=>?_)))
 replace p3:jZ g3 TO x b:=p3
 refine a7 (PM (ae (a7 (a7 (xW ?_)))))
 show aq _ _ (cD (.ref i2) >>= _) _ _ _
 refine a7 (v5 (j5 (j5 (j5 u2 b1 D.i2z) b2 D.i12.symm) b3 D.TOi2.symm) (p7 (p7 (p7 v2 b1 D.l2z) b2 D.l2i1) b3 D.l2TO) hy fun g4 w2 b4=>ae ?_)
 have p4:jZ g4 TO x b:=b4.extBut _ _ D.TOi2 p3
 refine a7 (eE p4 rfl (a7 (vY p4 fun g5 p5 b5=>?_)))
 replace p5:jZ g5 TO x y:=p5
 refine a7 (PM (ae (ae ?_)))
 refine a7 (eE p5 rfl (a7 (wpAny_newTuple ?_)))
 have sz:g5.objs.size=s.heap.objs.size:=by rw [b5.1,b4.1,b3.1,b2.1,b1.1]
 have z5:vX g5 z TI TO .ellipsis:=b5.extBut _ _ D.TOz.symm (b4.extBut _ _ D.i2z.symm (b3.extBut _ _ D.TOz.symm (b2.extBut _ _ D.i1z.symm z1)))
 have k5:∀ c o,c≠z->c≠TO->c≠i1->c≠i2->s.heap.get? c=some o->g5.get? c=some o:=fun c o n1 n2 n3 n4 e =>
  b5.extBut _ _ n2 (b4.extBut _ _ n4 (b3.extBut _ _ n2 (b2.extBut _ _ n3 (b1.extBut _ _ n1 e))))
 have y1:g5.IsTupleIter i1 l1 (k1 + 1):=j5 (j5 (j5 w1 b3 D.TOi1.symm) b4 D.i12) b5 D.TOi1.symm
 have y2:g5.IsTupleIter i2 l2 (k2 + 1):=j5 w2 b5 D.TOi2.symm
 have zl:z<g5.objs.size:=ap z5
 show aq _ _ (n6 (.ref z) (.ref g5.objs.size) >>= _) _ _ _
 refine a7 ?_
 unfold n6
 have z6:vX (g5.push { cls:=.type "tuple",data:=.seq #[x,y] }) z TI TO .ellipsis:=ag _ z5
 refine a7 (io z6 (by simp) fun g7 z7 b7=>?_)
 replace z7:vX g7 z TI TO (cg g5.objs.size):=z7
 refine io z7 (by simp) fun g8 z8 b8=>?_
 replace z8:vX g8 z TI TO (cg g5.objs.size):=z8
 have up:∀ c o,c≠z->g5.get? c=some o->g8.get? c=some o:=fun c o n1 e=>b8.extBut _ _ n1 (b7.extBut _ _ n1 (ag _ e))
 have p8:jZ g8 g5.objs.size x y:=b8.extBut _ _ (eu zl) (b7.extBut _ _ (eu zl) (az _ rfl))
 rw [sz] at z8 p8
 refine ae ⟨_,rfl,?_⟩
 show Q (.ref g5.objs.size) _
 rw [sz]
 exact q g8 z8 (up _ _ D.TOz p5) (let ⟨o,e,r⟩:=y1;⟨o,up _ o D.i1z e,r⟩) (let ⟨o,e,r⟩:=y2;⟨o,up _ o D.i2z e,r⟩) p8 fun c o n1 n2 n3 n4 e=>up c o n1 (k5 c o n1 n2 n3 n4 e)
theorem N0 {Q:Fin->af->Prop} (hh:A.handled=none) (D:PK z TI TO i1 i2 l1 l2) (za:vX s.heap z TI TO .none) (pa:jZ s.heap TI (.ref i1) (.ref i2)) (pb:jZ s.heap TO a b)
  (u1:s.heap.IsTupleIter i1 l1 k1) (u2:s.heap.IsTupleIter i2 l2 k2) (v1:s.heap.IsTuple l1 xs) (v2:s.heap.IsTuple l2 ys) (hend:xs[k1]?=none\/ys[k2]?=none)
  (q:∀ h' e,(∀ c o,c≠z->c≠TO->c≠i1->c≠i2->s.heap.get? c=some o->h'.get? c=some o)->(∃ o,h'.get? e=some o/\o.cls=.type "StopIteration")->E (.ref e) { s with heap:=h' }) :
  aq (aL prog w) A (im.«zip.__next__» ⟨[.ref z],[]⟩) Q E s:=by
 show aq _ _ (GH (.ref z) 2 >>= _) _ _ _
 refine a7 (dS za rfl (x:=.bool false) rfl ?_)
 show aq _ _ (GH (.ref z) 3 >>= _) _ _ _
 refine a7 (dS za rfl (x:=.ref TI) rfl ?_)
 refine a7 (eE pa rfl ?_)
 show aq _ _ (eP (.ref z) >>= _) _ _ _
 refine a7 ?_
 unfold eP
 refine a7 (dS za rfl (x:=.none) rfl (ae ?_))
 simp only [if_true]
 refine a7 (gf ?_)
 refine a7 (dS za rfl (x:=.ref TO) rfl ?_)
 refine a7 (io za (by simp) fun g1 z1 b1=>?_)
 replace z1:vX g1 z TI TO .ellipsis:=z1
 refine a7 ?_
 simp only [Pm,PL,jq,m_]
 refine a7 (a7 (xW ?_))
 show aq _ _ (cD (.ref i1) >>= _) _ _ _
 cases hx:xs[k1]? with
 | none =>
  refine a7 (v6 hh (j5 u1 b1 D.i1z) (p7 v1 b1 D.l1z) hx fun g2 e b2 he=>?_)
  obtain ⟨oe,ee,ce⟩:=he
  have z2:vX g2 z TI TO .ellipsis:=b2 _ _ D.i1z.symm z1
  have ez:e≠z:=fun n=>by subst n;rw [z2] at ee;cases ee;simp at ce
  refine io z2 (by simp) fun g3 _ b3=>q g3 e (fun c o n1 _ n3 _ m=>b3.extBut _ _ n1 (b2 _ _ n3 (b1.extBut _ _ n1 m))) ⟨oe,b3.extBut _ _ ez ee,ce⟩
 | some x =>
  have hy:ys[k2]?=none:=hend.resolve_left fun n=>by rw [hx] at n;cases n
  refine a7 (v5 (j5 u1 b1 D.i1z) (p7 v1 b1 D.l1z) hx fun g2 w1 b2=>ae ?_)
  have p2:jZ g2 TO a b:=b2.extBut _ _ D.TOi1 (b1.extBut _ _ D.TOz pb)
  refine a7 (eE p2 rfl (a7 (vY p2 fun g3 p3 b3=>?_)))
  refine a7 (PM (ae (a7 (a7 (xW ?_)))))
  show aq _ _ (cD (.ref i2) >>= _) _ _ _
  refine a7 (v6 hh (j5 (j5 (j5 u2 b1 D.i2z) b2 D.i12.symm) b3 D.TOi2.symm) (p7 (p7 (p7 v2 b1 D.l2z) b2 D.l2i1) b3 D.l2TO) hy fun g4 e b4 he=>?_)
  obtain ⟨oe,ee,ce⟩:=he
  have z4:vX g4 z TI TO .ellipsis:=b4 _ _ D.i2z.symm (b3.extBut _ _ D.TOz.symm (b2.extBut _ _ D.i1z.symm z1))
  have ez:e≠z:=fun n=>by subst n;rw [z4] at ee;cases ee;simp at ce
  refine io z4 (by simp) fun g5 _ b5=>q g5 e (fun c o n1 n2 n3 n4 m=>b5.extBut _ _ n1 (b4 _ _ n4 (b3.extBut _ _ n2 (b2.extBut _ _ n3 (b1.extBut _ _ n1 m))))) ⟨oe,b5.extBut _ _ ez ee,ce⟩
end
abbrev WZ (h:bt) (l1:ah):bt:=h.push { cls:=.type "tuple_iterator",data:=.fields #[.ref l1,.int 0 0] }
abbrev W_ (h:bt) (l1 l2:ah):bt:=(WZ h l1).push { cls:=.type "tuple_iterator",data:=.fields #[.ref l2,.int 0 0] }
abbrev X1 (h:bt) (l1 l2:ah):bt:=(W_ h l1 l2).push { cls:=.type "tuple",data:=.seq #[.ref h.objs.size,.ref (WZ h l1).objs.size] }
abbrev X2 (h:bt) (l1 l2:ah):bt:=(X1 h l1 l2).push { cls:=.type "tuple",data:=.seq #[.none,.none] }
abbrev UZ (h:bt) (l1 l2:ah):bt:=(X2 h l1 l2).push { cls:=.type "zip",data:=.fields #[.none,.bool false,.bool false,.ref (W_ h l1 l2).objs.size,.ref (X1 h l1 l2).objs.size] }
theorem AG (l1 l2:ah) (xs ys:Array a9) :
  Meets (im.«zip.__new__» ⟨[.type "zip",.ref l1,.ref l2],[]⟩) (fun _ R s=>s.heap.IsTuple l1 xs/\s.heap.IsTuple l2 ys/\R (.ok (.ret (.ref (X2 s.heap l1 l2).objs.size))) { s with heap:=UZ s.heap l1 l2 }) :=
 .of_wp fun prog w A R s h=>by
  obtain ⟨hp,g,d,tk,os⟩:=s
  obtain ⟨v1,v2,h⟩:=h
  have hsub:=PySem.sub_zip
  have L1:Gh (Gi ⟨hp,g,d,tk,os⟩) l1 xs:=v1
  have L2:Gh (Gi ⟨hp.push { cls:=.type "tuple_iterator",data:=.fields #[.ref l1,.int 0 0] },g,d,tk,os⟩) l2 ys:=Heap.IsTuple.push v2 _
  wp_walk using gj L1,gj L2
  exact ⟨_,rfl,h⟩
section
variable {prog:aO}{w:bd}{A:bg}{E:a9->af->Prop}{s:af}
theorem CK {l1 l2:ah}{xs ys:Array a9}{Q:a9->af->Prop} (v1:s.heap.IsTuple l1 xs) (v2:s.heap.IsTuple l2 ys)
  (h:∀ h',vX h' (s.heap.objs.size + 4) (s.heap.objs.size + 2) (s.heap.objs.size + 3) .none->jZ h' (s.heap.objs.size + 2) (.ref s.heap.objs.size) (.ref (s.heap.objs.size + 1)) ->
   jZ h' (s.heap.objs.size + 3) .none .none->h'.IsTupleIter s.heap.objs.size l1 0->h'.IsTupleIter (s.heap.objs.size + 1) l2 0 ->
   (∀ c o,s.heap.get? c=some o->h'.get? c=some o)->Q (.ref (s.heap.objs.size + 4)) { s with heap:=h' }):aq (aL prog w) A (call (.type "zip") [.ref l1,.ref l2]) Q E s:=by
 refine callType_new F.called_zip (by decide) (F.typeCall_zip_2 _ _) (F.newCall_zip_2 _ _) (fun obj=>F.args_object_init_3 obj _ _) F.entry_zip_new (AG l1 l2 xs ys) ⟨v1,v2,?_⟩
 have n1:(WZ s.heap l1).objs.size=s.heap.objs.size + 1:=cx ..
 have n2:(W_ s.heap l1 l2).objs.size=s.heap.objs.size + 2:=by rw [cx,n1]
 have n3:(X1 s.heap l1 l2).objs.size=s.heap.objs.size + 3:=by rw [cx,n2]
 have n4:(X2 s.heap l1 l2).objs.size=s.heap.objs.size + 4:=by rw [cx,n3]
 have c5:(UZ s.heap l1 l2).get? (X2 s.heap l1 l2).objs.size=some _:=az _ rfl
 have c4:(UZ s.heap l1 l2).get? (X1 s.heap l1 l2).objs.size=some _:=ag _ (az _ rfl)
 have c3:(UZ s.heap l1 l2).get? (W_ s.heap l1 l2).objs.size=some _:=ag _ (ag _ (az _ rfl))
 have c2:(UZ s.heap l1 l2).get? (WZ s.heap l1).objs.size=some _:=ag _ (ag _ (ag _ (az _ rfl)))
 have c1:(UZ s.heap l1 l2).get? s.heap.objs.size=some _:=ag _ (ag _ (ag _ (ag _ (az _ rfl))))
 show _/\_
 rw [n2,n3,n4] at c5
 rw [n1,n2] at c3
 rw [n3] at c4
 rw [n1] at c2
 rw [n4]
 exact ⟨⟨_,c5,rfl⟩,h _ c5 c3 c4 ⟨_,c1,rfl,rfl⟩ ⟨_,c2,rfl,rfl⟩ fun c o e=>ag _ (ag _ (ag _ (ag _ (ag _ e))))⟩
end
theorem kE.ne_fp {X:Cx}{pins:List (ah×Obj)}{σ:St}{H:Hp}{s:af}{a b:ah}{xs:List V} (I:bG X pins σ H s) (hq:kE X.K H a xs) (hf:qS X pins H b):a≠b:=by
 rintro rfl
 rcases hq with (h | ⟨o,h⟩) | ⟨o,its,n,hk,_⟩
 ·rw [hf.1] at h;cases h
 ·rw [hf.1] at h;cases h
 ·have e:X.base.get? a=some o:=I.mod.kin a o hk
  rcases hf.f3 with z | z
  ·exact I.ok.noex a o e z
  ·exact absurd (aH (ap e) (bR I.ok.bsz z)) (c6 _)
def XY (K:a8) (a b:ah):It :=
 ⟨fun i H=>∃ xs ys x y,kE K H a xs/\kE K H b ys/\xs[i]?=some x/\ys[i]?=some y,
  fun i H v H'=>∃ p,H p=none/\v=.ref p/\∀ xs ys,kE K H a xs->kE K H b ys->∃ x y,xs[i]?=some x/\ys[i]?=some y/\H'=upd H p (.tup [x,y]),
  fun i H=>∃ xs ys,kE K H a xs/\kE K H b ys/\(xs.length<=i\/ys.length<=i)⟩
structure XZ (z TI TO i1 i2:ah):Prop where
 d1:TI≠z
 d2:TO≠z
 d3:i1≠z
 d4:i2≠z
 d5:TI≠TO
 d6:TI≠i1
 d7:TI≠i2
 d8:TO≠i1
 d9:TO≠i2
 d0:i1≠i2
theorem N1 {P:aO}{w:bd}{K:a8}{elts:List a_}{x1}{pos:Pos} (l1 l2 z TI TO i1 i2:ah) (Z:XZ z TI TO i1 i2) :
  yA P w K (.Tuple elts x1 pos) (XY K l1 l2) [z,TI,TO,i1,i2] z (fun i h=>vX h z TI TO .none/\jZ h TI (.ref i1) (.ref i2)/\(∃ a b,jZ h TO a b)/\h.IsTupleIter i1 l1 i/\h.IsTupleIter i2 l2 i) where
 mem:=by simp
 obj:=fun i h st b hb=>by
  obtain ⟨s1,s2,⟨_,_,s3⟩,⟨o4,e4,_,f4⟩,⟨o5,e5,_,f5⟩⟩:=st
  simp only [bh,aV,or_false] at hb
  rcases hb with rfl | rfl | rfl | rfl | rfl
  ·exact ⟨_,s1,fun v q=>by cases q⟩
  ·exact ⟨_,s2,fun v q=>by cases q⟩
  ·exact ⟨_,s3,fun v q=>by cases q⟩
  ·exact ⟨o4,e4,fun v q=>by rw [f4] at q;cases q⟩
  ·exact ⟨o5,e5,fun v q=>by rw [f5] at q;cases q⟩
 keep:=fun i h h' st k=>by
  obtain ⟨s1,s2,⟨u,v,s3⟩,⟨o4,e4,r4⟩,⟨o5,e5,r5⟩⟩:=st
  exact ⟨k z (by simp) _ s1,k TI (by simp) _ s2,⟨u,v,k TO (by simp) _ s3⟩,⟨o4,k i1 (by simp) _ e4,r4⟩,⟨o5,k i2 (by simp) _ e5,r5⟩⟩
 item:=by
  intro X hP hw hK hc i pins s σ H E I hf st hg
  subst hP hw hK
  obtain ⟨xs,ys,x,y,hq1,hq2,hx,hy⟩:=hg
  obtain ⟨its1,rv1,p1,_⟩:=I.tuple hq1
  obtain ⟨its2,rv2,p2,_⟩:=I.tuple hq2
  obtain ⟨u,hu,ru⟩:=rv1.get hx
  obtain ⟨v,hv,rv⟩:=rv2.get hy
  obtain ⟨s1,s2,⟨a,b,s3⟩,s4,s5⟩:=st
  have ne1:∀ b∈[z,TI,TO,i1,i2],l1≠b:=fun b hb=>hq1.ne_fp I (hf b hb)
  have ne2:∀ b∈[z,TI,TO,i1,i2],l2≠b:=fun b hb=>hq2.ne_fp I (hf b hb)
  have D:PK z TI TO i1 i2 l1 l2:=⟨Z.d1,Z.d2,Z.d3,Z.d4,Z.d5,Z.d6,Z.d7,Z.d8,Z.d9,Z.d0,ne1 z (by simp),ne1 TO (by simp),ne1 i1 (by simp),ne1 i2 (by simp),ne2 z (by simp),ne2 TO (by simp),ne2 i1 (by simp),ne2 i2 (by simp)⟩
  have zl:=ap s1
  have hT:s.TypeIs (.ref z) "zip":=⟨_,s1,rfl⟩
  unfold jw
  refine a7 (iP (cn (name:=gF "__next__") hT sY ?_))
  refine c8 sY hT F.entry_zip_next (M_ D s1 s2 s3 s4 s5 p1 p2 (by simpa using hu) (by simpa using hv) fun h1 z1 t1 y1 y2 pr k1=>?_) (F.args_zip_next_1 _)
  refine ae ⟨_,rfl,wpAny_letOwnedTupleGo_zip z1 fun h2 z2 b2=>?_⟩
  have szn:s.heap.objs.size≠z:=eu zl
  have TIk:jZ h1 TI (.ref i1) (.ref i2):=k1 TI _ Z.d1 Z.d5 Z.d6 Z.d7 s2
  have I2:bG X pins σ H { s with heap:=h2 }:=I.turnedL (t':=s.toks) (ch:=[z,TI,TO,i1,i2]) (fun b o hb q=>by
   simp only [bh,aV,or_false,not_or] at hb
   exact (b2.2 b hb.1).trans (k1 b o hb.1 hb.2.2.1 hb.2.2.2.1 hb.2.2.2.2 q)) hf
  have fT:=I.fpOk (H':=H) (ar _) (I.hok.fresh (ar _))
  have pr2:h2.get? s.heap.objs.size=some { cls:=.type "tuple",data:=.seq #[u,v] }:=(b2.2 _ szn).trans pr
  have I3:=I2.track (ho:=.tup [x,y]) fT ⟨by show 2<=sizeLine;decide,[u,v],.cons ru (.cons rv .nil),⟨_,pr2,rfl,0,rfl⟩⟩
  refine ⟨.ref s.heap.objs.size,_,I3,rfl,⟨_,fT.1,rfl,fun xs' ys' h1 h2=>?_⟩,⟨z2,(b2.2 TI Z.d1).trans TIk,⟨u,v,(b2.2 TO Z.d2).trans t1⟩,j5 y1 b2 Z.d3,j5 y2 b2 Z.d4⟩,fun b hb=>?_⟩
  ·rw [I.tuple_inj h1 hq1,I.tuple_inj h2 hq2];exact ⟨x,y,hx,hy,rfl⟩
  ·have bl:b<s.heap.objs.size:=by
    simp only [bh,aV,or_false] at hb
    rcases hb with q | q | q | q | q
    ·rw [q];exact zl
    ·rw [q];exact ap s2
    ·rw [q];exact ap s3
    ·obtain ⟨_,e,_⟩:=s4;rw [q];exact ap e
    ·obtain ⟨_,e,_⟩:=s5;rw [q];exact ap e
   rw [aS (aC bl)];exact (hf b hb).1
 done:=by
  intro X hP hw hK hc i pins s σ H E I hf st hg
  subst hP hw hK
  obtain ⟨xs,ys,hq1,hq2,hend⟩:=hg
  obtain ⟨its1,rv1,p1,_⟩:=I.tuple hq1
  obtain ⟨its2,rv2,p2,_⟩:=I.tuple hq2
  obtain ⟨s1,s2,⟨a,b,s3⟩,s4,s5⟩:=st
  have ne1:∀ b∈[z,TI,TO,i1,i2],l1≠b:=fun b hb=>hq1.ne_fp I (hf b hb)
  have ne2:∀ b∈[z,TI,TO,i1,i2],l2≠b:=fun b hb=>hq2.ne_fp I (hf b hb)
  have D:PK z TI TO i1 i2 l1 l2:=⟨Z.d1,Z.d2,Z.d3,Z.d4,Z.d5,Z.d6,Z.d7,Z.d8,Z.d9,Z.d0,ne1 z (by simp),ne1 TO (by simp),ne1 i1 (by simp),ne1 i2 (by simp),ne2 z (by simp),ne2 TO (by simp),ne2 i1 (by simp),ne2 i2 (by simp)⟩
  have hT:s.TypeIs (.ref z) "zip":=⟨_,s1,rfl⟩
  have n1:=rv1.length
  have n2:=rv2.length
  unfold jw
  refine a7 (iP (cn (name:=gF "__next__") hT sY ?_))
  refine c8 sY hT F.entry_zip_next (N0 (by simpa using I.ok.hd hc) D s1 s2 s3 s4 s5 p1 p2 (hend.elim (fun q=>.inl (by simp;omega)) fun q=>.inr (by simp;omega)) fun h' e kp he=>?_) (F.args_zip_next_1 _)
  obtain ⟨o,eo,co⟩:=he
  refine a7 (i5 (T:="StopIteration") (b:=true) ⟨o,eo,co⟩ vW ?_)
  exact ae ⟨rfl,I.turnedL (t':=s.toks) (ch:=[z,TI,TO,i1,i2]) (fun b o hb q=>by
   simp only [bh,aV,or_false,not_or] at hb
   exact kp b o hb.1 hb.2.2.1 hb.2.2.2.1 hb.2.2.2.2 q) hf⟩
 self:=fun _ _ _ _ _ st h=>wpAny_pyIter_zip st.1 h
def X_ (K:a8) (ta:TA):TI:=fun σ H R=>ta σ H fun vs H1=>∃ a b xs ys,vs=[.ref a,.ref b]/\kE K H1 a xs/\kE K H1 b ys/\R (XY K a b) H1
theorem TX {X:Cx}{elts:List a_}{x1}{tpos p pos:Pos}{a b:a_}{ta:TA} (hg:Gl X "zip") (hm:X.mg "zip"=none) (ha:PA X [a,b] ta) (hs:aA [a,b] X.env=[(false,du a X.env),(false,du b X.env)]:=by rfl)
  (hs2:aA [b] X.env=[(false,du b X.env)]:=by rfl):PI X (.Tuple elts x1 tpos) (.Call (.Name "zip" p) [a,b] [] pos) (X_ X.K ta):=by
 intro pins s σ H R I h
 refine Call_ (tN I hg hm boot_zip (e_ (fm (ha pos pins s σ H _ I h) fun us s1 ⟨vs,H1,I1,r1,q1⟩=>?_) (by rw [hs,hs2]) (by rw [hs2];rfl)))
 obtain ⟨a1,a2,xs,ys,rfl,hq1,hq2,q⟩:=q1
 obtain ⟨u1,u2,rfl,rx1,rx2⟩:=Mw r1
 cases rx1
 cases rx2
 obtain ⟨its1,rv1,p1,_⟩:=I1.tuple hq1
 obtain ⟨its2,rv2,p2,_⟩:=I1.tuple hq2
 refine CK (show s1.heap.IsTuple a1 its1.toArray from p1) (show s1.heap.IsTuple a2 its2.toArray from p2) fun h' c1 c2 c3 c4 c5 kp=>?_
 refine wpAny_pyIter_zip c1 ?_
 have I2:bG X pins σ H1 { s1 with heap:=h' }:=I1.kept (t':=s1.toks) kp
 have ad:∀ k j:Nat,k≠j->s1.heap.objs.size + k≠s1.heap.objs.size + j:=fun k j n e=>n (Nat.add_left_cancel e)
 refine ⟨s1.heap.objs.size + 4,[s1.heap.objs.size + 4,s1.heap.objs.size + 2,s1.heap.objs.size + 3,s1.heap.objs.size + 0,s1.heap.objs.size + 1],_,_,H1,rfl,I2,
  N1 a1 a2 _ _ _ _ _ ⟨ad _ _ (by decide),ad _ _ (by decide),ad _ _ (by decide),ad _ _ (by decide),ad _ _ (by decide),ad _ _ (by decide),ad _ _ (by decide),ad _ _ (by decide),ad _ _ (by decide),ad _ _ (by decide)⟩,
  ⟨c1,c2,⟨_,_,c3⟩,c4,c5⟩,fun b hb=>?_,q⟩
 have:∀ k:Nat,qS X pins H1 (s1.heap.objs.size + k):=fun k=>I1.fpOk (PN _ _) (I1.hok.fresh (PN _ _))
 simp only [bh,aV,or_false] at hb
 rcases hb with q | q | q | q | q<;>(rw [q];exact this _)
end
section
mutual
inductive Hh (K:a8) (H:Hp):V->qO->Prop
 | none:Hh K H .non .none
 | bool (b:Bool):Hh K H (.bl b) (.bool b)
 | int (i:Int):Hh K H (.int i) (.int i)
 | str (x:Str):Hh K H (.str x) (.str x)
 | list {a:ah}{xs:List V}{ds:List qO}:lZ K H a xs->Reps K H xs ds->Hh K H (.ref a) (.list ds)
 | tuple {a:ah}{xs:List V}{ds:List qO}:kE K H a xs->Reps K H xs ds->Hh K H (.ref a) (.tuple ds)
inductive Reps (K:a8) (H:Hp):List V->List qO->Prop
 | nil:Reps K H [] []
 | cons {x:V}{xs:List V}{d:qO}{ds:List qO}:Hh K H x d->Reps K H xs ds->Reps K H (x::xs) (d::ds)
end
theorem dB.tup {K:a8}{H H':Hp}{a:ah}{xs:List V} (e:dB H H') (h:kE K H a xs):kE K H' a xs:=by
 rcases h with (h | ⟨o,h⟩) | h
 ·exact .inl (.inl (e _ _ h))
 ·exact .inl (.inr ⟨o,e _ _ h⟩)
 ·exact .inr h
section
variable {X:Cx}{pins:List (ah×Obj)}{σ:St}{H:Hp}{s:af}
theorem Qu (I:bG X pins σ H s) {a:ah}{xs:List V}{ds:List qO}{u:a9} (h:lZ X.K H a xs) (ih:∀ {us:List a9},da xs us->∃ as,ReadsAll s.heap us ds as) (r:dw (.ref a) u):∃ as,Reads s.heap u (.list ds) as:=by
 cases r
 obtain ⟨its,rv,⟨o,n,e,c,_,d⟩,_⟩:=I.list h
 obtain ⟨as,ra⟩:=ih rv
 exact ⟨_,.list e c d (by simpa using ra)⟩
theorem N5 (I:bG X pins σ H s) {a:ah}{xs:List V}{ds:List qO}{u:a9} (h:kE X.K H a xs) (ih:∀ {us:List a9},da xs us->∃ as,ReadsAll s.heap us ds as) (r:dw (.ref a) u):∃ as,Reads s.heap u (.tuple ds) as:=by
 cases r
 obtain ⟨its,rv,⟨o,e,c,n,d⟩,_⟩:=I.tuple h
 obtain ⟨as,ra⟩:=ih rv
 exact ⟨_,.tuple e c d (by simpa using ra)⟩
theorem rW (I:bG X pins σ H s) {v:V}{d:qO} (h:Hh X.K H v d):∀ {u:a9},dw v u->∃ as,Reads s.heap u d as :=
 Hh.rec (motive_1:=fun v d _=>∀ {u:a9},dw v u->∃ as,Reads s.heap u d as) (motive_2:=fun vs ds _=>∀ {us:List a9},da vs us->∃ as,ReadsAll s.heap us ds as)
  (fun r=>by cases r;exact ⟨_,.none⟩) (fun b _ r=>by cases r;exact ⟨_,.bool b⟩) (fun i _ r=>by obtain ⟨t,rfl⟩:=r;exact ⟨_,.int i t⟩) (fun x _ r=>by obtain ⟨t,rfl⟩:=r;exact ⟨_,.str x t⟩)
  (fun h _ ih _ r=>Qu I h ih r) (fun h _ ih _ r=>N5 I h ih r) (fun r=>by cases r;exact ⟨_,.nil⟩) (fun _ _ a b _ r=>by
   cases r with
   | cons r rs =>
    obtain ⟨as,ra⟩:=a r
    obtain ⟨bs,rb⟩:=b rs
    exact ⟨_,.cons ra rb⟩) h
end
section
variable {X:Cx}
inductive S5 (K:a8) (neg:Bool) (x:V) (y:V) (H:Hp) (Q:VK):Prop
 | mk (dx dy:_) (h0:Hh K H x dx) (h1:Hh K H y dy) (h2:dx.canLay0=true) (h3:dy.canLay0=true) (h4:min dx.depth dy.depth<=60) (h5:Q (.bl (if neg then !bf dx dy else bf dx dy)) H):S5 K neg x y H Q
def TY (K:a8) (neg:Bool):R2:=S5 K neg
theorem TZ (hu:X.A.units + 64<kj):qy X (bH .Eq) (TY X.K false):=by
 intro pins s σ H x y v u Q I rx ry h
 obtain ⟨dx,dy,hx,hy,lx,ly,dp,q⟩:=h
 obtain ⟨as,ra⟩:=rW I hx rx
 obtain ⟨bs,rb⟩:=rW I hy ry
 exact PySem.SeqAt.compareEq_reads ra rb lx ly (by omega) ⟨.bl _,H,I,rfl,q⟩
theorem T_ (hu:X.A.units + 64<kj):qy X (bH .NotEq) (TY X.K true):=by
 intro pins s σ H x y v u Q I rx ry h
 obtain ⟨dx,dy,hx,hy,lx,ly,dp,q⟩:=h
 obtain ⟨as,ra⟩:=rW I hx rx
 obtain ⟨bs,rb⟩:=rW I hy ry
 exact PySem.SeqAt.compareNe_reads ra rb lx ly (by omega) ⟨.bl _,H,I,rfl,q⟩
end
end
section
structure S6 (P:aO) (w:bd) (l:List Env) (H H':Hp) (h h' B:bt) (ea C t:ah):Prop where
 fly:Heap.FlyingW B l ea (.ref C) (.ref t) h'
 cov:∀ b u,H' b=some u->∃ o,B.get? b=some o
 old:∀ b o,h.get? b=some o->H b=none->b∉rP l->B.get? b=some o
 all:∀ b o,h.get? b=some o->b∉rP l->∃ o',B.get? b=some o'
 un:Un (rP l) [] H H' h h'
 hok:qo P w H' h'
inductive Vx (P:aO) (w:bd) (outer:List Env) (H:Hp) (s:af) (E:XK) (e:a9) (s':af):Prop
 | mk (ea C t H' B:_) (h0:e=.ref ea) (h1:s'.os=s.os) (h2:qC s'.gens) (h3:S6 P w outer H H' s.heap s'.heap B ea C t) (h4:E (.ref C) none H'):Vx P w outer H s E e s'
def mR (P:aO) (w:bd):IP:=Vx P w
theorem N6 {P:aO}{w:bd}{H:Hp}{h:bt}{b:ah}{u:HO} (x:qo P w H h) (e:H b=some u):∃ o,h.get? b=some o:=by
 have y:=x b u e
 cases u with
 | lst xs=>obtain ⟨_,_,_,_,k⟩:=y;exact ⟨_,k⟩
 | tup xs=>obtain ⟨_,_,_,o,k,_⟩:=y;exact ⟨o,k⟩
 | dK kvs=>obtain ⟨_,_,_,_,o,_,_,k,_⟩:=y;exact ⟨o,k⟩
 | dT kvs=>obtain ⟨_,_,_,_,o,_,_,k,_⟩:=y;exact ⟨o,k⟩
 | set S n=>obtain ⟨o,_,_,_,k,_⟩:=y;exact ⟨o,k⟩
 | ins C dx fs=>obtain ⟨_,_,_,k,_⟩:=y;exact ⟨_,k⟩
 | own y'=>exact y
 | xd fs=>obtain ⟨_,⟨o,_,_,k,_⟩,_⟩:=y;exact ⟨o,k⟩
 | rng lo hi=>obtain ⟨_,_,_,k⟩:=y;exact ⟨_,k⟩
 | frz o u=>exact ⟨o,y.1⟩
 | tbl ps=>exact ⟨_,y⟩
 | met f y'=>exact ⟨_,y⟩
 | ext φ=>exact y.2.1
theorem IZ {l:List Env}{env:Env}{b:ah} (he:env∈l) (hf:env.frame=some b):b∈rP l:=List.mem_filterMap.mpr ⟨env,he,hf⟩
section
variable {P:aO}{w:bd}{l:List Env}{H H':Hp}{h h' h'' B:bt}{ea C t:ah}
theorem S6.kp (x:S6 P w l H H' h h' B ea C t) (st:B.StaysIn h'') (b:ah) (u:HO) (o:Obj) (e:H' b=some u) (q:h'.get? b=some o):h''.get? b=some o:=by
 obtain ⟨o',e1⟩:=x.cov b u e
 have:=x.fly.1 b o' e1
 rw [q] at this;cases this
 exact st b o e1
theorem S6.on (x:S6 P w l H H' h h' B ea C t) (fl:Heap.FlyingW B l ea (.ref C) (.ref t) h'') (up:h'.UpToSlots h''):S6 P w l H H' h h'' B ea C t:=by
 have st:=fl.1
 refine ⟨fl,x.cov,x.old,x.all,⟨fun b o q n hb hx=>st b o (x.old b o q n hb),fun b o q n hb hx=>?_,x.un.free,fun b o q hx=>?_,x.un.tups,x.un.frzs,x.un.tbls⟩,fun b u e=>?_⟩
 ·obtain ⟨sl,e1⟩:=x.un.slot b o q n hb hx
  obtain ⟨_,o',k1,k2⟩:=fh x.fly.2.2.1 hb
  rw [e1] at k1;cases k1
  obtain ⟨sl',e2⟩:=up b _ e1 k2
  exact ⟨sl',e2⟩
 ·by_cases hb:b∈rP l
  ·obtain ⟨_,o',k1,_⟩:=fh fl.2.2.1 hb
   exact ⟨o',k1⟩
  ·obtain ⟨o',k⟩:=x.all b o q hb
   exact ⟨o',st b o' k⟩
 ·exact (x.hok b u e).stay (fun c o hc q=>by
   rcases hc with z | z
   ·rw [z] at q ⊢;exact x.kp st b u o e q
   ·exact x.kp st c _ o z q) (fun _ q=>q) fun _ _ q=>q
end
section
variable {P:aO}{w:bd}{K:a8}{mg:Str->Option a9}{base:bt}{N:List Str}{qual:Str}{scope:eT}{f:ah}{cd:a9}{A:bg}{outer:List Env}{s:af}{H:Hp}{E:XK}
theorem CL {pins:List (ah×Obj)}{σ:St}{H1:Hp}{s1:af}{h':bt}{ea C:ah}{vs:List a9} (I:bG (j4 (mR P w) P w K mg base N qual scope f cd A outer s H E) pins σ H1 s1)
  (hx:Heap.MadeExcOf s1.heap h' ea (.ref C) vs) (q:E (.ref C) none H1):(j4 (mR P w) P w K mg base N qual scope f cd A outer s H E).xe (.ref ea) { s1 with heap:=h' }:=by
 let X:=j4 (mR P w) P w K mg base N qual scope f cd A outer s H E
 let B:=LM s1.heap (rP X.stack)
 have hin:∀ env∈X.stack,∀ a,env.frame=some a->a∈rP X.stack:=fun env he a hf=>IZ he hf
 have stB:B.StaysIn s1.heap:=fun b o e=>Gq _ e
 have nS:∀ b,b∉rP X.stack->∀ o,s1.heap.get? b=some o->B.get? b=some o:=fun b n o e=>Gc _ e n
 show aq _ X.A (leaving X.env (.ref ea)) _ _ _
 refine wpAny_leaves_madeW (s:={ s1 with heap:=h' }) (base:=B) (outer:=outer) (L:=X.env.locals) I.ok.frames rfl stB (PySem.W.funFrames_hide I.stack hin) hx fun h2 t fl tup tn up=>?_
 have st2:=fl.1
 have bl:∀ b o,s.heap.get? b=some o->b∉rP outer->b∉rP X.stack:=fun b o e n z=>by
  rcases List.mem_cons.mp (I.stkSub b z) with y | y
  ·exact absurd (ap e) (by rw [y];exact Nat.not_lt.mpr I.ok.above)
  ·exact n y
 have noex:∀ b:ah,b∉X.ex:=fun b z=>absurd (show b∈([] : List ah) from z) (by simp)
 have cov:∀ b u,H1 b=some u->∃ o,B.get? b=some o:=fun b u e=>by
  have hb:b∉rP X.stack:=fun z=>by have:=I.stkFree b z;rw [e] at this;cases this
  obtain ⟨o,k⟩:=N6 I.hok e
  exact ⟨o,nS b hb o k⟩
 refine ⟨ea,C,t,H1,B,rfl,I.os,I.bare,⟨fl,cov,fun b o e n hb=>?_,fun b o e hb=>?_,⟨fun b o e n hb hx'=>?_,fun b o e n hb hx'=>?_,fun b o e n _=>I.base.free b o e n (noex b),fun b o e _=>?_,I.base.tups,I.base.frzs,I.base.tbls⟩,fun b u e=>?_⟩,q⟩
 ·exact nS b (bl b o e hb) o (I.base.keep b o e n hb (noex b))
 ·obtain ⟨o',k⟩:=I.base.there b o e (noex b)
  exact ⟨o',nS b (bl b o e hb) o' k⟩
 ·exact st2 b o (nS b (bl b o e hb) o (I.base.keep b o e n hb (noex b)))
 ·obtain ⟨sl,k⟩:=I.base.slot b o e n hb (noex b)
  obtain ⟨_,o',k1,k2⟩:=fh I.funs hb
  rw [k] at k1;cases k1
  obtain ⟨sl',k3⟩:=up b _ (hx.keeps _ _ k) k2
  exact ⟨sl',k3⟩
 ·obtain ⟨o',k⟩:=I.base.there b o e (noex b)
  by_cases hb:b∈rP outer
  ·obtain ⟨_,o2,k1,_⟩:=fh fl.2.2.1 hb
   exact ⟨o2,k1⟩
  ·exact ⟨o',st2 b o' (nS b (bl b o e hb) o' k)⟩
 ·refine (I.hok b u e).stay (fun c o hc k=>?_) (fun _ q=>q) fun _ _ q=>q
  have hcs:c∉rP X.stack:=fun z=>by
   have:=I.stkFree c z
   rcases hc with y | y
   ·rw [y,e] at this;cases this
   ·rw [y] at this;cases this
  exact st2 c o (nS c hcs o k)
theorem Ex {E':XK} (hE:∀ c H',E' c none H'->E c none H'):jB (mR P w) (j4 (mR P w) P w K mg base N qual scope f cd A outer s H E) E':=by
 intro pins σ H1 s1 e s' I h
 obtain ⟨ea,C,t,H',B,rfl,os,bare,x,q⟩:=h
 let X:=j4 (mR P w) P w K mg base N qual scope f cd A outer s H E
 have noex:∀ b:ah,b∉X.ex:=fun b z=>absurd (show b∈([] : List ah) from z) (by simp)
 have bl:∀ b o,s.heap.get? b=some o->b∉rP outer->b∉rP X.stack:=fun b o e n z=>by
  rcases List.mem_cons.mp (I.stkSub b z) with y | y
  ·exact absurd (ap e) (by rw [y];exact Nat.not_lt.mpr I.ok.above)
  ·exact n y
 have sub:∀ b∈rP outer,b∈rP X.stack:=fun b hb=>by
  obtain ⟨env,he,hf⟩:=List.mem_filterMap.mp hb
  exact IZ (am _ he) hf
 show aq _ X.A (leaving X.env (.ref ea)) _ _ _
 refine wpAny_leaves_onW (base:=B) (outer:=outer) (L:=X.env.locals) I.ok.frames rfl x.fly fun h2 fl up=>?_
 have st2:=fl.1
 refine ⟨ea,C,t,H',B,rfl,os.trans I.os,bare,⟨fl,x.cov,fun b o e n hb=>?_,fun b o e hb=>?_,⟨fun b o e n hb hx'=>?_,fun b o e n hb hx'=>?_,fun b o e n _=>?_,fun b o e _=>?_,fun b xs e=>x.un.tups b xs (I.base.tups b xs e),fun b o xs e=>x.un.frzs b o xs (I.base.frzs b o xs e),fun b ps e=>?_⟩,fun b u e=>?_⟩,hE _ _ q⟩
 ·exact x.old b o (I.base.keep b o e n hb (noex b)) (I.base.free b o e n (noex b)) (bl b o e hb)
 ·obtain ⟨o',k⟩:=I.base.there b o e (noex b)
  exact x.all b o' k (bl b o e hb)
 ·exact st2 b o (x.old b o (I.base.keep b o e n hb (noex b)) (I.base.free b o e n (noex b)) (bl b o e hb))
 ·obtain ⟨sl,k⟩:=I.base.slot b o e n hb (noex b)
  obtain ⟨sl1,k1⟩:=x.un.slot b _ k (I.base.free b o e n (noex b)) (sub b hb) (by simp)
  obtain ⟨_,o',k2,k3⟩:=fh x.fly.2.2.1 (sub b hb)
  rw [k1] at k2;cases k2
  obtain ⟨sl2,k4⟩:=up b _ k1 k3
  exact ⟨sl2,k4⟩
 ·obtain ⟨o',k⟩:=I.base.there b o e (noex b)
  exact x.un.free b o' k (I.base.free b o e n (noex b)) (by simp)
 ·obtain ⟨o',k⟩:=I.base.there b o e (noex b)
  by_cases hb:b∈rP outer
  ·obtain ⟨_,o2,k1,_⟩:=fh fl.2.2.1 hb
   exact ⟨o2,k1⟩
  ·obtain ⟨o2,k2⟩:=x.all b o' k (bl b o e hb)
   exact ⟨o2,st2 b o2 k2⟩
 ·obtain ⟨m1,e1⟩:=I.base.tbls b ps e
  obtain ⟨m2,e2⟩:=x.un.tbls b _ e1
  exact ⟨m1++m2,by rw [e2,Ka]⟩
 ·exact (x.hok b u e).stay (fun c o hc k=>by
   rcases hc with z | z
   ·rw [z] at k ⊢;exact x.kp st2 b u o e k
   ·exact x.kp st2 c _ o z k) (fun _ q=>q) fun _ _ q=>q
end
end
section
section
variable {P:aO}{w:bd}{K:a8}{mg:Str->Option a9}{base:bt}{N:List Str}{qual:Str}{scope:eT}{f:ah}{cd:a9}{A:bg}{outer:List Env}{s:af}{H:Hp}{E:XK}
theorem N7 {x:Str}{np cpos pos:Pos}{e0:a_}{bX:List a_}{C:ah}{bmB:List a9}{newId initId Bn:String}{ta:TA} (O:OwnCls x C bmB newId mg base) (FB:ExcBaseFacts Bn newId initId bmB)
  (hg:Gl (j4 (mR P w) P w K mg base N qual scope f cd A outer s H E) x) (ha:PA (j4 (mR P w) P w K mg base N qual scope f cd A outer s H E) (e0::bX) ta)
  (he:aA (e0::bX) (j4 (mR P w) P w K mg base N qual scope f cd A outer s H E).env=(false,du e0 (j4 (mR P w) P w K mg base N qual scope f cd A outer s H E).env)::aA bX (j4 (mR P w) P w K mg base N qual scope f cd A outer s H E).env:=by rfl)
  (hdb:(x == ("__debug__" : Str))=false:=by decide) (hpl:(fS cpos (aA bX (j4 (mR P w) P w K mg base N qual scope f cd A outer s H E).env)).any (·.1)=false:=by rfl) :
  PS (j4 (mR P w) P w K mg base N qual scope f cd A outer s H E) (.Raise (some (.Call (.Name x np) (e0::bX) [] cpos)) none pos) (fun D σ H1=>ta σ H1 fun vs H2=>vs.length<=sizeLine/\E (.ref C) none H2):=by
 intro pins s1 σ H1 D I h
 obtain ⟨tl,Nn,nm,q,bs,hdct,sn,sub,ab,col,dd,k0,k1,k2,k3,k5,mN,hC,hN,hni,T⟩:=O.obj
 refine wpAny_Raise_call_subT (C:=C) (nm:=nm) (q:=q) (N:=Nn) (bs:=bs) (bm:=tl) (hdct:=hdct) (sn:=sn) (sub:=sub) (ab:=ab) (col:=col) (dd:=dd) (k0:=k0) (k1:=k1) (k2:=k2) (k3:=k3) (k5:=k5)
  FB (mN:=mN) (T.hasType FB.hasBase) (I.ok.hd rfl) ?_ hni (xY I hg O.bound ⟨rfl,?_⟩ hdb)
 ·rw [he]
  show (false || _)=false
  rw [oS];exact hpl
 ·have hx:=ha cpos pins s1 σ H1 _ I h
  rw [he] at hx ⊢
  refine Gz (fm hx fun us s2 ⟨vs,H2,I2,r2,z,qE⟩=>?_)
  have kb:∀ b o,base.get? b=some o->s2.heap.get? b=some o:=I2.bk
  exact ⟨rfl,by show us.length<=sizeLine;rw [<- r2.length];exact z,kb _ _ hC,hN.keeps kb,T.keeps kb,fun h' ea hm=>CL I2 hm qE⟩
end
structure Hi (base:bt) (C:ah) (bm:List a9):Prop where
 obj:∃ nm q N bs hdct sn sub ab col dd k0 k1 k2 k3 k5 newId,base.get? C=some (excClassObj nm q C N bs bm hdct sn sub ab col dd k0 k1 k2 k3 k5 newId)
 exc:bm.contains (.type "BaseException")=true
theorem yM {M:DO}{A:bg}{E:a9->af->Prop}{s:af}{base:bt}{ea C Cp:ah}{bm bp:List a9}{oe:Obj}{Q:Bool->af->Prop} (kb:∀ b o,base.get? b=some o->s.heap.get? b=some o) (x:Hi base C bm) (y:Hi base Cp bp)
  (hm:bm.contains (.ref Cp)=true) (he:s.heap.get? ea=some oe) (hcls:oe.cls=.ref C) (h:Q true s):aq M A (excMatches (.ref ea) (.ref Cp)) Q E s:=by
 obtain ⟨⟨nm,q,Nn,bs,hdct,sn,sub,ab,col,dd,k0,k1,k2,k3,k5,newId,o1⟩,x2⟩:=x
 obtain ⟨⟨nm',q',Nn',bs',hdct',sn',sub',ab',col',dd',k0',k1',k2',k3',k5',newId',o2⟩,y2⟩:=y
 have hC:=kb _ _ o1
 have hP:=kb _ _ o2
 have c1:(bL C::bm).contains (.ref Cp)=true:=by rw [vM,hm,Bool.or_true]
 have c2:(bL Cp::bp).contains (.type "BaseException")=true:=by rw [vM,y2,Bool.or_true]
 have f:=tc_notTuple
 obtain ⟨hp,g,d,tk,os⟩:=s
 unfold excMatches
 repeat (first
  | (with_reducible refine wpAny_loadPart_at he ?_;rw [hcls])
  | with_reducible refine wpAny_loadPart_at hP ?_
  | (with_reducible refine wpAny_isSubtype_exc hC ?_;rw [c1])
  | (with_reducible refine wpAny_isSubtype_exc hP ?_;rw [c2])
  | wp_step)
 exact h
def yN (ea C:ah):HO:=.ext fun h=>∃ o,h.get? ea=some o/\o.cls=.ref C
theorem Qv {P:aO}{w:bd}{H:Hp}{h:bt}{ea C:ah}{o:Obj} (e:h.get? ea=some o) (c:o.cls=.ref C):db P w H h ea (yN ea C) :=
 ⟨⟨o,e,c⟩,⟨o,e⟩,fun h1 h2 ⟨o,e,c⟩ k=>⟨o,k o e,c⟩⟩
def U_ (X:Cx) (ea:ah):Cx:={ X with A:=X.A.mark (some (.ref ea)),calm:=false,xe:=fun _ _=>False }
theorem bG.inH {X:Cx}{pins:List (ah×Obj)}{σ:St}{H:Hp}{s:af} (I:bG X pins σ H s) (ea:ah):bG (U_ X ea) pins σ H s :=
 ⟨⟨I.ok.mod,I.ok.kind,I.ok.glob,I.ok.blt,I.ok.above,I.ok.inj,I.ok.has,I.ok.cab,(fun z=>kW z),I.ok.frames,I.ok.stk,I.ok.exf,I.ok.bs,I.ok.bsz,I.ok.noex,I.ok.exfs,I.ok.funs,I.ok.frf⟩,I.os,I.bare,I.base,I.loc,I.cell,I.free,I.freeC,I.pin,I.hok,I.len⟩
theorem bG.outH {X:Cx}{pins:List (ah×Obj)}{σ:St}{H:Hp}{s:af}{ea:ah} (ok:X.Ok) (I:bG (U_ X ea) pins σ H s):bG X pins σ H s :=
 ⟨ok,I.os,I.bare,I.base,I.loc,I.cell,I.free,I.freeC,I.pin,I.hok,I.len⟩
def yO (X:Cx):St:=mX X.N.length none
theorem bG.forget {X:Cx}{pins:List (ah×Obj)}{σ:St}{H:Hp}{s:af}{h':bt}{t':Nat}{m':Str->Option a9} (I:bG X pins σ H s) (hn:h'.Ns X.env.locals m') (sb:bF X.env.locals s.heap h'):bG X pins (yO X) H { s with heap:=h',toks:=t' }:=by
 have ne0:∀ b o,X.s₀.heap.get? b=some o->b≠X.env.locals:=fun b o e=>aC (aH (ap e) I.ok.above)
 refine ⟨I.ok,I.os,I.bare,⟨fun b o e n hb hx=>(sb.2 b (ne0 b o e)).trans (I.base.keep b o e n hb hx),fun b o e n hb hx=>?_,I.base.free,fun b o e hx=>?_,I.base.tups,I.base.frzs,I.base.tbls⟩,⟨m',hn,fun i x v h1 h2 h3=>?_⟩,fun x c e=>?_,I.free,I.freeC,fun p hp=>?_,yG I.hok I.free sb,by simp [yO]⟩
 ·obtain ⟨sl,k⟩:=I.base.slot b o e n hb hx
  exact ⟨sl,(sb.2 b (ne0 b o e)).trans k⟩
 ·obtain ⟨o',k⟩:=I.base.there b o e hx
  exact ⟨o',(sb.2 b (ne0 b o e)).trans k⟩
 ·have h2:(yO X)[i]?=some (some v):=h2
  unfold yO at h2
  rw [bQ] at h2
  split at h2<;>cases h2
 ·obtain ⟨v,z⟩:=I.cell x c e
  exact ⟨v,z.sameBut sb (I.cne x c e)⟩
 ·obtain ⟨e,n,ne,nf,d⟩:=I.pin p hp
  exact ⟨(sb.2 p.1 ne).trans e,n,ne,nf,d⟩
def S7 (X:Cx) (Cp:ah) (i:Nat) (ts:TS) (D:tM):XK:=fun c _ H'=>∃ C bm,c=.ref C/\Hi X.base C bm/\bm.contains (.ref Cp)=true /\
 ∀ ea,H' ea=none->ts { nx:=fun _ H=>D.nx (yO X) H,rt:=D.rt } ((yO X).set i (some (.ref ea))) (upd H' ea (yN ea C))
def Y0 (X:Cx) (Cp:ah) (i:Nat) (tb:XK->TS) (ts:TS):TS:=fun D σ H=>tb (S7 X Cp i ts D) D σ H
theorem N8 {X:Cx}{A:bg}{E:a9->af->Prop}{pins:List (ah×Obj)}{s:af}{σ:St}{H:Hp}{x:Str}{u:a9}{pos:Pos}{Q:a9->af->Prop} (I:bG X pins σ H s) (hg:Gl X x) (hm:X.mg x=some u) (h:Q u s)
  (hd:(x == ("__debug__" : Str))=false:=by decide):aq (aL X.prog X.w) A (du (.Name x pos) X.env) Q E s :=
 mT I.ok.kind hg (DP (by rw [I.ok.glob];exact I.mod.glob.keeps I.bk) hm h) hd
def S8 (X:Cx) (xe:a9->af->Prop) (pn:List (ah×Obj)):Cx:={ X with xe:=xe,pn:=pn }
theorem bG.inT {X:Cx}{pins:List (ah×Obj)}{σ:St}{H:Hp}{s:af} (I:bG X pins σ H s) (xe:a9->af->Prop):bG (S8 X xe (X.pn++pins)) [] σ H s :=
 ⟨⟨I.ok.mod,I.ok.kind,I.ok.glob,I.ok.blt,I.ok.above,I.ok.inj,I.ok.has,I.ok.cab,I.ok.hd,I.ok.frames,I.ok.stk,I.ok.exf,I.ok.bs,I.ok.bsz,I.ok.noex,I.ok.exfs,I.ok.funs,I.ok.frf⟩,I.os,I.bare,I.base,I.loc,I.cell,I.free,I.freeC,
  fun p hp=>I.pin p ((List.mem_append.mp hp).elim id fun z=>absurd z (by simp)),I.hok,I.len⟩
theorem bG.outT {X:Cx}{pins pins':List (ah×Obj)}{σ:St}{H:Hp}{s:af}{xe:a9->af->Prop} (ok:X.Ok) (I:bG (S8 X xe (X.pn++pins)) pins' σ H s):bG X pins σ H s :=
 ⟨ok,I.os,I.bare,I.base,I.loc,I.cell,I.free,I.freeC,fun p hp=>I.pin p (ba _ hp),I.hok,I.len⟩
theorem bG.track0 {X:Cx}{pins:List (ah×Obj)}{σ:St}{H:Hp}{s:af}{D:ah}{ho:HO} (I:bG X pins σ H s) (h0:X.s₀.heap.get? D=none) (f0:H D=none) (f1:D≠X.env.locals) (f4:∀ x c,X.env.cells.lookup x=some c->c≠D) (f5:∀ p∈X.pn++pins,p.1≠D)
  (new:db X.prog X.w (upd H D ho) s.heap D ho):bG X pins σ (upd H D ho) s :=
 ⟨I.ok,I.os,I.bare,⟨I.base.keep,I.base.slot,fun b o e n hx=>by rw [aS (fun z=>by rw [z,h0] at e;cases e)];exact I.base.free b o e n hx,I.base.there,fun b xs e=>by have q:=I.base.tups b xs e;rw [aS (bj q f0)];exact q,
  fun b o xs e=>by have q:=I.base.frzs b o xs e;rw [aS (bj q f0)];exact q,fun b ps e=>by obtain ⟨m,q⟩:=I.base.tbls b ps e;exact ⟨m,by rw [aS (bj q f0)];exact q⟩⟩,I.loc,I.cell,
  by rw [aS (de f1)];exact I.free,fun x c e=>by rw [aS (f4 x c e)];exact I.freeC x c e,fun p hp=>by
  obtain ⟨e,n,r⟩:=I.pin p hp
  exact ⟨e,by rw [aS (f5 p hp)];exact n,r⟩,rQ I.hok f0 new,I.len⟩
theorem U0 {X:Cx}{body suite:List cp}{b0:cp}{x n:Str}{np hpos pos:Pos}{Cp:ah}{bp:List a9}{i:Nat}{tb:XK->TS}{ts:TS} (hg:Gl X x) (hm:X.mg x=some (.ref Cp)) (y:Hi X.base Cp bp)
  (hN:X.N.Nodup) (hi:X.N[i]?=some n) (hn:X.env.scope.names.lookup n=some .local) (hst:∃ l,X.stack=X.env::l/\X.env.frame=some X.env.locals) (hex:X.ex=[])
  (hb:∀ (E:XK) (xe:a9->af->Prop) (pn:List (ah×Obj)),jB (mR X.prog X.w) (S8 X xe pn) E->AB (S8 X xe pn) body (tb E)) (hs:∀ ea,AB (U_ X ea) (b0::suite) ts) (hdb:(x == ("__debug__" : Str))=false:=by decide) :
  PS X (.Try body [.ExceptHandler (some (.Name x np)) (some n) (b0::suite) hpos] [] [] pos) (Y0 X Cp i tb ts):=by
 intro pins s σ H D I h
 obtain ⟨l,hl,hfr⟩:=hst
 have ok:=I.ok
 refine wpAny_Try_except ?_
 let xe:a9->af->Prop:=fun e s₁=>aq (aL X.prog X.w) X.A (Cg e X.env) (fun _ s₂=>aq (aL X.prog X.w) X.A (setFlight e none) (fun _ s₃ =>
  aq (aL X.prog X.w) X.A (handleBy e X.env [.ExceptHandler (some (.Name x np)) (some n) (b0::suite) hpos]) (SP X pins D) X.xe s₃) X.xe s₂) X.xe s₁
 have hp:jB (mR X.prog X.w) (S8 X xe (X.pn++pins)) (S7 X Cp i ts D):=by
  intro pins' σ' H1 s1 e s' I' hx
  have I1:bG X pins σ' H1 s1:=I'.outT ok
  obtain ⟨ea,C,t,H',B,rfl,os,bare,air,C',bm,hCe,ox,hcp,hts⟩:=hx
  cases hCe
  have air:S6 X.prog X.w X.stack H1 H' s1.heap s'.heap B ea C t:=air
  have land:∀ h2,S6 X.prog X.w X.stack H1 H' s1.heap h2 B ea C t->bG X pins σ' H' { s' with heap:=h2 }:=fun h2 a =>
   I1.call' (s':={ s' with heap:=h2 }) (ch:=[]) os a.un a.hok bare (fun b z=>absurd z (by simp))
  have fly:=air.fly
  rw [hl] at fly
  show aq _ X.A (Cg (.ref ea) X.env) _ _ s'
  refine wpAny_looks_onW (base:=B) (outer:=l) (L:=X.env.locals) (by rw [ok.frames,hl]) hfr fly fun h2 hd2 up2=>?_
  refine wpAny_landsW hd2 fun h3 fl3 up3=>?_
  have up3':=up2.trans up3
  have a3:=air.on (by rw [hl];exact fl3) up3'
  have I3:=land h3 a3
  obtain ⟨oe,he,hcl⟩:=fl3.there
  refine wpAny_handleBy_cons (codeAny_handlers_test (N8 I3 hg hm ?_ hdb)) (by intro q;cases q)
  refine yM (base:=X.base) (s:={ s' with heap:=h3 }) I3.bk ox y hcp he hcl (codeAny_handlers_suite_as ?_)
  refine lands_againW (s:={ s' with heap:=h3 }) fl3 fun h4 fl4 up4=>?_
  have a4:=air.on (by rw [hl];exact fl4) (up3'.trans up4)
  have I4:=land h4 a4
  obtain ⟨oe4,ws,he4,hcl4,hd4,_⟩:=fl4.first
  have nB:B.get? ea=none:=fl4.2.1
  have nfr:ea∉rP X.stack:=fun z=>by
   obtain ⟨_,o',k1,k2⟩:=fh fl4.2.2.1 (by rw [<- hl];exact z)
   rw [he4] at k1;cases k1
   exact k2 _ hd4
  have n1:s1.heap.get? ea=none:=by
   cases q:s1.heap.get? ea with
   | none=>rfl
   | some o =>
    obtain ⟨o',k⟩:=air.all ea o q nfr
    rw [nB] at k;cases k
  have nH:H' ea=none:=by
   cases q:H' ea with
   | none=>rfl
   | some u =>
    obtain ⟨o',k⟩:=air.cov ea u q
    rw [nB] at k;cases k
  have nloc:ea≠X.env.locals:=fun z=>by
   obtain ⟨m,⟨o,_,_,k,_⟩,_⟩:=I1.loc
   rw [<- z,n1] at k;cases k
  have ncell:∀ x c,X.env.cells.lookup x=some c->c≠ea:=fun x c e z=>by
   obtain ⟨v,o,k,_⟩:=I1.cell x c e
   rw [z,n1] at k;cases k
  have npin:∀ p∈X.pn++pins,p.1≠ea:=fun p hp z=>by
   have k:=(I1.pin p hp).1
   rw [z,n1] at k;cases k
  have n0:X.s₀.heap.get? ea=none:=by
   cases q:X.s₀.heap.get? ea with
   | none=>rfl
   | some o =>
    by_cases hx:ea∈X.ex
    ·rw [hex] at hx;cases hx
    ·obtain ⟨o',k⟩:=I1.base.there ea o q hx
     rw [n1] at k;cases k
  have I5:=(I4.weak (σ':=yO X) (by rw [I4.len];simp [yO]) (fun j v z=>by
   unfold yO at z
   rw [bQ] at z
   split at z<;>cases z)).track0 (ho:=yN ea C) n0 nH nloc ncell npin (Qv he4 hcl4)
  refine qQ I5 hN hi (.inl hn) (v:=.ref ea) rfl (fun s6 I6=>?_) (.inr hn)
  refine bE (hs ea pins s6 _ _ _ (I6.inH ea) (hts ea nH)) (fun f s7 q7=>?_) fun _ _ z=>z.elim
  have fin:∀ {σ7:St}{H7:Hp}{Q':St->Hp->Prop},bG (U_ X ea) pins σ7 H7 s7->(∀ s8,bG X pins (yO X) H7 s8->SP X pins D f s8)->aq (aL X.prog X.w) X.A (do Gr X.env n .none;unbindBehindTheSuite X.env n hpos) (fun _ s8=>SP X pins D f s8) X.xe s7:=fun {σ7 H7 Q'} J k=>by
   have J:=J.outH ok
   obtain ⟨m,hm7,_⟩:=J.loc
   exact wpAny_nameGoes hn hm7 (by rw [ok.kind];rfl) fun h8 m8 hn8 sb8=>k _ (J.forget hn8 sb8)
  cases f with
  | next=>obtain ⟨σ7,H7,J,q⟩:=q7;exact fin (Q':=fun _ _=>True) J fun s8 I8=>⟨_,_,I8,q⟩
  | brk=>obtain ⟨σ7,H7,J,q⟩:=q7;exact q.elim
  | cont=>obtain ⟨σ7,H7,J,q⟩:=q7;exact q.elim
  | ret v=>obtain ⟨z,σ7,H7,J,r,q⟩:=q7;exact fin (Q':=fun _ _=>True) J fun s8 I8=>⟨z,_,_,I8,r,q⟩
 refine bE (hb _ xe (X.pn++pins) hp [] s σ H D (I.inT xe) h) (fun f s1 q=>?_) fun e s1 q=>q
 have q:SP X pins D f s1:=by
  cases f with
  | next=>obtain ⟨σ',H',J,q⟩:=q;exact ⟨σ',H',J.outT ok,q⟩
  | brk=>obtain ⟨σ',H',J,q⟩:=q;exact ⟨σ',H',J.outT ok,q⟩
  | cont=>obtain ⟨σ',H',J,q⟩:=q;exact ⟨σ',H',J.outT ok,q⟩
  | ret v=>obtain ⟨z,σ',H',J,r,q⟩:=q;exact ⟨z,σ',H',J.outT ok,r,q⟩
 cases f with
 | next=>exact nX q
 | brk=>exact q
 | cont=>exact q
 | ret v=>exact q
end
section
structure N9 (K:a8) (C:ah):Prop where
 ga:gH K (.ref C) "__getattribute__"=some (some (.builtin "BaseException.__getattribute__"))
 gn:gH K (.ref C) "__getattr__"=some none
 ca:gH K (.ref C) "__class__"=some (some (.builtin "object.__class__"))
 gg:uD K (.builtin "object.__class__") "__get__"=some (some (.builtin "getset_descriptor.__get__"))
 tk:xu K (.builtin "object.__class__")=some true
 mo:eM K C (.type "object")=some true
 be:eM K C (.type "BaseException")=some true
 cl:(h_ K C).isSome=true
def BA (x C:ah) (h:bt):Prop:=∃ o,h.get? x=some o/\o.cls=.ref C
theorem BA.type {M:DO}{x C:ah}{h:bt} (p:BA x C h):Pn M h (typeOf (.ref x)) (.ref C):=by
 obtain ⟨o,e,c⟩:=p
 exact c ▸ (PySem.W.Looks.ld e).andThen .now
section
variable {prog:aO}{w:bd}{A:bg}{E:a9->af->Prop}{s:af}{K:a8}{x C:ah}{R:vQ->af->Prop}
open PySem.W Builtin Builtin.ObjectAttr Builtin.Getset_descriptor in
theorem Qw {tp:a9} (Z:N9 K C) (X:K.In s.heap) (p:BA x C s.heap) (q:R (.ok (.ret (.ref C))) s):hZ (aL prog w) A (.call (.builtin "getset_descriptor.__get__") ⟨[.builtin "object.__class__",.ref x,tp],[]⟩) R s:=by
 obtain ⟨hp,gs,dr,tt,os⟩:=s
 have T0:=p.type (M:=aL prog w)
 have T1:=looks_mroIn (M:=aL prog w) X Z.mo
 refine vV KF.slot_gs.plain KF.entry_gs ?_
 refine KF.slot_gs.check _ _ _ _ _ _ _ _ KF.type_class (KF.args_gs _ _ _) ?_
 unfold im.«getset_descriptor.__get__» descrGet
 rw [dga_obj]
 refine a7 (ae ?_)
 unfold descrGetter descrCheckInstance descrNameAndClass GF
 simp only [KF.owner_class]
 repeat lk
 refine ⟨LR _ (by decide +kernel),fJ KF.entry_class ?_⟩
 unfold im.«object.__class__» shownTypeOf
 repeat lk
 exact q
theorem KO {Q:Option a9->af->Prop} (Z:N9 K C) (X:K.In s.heap) (p:BA x C s.heap) (h:Q (some (.ref C)) { s with toks:=s.toks + 1 }):aq (aL prog w) A (PP (.ref x) "__class__") Q E s:=by
 obtain ⟨hh,g,d,t,os⟩:=s
 have L0:=p.type (M:=aL prog w)
 have L1:=qP (M:=aL prog w) X Z.ga
 have L2:=qP (M:=aL prog w) X Z.gn
 have F1:=qP (M:=aL prog w) X Z.ca
 have F2:=PySem.W.looks_specialIn (M:=aL prog w) X Z.gg
 have F3:=PySem.W.looks_takesIn (M:=aL prog w) X Z.tk
 have L4:=PySem.W.looks_mroIn (M:=aL prog w) X Z.be
 unfold PP getAttrBy? getAttrBy
 refine a7 (wpAny_mkText (a7 (iP (cr (a7 (L0.at (a7 (L1.at ?_))))))))
 show aq _ _ (getAttrByItsOwn (.ref x) (.str "__class__" t) (.ref C) (.builtin "BaseException.__getattribute__") false false) _ _ _
 unfold getAttrByItsOwn
 show aq _ _ (yr (.ref C) "__getattr__" >>= _) _ _ _
 refine a7 (L2.at (a7 (iP (cr ?_))))
 show aq _ _ (boundAndCalled (.builtin "BaseException.__getattribute__") (.ref x) (.str "__class__" t)) _ _ _
 unfold boundAndCalled
 refine a7 (eg (F.excAttr_ValueError.ga.bind (.ref x)) ?_)
 show aq _ _ (call (.builtin "BaseException.__getattribute__") [.ref x,.str "__class__" t]) _ _ _
 refine yq (vV F.excAttr_ValueError.ga.plain F.entry_bexc_ga ?_)
 have hk:builtinKind "BaseException.__getattribute__"=some .slot:=by decide +kernel
 have hsp:splitId "BaseException.__getattribute__"=some ("BaseException","__getattribute__"):=by decide +kernel
 have hao:=F.args_bexc_ga (.ref x) (.str "__class__" t)
 simp only [checkBuiltinCall,hk,hsp]
 have LI:Pn (aL prog w) hh (GF (.ref x) (.type "BaseException")) true:=L0.andThen L4
 refine a7 (LI.at ?_)
 rw [if_neg (by decide)]
 refine eg (a:=()) (by unfold argsOk at hao;exact hao) ?_
 unfold im.«object.__getattribute__»
 refine a7 (m:=slotArgs "__getattribute__" 1 _) (ae ?_)
 refine a7 (m:=Po _) (ae ?_)
 refine a7 (L0.at (a7 ?_))
 unfold Pp
 refine a7 (F1.at (a7 (F2.at (a7 ?_))))
 refine a7 (F3.at ?_)
 refine ae (a7 (gf (ae ?_)))
 show aq _ _ (Gd [.builtin "object.__class__"] (call (.builtin "getset_descriptor.__get__") [.builtin "object.__class__",.ref x,.ref C]) >>= fun v=>ret v) _ _ _
 refine a7 (cr (yq (Qw (s:=⟨hh,g,d,t + 1,os⟩) Z X p ?_)))
 exact ae (PySem.W.handed_on rfl (ae h))
theorem Na (Z:N9 K C):PySem.W.KitX K (.ref x) (.ref C) (BA x C) where
 ty:=fun _ _ _ p=>p.type
 it:=fun M h X _=>by
  obtain ⟨cd,hc⟩:=Option.isSome_iff_exists.mp Z.cl
  unfold h_ at hc
  split at hc
  ·rename_i c' d' cd' sl' ho
   intro A' Q' E' s' k q
   unfold isType loadHead
   exact a7 (wpAny_loadPart (k _ _ (X _ _ ho)) (ae q))
  ·cases hc
 ne:=fun h tp dd its n sl X htp=>by
  refine Bool.eq_false_iff.mpr fun q=>?_
  obtain rfl:C=tp:=Value.ref.inj (beq_iff_eq.mp q)
  obtain ⟨cd,hc⟩:=Option.isSome_iff_exists.mp Z.cl
  unfold h_ at hc
  split at hc
  ·rename_i c' d' cd' sl' ho
   have z:=(X _ _ ho).symm.trans htp
   cases z
  ·cases hc
 ca:=fun X p k=>KO Z X p k
end
section
variable {X:Cx}
theorem wZ:jb X (.builtin "isinstance") (fun xs H Q=>∃ x c cv b,xs=[x,c]/\((∃ n,c=.ty n/\cv=.type n)\/∃ C',c=.ref C'/\cv=.ref C')/\((∃ t,wc X.K H x t/\dH X.K t cv=some b) \/
  ∃ ea C,x=.ref ea/\H ea=some (yN ea C)/\N9 X.K C/\dH X.K (.ref C) cv=some b)/\Q (.bl b) H):=by
 intro pins s σ H xs us Q I r h
 obtain ⟨x,c,cv,b,rfl,rc,h,q⟩:=h
 obtain ⟨u,v,rfl,ru,rv⟩:=Mw r
 obtain rfl:v=cv:=by
  rcases rc with ⟨n,rfl,rfl⟩ | ⟨C',rfl,rfl⟩
  ·exact rv
  ·exact rv
 rcases h with ⟨t,ty,e⟩ | ⟨ea,C,rfl,hH,Z,e⟩
 ·exact oC I ru ty e fun tk=>⟨.bl b,H,I.tok tk,rfl,q⟩
 ·cases ru
  have p:BA ea C s.heap:=(show db X.prog X.w H s.heap ea (yN ea C) from I.hok ea _ hH).1
  exact cF (Na Z) I.kIn p e (fun z=>nomatch z) fun tk=>⟨.bl b,H,I.tok tk,rfl,q⟩
end
end
section
structure l_ (k:Nat) (A:bg):Prop where
 dp:A.depth + 3 * k + 5<Gu
 un:A.units + 16 * k + 200<kj
theorem jt.h {k:Nat}{A:bg} (r:jt k A):l_ k A:=⟨r.dp,r.un⟩
theorem l_.mark {k:Nat}{A:bg} (r:l_ k A) (v:Option a9):l_ k (A.mark v):=⟨r.dp,r.un⟩
theorem l_.deeper {k:Nat}{A:bg} (r:l_ (k + 1) A) (env:Env):l_ k (A.deeper env):=⟨by have:=r.dp;show A.depth + 1 + 3 * k + 5<_;omega,by have:=r.un;show A.units + 3 + 16 * k + 200<_;omega⟩
structure Ey (P:aO) (w:bd) (K:a8) (mg:Str->Option a9) (base:bt) (k:Nat) (f:ah) (fd:dL) (ps:List Str) (sp:Sp):Prop where
 len:∀ vs H Q E,sp vs H Q E->vs.length=ps.length
 run:∀ (A:bg) (outer:List Env) (s:af) (H:Hp) (args:Args) (us:List a9) (vs:List V) (Q:VK) (E:XK),l_ k A->GY P w K mg base A outer s H->Ao s fd args (ps.zip us)->da vs us->sp vs H Q E ->
  hZ (aL P w) A (.call (.ref f) args) (CR Yv outer P w H s Q E) s
def Vy (P:aO) (w:bd) (K:a8) (mg:Str->Option a9) (base:bt) (N:List Str) (qual:Str) (scope:eT) (f:ah) (cd:a9) (A:bg) (outer:List Env) (s:af) (H:Hp):Cx where
 prog:=P
 w:=w
 K:=K
 mg:=mg
 base:=base
 A:=A.deeper (j3 qual scope s.heap.objs.size f cd)
 N:=N
 s₀:=s
 H₀:=H
 env:=j3 qual scope s.heap.objs.size f cd
 outer:=outer
 stack:=j3 qual scope s.heap.objs.size f cd::outer
 ex:=[]
 calm:=false
 fn:=fun _=>true
 pn:=[]
 xe:=fun _ _=>False
section
variable {P:aO}{w:bd}{K:a8}{mg:Str->Option a9}{base:bt}
theorem Hj {N ps:List Str}{qual:Str}{scope:eT}{f:ah}{cd:a9}{A:bg}{outer:List Env}{s s1:af}{H:Hp}{us:List a9}{vs:List V}
  (S:bu N ps scope) (e0:GY P w K mg base A outer s H) (hl:vs.length=ps.length) (r:da vs us)
  (x:InCallC s s.heap.objs.size (Gv (j3 qual scope s.heap.objs.size f cd).kindOf (ps.zip us) fun _=>none) (bn (s.heap.objs.size + 1) scope.names []) (Gw (j3 qual scope s.heap.objs.size f cd).kindOf (ps.zip us) fun _=>none) s1) :
  bG (Vy P w K mg base N qual scope f cd A outer s H) [] (start N vs) H s1:=by
 have e1:GY P w K mg base { A with handled:=none } outer s H:=⟨e0.frames,e0.mod,e0.bs,e0.bsz,e0.funs,e0.frf,e0.hok,e0.bare⟩
 have I:=Bp (CX:=Yv) (E:=E0) S (A:={ A with handled:=none }) rfl e1 hl r x
 exact ⟨⟨I.ok.mod,I.ok.kind,I.ok.glob,I.ok.blt,I.ok.above,I.ok.inj,I.ok.has,I.ok.cab,(fun z=>kW z),I.ok.frames,I.ok.stk,I.ok.exf,I.ok.bs,I.ok.bsz,I.ok.noex,I.ok.exfs,I.ok.funs,I.ok.frf⟩,I.os,I.bare,I.base,I.loc,I.cell,I.free,I.freeC,I.pin,I.hok,I.len⟩
theorem U1 {k:Nat}{f:ah}{name qual:Str}{params:Arguments}{body:List cp}{scope:eT}{dV kV doc pm cdv ct oc:a9}{an od:Option ah}
  {osl:Array (Option a9)}{N ps:List Str}{sp:Sp} (lk:K.lookup f=some ⟨oc,od,.func (eO name qual params body scope dV kV doc pm an cdv ct),osl⟩) (hcd:jx K cdv qual=true) (S:bu N ps scope)
  (len:∀ vs H Q E,sp vs H Q E->vs.length=ps.length)
  (hbody:∀ (A:bg) (outer:List Env) (s:af) (H:Hp) (vs:List V) (Q:VK) (E:XK),l_ k (A.deeper (j3 qual scope s.heap.objs.size f cdv))->sp vs H Q E ->
   ∃ t,AB (Vy P w K mg base N qual scope f cdv A outer s H) body t/\t { nx:=fun _ H'=>Q .non H',rt:=Q } (start N vs) H) :
  Ey P w K mg base (k + 1) f (eO name qual params body scope dV kV doc pm an cdv ct) ps sp:=by
 refine ⟨len,fun A outer s H args us vs Q E hr e0 hb r hsp=>?_⟩
 have hl:=len _ _ _ _ hsp
 have KX:K.In s.heap:=e0.mod.kin.keeps fun b o e=>(e0.bs b o e).1
 have lim:s.heap.NoLimit:=e0.mod.nolimit.keeps fun b o e=>(e0.bs b o e).1
 have hkind:∀ y∈ps.zip us,scope.names.lookup y.1=some .local\/(scope.names.lookup y.1=some .cell/\((bn (s.heap.objs.size + 1) scope.names []).lookup y.1).isSome=true):=fun ⟨n,v⟩ hy=>by
  rcases S.par n (qK hy).1 with q | q
  ·exact .inl q
  ·exact .inr ⟨q,fk _ _ _ (.inl q)⟩
 refine Pk (by have:=hr.dp;omega) (KX _ _ lk) rfl S.co S.gen rfl (Gx KX hcd) (hb _ _ _ _ ?_)
 refine Gy S.kind hkind fun env he s1 x=>?_
 subst he
 refine ⟨lim.keeps x.toInCall.keep,codeAny_func ?_⟩
 obtain ⟨t,ht,hq⟩:=hbody A outer s H vs Q E (hr.deeper _) hsp
 have I:bG (Vy P w K mg base N qual scope f cdv A outer s H) [] (start N vs) H s1:=Hj S e0 hl r x
 refine bE (ht [] s1 (start N vs) H _ I hq) (fun fl s' hs=>?_) fun e s' hs=>(show False from hs).elim
 have fin:∀ {σ':St}{H':Hp}{v:V}{u:a9},bG (Vy P w K mg base N qual scope f cdv A outer s H) [] σ' H' s'->dw v u->Q v H'->CE outer P w H s Q u s' :=
  fun {σ' H' v u} J rv q=>⟨v,H',J.os,J.bare,J.base,J.hok,rv,q⟩
 cases fl with
 | ret u =>
  obtain ⟨v,σ',H',J,rv,q⟩:=hs
  exact fin J rv q
 | next =>
  obtain ⟨σ',H',J,q⟩:=hs
  exact fin (v:=V.non) (u:=dW) J rfl q
 | brk =>
  obtain ⟨_,_,_,q⟩:=hs
  exact eN q
 | cont =>
  obtain ⟨_,_,_,q⟩:=hs
  exact eN q
theorem Ee.okH {x qual:Str}{st:cp}{f:ah}{fd:dL}{N ps:List Str}{k:Nat}{sp:Sp} (F:Ee K x qual st f fd) (S:bu N ps (ax st)) (len:∀ vs H Q E,sp vs H Q E->vs.length=ps.length)
  (hbody:∀ (cdv:a9) (A:bg) (outer:List Env) (s:af) (H:Hp) (vs:List V) (Q:VK) (E:XK),l_ k (A.deeper (j3 qual (ax st) s.heap.objs.size f cdv))->sp vs H Q E ->
   ∃ t,AB (Vy P w K mg base N qual (ax st) f cdv A outer s H) (iE st) t/\t { nx:=fun _ H'=>Q .non H',rt:=Q } (start N vs) H):Ey P w K mg base (k + 1) f fd ps sp:=by
 obtain ⟨oc,od,kV,doc,pm,an,cdv,ct,osl,rfl,lk,hcd⟩:=F.ex
 exact U1 lk hcd S len fun A outer s H vs Q E hr hsp=>hbody cdv A outer s H vs Q E hr hsp
end
section
variable {X:Cx}{k:Nat}{f:ah}{fd:dL}{ps:List Str}{sp:Sp}{x:Str}{p pos:Pos}{e:a_}{es:List a_}{t:TA}
theorem Nb (F:Ey X.prog X.w X.K X.mg X.base k f fd ps sp) (hr:l_ k X.A) (hg:Gl X x) (hm:X.mg x=some (.ref f)) (hk:e6 X.K (.ref f)=true) (hb:jA X.K fd ps [])
  (ha:PA X (e::es) t) (hdb:(x == ("__debug__" : Str))=false:=by decide) (he:aA (e::es) X.env=(false,du e X.env)::aA es X.env:=by rfl) (hpl:(fS pos (aA es X.env)).any (·.1)=false:=by rfl) :
  PE X (.Call (.Name x p) (e::es) [] pos) (IQ sp [] E0 t):=by
 intro pins s σ H Q I h
 refine jW (xY I hg hm ?_ hdb)
 refine tF (h₀:=X.base) I.ok.mod.kin hk (fm (ha pos pins s σ H _ I h) fun us s1 ⟨vs,H1,I1,r,q⟩=>⟨I1.kIn,?_⟩) he hpl
 have q:sp (vs++[]) H1 Q E0:=q
 rw [bV] at q
 have hl:us.length=ps.length:=by rw [<- r.length];exact F.len _ _ _ _ q
 have hb':=hb s1 us I1.kIn (by rw [bV];exact hl)
 rw [bV] at hb'
 refine yq (oz (F.run X.A X.stack s1 H1 ⟨us,[]⟩ us vs Q E0 hr I1.env0 hb' r q) fun r s' hq=>?_)
 cases r with
 | error e=>exact (show False from hq).elim
 | ok fl =>
  cases fl with
  | ret u=>exact I1.after hq
  | next=>exact eN hq
  | brk=>exact eN hq
  | cont=>exact eN hq
end
end
section
section
variable {X:Cx}
def Y1:qO->String
 | .none=>"NoneType" | .bool _=>"bool" | .int _=>"int" | .str _=>"str" | .list _=>"list" | .tuple _=>"tuple" | .dict _=>"dict"
theorem Hk {pins:List (ah×Obj)}{σ:St}{H:Hp}{s:af}{A:bg}{E:a9->af->Prop}{Q:a9->af->Prop}{c:a9}{b:Bool}{x:V}{d:qO}{u:a9} (I:bG X pins σ H s) (rx:dw x u) (r:Hh X.K H x d) (e:dH X.K (.type (Y1 d)) c=some b) (h:∀ tk,Q (.bool b) { s with toks:=tk }) :
  aq (aL X.prog X.w) A (call (.builtin "isinstance") [u,c]) Q E s:=by
 cases r with
 | none=>exact oC I rx .non e h
 | bool y=>exact oC I rx (.bl y) e h
 | int i=>exact oC I rx (.int i) e h
 | str y=>exact oC I rx (.str y) e h
 | list hq _ =>
  cases rx
  obtain ⟨its,rv,⟨o,n,ho,c,_,dd⟩,_⟩:=I.list hq
  exact cF uE I.kIn ⟨o,ho,c⟩ e (fun z=>nomatch z) h
 | tuple hq _ =>
  cases rx
  obtain ⟨its,rv,⟨o,ho,c,n,dd⟩,_⟩:=I.tuple hq
  exact cF Gs I.kIn ⟨o,ho,c⟩ e (fun z=>nomatch z) h
theorem Nc:jb X (.builtin "isinstance") (fun xs H Q=>∃ x d T b,xs=[x,.ty T]/\Hh X.K H x d/\dH X.K (.type (Y1 d)) (.type T)=some b/\Q (.bl b) H):=by
 intro pins s σ H xs us Q I r h
 obtain ⟨x,d,T,b,rfl,rp,e,q⟩:=h
 obtain ⟨u,v,rfl,ru,rv⟩:=Mw r
 obtain rfl:v=.type T:=rv
 exact Hk I ru rp e fun tk=>⟨.bl b,H,I.tok tk,rfl,q⟩
end
end
end L2
section
namespace HT
open PySem PyProof.Rows
section
variable {prog:aO}{w:bd}{A:bg}{E:a9->af->Prop}{s:af}
theorem Ez {t sl:ah}{items:Array a9}{vl vu:a9}{lo hi:Option Int}{Q:a9->af->Prop} (ht:Gp s.heap t items) (hs:s.heap.IsSliceOf sl vl vu .none) (pl:vR vl lo) (pu:vR vu hi)
  (hw:iR items.size 0 lo=0/\iR items.size items.size hi=items.size) (h:Q (.ref t) s):aq (aL prog w) A (qD (.ref t) (.ref sl)) Q E s:=by
 obtain ⟨os,hos,hcs,hds⟩:=id hs
 have hTs:s.TypeIs (.ref sl) "slice":=⟨os,hos,hcs⟩
 unfold qD
 try with_reducible refine cr ?_
 first | refine a7 (ae ?_) | skip
 refine a7 (wpAny_sequenceKey ht.typeIs (by decide) ?_)
 refine a7 (cn (name:=gF "__getitem__") ht.typeIs fU
  (c8 fU ht.typeIs entry_tuple_getitem ?_ (args_tuple_getitem _ _)))
 show aq _ _ (uG (.ref t) >>= _) _ _ s
 refine a7 (tupleItemsOf_ ht ?_)
 refine a7 (kY hTs ?_)
 rw [if_pos (by decide)]
 refine a7 (oF hs pl pu ?_)
 have hyes:((((iR items.size 0 lo:Nat):Int) == 0 && (1:Int) == 1 && (iR items.size items.size hi - iR items.size 0 lo) == items.size)=true):=by
  rw [hw.1,hw.2];simp
 show aq _ _ (if (((iR items.size 0 lo:Nat):Int) == 0 && (1:Int) == 1 && (iR items.size items.size hi - iR items.size 0 lo) == items.size)=true then _ else _) _ _ s
 rw [if_pos hyes]
 refine a7 ?_
 unfold Builtin.Tuple.tupleIsExact
 refine a7 (kY ht.typeIs (ae ?_))
 rw [if_pos (by decide)]
 refine a7 (gf ?_)
 first
  | exact ae (ae ⟨_,rfl,h⟩)
  | exact ae ⟨_,rfl,ae h⟩
  | exact a7 (ae (ae ⟨_,rfl,ae h⟩))
  | exact a7 (ae (ae ⟨_,rfl,h⟩))
end
end HT
namespace L2
open PySem PySem.Spec PyProof.Rows
section
variable {X:Cx}
inductive Nd (K:a8) (x:V) (lo:Option Int) (hi:Option Int) (H:Hp) (Q:VK):Prop
 | mk (a xs:_) (h0:x=.ref a) (h1:kE K H a xs) (h2:(HT.iR xs.length 0 lo=0/\HT.iR xs.length xs.length hi=xs.length)) (h3:Q (.ref a) H):Nd K x lo hi H Q
def Vz (K:a8):V->Option Int->Option Int->Hp->VK->Prop:=Nd K
theorem Qx:Vn X (Vz X.K):=by
 intro pins s σ H x v vl vu lo hi sl Q I rx hs pl pu h
 obtain ⟨a,xs,rfl,hx,hw,q⟩:=h
 cases rx
 obtain ⟨its,r,ht,hz⟩:=I.tuple hx
 have hlen:its.toArray.size=xs.length:=by rw [aJ];exact r.length.symm
 exact ⟨"tuple",_,PyProof.Rows.slot_tuple_getitem.lookup,ht.typeIs,HT.Ez ht hs pl pu (by rw [hlen];exact hw) ⟨.ref a,H,I,rfl,q⟩⟩
theorem iY {H:Hp}{p:ah}{o:HO} (h:H p=none):dB H (upd H p o):=fun b u e=>by rw [aS (bj e h)];exact e
theorem tS:∀ {bs:List Bool}{us:List a9},da (bs.map V.bl) us->us=bs.map iB
 | [],_,.nil=>rfl
 | b::r,_,.cons h t=>by cases h;rw [tS t];rfl
theorem yP {A:bg}{s:af}{bs:List Bool}:∀ y,y∈(bs.map iB).toArray->Kf A s y (.bool true) (vZ true y):=fun y hy=>by
 have hy:y∈bs.map iB:=by simpa using hy
 obtain ⟨b,_,rfl⟩:=List.mem_map.mp hy
 exact Bc b true
def Qy (K:a8):V->List V->Hp->VK->Prop:=fun x vs H Q=>∃ l,∃ bs:List Bool,x=.ref l/\vs=[.bl true]/\lZ K H l (bs.map V.bl)/\Q (.int (bs.countP id:Nat)) H
theorem KP:WW X "list.count" (Qy X.K):=by
 intro pins s σ H x vs v us Q I rx rv h
 obtain ⟨l,bs,rfl,rfl,hq,q⟩:=h
 cases rx
 obtain ⟨u,rfl,ru⟩:=rv.one
 cases ru
 obtain ⟨its,r,⟨o,n,ho,c,hd,dt⟩,hz⟩:=I.list hq
 rw [tS r] at dt
 obtain ⟨cls,dd,data,sl⟩:=o
 simp only at c dt
 subst c dt
 refine tG Bg ⟨_,ho,rfl⟩ PySem.F.entry_list_count (PySem.F.args_list_count_2 _ _) (SeqAt.list_countAt l (bs.map iB).toArray n dd sl (.bool true) (vZ true)) ⟨ho,fun y hy=>yP y hy,?_⟩
 refine ⟨.int _,H,I.tok _,⟨_,rfl⟩,?_⟩
 have e:(bs.map iB).toArray.toList.countP (vZ true)=bs.countP id:=by
  show (bs.map iB).countP (vZ true)=_
  rw [List.countP_map]
  congr 1
  funext b
  cases b<;>rfl
 rw [e]
 exact q
def Qz (K:a8):V->List V->Hp->VK->Prop:=fun x vs H Q=>∃ l,∃ bs:List Bool,∃ j:Nat,x=.ref l/\vs=[.bl true]/\lZ K H l (bs.map V.bl)/\bs[j]?=some true/\(∀ m,m<j->bs[m]?=some false)/\j<=1000/\Q (.int (j:Nat)) H
theorem KQ:WW X "list.index" (Qz X.K):=by
 intro pins s σ H x vs v us Q I rx rv h
 obtain ⟨l,bs,j,rfl,rfl,hq,hj,hno,hsm,q⟩:=h
 cases rx
 obtain ⟨u,rfl,ru⟩:=rv.one
 cases ru
 obtain ⟨its,r,⟨o,n,ho,c,hd,dt⟩,hz⟩:=I.list hq
 rw [tS r] at dt
 obtain ⟨cls,dd,data,sl⟩:=o
 simp only at c dt
 subst c dt
 obtain ⟨hjl,hjv⟩:=List.getElem?_eq_some_iff.mp hj
 refine tG Bh ⟨_,ho,rfl⟩ PySem.F.entry_list_index (PySem.F.args_list_index_2 _ _) (SeqAt.list_indexAt l (bs.map iB).toArray n dd sl (.bool true) (vZ true) j (by simpa using hjl) (by omega) ?_ ?_) ⟨ho,fun y hy=>yP y hy,?_⟩
 ·simp [vZ,hjv]
 ·intro m hm hlt
  have:=hno m hlt
  obtain ⟨_,hv⟩:=List.getElem?_eq_some_iff.mp this
  simp [vZ,hv]
 ·exact ⟨.int _,H,I.tok _,⟨_,rfl⟩,q⟩
theorem yQ (hc:X.calm=true):jb X (.type "list") (fun xs H Q=>∃ a kvs,xs=[.ref a]/\H a=some (.dK kvs)/\∀ l,H l=none->Q (.ref l) (upd H l (.lst (kvs.map fun p=>kV p.1)))):=by
 intro pins s σ H xs us Q I r h
 obtain ⟨a,kvs,rfl,hH,q⟩:=h
 obtain ⟨u,rfl,rx⟩:=kF r
 cases rx
 obtain ⟨hz,hs,vs,rk,hd⟩:=(show db X.prog X.w H s.heap a (.dK kvs) from I.hok a _ hH)
 obtain ⟨ep,hat⟩:∃ ep,s.heap.DictAt (dv X.prog X.w) a vs ep:=by
  obtain ⟨o,es,ep,h1,h2,h3,h4⟩:=hd
  exact ⟨ep,o,es,h1,h2,h3,h4⟩
 have hlen:kvs.length=vs.length:=j0 rk
 refine PySem.W.kdl_call (PySem.W.kdl_dict hs) (I.ok.hd hc) hat (by omega) fun h' tk acc' c' kp e hacc=>?_
 have rv:da (kvs.map fun p=>kV p.1) acc'.toList:=by
  have key:∀ {kvs:List (cR×V)}{vs:List (cR×a9)} (acc:List a9),KV kvs vs->acc.length=vs.length->(∀ (j:Nat) (v:a9),acc[j]?=some v->∃ k x,vs[j]?=some (k,x)/\yx k v=true)->da (kvs.map fun p=>kV p.1) acc:=by
   intro kvs
   induction kvs with
   | nil=>intro vs acc rk hl _;cases rk;cases acc with
    | nil=>exact .nil
    | cons _ _=>simp at hl
   | cons p kvs ih =>
    intro vs acc rk hl hv
    cases rk with
    | cons h1 t1 =>
     cases acc with
     | nil=>simp at hl
     | cons v acc =>
      refine .cons ?_ (ih acc t1 (by simpa using hl) fun j v hj=>by simpa using hv (j + 1) v (by simpa using hj))
      obtain ⟨k,x,e1,e2⟩:=hv 0 v rfl
      simp only [E2,DT] at e1
      subst e1
      have hk:p.1=k:=h1.1
      rcases fA e2 with ⟨i,t,e,rfl⟩ | ⟨i,t,e,rfl⟩
      ·show dw (kV p.1) _;rw [hk,e];exact ⟨t,rfl⟩
      ·show dw (kV p.1) _;rw [hk,e];exact ⟨t,rfl⟩
  exact key acc'.toList rk (by rw [av];exact hacc.1) fun j v hj=>hacc.2 j v (by rw [<- cX];exact hj)
 exact ⟨.ref s.heap.objs.size,_,I.laid (t':=tk) kp (ar _) (show db X.prog X.w _ h' _ (.lst _) from ⟨by simpa using hz,acc'.toList,c',rv,by rw [GJ];exact e⟩),rfl,q _ (I.hok.fresh (ar _))⟩
def yR (x:Str):List V:=x.cps.toList.map fun c=>V.str ⟨#[c]⟩
theorem xG (hc:X.calm=true):jb X (.type "tuple") (fun xs H Q=>∃ x,xs=[.str x]/\x.cps.size<=sizeLine/\∀ l,H l=none->Q (.ref l) (upd H l (.tup (yR x)))):=by
 intro pins s σ H xs us Q I r h
 obtain ⟨x,rfl,hz,q⟩:=h
 obtain ⟨u,rfl,rx⟩:=kF r
 obtain ⟨t,rfl⟩:=rx
 refine call_tuple_str (I.ok.hd hc) x t (fun h' tk acc kp hacc=>?_) hz
 have I1:bG X pins σ H { s with heap:=h',toks:=tk }:=I.kept (t':=tk) kp
 have rv:da (yR x) acc.toList:=by
  have key:∀ (cs:List Nat) (acc:List a9),acc.length=cs.length->(∀ (j:Nat) (v:a9),acc[j]?=some v->∃ c u,cs[j]?=some c/\v=.str ⟨#[c]⟩ u)->da (cs.map fun c=>V.str ⟨#[c]⟩) acc:=by
   intro cs
   induction cs with
   | nil=>intro acc hl _;cases acc with
    | nil=>exact .nil
    | cons _ _=>simp at hl
   | cons c cs ih =>
    intro acc hl hv
    cases acc with
    | nil=>simp at hl
    | cons v acc =>
     obtain ⟨c',u,e1,rfl⟩:=hv 0 v rfl
     simp only [E2,DT] at e1
     subst e1
     exact .cons ⟨u,rfl⟩ (ih acc (by simpa using hl) fun j v hj=>by simpa using hv (j + 1) v (by simpa using hj))
  refine key x.cps.toList acc.toList (by rw [av,av];exact hacc.1) fun j v hj=>?_
  obtain ⟨c,u,e1,e2⟩:=hacc.2 j v (by rw [<- cX];exact hj)
  exact ⟨c,u,by rw [cX];exact e1,e2⟩
 have I2:bG X pins σ (upd H h'.objs.size (.tup (yR x))) { s with heap:=h'.push { cls:=.type "tuple",data:=.seq acc },toks:=tk } :=
  I1.laid (t':=tk) (fun b o e=>ag _ e) (ar _) (show db X.prog X.w _ _ _ (.tup (yR x)) from ⟨by unfold yR;simpa using hz,acc.toList,rv,by rw [GJ];exact xt _ _⟩)
 exact ⟨.ref h'.objs.size,_,I2,rfl,q _ (I1.hok.fresh (ar _))⟩
end
end L2
end
namespace L2
open PySem PySem.Spec PyProof.Rows
section
theorem CM (elt target iter:a_) (ifs:List a_) (scope:eT) (pos:Pos) (it acc:a9) (env:Env) :
  compTurn (.SetComp elt [⟨target,iter,ifs,0⟩] scope pos) 0 it acc env=(do
   wR iter.pos
   let r <- jw it
   match r with
   | none=>pure (.done .next)
   | some v =>
    gM target it v
    qJ target env v
    let mut ok:=true
    for c in ifs do
     if ok then ok <- vP c env (du c env)
    if ok then
     (do let v <- du elt env;wR elt.pos;let _ <- call (.builtin "set.add") [acc,v])
    again (.compLoop (.SetComp elt [⟨target,iter,ifs,0⟩] scope pos) 0 it acc env)):=by rfl
section
variable {prog:aO}{w:bd}{A:bg}{E:a9->af->Prop}{R:vQ->af->Prop}{s:af}
theorem qz {elt target iter ifs bX scope pos it acc env}
  (h0:hZ (aL prog w) A (.compLoop (.SetComp elt (⟨target,iter,ifs,0⟩::bX) scope pos) 0 it acc env) R s)
  (h:aq (aL prog w) A (yo it) (fun it' s'=>hZ (aL prog w) A (.compLoop (.SetComp elt (⟨target,iter,ifs,0⟩::bX) scope pos) 0 it' acc env) R s')
   (notedBy (aL prog w) A env fun x s'=>R (.error x) s') s) :
  hZ (aL prog w) A (.compStart (.SetComp elt (⟨target,iter,ifs,0⟩::bX) scope pos) 0 it acc env) R s:=by
 refine DZ ?_
 show aq _ _ ((compStart (.SetComp elt (⟨target,iter,ifs,0⟩::bX) scope pos) 0 it acc env).onRaise (fun x=>do Cg x env;wR theWindowsPlace)) _ _ s
 refine wpAny_notedAt ?_
 unfold compStart
 show aq _ _ (ask >>= _) _ _ s
 refine a7 (i3 (wpAny_ite ?_))
 split
 ·first
   | exact a7 (ae (ae (uz rfl h0)))
   | exact ae (uz rfl h0)
 ·first
   | exact a7 (gf (a7 (iM (a7 (bE h (fun it' s' hq=>ae (uz rfl hq)) fun _ _ x=>x)))))
   | (refine a7 (gf ?_);show aq _ _ (wR iter.pos >>= _) _ _ s;exact a7 (iM (a7 (bE h (fun it' s' hq=>ae (uz rfl hq)) fun _ _ x=>x))))
theorem t6 {Q:a9->af->Prop} (h:Q (.ref s.heap.objs.size) { s with heap:=s.heap.push (fo w) }):aq (aL prog w) A (newSet (.type "set")) Q E s:=by
 unfold newSet setsByText
 refine a7 (a7 (i3 (ae ?_)))
 dsimp only
 simp only [newObj]
 exact a7 (Pz (ae h))
theorem AH {a:ah}{ss:List Str}{x:Str}{tk:Tok}{Q:a9->af->Prop} (hS:l7 w s.heap a ss) (hr:ss.length + 1<iO)
  (h:∀ h' tk',bF a s.heap h'->l7 w h' a (if x∈ss then ss else ss++[x])->Q .none { s with heap:=h',toks:=tk' }) :
  aq (aL prog w) A (call (.builtin "set.add") [.ref a,.str x tk]) Q E s:=by
 have hT:s.TypeIs (.ref a) "set":=by obtain ⟨es,ep,t,I,_⟩:=id hS;exact ⟨_,I.at_,rfl⟩
 refine c8 F.slot_set_add hT F.entry_set_add ?_ (F.args_set_add_2 _ _)
 unfold im.«set.add» PQ
 simp only [List.isEmpty_nil,bind_assoc]
 unfold PR
 refine a7 (ae ?_)
 try dsimp only
 refine a7 (ae ?_)
 try dsimp only
 refine a7 ?_
 refine Eo hS hr fun h' tk' sb hS'=>?_
 exact ae ⟨_,rfl,h h' tk' sb hS'⟩
end
section
variable {prog:aO}{w:bd}{A:bg}{R:vQ->af->Prop}{s:af}
theorem EA {elt target iter:a_}{ifs:List a_}{scope:eT}{pos:Pos}{it acc:a9}{env:Env} (I:Nat->af->Prop)
  (turn:∀ n s,I n s->aq (aL prog w) A (jw it) (fun r s₁=>match r with
   | none=>R (.ok .next) s₁
   | some v=>aq (aL prog w) A (gM target it v) (fun _ s₁'=>aq (aL prog w) A (qJ target env v) (fun _ s₂ =>
     aq (aL prog w) A (forIn ifs true fun c r=>if r=true then do let ok <- vP c env (du c env);pure (fR ok) else pure (fR r)) (fun ok s₃ =>
      if ok=true then aq (aL prog w) A (du elt env) (fun x s₄ =>
       aq (aL prog w) A (call (.builtin "set.add") [acc,x]) (fun _ s₅=>∃ m,m<n/\I m s₅) (fun _ _=>False) s₄) (fun _ _=>False) s₃
      else ∃ m,m<n/\I m s₃) (fun _ _=>False) s₂) (fun _ _=>False) s₁') (fun _ _=>False) s₁) (fun _ _=>False) s)
  (n:Nat) (h:I n s) :
  hZ (aL prog w) A (.compLoop (.SetComp elt [⟨target,iter,ifs,0⟩] scope pos) 0 it acc env) R s:=by
 refine codeAny_loop rfl I (fun n s hI=>?_) n h
 show aq _ A ((compTurn (.SetComp elt [⟨target,iter,ifs,0⟩] scope pos) 0 it acc env).onRaise (fun x=>do Cg x env;theTreesLotGoes x)) _ _ s
 refine wpAny_noted ?_
 rw [CM]
 have nf:∀ {α:Type}{t:Sem α}{Q:α->af->Prop}{E':a9->af->Prop}{s:af},aq (aL prog w) A t Q (fun _ _=>False) s->aq (aL prog w) A t Q E' s :=
  fun h=>bE h (fun _ _ q=>q) fun _ _ f=>f.elim
 refine a7 (iM (a7 (nf (bE (turn n s hI) (fun r s₁ h₁=>?_) fun _ _ h'=>h'))))
 cases r with
 | none=>exact ae h₁
 | some v =>
  refine a7 (nf (bE h₁ (fun _ s₁' h₁'=>?_) fun _ _ h'=>h'))
  refine a7 (nf (bE h₁' (fun _ s₂ h₂=>a7 (nf (bE h₂ (fun ok s₃ h₃=>?_) fun _ _ h'=>h'))) fun _ _ h'=>h'))
  cases ok with
  | false=>exact ae ⟨rfl,h₃⟩
  | true =>
   exact a7 (a7 (nf (bE h₃ (fun x s₄ h₄=>a7 (iM (a7 (nf (bE h₄ (fun _ s₅ h₅=>ae (ae ⟨rfl,h₅⟩)) fun _ _ h'=>h'))))) fun _ _ h'=>h')))
end
inductive Yx (X:Cx) (pins:List (ah×Obj)) (N':List Str) (scope:eT) (cl:List (Str×ah)) (C:ah) (s2:af) (H2:Hp) (fp:List ah) (nt:Nat) (ix:List Nat) (σ:St) (tn:Nat->bt->Prop) (W:Nat->Nat->List Str->Hp->Prop) (n:Nat) (s':af):Prop
 | mk (i:Nat) (acc:List Str) (oD:Obj) (H':Hp) (I:bG (cS X N' scope cl C s2 H2 fp (X.pn++pins)) [(s2.heap.objs.size,oD)] (ju nt ix σ) H' s') (S:l7 X.w s'.heap s2.heap.objs.size acc) (t:tn i s'.heap) (f:∀ b∈fp,H' b=none) (w:W i n acc H'):Yx X pins N' scope cl C s2 H2 fp nt ix σ tn W n s'
theorem KR {X:Cx}{elt tg iter:a_}{ifs:List a_}{scope:eT}{pos:Pos}{g:TG}{tt:TT}{te:TE}{N':List Str}{nt:Nat}{ix:List Nat}
  (hc:X.calm=true) (S:o6 X scope N' nt ix) (lo:S4 nt g)
  (hb:∀ cl C s₀ H₀ ex pn,PG (cS X N' scope cl C s₀ H₀ ex pn) tg g/\Pt (cS X N' scope cl C s₀ H₀ ex pn) ifs tt/\PE (cS X N' scope cl C s₀ H₀ ex pn) elt te)
  {cl:List (Str×ah)} (c1:∀ x c,cl.lookup x=some c->X.env.cells.lookup x=some c) (c2:∀ y∈scope.names,y.2=.free->∃ c,cl.lookup y.1=some c)
  {pins:List (ah×Obj)}{σ:St}{H2:Hp}{s2:af}{it:ah}{fp:List ah}{tn:Nat->bt->Prop}{J:It}{Q:VK}{E:a9->af->Prop}
  (I2:bG X pins σ H2 s2) (T:yA X.prog X.w X.K tg J fp it tn) (st2:tn 0 s2.heap) (f2:∀ b∈fp,qS X pins H2 b)
  {W:Nat->Nat->List Str->Hp->Prop} (w0:∃ m,W 0 m [] H2)
  (turn:∀ i m acc H,W i m acc H->(J.stop i H/\∀ p,H p=none->Q (.ref p) (upd H p (ll X.w p acc))) \/
   (J.go i H/\acc.length + 1<iO/\∀ x H',J.yld i H x H'->g x (ju nt ix σ) H' fun σ2 H2=>tt σ2 H2 fun b H3 =>
    if b=true then te σ2 H3 fun y H4=>∃ z m',y=.str z/\m'<m/\W (i + 1) m' (if z∈acc then acc else acc++[z]) H4 else ∃ m',m'<m/\W (i + 1) m' acc H3))
  {RR:a9->ah->vQ->af->Prop}
  (hRR:∀ D C m s' (acc:List Str) H',H' D=none->qS X pins (upd H' D (ll X.w D acc)) C->Q (.ref D) (upd H' D (ll X.w D acc))->s'.heap.Ns C m->(∀ h',bF C s'.heap h'->bG X pins σ (upd H' D (ll X.w D acc)) { s' with heap:=h' })->RR (.ref D) C (.ok .next) s') :
  aq (aL X.prog X.w) X.A (newSet (.type "set")) (fun acc s₃=>aq (aL X.prog X.w) X.A (vT scope X.env.globals cl [] X.env.qual none .none (some X.env)) (fun cenv s₄ =>
   hZ (aL X.prog X.w) X.A (.compStart (.SetComp elt [⟨tg,iter,ifs,0⟩] scope pos) 0 (.ref it) acc { cenv with scope:=relabel scope X.env }) (RR acc cenv.locals) s₄) E s₃) E s2:=by
 refine t6 (IW fun h₁ hh₁=>?_)
 dsimp only at hh₁ ⊢
 generalize hG2:s2.heap.push (fo X.w)=G2 at hh₁ ⊢
 have hC:G2.objs.size=s2.heap.objs.size + 1:=by rw [<- hG2,cx]
 have hDC:s2.heap.objs.size≠G2.objs.size:=by rw [hC];exact aC (d_ _)
 have hCle:s2.heap.objs.size<=G2.objs.size:=by rw [hC];exact iS _
 have below:∀ b,b<s2.heap.objs.size->b≠G2.objs.size:=fun b hb=>by rw [hC];exact aC (fj hb)
 have kp:∀ b o,G2.get? b=some o->h₁.get? b=some o:=fun b o e=>by rw [hh₁];exact ux _ _ b o (ag _ e)
 have hns₁:h₁.Ns G2.objs.size (fun _=>none):=by rw [hh₁];exact (Heap.Ns.new G2 (.type "dict")).keeps (ux _ _)
 have ok₁:CellsOk h₁ (G2.objs.size + 1) (bn (G2.objs.size + 1) scope.names []):=by rw [hh₁];exact Bw G2 scope.names
 have cne:∀ x c,(bn (G2.objs.size + 1) scope.names cl).lookup x=some c->X.env.cells.lookup x=some c\/s2.heap.objs.size<c:=fun x c e=>by
  rcases kH e with a | ⟨_,a⟩
  ·exact .inr (aH (jY hCle) (ok₁.empty x c a).2)
  ·exact .inl (c1 x c a)
 have old:∀ b o,s2.heap.get? b=some o->h₁.get? b=some o:=fun b o e=>kp b o (hG2 ▸ ag _ e)
 have hacc:h₁.get? s2.heap.objs.size=some (fo X.w):=kp _ _ (hG2 ▸ az _ rfl)
 have ff:∀ b∈fp,b<s2.heap.objs.size:=fun b hb=>by
  obtain ⟨o,e,_⟩:=T.obj _ _ st2 b hb
  exact ap e
 have I3:bG (cS X N' scope (bn (G2.objs.size + 1) scope.names cl) G2.objs.size s2 H2 fp (X.pn++pins)) [] (ju nt ix σ) H2 { s2 with heap:=h₁,toks:=s2.toks }:=Ek S I2 c1 c2 f2 ff hCle hns₁ old ok₁
 obtain ⟨pg,pt,pe⟩:=hb (bn (G2.objs.size + 1) scope.names cl) G2.objs.size s2 H2 fp (X.pn++pins)
 have hDfs:s2.heap.objs.size∉rP X.stack:=fun z=>by
  rcases List.mem_cons.mp (I2.stkSub _ z) with e | e
  ·exact absurd I2.lt (by rw [<- e];exact c6 _)
  ·exact I2.nofs (ar _) e
 have st1:tn 0 h₁:=T.keep _ _ _ st2 fun b _ o e=>old b o e
 have hDf:s2.heap.objs.size∉fp:=fun z=>absurd (ff _ z) (c6 _)
 have stat:∀ {H':Hp}{pl:List (ah×Obj)},(∀ p∈pl,p.1∉fp)->(∀ b∈fp,H' b=none)->∀ b∈fp,qS (cS X N' scope (bn (G2.objs.size + 1) scope.names cl) G2.objs.size s2 H2 fp (X.pn++pins)) pl H' b:=fun hpl hn b hb=>by
  obtain ⟨f0,f1,f2',f3,f4,f5⟩:=f2 b hb
  refine ⟨hn b hb,below b (ff b hb),fun z=>?_,.inl hb,fun x c e=>(cne x c e).elim (f4 x c) fun q z=>xx q (by rw [z];exact ff b hb),fun p hp z=>?_⟩
  ·rcases List.mem_cons.mp (I2.stkSub _ z) with e | e
   ·exact f1 e
   ·exact f2' e
  ·rcases List.mem_append.mp hp with q | q
   ·exact f5 p q z
   ·exact hpl p q (z ▸ hb)
 obtain ⟨m0,w0⟩:=w0
 have loop:hZ (aL X.prog X.w) X.A (.compLoop (.SetComp elt [⟨tg,iter,ifs,0⟩] scope pos) 0 (.ref it) (.ref s2.heap.objs.size) (compEnvC scope (bn (G2.objs.size + 1) scope.names cl) G2.objs.size X.env))
    (RR (.ref s2.heap.objs.size) G2.objs.size) { s2 with heap:=h₁,toks:=s2.toks }:=by
  refine EA (Yx X pins N' scope (bn (G2.objs.size + 1) scope.names cl) G2.objs.size s2 H2 fp nt ix σ tn W) ?_ m0
   ⟨0,[],_,H2,I3.pin1 hacc (I2.hok.fresh (ar _)) hDC hDfs (fun v z=>nomatch z),By X.w hacc,st1,fun b hb=>(f2 b hb).1,w0⟩
  rintro n s3 ⟨i,acc,oD,H3,J3,hS3,st3,fr3,w3⟩
  have plD:∀ p∈[(s2.heap.objs.size,oD)],p.1∉fp:=fun p hp=>by
   have:p=(s2.heap.objs.size,oD):=by simpa using hp
   rw [this];exact hDf
  have stS:∀ {s8:af},s8.heap.get? s2.heap.objs.size=some oD->l7 X.w s8.heap s2.heap.objs.size acc:=fun {s8} e=>hS3.keep fun o eo=>by
   have q:=(J3.pin (s2.heap.objs.size,oD) (aE _ (List.mem_singleton.mpr rfl))).1
   rw [q] at eo;cases eo;exact e
  rcases turn i n acc H3 w3 with ⟨stop,qn⟩ | ⟨go,hlt,step⟩
  ·refine fm (T.done (cS X N' scope (bn (G2.objs.size + 1) scope.names cl) G2.objs.size s2 H2 fp (X.pn++pins)) rfl rfl rfl hc i _ s3 _ H3 _ J3 (stat plD fr3) st3 stop) fun r s4 h_0=>?_
   obtain ⟨hr,I4⟩:=h_0
   subst hr
   obtain ⟨pD,pN,_⟩:=I4.pin (s2.heap.objs.size,_) (aE _ (List.mem_singleton.mpr rfl))
   obtain ⟨mm,hn,_⟩:=I4.loc
   have hCn:H3 G2.objs.size=none:=I4.free
   refine hRR _ _ mm s4 acc H3 pN (I2.fpOk hCle (by rw [aS (de hDC)];exact hCn)) (qn _ pN) hn fun h' sb=>?_
   have hu:Un (rP X.stack) fp H2 (upd H3 s2.heap.objs.size (ll X.w s2.heap.objs.size acc)) s2.heap h':=Un.grow I4.base sb hCle (ar _) pN
   refine I2.call' (s':={ s4 with heap:=h' }) (ch:=fp) I4.os hu ?_ I4.bare fun b hb=>?_
   ·exact rQ (yG I4.hok hCn sb) pN (CJ ((stS pD).keep fun o e=>(sb.2 _ hDC).trans e))
   ·obtain ⟨_,f1,_,f3,f4,f5⟩:=f2 b hb
    exact ⟨f3,f1,f4,f5⟩
  ·refine fm (T.item (cS X N' scope (bn (G2.objs.size + 1) scope.names cl) G2.objs.size s2 H2 fp (X.pn++pins)) rfl rfl rfl hc i _ s3 _ H3 _ J3 (stat plD fr3) st3 go) fun r s4 h_1=>?_
   obtain ⟨u,hr,h4⟩:=h_1
   subst hr
   refine fm h4 fun _ s5 h_2=>?_
   obtain ⟨x,H5,I5,r5,y5,st5,fr5⟩:=h_2
   have I5':=I5.pinned (stat plD fr5) (T.obj _ _ st5)
   refine fm (pg _ s5 _ H5 x u _ I5' r5 (lo _ _ _ _ (step x H5 y5))) fun _ s6 h_3=>?_
   obtain ⟨σ6,H6,I6,q6,l6,k6⟩:=h_3
   have hw:∀ (j:Nat) v,(ju nt ix σ)[j]?=some (some v)->σ6[j]?=some (some v):=fun j v e=>by
    by_cases hj:nt<=j
    ·rw [k6 j hj];exact e
    ·unfold ju at e
     rw [bw (by simpa using hj),bQ,if_pos (by omega)] at e
     cases e
   refine fm (pt _ s6 σ6 H6 _ I6 q6) fun b s7 h_4=>?_
   obtain ⟨H7,I7,q7⟩:=h_4
   have fpk:∀ {s8:af}{σ8:St}{H8:Hp},bG (cS X N' scope (bn (G2.objs.size + 1) scope.names cl) G2.objs.size s2 H2 fp (X.pn++pins)) ([(s2.heap.objs.size,oD)]++w9 fp s5.heap) σ8 H8 s8 ->
     tn (i + 1) s8.heap/\∀ b∈fp,H8 b=none:=fun {s8 σ8 H8} I8=>by
    refine ⟨T.keep _ _ _ st5 fun b hb o e=>(I8.pin (b,o) (aE _ (aE _ (j_ hb e)))).1,fun b hb=>?_⟩
    obtain ⟨o,e,d⟩:=T.obj _ _ st5 b hb
    exact (I8.pin (b,o) (aE _ (aE _ (j_ hb e)))).2.1
   cases b with
   | false =>
    simp only [c7,if_false] at q7 ⊢
    obtain ⟨m',hm,w7⟩:=q7
    obtain ⟨t7,f7⟩:=fpk I7
    obtain ⟨pD,_⟩:=I7.pin (s2.heap.objs.size,oD) (aE _ (ba _ (List.mem_singleton.mpr rfl)))
    exact ⟨m',hm,i + 1,acc,oD,H7,(I7.weak l6.symm hw).unpinned,stS pD,t7,f7,w7⟩
   | true =>
    simp only [if_true] at q7 ⊢
    refine fm (pe _ s7 σ6 H7 _ I7 q7) fun u8 s8 h_5=>?_
    obtain ⟨y,H8,I8,r8,z,m',hy,hm,w8⟩:=h_5
    obtain ⟨t8,f8⟩:=fpk I8
    obtain ⟨pD,pN,_⟩:=I8.pin (s2.heap.objs.size,_) (aE _ (ba _ (List.mem_singleton.mpr rfl)))
    subst hy
    obtain ⟨tz,rfl⟩:=r8
    refine AH (stS pD) hlt fun h9 tk9 sb9 hS9=>?_
    obtain ⟨es9,ep9,t9,is9,pm9⟩:=id hS9
    have e9':=is9.at_
    refine ⟨m',hm,i + 1,_,{ cls:=.type "set",dict:=none,data:=.set es9 ep9 t9 },H8,?_,hS9,T.keep _ _ _ t8 fun b hb o e=>sb9.extBut b o (fun z=>hDf (z ▸ hb)) e,f8,w8⟩
    have I8':bG (cS X N' scope (bn (G2.objs.size + 1) scope.names cl) G2.objs.size s2 H2 fp (X.pn++pins)) [] (ju nt ix σ) H8 s8:=(I8.weak l6.symm hw).pins_of fun p hp=>absurd hp (by simp)
    have I9:bG (cS X N' scope (bn (G2.objs.size + 1) scope.names cl) G2.objs.size s2 H2 fp (X.pn++pins)) [] (ju nt ix σ) H8 { s8 with heap:=h9,toks:=tk9 } :=
     I8'.turned (it:=s2.heap.objs.size) (fun b o hb e=>sb9.extBut b o hb e) pN hDC (.inr (ar _)) (fun x c e z=>by
      rcases cne x c e with e | e
      ·obtain ⟨v,q⟩:=I2.cell x c e
       exact absurd q.lt (by rw [z];exact c6 _)
      ·exact absurd e (by rw [z];exact c6 _)) fun p hp z=>by
      have hp:p∈X.pn++pins:=(List.mem_append.mp hp).elim id fun z=>absurd z (by simp)
      exact absurd (ap (I2.pin p hp).1) (by rw [z];exact c6 _)
    exact I9.pin1 e9' pN hDC hDfs (fun v z=>nomatch z)
 exact qz loop (T.self _ 0 _ _ _ st1 loop)
inductive S9 (w:bd) (nt:Nat) (ix:List Nat) (g:TG) (tt:TT) (te:TE) (σ:St) (Q:VK) (J:It) (H1:Hp):Prop
 | mk (W:Nat->Nat->List Str->Hp->Prop) (w0:∃ m,W 0 m [] H1) (turn:∀ i m acc H,W i m acc H ->
 (J.stop i H/\∀ p,H p=none->Q (.ref p) (upd H p (ll w p acc))) \/
 (J.go i H/\acc.length + 1<iO/\∀ x H',J.yld i H x H'->g x (ju nt ix σ) H' fun σ2 H2=>tt σ2 H2 fun b H3 =>
  if b=true then te σ2 H3 fun y H4=>∃ z m',y=.str z/\m'<m/\W (i + 1) m' (if z∈acc then acc else acc++[z]) H4 else ∃ m',m'<m/\W (i + 1) m' acc H3)):S9 w nt ix g tt te σ Q J H1
def Nf (w:bd) (nt:Nat) (ix:List Nat) (wi:TI) (g:TG) (tt:TT) (te:TE):TE:=fun σ H Q=>wi σ H (S9 w nt ix g tt te σ Q)
theorem Hl {X:Cx}{elt tg iter:a_}{ifs:List a_}{scope:eT}{pos:Pos}{wi:TI}{g:TG}{tt:TT}{te:TE}{N':List Str}{nt:Nat}{ix:List Nat}
  (hc:X.calm=true) (S:o6 X scope N' nt ix) (lo:S4 nt g) (hi:PI X tg iter wi)
  (hb:∀ cl C s₀ H₀ ex pn,PG (cS X N' scope cl C s₀ H₀ ex pn) tg g/\Pt (cS X N' scope cl C s₀ H₀ ex pn) ifs tt/\PE (cS X N' scope cl C s₀ H₀ ex pn) elt te)
  (hs:∀ x,eB iter X.env x=pure x:=by intro _;rfl):PE X (.SetComp elt [⟨tg,iter,ifs,0⟩] scope pos) (Nf X.w nt ix wi g tt te):=by
 intro pins s σ H Q I h
 obtain ⟨cl,hcl,c1,c2⟩:=tO (scope:=scope) (env:=X.env) fun y hy hf=>I.ok.has y.1 (S.free y hy hf)
 show aq _ _ (comprehension (.SetComp elt [⟨tg,iter,ifs,0⟩] scope pos) scope X.env (firstIterPos [⟨tg,iter,ifs,0⟩] pos) (newSet (.type "set")) (firstAsync [⟨tg,iter,ifs,0⟩]) (firstIter [⟨tg,iter,ifs,0⟩] X.env)) _ _ _
 refine qM (use:=none) rfl hs hcl S.kind S.loc (fm (hi pins s σ H _ I h) fun v s1 h1=>fm h1 fun itv s2 h2=>?_)
 obtain ⟨it,fp,tn,J,H2,e,I2,T,st2,f2,W,w0,turn⟩:=h2
 subst e
 refine KR (RR:=fun acc C=>compPost (aL X.prog X.w) X.A X.xe none (EP X pins σ Q) acc C) hc S lo hb c1 c2 I2 T st2 f2 w0 turn ?_
 intro D C m s' acc H' hD _ q hn hI
 exact ⟨m,hn,fun h' sb=>⟨.ref D,_,hI h' sb,rfl,q⟩⟩
section
variable {X:Cx}
theorem AI:jb X (.builtin "len") (fun xs H Q=>∃ p ss,xs=[.ref p]/\H p=some (ll X.w p ss)/\Q (.int ss.length) H):=by
 intro pins s σ H xs us Q I r h
 obtain ⟨p,ss,rfl,hq,q⟩:=h
 obtain ⟨u,rfl,rx⟩:=kF r
 cases rx
 obtain ⟨es,ep,t,is,pm⟩:=(show db X.prog X.w H s.heap p (ll X.w p ss) from I.hok p _ hq).1
 have hlen:es.size=ss.length:=by rw [<- pm.length_eq,al,av]
 have hsm:(es.size:Int)<2 ^ 63:=by
  have h1:=is.few
  have h2:iO<=2 ^ 62:=by decide
  omega
 refine Bf kind_len plain_len entry_len (args_len1 _) (wpAny_len_body_set is.at_ ⟨rfl,rfl,rfl⟩ rfl is.fits hsm ?_)
 refine ⟨.int _,H,I.tok _,⟨_,rfl⟩,?_⟩
 rw [hlen];exact q
end
end
end L2
section
namespace L2
open PySem PySem.Spec PyProof.Rows
section
variable {K:a8}{nt:Nat}{ix:List Nat}{te:TE}{σ:St}{H1:Hp}{Q:VK}{a:ah}{xs:List V}{i:Nat}
end
end L2
namespace L2
open PySem PySem.Spec PyProof.Rows
def I_ (so:eT) (N:List Str) (scope:eT) (N':List Str) (nt:Nat) (ix:List Nat):Bool :=
 (scope.kind == .function) && (scope.names.all fun y=>y.2 != .cell || scope.names.lookup y.1 == some .cell) && (scope.names.all fun y=>y.2 != .local || scope.names.lookup y.1 == some .local) &&
 (scope.names.all fun y=>y.2 != .free || so.names.lookup y.1 == some .cell || so.names.lookup y.1 == some .free) &&
 ((bv ix.length).all fun k=>match ix[k]? with
  | none=>false
  | some i=>match N[i]? with
   | none=>false
   | some x=>N'[nt + k]? == some x && scope.names.lookup x == some .free) && (N'.length == nt + ix.length)
theorem bK {X:Cx}{so:eT}{N:List Str}{scope:eT}{N':List Str}{nt:Nat}{ix:List Nat} (h:I_ so N scope N' nt ix=true) (h1:X.env.scope=so:=by rfl) (h2:X.N=N:=by rfl):o6 X scope N' nt ix:=by
 unfold I_ at h
 simp only [aT,b_] at h
 obtain ⟨⟨⟨⟨⟨a,b⟩,c⟩,d⟩,e⟩,l⟩:=h
 refine ⟨by simpa using a,fun y hy z=>?_,fun y hy z=>?_,fun y hy z=>?_,fun k i hk=>?_,by simpa using l⟩
 ·have:=b y hy;simpa [z] using this
 ·have:=c y hy;simpa [z] using this
 ·have:=d y hy
  rw [h1]
  simpa [z] using this
 ·have hl:k<ix.length:=(List.getElem?_eq_some_iff.mp hk).1
  have:=e k (List.mem_range.mpr hl)
  rw [hk] at this
  rw [h2]
  simp only at this
  split at this
  ·cases this
  ·rename_i x hx
   simp only [aT] at this
   exact ⟨x,hx,by simpa using this.1,by simpa using this.2⟩
end L2
end
namespace L2
open PySem PySem.Spec PyProof.Rows
section
section
variable {K:a8}{nt:Nat}{ix:List Nat}{te:TE}{σ:St}{H1:Hp}{Q:VK}{a b:ah}{xs ys:List V}{i k:Nat}
end
end
end L2
namespace J
open PySem L2
section
abbrev D:=qO
inductive R (α:Type) where
 | ok (a:α)
 | ex (c:Str) (n:Option D)
 | no
def R.bind {α β:Type}:R α->(α->R β)->R β
 | .ok a,f=>f a
 | .ex c n,_=>.ex c n
 | .no,_=>.no
@[simp] theorem bind_ok {α β:Type} (a:α) (f:α->R β):(R.ok a).bind f=f a:=rfl
@[simp] theorem bind_ex {α β:Type} (c:Str) (n:Option D) (f:α->R β):(R.ex c n).bind f=.ex c n:=rfl
@[simp] theorem bind_no {α β:Type} (f:α->R β):(R.no:R α).bind f=.no:=rfl
def kD:cR->D
 | .inl i=>.int i
 | .inr x=>.str x
def tD (ks:List cR):D:=.tuple (ks.map kD)
mutual
inductive RD (K:a8) (H:Hp):V->D->Prop
 | none:RD K H .non .none
 | bool (b:Bool):RD K H (.bl b) (.bool b)
 | int (i:Int):RD K H (.int i) (.int i)
 | str (x:Str):RD K H (.str x) (.str x)
 | list {a:ah}{xs:List V}{ds:List D}:lZ K H a xs->RDs K H xs ds->RD K H (.ref a) (.list ds)
 | tuple {a:ah}{xs:List V}{ds:List D}:H a=some (.tup xs)->RDs K H xs ds->RD K H (.ref a) (.tuple ds)
 | dictK {a:ah}{kvs:List (cR×V)}{ds:List (D×D)}:H a=some (.dK kvs)->RDk K H kvs ds->RD K H (.ref a) (.dict ds)
 | dictT {a:ah}{kvs:List (List cR×V)}{ds:List (D×D)}:H a=some (.dT kvs)->kvs≠[]->RDt K H kvs ds->RD K H (.ref a) (.dict ds)
 | dictF {a:ah}{o:Obj}{kvs:List (List cR×V)}{ds:List (D×D)}:H a=some (.frz o (.dT kvs))->kvs≠[]->RDt K H kvs ds->RD K H (.ref a) (.dict ((.none,.none)::ds))
inductive RDs (K:a8) (H:Hp):List V->List D->Prop
 | nil:RDs K H [] []
 | cons {x:V}{xs:List V}{d:D}{ds:List D}:RD K H x d->RDs K H xs ds->RDs K H (x::xs) (d::ds)
inductive RDk (K:a8) (H:Hp):List (cR×V)->List (D×D)->Prop
 | nil:RDk K H [] []
 | cons {k:cR}{x:V}{xs:List (cR×V)}{d:D}{ds:List (D×D)}:RD K H x d->RDk K H xs ds->RDk K H ((k,x)::xs) ((kD k,d)::ds)
inductive RDt (K:a8) (H:Hp):List (List cR×V)->List (D×D)->Prop
 | nil:RDt K H [] []
 | cons {k:List cR}{x:V}{xs:List (List cR×V)}{d:D}{ds:List (D×D)}:RD K H x d->RDt K H xs ds->RDt K H ((k,x)::xs) ((tD k,d)::ds)
end
section
variable {K:a8}{H H':Hp}
theorem RD.same (e:dB H H') {v:V}{d:D} (h:RD K H v d):RD K H' v d:=RD.rec (motive_1:=fun v d _=>RD K H' v d) (motive_2:=fun v d _=>RDs K H' v d) (motive_3:=fun v d _=>RDk K H' v d) (motive_4:=fun v d _=>RDt K H' v d) .none .bool .int .str (fun h _ r=>.list (e.seq h) r) (fun h _ r=>.tuple (e _ _ h) r) (fun h _ r=>.dictK (e _ _ h) r) (fun h n _ r=>.dictT (e _ _ h) n r) (fun h n _ r=>.dictF (e _ _ h) n r) .nil (fun _ _ a b=>.cons a b) .nil (fun _ _ a b=>.cons a b) .nil (fun _ _ a b=>.cons a b) h
theorem RDs.same (e:dB H H') {v:List V}{d:List D} (h:RDs K H v d):RDs K H' v d:=RDs.rec (motive_1:=fun v d _=>RD K H' v d) (motive_2:=fun v d _=>RDs K H' v d) (motive_3:=fun v d _=>RDk K H' v d) (motive_4:=fun v d _=>RDt K H' v d) .none .bool .int .str (fun h _ r=>.list (e.seq h) r) (fun h _ r=>.tuple (e _ _ h) r) (fun h _ r=>.dictK (e _ _ h) r) (fun h n _ r=>.dictT (e _ _ h) n r) (fun h n _ r=>.dictF (e _ _ h) n r) .nil (fun _ _ a b=>.cons a b) .nil (fun _ _ a b=>.cons a b) .nil (fun _ _ a b=>.cons a b) h
theorem RDk.same (e:dB H H') {v:List (cR×V)}{d:List (D×D)} (h:RDk K H v d):RDk K H' v d:=RDk.rec (motive_1:=fun v d _=>RD K H' v d) (motive_2:=fun v d _=>RDs K H' v d) (motive_3:=fun v d _=>RDk K H' v d) (motive_4:=fun v d _=>RDt K H' v d) .none .bool .int .str (fun h _ r=>.list (e.seq h) r) (fun h _ r=>.tuple (e _ _ h) r) (fun h _ r=>.dictK (e _ _ h) r) (fun h n _ r=>.dictT (e _ _ h) n r) (fun h n _ r=>.dictF (e _ _ h) n r) .nil (fun _ _ a b=>.cons a b) .nil (fun _ _ a b=>.cons a b) .nil (fun _ _ a b=>.cons a b) h
theorem RDt.same (e:dB H H') {v:List (List cR×V)}{d:List (D×D)} (h:RDt K H v d):RDt K H' v d:=RDt.rec (motive_1:=fun v d _=>RD K H' v d) (motive_2:=fun v d _=>RDs K H' v d) (motive_3:=fun v d _=>RDk K H' v d) (motive_4:=fun v d _=>RDt K H' v d) .none .bool .int .str (fun h _ r=>.list (e.seq h) r) (fun h _ r=>.tuple (e _ _ h) r) (fun h _ r=>.dictK (e _ _ h) r) (fun h n _ r=>.dictT (e _ _ h) n r) (fun h n _ r=>.dictF (e _ _ h) n r) .nil (fun _ _ a b=>.cons a b) .nil (fun _ _ a b=>.cons a b) .nil (fun _ _ a b=>.cons a b) h
mutual
def qI:D->Bool
 | .dict _=>false
 | .list xs=>noDs xs
 | .tuple xs=>noDs xs
 | _=>true
def noDs:List D->Bool
 | []=>true
 | x::r=>qI x && noDs r
end
theorem VA {a b:Bool} (h:(a && b)=true):a=true:=(Bool.and_eq_true_iff.mp h).1
theorem VB {a b:Bool} (h:(a && b)=true):b=true:=(Bool.and_eq_true_iff.mp h).2
theorem RD.rep {v:V}{d:D} (h:RD K H v d):qI d=true->Hh K H v d:=RD.rec (motive_1:=fun v d _=>qI d=true->Hh K H v d) (motive_2:=fun v d _=>noDs d=true->Reps K H v d) (motive_3:=fun _ _ _=>True) (motive_4:=fun _ _ _=>True) (fun _=>.none) (fun b _=>.bool b) (fun i _=>.int i) (fun x _=>.str x) (fun h _ r e=>.list h (r e)) (fun h _ r e=>.tuple (.of h) (r e)) (fun _ _ _ e=>kW e) (fun _ _ _ _ e=>kW e) (fun _ _ _ _ e=>kW e) (fun _=>.nil) (fun _ _ a b e=>.cons (a (VA e)) (b (VB e))) trivial (fun _ _ _ _=>trivial) trivial (fun _ _ _ _=>trivial) h
theorem RDs.length {vs:List V}:∀ {ds:List D},RDs K H vs ds->vs.length=ds.length:=by
 induction vs with
 | nil=>intro ds h;cases h;rfl
 | cons x r ih=>intro ds h;cases h with | cons a b=>exact congrArg (· + 1) (ih b)
theorem RDs.get {vs:List V}:∀ {ds:List D}{i:Nat}{v:V},RDs K H vs ds->vs[i]?=some v->∃ d,ds[i]?=some d/\RD K H v d:=by
 induction vs with
 | nil=>intro ds i v _ e;cases e
 | cons x r ih =>
  intro ds i v h e
  cases h with
  | cons a b =>
   cases i with
   | zero=>cases e;exact ⟨_,rfl,a⟩
   | succ i=>have q:=ih (i:=i) b e;exact q
theorem RDs.get' {vs:List V}:∀ {ds:List D}{i:Nat}{d:D},RDs K H vs ds->ds[i]?=some d->∃ v,vs[i]?=some v/\RD K H v d:=by
 induction vs with
 | nil=>intro ds i v h e;cases h;cases e
 | cons x r ih =>
  intro ds i v h e
  cases h with
  | cons a b =>
   cases i with
   | zero=>cases e;exact ⟨_,rfl,a⟩
   | succ i=>have q:=ih (i:=i) b e;exact q
theorem RDs.append {vs ws:List V}{es:List D}:∀ {ds:List D},RDs K H vs ds->RDs K H ws es->RDs K H (vs++ws) (ds++es):=by
 induction vs with
 | nil=>intro ds h s;cases h;exact s
 | cons x r ih=>intro ds h s;cases h with | cons a b=>exact .cons a (ih b s)
theorem RDs.drop {vs:List V}:∀ {ds:List D} (n:Nat),RDs K H vs ds->RDs K H (vs.drop n) (ds.drop n):=by
 induction vs with
 | nil=>intro ds n h;cases h;cases n<;>exact .nil
 | cons x r ih =>
  intro ds n h
  cases n with
  | zero=>exact h
  | succ n=>cases h with | cons a b=>exact ih n b
theorem RDs.take {vs:List V}:∀ {ds:List D} (n:Nat),RDs K H vs ds->RDs K H (vs.take n) (ds.take n):=by
 induction vs with
 | nil=>intro ds n h;cases h;cases n<;>exact .nil
 | cons x r ih =>
  intro ds n h
  cases n with
  | zero=>exact .nil
  | succ n=>cases h with | cons a b=>exact .cons a (ih n b)
theorem yS:∀ (ss:List Str),RDs K H (ss.map V.str) (ss.map aQ)
 | []=>.nil
 | x::r=>.cons (.str x) (yS r)
theorem RD.str_inv {v:V}{x:Str} (h:RD K H v (.str x)):v=.str x:=by cases h;rfl
theorem RD.bool_inv {v:V}{x:Bool} (h:RD K H v (.bool x)):v=.bl x:=by cases h;rfl
theorem RD.int_inv {v:V}{x:Int} (h:RD K H v (.int x)):v=.int x:=by cases h;rfl
theorem x_ {α:Type}{c:α->D}{k:α->V} (hc:∀ {v x},RD K H v (c x)->v=k x) {ss:List α}:∀ {vs:List V},RDs K H vs (ss.map c)->vs=ss.map k:=by
 induction ss with
 | nil=>intro vs h;cases h;rfl
 | cons x r ih=>intro vs h;cases h with | cons a b=>rw [hc a,ih b];rfl
theorem pc {ss:List Str}{vs:List V}:RDs K H vs (ss.map aQ)->vs=ss.map V.str:=x_ RD.str_inv
theorem AJ {ss:List Bool}{vs:List V}:RDs K H vs (ss.map cu)->vs=ss.map V.bl:=x_ RD.bool_inv
theorem CN {ss:List Int}{vs:List V}:RDs K H vs (ss.map cm)->vs=ss.map V.int:=x_ RD.int_inv
end
def nt:HO->Bool
 | .tup _=>false
 | _=>true
structure cT (H Hs H' Hs':Hp):Prop where
 all:dB H H'
 sh:dB Hs Hs'
 sub:dB Hs' H'
 out:∀ a o,H a=some o->nt o=true->Hs a=none->Hs' a=none
theorem cT.refl {H Hs:Hp} (h:dB Hs H):cT H Hs H Hs:=⟨.refl _,.refl _,h,fun _ _ _ _ e=>e⟩
theorem cT.trans {H Hs H1 Hs1 H2 Hs2:Hp} (a:cT H Hs H1 Hs1) (b:cT H1 Hs1 H2 Hs2):cT H Hs H2 Hs2 :=
 ⟨a.all.trans b.all,a.sh.trans b.sh,b.sub,fun c o e t n=>b.out c o (a.all c o e) t (a.out c o e t n)⟩
theorem cT.new {H Hs:Hp}{p:ah}{o:HO} (h:dB Hs H) (n:H p=none):cT H Hs (upd H p o) (upd Hs p o):=by
 have n':Hs p=none:=h.free n
 refine ⟨iY n,iY n',fun b u e=>?_,fun a u e t z=>?_⟩
 ·by_cases hb:b=p
  ·subst hb;rw [aW] at e ⊢;exact e
  ·rw [aS hb] at e ⊢;exact h b u e
 ·rw [aS (bj e n)];exact z
theorem cT.mine {H Hs:Hp}{p:ah}{o:HO} (h:dB Hs H) (n:H p=none):cT H Hs (upd H p o) Hs:=by
 refine ⟨iY n,.refl _,fun b u e=>?_,fun a u e t z=>z⟩
 have e':=h b u e
 rw [aS (bj e' n)];exact e'
inductive mV (K:a8) (Hs:Hp):HO->D->Prop
 | lst {vs:List V}{ds:List D}:RDs K Hs vs ds->mV K Hs (.lst vs) (.list ds)
 | dK {kvs:List (cR×V)}{ds:List (D×D)}:RDk K Hs kvs ds->mV K Hs (.dK kvs) (.dict ds)
 | dT {kvs:List (List cR×V)}{ds:List (D×D)}:kvs≠[]->RDt K Hs kvs ds->mV K Hs (.dT kvs) (.dict ds)
 | dF {o:Obj}{kvs:List (List cR×V)}{ds:List (D×D)}:kvs≠[]->RDt K Hs kvs ds->mV K Hs (.frz o (.dT kvs)) (.dict ((.none,.none)::ds))
theorem mV.same {K:a8}{Hs Hs':Hp}{o:HO}{d:D} (e:dB Hs Hs') (h:mV K Hs o d):mV K Hs' o d:=by
 cases h with
 | lst r=>exact .lst (r.same e)
 | dK r=>exact .dK (r.same e)
 | dT n r=>exact .dT n (r.same e)
 | dF n r=>exact .dF n (r.same e)
theorem mV.nt {K:a8}{Hs:Hp}{o:HO}{d:D} (h:mV K Hs o d):J.nt o=true:=by cases h<;>rfl
theorem mV.share {K:a8}{Hs:Hp}{o:HO}{d:D}{a:ah} (n:Hs a=none) (h:mV K Hs o d):RD K (upd Hs a o) (.ref a) d:=by
 have e:dB Hs (upd Hs a o):=iY n
 cases h with
 | lst r=>exact .list (.of aW) (r.same e)
 | dK r=>exact .dictK aW (r.same e)
 | dT n r=>exact .dictT aW n (r.same e)
 | dF n r=>exact .dictF aW n (r.same e)
inductive Sl where
 | no
 | shr (d:D)
 | own (d:D)
 | lck (d:D)
 | ow2 (dss:List (List D))
abbrev au:=List Sl
inductive BB (K:a8) (H Hs:Hp):List ah->List (List D)->Prop
 | nil:BB K H Hs [] []
 | cons {a:ah}{as:List ah}{vs:List V}{ds:List D}{dss:List (List D)}:H a=some (.lst vs)->RDs K Hs vs ds->BB K H Hs as dss->BB K H Hs (a::as) (ds::dss)
theorem BB.step {K:a8}{H Hs H' Hs':Hp} (e:dB H H') (e':dB Hs Hs') {as:List ah}{dss:List (List D)} (h:BB K H Hs as dss):BB K H' Hs' as dss:=by
 induction h with
 | nil=>exact .nil
 | cons h r t ih=>exact .cons (e _ _ h) (r.same e') ih
theorem BB.upd {K:a8}{H Hs:Hp}{b:ah}{o:HO}{as:List ah}{dss:List (List D)} (n:b∉as) (h:BB K H Hs as dss):BB K (upd H b o) Hs as dss:=by
 induction h with
 | nil=>exact .nil
 | cons h r t ih=>exact .cons (by rw [aS (fun z=>n (by rw [<- z];exact ao))];exact h) r (ih fun z=>n (am _ z))
theorem BB.there {K:a8}{H Hs:Hp}{b:ah}{as:List ah}{dss:List (List D)} (h:BB K H Hs as dss) (hb:b∈as):∃ o,H b=some o/\nt o=true:=by
 induction h with
 | nil=>cases hb
 | cons h r t ih =>
  rcases List.mem_cons.mp hb with e | hb
  ·exact ⟨_,e ▸ h,rfl⟩
  ·exact ih hb
structure O2 (K:a8) (H0 H Hs:Hp) (ρ:au) (σ:St) (i:Nat) (dss:List (List D)) (a:ah) (as:List ah):Prop where
 at_:σ[i]?=some (some (V.ref a))
 ob:H a=some (.lst (as.map V.ref))
 nd:(a::as).Nodup
 out:∀ b∈a::as,Hs b=none/\H0 b=none
 dj:∀ b∈a::as,∀ (j:Nat) (e:D),ρ[j]?=some (Sl.own e)->σ[j]?≠some (some (V.ref b))
 inn:BB K H Hs as dss
structure Fr (K:a8) (H0 Hs0:Hp) (la:Nat->Option ah) (ρ:au) (σ:St) (H Hs:Hp):Prop where
 st:cT H0 Hs0 H Hs
 len:ρ.length=σ.length
 sh:∀ (i:Nat) (d:D),ρ[i]?=some (Sl.shr d)->∃ v,σ[i]?=some (some v)/\RD K Hs v d
 ow:∀ (i:Nat) (d:D),ρ[i]?=some (Sl.own d)->∃ a o,σ[i]?=some (some (V.ref a))/\H a=some o/\Hs a=none/\H0 a=none/\mV K Hs o d
 lk:∀ (i:Nat) (d:D),ρ[i]?=some (Sl.lck d)->∃ a o,σ[i]?=some (some (V.ref a))/\la i=some a/\H a=some o/\Hs a=none/\H0 a=some o/\mV K Hs o d
 dj:∀ (i j:Nat) (d e:D) (a:ah),ρ[i]?=some (Sl.own d)->ρ[j]?=some (Sl.own e)->σ[i]?=some (some (V.ref a))->σ[j]?=some (some (V.ref a))->i=j
 lh:∀ (i:Nat) (a:ah),la i=some a->∃ o,H0 a=some o
 o2:∀ (i:Nat) (dss:List (List D)),ρ[i]?=some (Sl.ow2 dss)->∃ a as,O2 K H0 H Hs ρ σ i dss a as
 u2:∀ (i j:Nat) (d e:List (List D)),ρ[i]?=some (Sl.ow2 d)->ρ[j]?=some (Sl.ow2 e)->i=j
theorem Fr.step {K:a8}{H0 Hs0 H Hs H' Hs':Hp}{la:Nat->Option ah}{ρ:au}{σ:St} (f:Fr K H0 Hs0 la ρ σ H Hs) (s:cT H Hs H' Hs'):Fr K H0 Hs0 la ρ σ H' Hs':=by
 refine ⟨f.st.trans s,f.len,fun i d e=>?_,fun i d e=>?_,fun i d e=>?_,f.dj,f.lh,fun i dss e=>?_,f.u2⟩
 ·obtain ⟨v,h1,h2⟩:=f.sh i d e
  exact ⟨v,h1,h2.same s.sh⟩
 ·obtain ⟨a,o,h1,h2,h3,h4,h5⟩:=f.ow i d e
  exact ⟨a,o,h1,s.all _ _ h2,s.out _ _ h2 h5.nt h3,h4,h5.same s.sh⟩
 ·obtain ⟨a,o,h1,h2,h3,h4,h5,h6⟩:=f.lk i d e
  exact ⟨a,o,h1,h2,s.all _ _ h3,s.out _ _ h3 h6.nt h4,h5,h6.same s.sh⟩
 ·obtain ⟨a,as,h⟩:=f.o2 i dss e
  refine ⟨a,as,h.at_,s.all _ _ h.ob,h.nd,fun b hb=>⟨?_,(h.out b hb).2⟩,h.dj,h.inn.step s.all s.sh⟩
  have there:∃ o,H b=some o/\nt o=true:=by
   rcases List.mem_cons.mp hb with rfl | hb
   ·exact ⟨_,h.ob,rfl⟩
   ·exact h.inn.there hb
  obtain ⟨o,ho,hn⟩:=there
  exact s.out b o ho hn (h.out b (by assumption)).1
inductive VC (K:a8) (H Hs:Hp) (v:V) (d:D):Prop
 | mk (a:ah) (o:HO) (h0:v=.ref a) (h1:H a=some o) (h2:Hs a=none) (h3:mV K Hs o d):VC K H Hs v d
def RB (K:a8) (H Hs:Hp) (v:V) (d:D):Prop:=RD K Hs v d\/VC K H Hs v d
theorem RB.step {K:a8}{H Hs H' Hs':Hp}{v:V}{d:D} (h:RB K H Hs v d) (s:cT H Hs H' Hs'):RB K H' Hs' v d:=by
 rcases h with h | ⟨a,o,h1,h2,h3,h4⟩
 ·exact .inl (h.same s.sh)
 ·exact .inr ⟨a,o,h1,s.all _ _ h2,s.out _ _ h2 h4.nt h3,h4.same s.sh⟩
theorem RB.full {K:a8}{H Hs:Hp}{v:V}{d:D} (sub:dB Hs H) (h:RB K H Hs v d):RD K H v d:=by
 rcases h with h | ⟨a,o,rfl,h2,h3,h4⟩
 ·exact h.same sub
 ·have e:dB (upd Hs a o) H:=fun b u q=>by
   by_cases hb:b=a
   ·subst hb;rw [aW] at q;cases q;exact h2
   ·rw [aS hb] at q;exact sub b u q
  exact (h4.share h3).same e
theorem RB.list {K:a8}{H Hs:Hp}{v:V}{ds:List D} (sub:dB Hs H) (h:RB K H Hs v (.list ds)):∃ a vs,v=.ref a/\lZ K H a vs/\RDs K Hs vs ds:=by
 rcases h with h | ⟨a,o,rfl,h2,h3,h4⟩
 ·cases h with | list q r=>exact ⟨_,_,rfl,sub.seq q,r⟩
 ·cases h4 with | lst r=>exact ⟨a,_,rfl,.of h2,r⟩
theorem RB.tuple {K:a8}{H Hs:Hp}{v:V}{ds:List D} (sub:dB Hs H) (h:RB K H Hs v (.tuple ds)):∃ a vs,v=.ref a/\kE K H a vs/\RDs K Hs vs ds/\Hs a=some (.tup vs):=by
 rcases h with h | ⟨a,o,rfl,h2,h3,h4⟩
 ·cases h with | tuple q r=>exact ⟨_,_,rfl,.of (sub _ _ q),r,q⟩
 ·cases h4
theorem RB.str {K:a8}{H Hs:Hp}{v:V}{x:Str} (h:RB K H Hs v (.str x)):v=.str x:=by
 rcases h with h | ⟨a,o,rfl,h2,h3,h4⟩
 ·exact h.str_inv
 ·cases h4
theorem RB.int {K:a8}{H Hs:Hp}{v:V}{i:Int} (h:RB K H Hs v (.int i)):v=.int i:=by
 rcases h with h | ⟨a,o,rfl,h2,h3,h4⟩
 ·exact h.int_inv
 ·cases h4
theorem RB.non {K:a8}{H Hs:Hp}{v:V} (h:RB K H Hs v .none):v=.non:=by
 rcases h with h | ⟨a,o,rfl,h2,h3,h4⟩
 ·cases h;rfl
 ·cases h4
def XW (K:a8) (cls:Str->ah) (E:XK) (c:Str) (n:Option D) (H Hs:Hp):Prop:=match n with
 | none=>E (.ref (cls c)) none H
 | some d=>∀ dx v,H dx=some (.xd [("number",v)])->RD K Hs v d->E (.ref (cls c)) (some dx) H
def Fin {α:Type} (K:a8) (cls:Str->ah) (E:XK) (H Hs:Hp) (r:R α) (q:α->Prop):Prop:=match r with
 | .ok d=>q d
 | .ex c n=>∀ H' Hs',cT H Hs H' Hs'->XW K cls E c n H' Hs'
 | .no=>False
inductive Yy (K:a8) (cls:Str->ah) (E:XK) (ρ:au) (r:R D) (σ:St) (H:Hp) (Q:VK):Prop
 | mk (H0 Hs0:Hp) (la:Nat->Option ah) (Hs:Hp) (f:Fr K H0 Hs0 la ρ σ H Hs) (q:Fin K cls E H Hs r fun d=>∀ v H' Hs',cT H Hs H' Hs'->RD K Hs' v d->Q v H'):Yy K cls E ρ r σ H Q
def TR (K:a8) (cls:Str->ah) (E:XK) (ρ:au) (r:R D):TE:=Yy K cls E ρ r
inductive Yz (K:a8) (cls:Str->ah) (E:XK) (ρ:au) (r:R D) (σ:St) (H:Hp) (Q:VK):Prop
 | mk (H0 Hs0:Hp) (la:Nat->Option ah) (Hs:Hp) (f:Fr K H0 Hs0 la ρ σ H Hs) (q:Fin K cls E H Hs r fun d=>∀ v H' Hs',cT H Hs H' Hs'->RB K H' Hs' v d->Q v H'):Yz K cls E ρ r σ H Q
def TB (K:a8) (cls:Str->ah) (E:XK) (ρ:au) (r:R D):TE:=Yz K cls E ρ r
inductive VD (K:a8) (cls:Str->ah) (E:XK) (ρ:au) (r:R Bool) (σ:St) (H:Hp) (Q:Bool->Hp->Prop):Prop
 | mk (H0 Hs0:Hp) (la:Nat->Option ah) (Hs:Hp) (f:Fr K H0 Hs0 la ρ σ H Hs) (q:Fin K cls E H Hs r fun b=>∀ H' Hs',cT H Hs H' Hs'->Q b H'):VD K cls E ρ r σ H Q
def KS (K:a8) (cls:Str->ah) (E:XK) (ρ:au) (r:R Bool):TT:=VD K cls E ρ r
inductive Sc (K:a8) (H Hs:Hp):List V->List D->Prop
 | nil:Sc K H Hs [] []
 | cons {x:V}{xs:List V}{d:D}{ds:List D}:RB K H Hs x d->Sc K H Hs xs ds->Sc K H Hs (x::xs) (d::ds)
inductive VE (K:a8) (cls:Str->ah) (E:XK) (ρ:au) (r:R (List D)) (σ:St) (H:Hp) (Q:List V->Hp->Prop):Prop
 | mk (H0 Hs0:Hp) (la:Nat->Option ah) (Hs:Hp) (f:Fr K H0 Hs0 la ρ σ H Hs) (q:Fin K cls E H Hs r fun d=>∀ v H' Hs',cT H Hs H' Hs'->RDs K Hs' v d->Q v H'):VE K cls E ρ r σ H Q
def VF (K:a8) (cls:Str->ah) (E:XK) (ρ:au) (r:R (List D)):TA:=VE K cls E ρ r
inductive VG (K:a8) (cls:Str->ah) (E:XK) (ρ:au) (r:R (List D)) (σ:St) (H:Hp) (Q:List V->Hp->Prop):Prop
 | mk (H0 Hs0:Hp) (la:Nat->Option ah) (Hs:Hp) (f:Fr K H0 Hs0 la ρ σ H Hs) (q:Fin K cls E H Hs r fun d=>∀ v H' Hs',cT H Hs H' Hs'->Sc K H' Hs' v d->Q v H'):VG K cls E ρ r σ H Q
def X3 (K:a8) (cls:Str->ah) (E:XK) (ρ:au) (r:R (List D)):TA:=VG K cls E ρ r
structure C where
 X:Cx
 cls:Str->ah
 E:XK
structure JE (c:C) (e:a_) (g:au->R D):Prop where of ::
 run:∀ ρ,PE c.X e (TR c.X.K c.cls c.E ρ (g ρ))
instance {c:C}{e:a_}{g:au->R D}:CoeFun (JE c e g) (fun _=>∀ ρ,PE c.X e (TR c.X.K c.cls c.E ρ (g ρ))):=⟨JE.run⟩
structure JB (c:C) (e:a_) (g:au->R D):Prop where of ::
 run:∀ ρ,PE c.X e (TB c.X.K c.cls c.E ρ (g ρ))
instance {c:C}{e:a_}{g:au->R D}:CoeFun (JB c e g) (fun _=>∀ ρ,PE c.X e (TB c.X.K c.cls c.E ρ (g ρ))):=⟨JB.run⟩
structure JT (c:C) (e:a_) (g:au->R Bool):Prop where of ::
 run:∀ ρ,PT c.X e (KS c.X.K c.cls c.E ρ (g ρ))
instance {c:C}{e:a_}{g:au->R Bool}:CoeFun (JT c e g) (fun _=>∀ ρ,PT c.X e (KS c.X.K c.cls c.E ρ (g ρ))):=⟨JT.run⟩
structure JW (c:C) (e:a_) (g:au->R Bool):Prop where of ::
 run:∀ ρ,PW c.X e (KS c.X.K c.cls c.E ρ (g ρ))
instance {c:C}{e:a_}{g:au->R Bool}:CoeFun (JW c e g) (fun _=>∀ ρ,PW c.X e (KS c.X.K c.cls c.E ρ (g ρ))):=⟨JW.run⟩
structure DV (c:C) (es:List a_) (g:au->R (List D)):Prop where of ::
 run:∀ ρ,PA c.X es (VF c.X.K c.cls c.E ρ (g ρ))
instance {c:C}{es:List a_}{g:au->R (List D)}:CoeFun (DV c es g) (fun _=>∀ ρ,PA c.X es (VF c.X.K c.cls c.E ρ (g ρ))):=⟨DV.run⟩
structure Sd (c:C) (es:List a_) (g:au->R (List D)):Prop where of ::
 run:∀ ρ,PA c.X es (X3 c.X.K c.cls c.E ρ (g ρ))
instance {c:C}{es:List a_}{g:au->R (List D)}:CoeFun (Sd c es g) (fun _=>∀ ρ,PA c.X es (X3 c.X.K c.cls c.E ρ (g ρ))):=⟨Sd.run⟩
section
variable {c:C}{e a b:a_}{g ga gb:au->R D}{pos:Pos}
theorem qA {X:Cx}{e:a_}{t t':TE} (h:PE X e t) (m:∀ σ H Q,t' σ H Q->t σ H Q):PE X e t':=fun pins s σ H Q I q=>h pins s σ H Q I (m σ H Q q)
theorem VH {X:Cx}{e:a_}{t t':TT} (h:PT X e t) (m:∀ σ H Q,t' σ H Q->t σ H Q):PT X e t':=fun pins s σ H Q I q=>h pins s σ H Q I (m σ H Q q)
theorem YA {X:Cx}{e:a_}{t t':TT} (h:PW X e t) (m:∀ σ H Q,t' σ H Q->t σ H Q):PW X e t':=fun wh pins s σ H Q I q=>h wh pins s σ H Q I (m σ H Q q)
theorem X4 {X:Cx}{e:List a_}{t t':TA} (h:PA X e t) (m:∀ σ H Q,t' σ H Q->t σ H Q):PA X e t':=fun pos pins s σ H Q I q=>h pos pins s σ H Q I (m σ H Q q)
theorem y0 {X:Cx}{e:cp}{t t':TS} (h:PS X e t) (m:∀ D σ H,t' D σ H->t D σ H):PS X e t':=fun pins s σ H Q I q=>h pins s σ H Q I (m Q σ H q)
theorem Y2 {X:Cx}{e:List cp}{t t':TS} (h:AB X e t) (m:∀ D σ H,t' D σ H->t D σ H):AB X e t':=fun pins s σ H Q I q=>h pins s σ H Q I (m Q σ H q)
theorem JE.bor (h:JE c e g):JB c e g:=.of fun ρ=>qA (h ρ) fun σ H Q ⟨H0,Hs0,la,Hs,f,q⟩=>⟨H0,Hs0,la,Hs,f,by
 cases hr:g ρ with
 | ok d=>rw [hr] at q;exact fun v H' Hs' s r=>q v H' Hs' s (.inl r)
 | ex c n=>rw [hr] at q;exact q
 | no=>rw [hr] at q;exact q⟩
theorem one {K:a8}{cls:Str->ah}{E:XK}{ρ:au}{r:R D}{β:Type}{k:D->R β}{σ:St}{H:Hp}{H0 Hs0 Hs:Hp}{la:Nat->Option ah}{Q:V->Hp->Prop}{q:β->Prop} (f:Fr K H0 Hs0 la ρ σ H Hs)
  (h:Fin K cls E H Hs (r.bind k) q) (m:∀ d v H' Hs',r=.ok d->cT H Hs H' Hs'->Fr K H0 Hs0 la ρ σ H' Hs'->RB K H' Hs' v d->Q v H'):TB K cls E ρ r σ H Q:=by
 refine ⟨H0,Hs0,la,Hs,f,?_⟩
 cases r with
 | ok d=>exact fun v H' Hs' s r=>m d v H' Hs' rfl s (f.step s) r
 | ex c n=>exact h
 | no=>exact h
theorem yT {K:a8}{cls:Str->ah}{E:XK}{ρ:au}{r:R D}{β:Type}{k:D->R β}{σ:St}{H:Hp}{H0 Hs0 Hs:Hp}{la:Nat->Option ah}{Q:V->Hp->Prop}{q:β->Prop} (f:Fr K H0 Hs0 la ρ σ H Hs)
  (h:Fin K cls E H Hs (r.bind k) q) (m:∀ d v H' Hs',r=.ok d->cT H Hs H' Hs'->Fr K H0 Hs0 la ρ σ H' Hs'->RD K Hs' v d->Q v H'):TR K cls E ρ r σ H Q:=by
 refine ⟨H0,Hs0,la,Hs,f,?_⟩
 cases r with
 | ok d=>exact fun v H' Hs' s r=>m d v H' Hs' rfl s (f.step s) r
 | ex c n=>exact h
 | no=>exact h
theorem Hm {K:a8}{cls:Str->ah}{E:XK}{ρ:au}{r:R Bool}{β:Type}{k:Bool->R β}{σ:St}{H:Hp}{H0 Hs0 Hs:Hp}{la:Nat->Option ah}{Q:Bool->Hp->Prop}{q:β->Prop} (f:Fr K H0 Hs0 la ρ σ H Hs)
  (h:Fin K cls E H Hs (r.bind k) q) (m:∀ d H' Hs',r=.ok d->cT H Hs H' Hs'->Fr K H0 Hs0 la ρ σ H' Hs'->Q d H'):KS K cls E ρ r σ H Q:=by
 refine ⟨H0,Hs0,la,Hs,f,?_⟩
 cases r with
 | ok d=>exact fun H' Hs' s=>m d H' Hs' rfl s (f.step s)
 | ex c n=>exact h
 | no=>exact h
theorem AK {K:a8}{cls:Str->ah}{E:XK}{ρ:au}{r:R (List D)}{β:Type}{k:List D->R β}{σ:St}{H:Hp}{H0 Hs0 Hs:Hp}{la:Nat->Option ah}{Q:List V->Hp->Prop}{q:β->Prop} (f:Fr K H0 Hs0 la ρ σ H Hs)
  (h:Fin K cls E H Hs (r.bind k) q) (m:∀ d v H' Hs',r=.ok d->cT H Hs H' Hs'->Fr K H0 Hs0 la ρ σ H' Hs'->RDs K Hs' v d->Q v H'):VF K cls E ρ r σ H Q:=by
 refine ⟨H0,Hs0,la,Hs,f,?_⟩
 cases r with
 | ok d=>exact fun v H' Hs' s r=>m d v H' Hs' rfl s (f.step s) r
 | ex c n=>exact h
 | no=>exact h
theorem Ng {K:a8}{cls:Str->ah}{E:XK}{ρ:au}{r:R (List D)}{β:Type}{k:List D->R β}{σ:St}{H:Hp}{H0 Hs0 Hs:Hp}{la:Nat->Option ah}{Q:List V->Hp->Prop}{q:β->Prop} (f:Fr K H0 Hs0 la ρ σ H Hs)
  (h:Fin K cls E H Hs (r.bind k) q) (m:∀ d v H' Hs',r=.ok d->cT H Hs H' Hs'->Fr K H0 Hs0 la ρ σ H' Hs'->Sc K H' Hs' v d->Q v H'):X3 K cls E ρ r σ H Q:=by
 refine ⟨H0,Hs0,la,Hs,f,?_⟩
 cases r with
 | ok d=>exact fun v H' Hs' s r=>m d v H' Hs' rfl s (f.step s) r
 | ex c n=>exact h
 | no=>exact h
theorem Fin.on {α:Type}{K:a8}{cls:Str->ah}{E:XK}{H Hs H' Hs':Hp}{r:R α}{q q':α->Prop} (h:Fin K cls E H Hs r q) (s:cT H Hs H' Hs') (m:∀ a,q a->q' a):Fin K cls E H' Hs' r q':=by
 cases r with
 | ok a=>exact m a h
 | ex c n=>exact fun H2 Hs2 s2=>h H2 Hs2 (s.trans s2)
 | no=>exact h
end
end
section
def Gm (ρ:au) (i:Nat):R D:=match ρ[i]? with
 | some (Sl.shr d)=>.ok d
 | _=>.no
def Gn (ρ:au) (i:Nat):R D:=match ρ[i]? with
 | some (Sl.shr d)=>.ok d
 | some (Sl.own d)=>.ok d
 | some (Sl.lck d)=>.ok d
 | _=>.no
section
variable {c:C}{e a b:a_}{g ga gb:au->R D}{pos:Pos}
theorem ai (i:Nat) {x:Str} (hN:c.X.N[i]?=some x:=by rfl) (hv:Kr c.X.env.scope x:=by first | exact fv rfl | exact dD (fv rfl) | exact dD (dD rfl)) (hd:(x == ("__debug__" : Str))=false:=by decide)
  (hcd:(x == ("__classdict__" : Str))=false:=by decide):JE c (.Name x pos) (fun ρ=>Gm ρ i):=.of fun ρ=>qA (lY hN hv hd hcd) fun σ H Q h_0=>by
 obtain ⟨H0,Hs0,la,Hs,f,q⟩:=h_0
 cases hr:ρ[i]? with
 | none=>simp only [Gm,hr] at q;exact q.elim
 | some s =>
  cases s with
  | shr d =>
   obtain ⟨v,h1,h2⟩:=f.sh i d hr
   simp only [Gm,hr] at q
   exact ⟨v,h1,q v H Hs (.refl f.st.sub) h2⟩
  | no=>simp only [Gm,hr] at q;exact q.elim
  | own d=>simp only [Gm,hr] at q;exact q.elim
  | lck d=>simp only [Gm,hr] at q;exact q.elim
  | ow2 d=>simp only [Gm,hr] at q;exact q.elim
theorem aj (i:Nat) {x:Str} (hN:c.X.N[i]?=some x:=by rfl) (hv:Kr c.X.env.scope x:=by first | exact fv rfl | exact dD (fv rfl) | exact dD (dD rfl)) (hd:(x == ("__debug__" : Str))=false:=by decide)
  (hcd:(x == ("__classdict__" : Str))=false:=by decide):JB c (.Name x pos) (fun ρ=>Gn ρ i):=.of fun ρ=>qA (lY hN hv hd hcd) fun σ H Q h_1=>by
 obtain ⟨H0,Hs0,la,Hs,f,q⟩:=h_1
 cases hr:ρ[i]? with
 | none=>simp only [Gn,hr] at q;exact q.elim
 | some s =>
  cases s with
  | shr d =>
   obtain ⟨v,h1,h2⟩:=f.sh i d hr
   simp only [Gn,hr] at q
   exact ⟨v,h1,q v H Hs (.refl f.st.sub) (.inl h2)⟩
  | no=>simp only [Gn,hr] at q;exact q.elim
  | own d =>
   obtain ⟨a,o,h1,h2,h3,h4,h5⟩:=f.ow i d hr
   simp only [Gn,hr] at q
   exact ⟨_,h1,q _ H Hs (.refl f.st.sub) (.inr ⟨a,o,rfl,h2,h3,h5⟩)⟩
  | lck d =>
   obtain ⟨a,o,h1,h2,h3,h4,h5,h6⟩:=f.lk i d hr
   simp only [Gn,hr] at q
   exact ⟨_,h1,q _ H Hs (.refl f.st.sub) (.inr ⟨a,o,rfl,h3,h4,h6⟩)⟩
  | ow2 d=>simp only [Gn,hr] at q;exact q.elim
theorem qW {v:V}{d:D} (h:PE c.X e (tC v)) (r:∀ Hs,RD c.X.K Hs v d):JE c e (fun _=>.ok d):=.of fun ρ=>qA h fun σ H Q h_2=>by obtain ⟨H0,Hs0,la,Hs,f,q⟩:=h_2;exact q v H Hs (.refl f.st.sub) (r Hs)
theorem aG {i:Int}{j:Nat}:JE c (.Constant (.int i) j pos) (fun _=>.ok (.int i)):=qW Mg fun _=>.int i
theorem jD {i:Bool}{j:Nat}:JE c (.Constant (.bool i) j pos) (fun _=>.ok (.bool i)):=qW Mh fun _=>.bool i
theorem qX {j:Nat}:JE c (.Constant .none j pos) (fun _=>.ok .none):=qW Td fun _=>.none
theorem pd {i:Str}{j:Nat}:JE c (.Constant (.str i) j pos) (fun _=>.ok (.str i)):=qW Mi fun _=>.str i
theorem v7 {x:Str}{i:Int} (hg:Gl c.X x) (hm:∃ t,c.X.mg x=some (.int i t)) (hd:(x == ("__debug__" : Str))=false:=by decide):JE c (.Name x pos) (fun _=>.ok (.int i)):=by
 obtain ⟨t,hm⟩:=hm
 exact qW (Co hg hm (v:=.int i) ⟨t,rfl⟩ hd) fun _=>.int i
inductive YB (K:a8) (h:D->D->R D) (x:V) (y:V) (H:Hp) (Q:VK):Prop
 | mk (Hs dx dy:_) (h0:dB Hs H) (h1:RB K H Hs x dx) (h2:RB K H Hs y dy) (h3:∃ d,h dx dy=.ok d/\∀ v H' Hs',cT H Hs H' Hs'->RD K Hs' v d->Q v H'):YB K h x y H Q
def rD (K:a8) (h:D->D->R D):R2:=YB K h
def xH (X:Cx) (f:a9->a9->Sem a9) (h:D->D->R D):Prop:=qy X f (rD X.K h)/\∀ x y c n,h x y≠.ex c n
def g2 (ga gb:au->R D) (h:D->D->R D):au->R D:=fun ρ=>(ga ρ).bind fun x=>(gb ρ).bind fun y=>h x y
theorem two {K:a8}{cls:Str->ah}{E:XK}{h:D->D->R D}{ρ:au}{σ:St}{H:Hp}{Q:VK} (hx:∀ x y c n,h x y≠.ex c n) (q:TR K cls E ρ (g2 ga gb h ρ) σ H Q):Ve (rD K h) (TB K cls E ρ (ga ρ)) (TB K cls E ρ (gb ρ)) σ H Q:=by
 obtain ⟨H0,Hs0,la,Hs,f,q⟩:=q
 refine one f q fun x v H1 Hs1 e1 s1 f1 r1=>?_
 unfold g2 at q
 rw [e1,bind_ok] at q
 refine one f1 (q.on s1 (q':=fun _=>True) fun _ _=>trivial) fun y u H2 Hs2 e2 s2 f2 r2=>?_
 rw [e2,bind_ok] at q
 cases hr:h x y with
 | ok d =>
  rw [hr] at q
  exact ⟨Hs2,x,y,f2.st.sub,r1.step s2,r2,d,hr,fun w H3 Hs3 s3 r3=>q w H3 Hs3 (s1.trans (s2.trans s3)) r3⟩
 | ex c n=>exact (hx x y c n hr).elim
 | no=>rw [hr] at q;exact q.elim
theorem bU {op:Operator}{h:D->D->R D} (ho:xH c.X (gm op) h) (ha:JB c a ga) (hb:JB c b gb):JE c (.BinOp a op b pos) (g2 ga gb h):=.of fun ρ=>qA (RT ho.1 (ha ρ) (hb ρ)) fun σ H Q q=>two ho.2 q
theorem m5 {op:xQ}{h:D->D->R D} (ho:xH c.X (bH op) h) (ha:JB c a ga) (hb:JB c b gb) (hm:gY op b=false:=by first | exact GU _ | rfl):JE c (.Compare a [op] [b] pos) (g2 ga gb h):=.of fun ρ=>qA (Qa ho.1 (ha ρ) (hb ρ) hm) fun σ H Q q=>two ho.2 q
def ej (g:au->R D):au->R Bool:=fun ρ=>(g ρ).bind fun d=>match d with
 | .bool b=>.ok b
 | _=>.no
theorem V0 {K:a8}{cls:Str->ah}{E:XK}{ρ:au}{σ:St}{H:Hp}{Q:Bool->Hp->Prop} (q:KS K cls E ρ (ej g ρ) σ H Q):TR K cls E ρ (g ρ) σ H fun x H'=>∃ k,x=.bl k/\Q k H':=by
 obtain ⟨H0,Hs0,la,Hs,f,q⟩:=q
 refine yT f q fun d v H1 Hs1 e1 s1 f1 r1=>?_
 unfold ej at q
 rw [e1,bind_ok] at q
 cases r1 with
 | bool b=>exact ⟨b,rfl,q H1 Hs1 s1⟩
 | _=>exact q.elim
theorem cU {op:xQ}{h:D->D->R D} (ho:xH c.X (bH op) h) (ha:JB c a ga) (hb:JB c b gb) (hm:gY op b=false:=by first | exact GU _ | rfl):JT c (.Compare a [op] [b] pos) (ej (g2 ga gb h)):=.of fun ρ=>VH (IN ho.1 (ha ρ) (hb ρ) hm) fun σ H Q q=>two ho.2 (V0 q)
theorem eF (h:JE c e g) (he:∀ whole,vP e c.X.env whole=(do let v <- whole;wR e.pos;Gd [v] (truthy v)):=by intro _;rfl):JT c e (ej g):=.of fun ρ=>VH (Mk (h ρ) he) fun σ H Q q=>V0 q
def jP (g:au->R Bool):au->R Bool:=fun ρ=>(g ρ).bind fun b=>.ok (!b)
def wo (g h:au->R Bool):au->R Bool:=fun ρ=>(g ρ).bind fun b=>if b then h ρ else .ok false
def LW (g h:au->R Bool):au->R Bool:=fun ρ=>(g ρ).bind fun b=>if b then .ok true else h ρ
variable {gt gu:au->R Bool}{bX:List a_}
theorem fX (h:JT c e gt):JT c (.UnaryOp .Not e pos) (jP gt):=.of fun ρ=>VH (Mm (h ρ)) fun σ H Q q=>by
 obtain ⟨H0,Hs0,la,Hs,f,q⟩:=q
 refine Hm f q fun d H1 Hs1 e1 s1 f1=>?_
 unfold jP at q
 rw [e1,bind_ok] at q
 exact q H1 Hs1 s1
theorem v8 (h:JT c a gt):JW c (.BoolOp .And [a] pos) gt:=.of fun ρ=>Q4 (h ρ)
theorem pf (h:JT c a gt):JW c (.BoolOp .Or [a] pos) gt:=.of fun ρ=>Ml (h ρ)
theorem wp (h:JT c a gt) (h2:JW c (.BoolOp .And (b::bX) pos) gu):JW c (.BoolOp .And (a::b::bX) pos) (wo gt gu):=.of fun ρ=>YA (Te (h ρ) (h2 ρ)) fun σ H Q q=>by
 obtain ⟨H0,Hs0,la,Hs,f,q⟩:=q
 refine Hm f q fun d H1 Hs1 e1 s1 f1=>?_
 unfold wo at q
 rw [e1,bind_ok] at q
 cases d with
 | true=>exact AD ⟨H0,Hs0,la,Hs1,f1,q.on s1 fun b k H2 Hs2 s2=>k H2 Hs2 (s1.trans s2)⟩
 | false=>exact xD (q H1 Hs1 s1)
theorem v9 (h:JT c a gt) (h2:JW c (.BoolOp .Or (b::bX) pos) gu):JW c (.BoolOp .Or (a::b::bX) pos) (LW gt gu):=.of fun ρ=>YA (RO (h ρ) (h2 ρ)) fun σ H Q q=>by
 obtain ⟨H0,Hs0,la,Hs,f,q⟩:=q
 refine Hm f q fun d H1 Hs1 e1 s1 f1=>?_
 unfold LW at q
 rw [e1,bind_ok] at q
 cases d with
 | false=>exact xD ⟨H0,Hs0,la,Hs1,f1,q.on s1 fun b k H2 Hs2 s2=>k H2 Hs2 (s1.trans s2)⟩
 | true=>exact AD (q H1 Hs1 s1)
theorem JW.t (h:JW c e gt):JT c e gt:=.of fun ρ=>(h ρ).pt
def yU (g:au->R D):au->R D:=fun ρ=>(ej g ρ).bind fun b=>.ok (.bool (!b))
theorem CO (h:JE c e g):JE c (.UnaryOp .Not e pos) (yU g):=.of fun ρ=>qA (Th (h ρ)) fun σ H Q q=>by
 refine V0 ?_
 obtain ⟨H0,Hs0,la,Hs,f,q⟩:=q
 refine Hm f q fun d H1 Hs1 e1 s1 f1=>?_
 unfold yU at q
 rw [e1,bind_ok] at q
 exact q _ H1 Hs1 s1 (.bool _)
def tf (g h:au->R D):au->R D:=fun ρ=>(ej g ρ).bind fun b=>if b then h ρ else .ok (.bool false)
def QA (g h:au->R D):au->R D:=fun ρ=>(ej g ρ).bind fun b=>if b then .ok (.bool true) else h ρ
theorem tT {op:BoolOp} (h:JE c a g):JE c (.BoolOp op [a] pos) g:=.of fun ρ=>Tf (h ρ)
theorem tU (h:JE c a ga) (h2:JE c (.BoolOp .And (b::bX) pos) gb):JE c (.BoolOp .And (a::b::bX) pos) (tf ga gb):=.of fun ρ=>qA (Tg (h ρ) (h2 ρ)) fun σ H Q q=>by
 refine V0 ?_
 obtain ⟨H0,Hs0,la,Hs,f,q⟩:=q
 refine Hm f q fun d H1 Hs1 e1 s1 f1=>?_
 unfold tf at q
 rw [e1,bind_ok] at q
 cases d with
 | true=>exact AD ⟨H0,Hs0,la,Hs1,f1,q.on s1 fun b k v H2 Hs2 s2 r2=>k v H2 Hs2 (s1.trans s2) r2⟩
 | false=>exact xD (q _ H1 Hs1 s1 (.bool _))
theorem VI (h:JE c a ga) (h2:JE c (.BoolOp .Or (b::bX) pos) gb):JE c (.BoolOp .Or (a::b::bX) pos) (QA ga gb):=.of fun ρ=>qA (V7 (h ρ) (h2 ρ)) fun σ H Q q=>by
 refine V0 ?_
 obtain ⟨H0,Hs0,la,Hs,f,q⟩:=q
 refine Hm f q fun d H1 Hs1 e1 s1 f1=>?_
 unfold QA at q
 rw [e1,bind_ok] at q
 cases d with
 | false=>exact xD ⟨H0,Hs0,la,Hs1,f1,q.on s1 fun b k v H2 Hs2 s2 r2=>k v H2 Hs2 (s1.trans s2) r2⟩
 | true=>exact AD (q _ H1 Hs1 s1 (.bool _))
def X5 (t:au->R Bool) (g h:au->R D):au->R D:=fun ρ=>(t ρ).bind fun b=>if b then g ρ else h ρ
theorem VJ {t:a_} (ht:JT c t gt) (ha:JE c a ga) (hb:JE c b gb):JE c (.IfExp t a b pos) (X5 gt ga gb):=.of fun ρ=>qA (Mn (ht ρ) (ha ρ) (hb ρ)) fun σ H Q q=>by
 obtain ⟨H0,Hs0,la,Hs,f,q⟩:=q
 refine Hm f q fun d H1 Hs1 e1 s1 f1=>?_
 unfold X5 at q
 rw [e1,bind_ok] at q
 cases d with
 | true=>exact AD ⟨H0,Hs0,la,Hs1,f1,q.on s1 fun b k v H2 Hs2 s2 r2=>k v H2 Hs2 (s1.trans s2) r2⟩
 | false=>exact xD ⟨H0,Hs0,la,Hs1,f1,q.on s1 fun b k v H2 Hs2 s2 r2=>k v H2 Hs2 (s1.trans s2) r2⟩
def qY (ga gb gc:au->R D) (h h':D->D->R D):au->R D:=fun ρ=>(ga ρ).bind fun x=>(gb ρ).bind fun y=>(h x y).bind fun z=>match z with
 | .bool true=>(gc ρ).bind fun w=>h' y w
 | .bool false=>.ok (.bool false)
 | _=>.no
variable {es:List a_}{gs:au->R (List D)}
def ac (g:au->R D) (gs:au->R (List D)):au->R (List D):=fun ρ=>(g ρ).bind fun d=>(gs ρ).bind fun ds=>.ok (d::ds)
def aF:au->R (List D):=fun _=>.ok []
theorem aD:DV c [] aF:=.of fun ρ=>X4 fe fun σ H Q h_3=>by obtain ⟨H0,Hs0,la,Hs,f,q⟩:=h_3;exact q [] H Hs (.refl f.st.sub) .nil
theorem bY:Sd c [] aF:=.of fun ρ=>X4 fe fun σ H Q h_4=>by obtain ⟨H0,Hs0,la,Hs,f,q⟩:=h_4;exact q [] H Hs (.refl f.st.sub) .nil
theorem aa (h:JE c e g) (hr:DV c es gs) (hs:aA (e::es) c.X.env=(false,du e c.X.env)::aA es c.X.env:=by rfl):DV c (e::es) (ac g gs):=.of fun ρ=>X4 (cf (h ρ) (hr ρ) hs) fun σ H Q h_5=>by
 obtain ⟨H0,Hs0,la,Hs,f,q⟩:=h_5
 refine yT f q fun d v H1 Hs1 e1 s1 f1 r1=>?_
 unfold ac at q
 rw [e1,bind_ok] at q
 refine AK f1 (q.on s1 (q':=fun _=>True) fun _ _=>trivial) fun ds vs H2 Hs2 e2 s2 f2 r2=>?_
 rw [e2,bind_ok] at q
 exact q _ H2 Hs2 (s1.trans s2) (.cons (r1.same s2.sh) r2)
theorem bx (h:JB c e g) (hr:Sd c es gs) (hs:aA (e::es) c.X.env=(false,du e c.X.env)::aA es c.X.env:=by rfl):Sd c (e::es) (ac g gs):=.of fun ρ=>X4 (cf (h ρ) (hr ρ) hs) fun σ H Q h_6=>by
 obtain ⟨H0,Hs0,la,Hs,f,q⟩:=h_6
 refine one f q fun d v H1 Hs1 e1 s1 f1 r1=>?_
 unfold ac at q
 rw [e1,bind_ok] at q
 refine Ng f1 (q.on s1 (q':=fun _=>True) fun _ _=>trivial) fun ds vs H2 Hs2 e2 s2 f2 r2=>?_
 rw [e2,bind_ok] at q
 exact q _ H2 Hs2 (s1.trans s2) (.cons (r1.step s2) r2)
def dQ (gs:au->R (List D)) (k:List D->D):au->R D:=fun ρ=>(gs ρ).bind fun ds=>if ds.length<=1000 then .ok (k ds) else .no
theorem k7 {x1} (h:DV c es gs):JE c (.Tuple es x1 pos) (dQ gs .tuple):=.of fun ρ=>qA (My (h ρ)) fun σ H Q h_7=>by
 obtain ⟨H0,Hs0,la,Hs,f,q⟩:=h_7
 refine AK f q fun ds vs H1 Hs1 e1 s1 f1 r1=>?_
 unfold dQ at q
 rw [e1,bind_ok] at q
 by_cases hl:ds.length<=1000
 ·rw [if_pos hl] at q
  refine ⟨bC (cA (by rw [r1.length];exact hl)),fun p hp=>q _ _ _ (s1.trans (.new f1.st.sub hp)) (.tuple aW (r1.same (cT.new f1.st.sub hp).sh))⟩
 ·rw [if_neg hl] at q;exact q.elim
theorem jE (h:DV c es gs):JE c (.List es pos) (dQ gs .list):=.of fun ρ=>qA (o0 (h ρ)) fun σ H Q h_8=>by
 obtain ⟨H0,Hs0,la,Hs,f,q⟩:=h_8
 refine AK f q fun ds vs H1 Hs1 e1 s1 f1 r1=>?_
 unfold dQ at q
 rw [e1,bind_ok] at q
 by_cases hl:ds.length<=1000
 ·rw [if_pos hl] at q
  refine ⟨bC (cA (by rw [r1.length];exact hl)),fun p hp=>q _ _ _ (s1.trans (.new f1.st.sub hp)) (.list (.of aW) (r1.same (cT.new f1.st.sub hp).sh))⟩
 ·rw [if_neg hl] at q;exact q.elim
end
end
end J
namespace J
open PySem PySem.Spec PyProof.Rows L2
section
section
variable {X:Cx}
def dN:D->D->R D
 | .int i,.int j=>.ok (.int (i + j))
 | .str x,.str y=>if x.length + y.length<=1000 then .ok (.str (x++y)) else .no
 | .tuple xs,.tuple ys=>if xs.length + ys.length<=1000 then .ok (.tuple (xs++ys)) else .no
 | .list xs,.list ys=>if xs.length + ys.length<=1000 then .ok (.list (xs++ys)) else .no
 | _,_=>.no
inductive Nh (K:a8) (x:V) (y:V) (H:Hp) (Q:VK):Prop
 | mk (l b xs zs:_) (h0:x=.ref l) (h1:y=.ref b) (h2:lZ K H l xs) (h3:lZ K H b zs) (h4:xs.length + zs.length<=sizeLine) (h5:∀ p,H p=none->Q (.ref p) (upd H p (.lst (xs++zs)))):Nh K x y H Q
def VL (K:a8):R2:=Nh K
theorem QB:qy X (gm .Add) (VL X.K):=by
 intro pins s σ H x y v u Q I rx ry h
 obtain ⟨l,b,xs,zs,rfl,rfl,h1,h2,hz,q⟩:=h
 cases rx;cases ry
 obtain ⟨its,r,⟨o,n,e,c1,c2,c3⟩,z⟩:=I.list h1
 obtain ⟨its2,r2,⟨o2,n2,e2,d1,d2,d3⟩,z2⟩:=I.list h2
 obtain ⟨k1,k2,k3,k4⟩:=o
 obtain ⟨m1,m2,m3,m4⟩:=o2
 simp only at c1 c2 c3 d1 d2 d3
 subst c1 c2 c3 d1 d2 d3
 refine Aq ⟨_,e,rfl⟩ ⟨_,e2,rfl⟩ noFill_list_add seq_list_add PySem.F.slot_list_add PySem.F.entry_list_add (PySem.F.args_list_add_2 _ _) (PyProof.Rows.list_addW l b _ _ n n2 _ _ k4 m4 (by rw [aJ,aJ,<- r.length,<- r2.length];exact hz)) ⟨e,e2,?_⟩
 have ea:its.toArray++its2.toArray=(its++its2).toArray:=by simp
 rw [ea]
 exact ⟨.ref _,_,I.lnew (t':=s.toks) (r.append r2) (by rw [aB];omega),rfl,q _ I.fresh⟩
inductive Ni (K:a8) (x:V) (y:V) (H:Hp) (Q:VK):Prop
 | mk (a b ys:_) (h0:x=.ref a) (h1:y=.ref b) (h2:kE K H a []) (h3:kE K H b ys) (h4:Q (.ref b) H):Ni K x y H Q
def VM (K:a8):R2:=Ni K
theorem QC:qy X (gm .Add) (VM X.K):=by
 intro pins s σ H x y v u Q I rx ry h
 obtain ⟨a,b,ys,rfl,rfl,h1,h2,q⟩:=h
 cases rx;cases ry
 obtain ⟨its,r,⟨⟨k1,k2,k3,k4⟩,e,c1,n,c3⟩,z⟩:=I.tuple h1
 obtain ⟨its2,r2,⟨⟨m1,m2,m3,m4⟩,e2,d1,n2,d3⟩,z2⟩:=I.tuple h2
 simp only at c1 c3 d1 d3
 subst c1 c3 d1 d3
 cases r
 exact Aq ⟨_,e,rfl⟩ ⟨_,e2,rfl⟩ Ce Kd oX oA (nY _ _)
  (PyProof.Rows.tuple_addW0 a b _ _ n n2 _ _ k4 m4 rfl) ⟨e,e2,⟨.ref b,H,I,rfl,q⟩⟩
theorem cN:xH X (gm .Add) dN:=by
 refine ⟨fun pins s σ H x y v u Q I rv ru ⟨Hs,dx,dy,sub,rx,ry,d,hd,q⟩=>?_,fun x y c n=>?_⟩
 ·unfold dN at hd
  split at hd
  ·cases hd
   exact Tr pins s σ H x y v u Q I rv ru ⟨_,_,rx.int,ry.int,q _ H Hs (.refl sub) (.int _)⟩
  ·split at hd
   ·rename_i hz
    cases hd
    exact GX pins s σ H x y v u Q I rv ru ⟨_,_,rx.str,ry.str,bC (cA hz),q _ H Hs (.refl sub) (.str _)⟩
   ·cases hd
  ·split at hd
   ·rename_i xs ys hz
    cases hd
    obtain ⟨a,vs,rfl,qa,ra,_⟩:=rx.tuple sub
    obtain ⟨b,ws,rfl,qb,rb,_⟩:=ry.tuple sub
    have hz':vs.length + ws.length<=sizeLine:=by rw [ra.length,rb.length];exact bC (cA hz)
    have big:∀ p,H p=none->Q (.ref p) (upd H p (.tup (vs++ws))):=fun p hp=>q _ _ _ (.new sub hp) (.tuple aW ((ra.append rb).same (cT.new sub hp).sh))
    cases vs with
    | nil =>
     cases ra
     refine QC pins s σ H _ _ v u Q I rv ru ⟨a,b,ws,rfl,rfl,qa,qb,?_⟩
     rcases ry with ry | ⟨_,_,_,_,_,ow⟩
     ·exact q _ H Hs (.refl sub) (by simpa using ry)
     ·cases ow
    | cons v0 vr =>
     refine Qg pins s σ H _ _ v u Q I rv ru ⟨a,b,_,ws,rfl,rfl,qa,qb,by simp,hz',fun e=>?_,fun _=>big⟩
     subst e
     cases rb
     rcases rx with rx | ⟨_,_,_,_,_,ow⟩
     ·exact q _ H Hs (.refl sub) (by simpa using rx)
     ·cases ow
   ·cases hd
  ·split at hd
   ·rename_i xs ys hz
    cases hd
    obtain ⟨a,vs,rfl,qa,ra⟩:=rx.list sub
    obtain ⟨b,ws,rfl,qb,rb⟩:=ry.list sub
    have hz':vs.length + ws.length<=sizeLine:=by rw [ra.length,rb.length];exact bC (cA hz)
    exact QB pins s σ H _ _ v u Q I rv ru ⟨a,b,vs,ws,rfl,rfl,qa,qb,hz',fun p hp=>q _ _ _ (.new sub hp) (.list (.of aW) ((ra.append rb).same (cT.new sub hp).sh))⟩
   ·cases hd
  ·cases hd
 ·unfold dN
  split<;>(try split)<;>exact fun h=>by cases h
def Ho (C:Int->Int->Bool) (k:Int->Int->D):D->D->R D
 | .int i,.int j=>if C i j then .ok (k i j) else .no
 | _,_=>.no
theorem Hq {f:a9->a9->Sem a9}{C:Int->Int->Bool}{P:Int->Int->Prop}{k:Int->Int->D}{kv:Int->Int->V} (h:qy X f (rI P kv)) (hC:∀ i j,C i j=true->P i j) (hk:∀ Hs i j,RD X.K Hs (kv i j) (k i j)):xH X f (Ho C k):=by
 refine ⟨fun pins s σ H x y v u Q I rv ru ⟨Hs,dx,dy,sub,rx,ry,d,hd,q⟩=>?_,fun x y c n=>?_⟩
 ·unfold Ho at hd
  split at hd
  ·split at hd
   ·rename_i hc
    cases hd
    exact h pins s σ H x y v u Q I rv ru ⟨_,_,rx.int,ry.int,hC _ _ hc,q _ H Hs (.refl sub) (hk _ _ _)⟩
   ·cases hd
  ·cases hd
 ·unfold Ho
  split<;>(try split)<;>exact fun h=>by cases h
def BC (i j:Int):Bool:=(decide (-(2 ^ 64)<i) && decide (i<2 ^ 64)) || (decide (-(2 ^ 64)<j) && decide (j<2 ^ 64))
def vb:=Ho BC fun i j=>.int (i * j)
def KU:=Ho (fun _ j=>decide (0<j)) fun i j=>.int (i % j)
def Nj:=Ho (fun _ j=>decide (0<j) && decide (j<1073741824)) fun i j=>.int (i / j)
theorem ph:xH X (gm .Mult) vb:=Hq Tt (fun i j h=>by
 unfold BC at h
 simp only [js,aT,decide_eq_true_eq] at h
 exact h) fun _ _ _=>.int _
theorem CQ:xH X (gm .Mod) KU:=Hq Tu (fun i j h=>of_decide_eq_true h) fun _ _ _=>.int _
theorem QD:xH X (gm .FloorDiv) Nj:=Hq Q5 (fun i j h=>by
 simp only [aT,decide_eq_true_eq] at h
 exact h) fun _ _ _=>.int _
def lP (neg:Bool) (x y:D):R D:=if x.canLay0 && y.canLay0 && decide (min x.depth y.depth<=60) then .ok (.bool (if neg then !bf x y else bf x y)) else .no
mutual
theorem CS:∀ d:D,d.canLay0=true->qI d=true
 | .none,_=>rfl
 | .bool _,_=>rfl
 | .int _,_=>rfl
 | .str _,_=>rfl
 | .list xs,h=>by
  simp only [ed] at h
  simp only [qI]
  exact lays_noD xs h
 | .tuple xs,h=>by
  simp only [ed] at h
  simp only [qI]
  exact lays_noD xs h
 | .dict _,h=>by simp [ed] at h
theorem lays_noD:∀ d:List D,bS d=true->noDs d=true
 | [],_=>rfl
 | x::r,h=>by
  simp only [bS,aT] at h
  simp only [noDs,aT]
  exact ⟨CS x h.1,lays_noD r h.2⟩
end
theorem Nk {neg:Bool}{f:a9->a9->Sem a9} (h:qy X f (TY X.K neg)):xH X f (lP neg):=by
 refine ⟨fun pins s σ H x y v u Q I rv ru ⟨Hs,dx,dy,sub,rx,ry,d,hd,q⟩=>?_,fun x y c n=>?_⟩
 ·unfold lP at hd
  split at hd
  ·rename_i hc
   simp only [aT,decide_eq_true_eq] at hc
   cases hd
   exact h pins s σ H x y v u Q I rv ru ⟨dx,dy,(rx.full sub).rep (CS _ hc.1.1),(ry.full sub).rep (CS _ hc.1.2),hc.1.1,hc.1.2,hc.2,q _ H Hs (.refl sub) (.bool _)⟩
  ·cases hd
 ·unfold lP
  split<;>exact fun h=>by cases h
theorem tj (hu:X.A.units + 64<kj):xH X (bH .Eq) (lP false):=Nk (TZ hu)
theorem yV (hu:X.A.units + 64<kj):xH X (bH .NotEq) (lP true):=Nk (T_ hu)
def KW (k:Int->Int->Bool) (t:Str->Str->Bool):D->D->R D
 | .int i,.int j=>.ok (.bool (k i j))
 | .str x,.str y=>.ok (.bool (t x y))
 | _,_=>.no
theorem Nl {f:a9->a9->Sem a9}{k:Int->Int->Bool}{t:Str->Str->Bool} (h1:qy X f (Tn fun i j=>.bl (k i j))) (h2:qy X f (fun x y H Q=>∃ i j,x=.str i/\y=.str j/\Q (.bl (t i j)) H)):xH X f (KW k t):=by
 refine ⟨fun pins s σ H x y v u Q I rv ru ⟨Hs,dx,dy,sub,rx,ry,d,hd,q⟩=>?_,fun x y c n=>?_⟩
 ·unfold KW at hd
  split at hd
  ·cases hd
   exact h1 pins s σ H x y v u Q I rv ru ⟨_,_,rx.int,ry.int,q _ H Hs (.refl sub) (.bool _)⟩
  ·cases hd
   exact h2 pins s σ H x y v u Q I rv ru ⟨_,_,rx.str,ry.str,q _ H Hs (.refl sub) (.bool _)⟩
  ·cases hd
 ·unfold KW
  split<;>exact fun h=>by cases h
def AL:=KW (fun i j=>decide (i<j)) qp
def Se:=KW (fun i j=>decide (i<=j)) fun x y=>!qp y x
def V1:D->D->R D
 | .int i,.int j=>.ok (.bool (decide (j<i)))
 | _,_=>.no
theorem yW:xH X (bH .Lt) AL:=Nl Vi Kw
theorem BD:xH X (bH .LtE) Se:=Nl Vj KL
theorem Sf:xH X (bH .Gt) V1:=by
 refine ⟨fun pins s σ H x y v u Q I rv ru ⟨Hs,dx,dy,sub,rx,ry,d,hd,q⟩=>?_,fun x y c n=>?_⟩
 ·unfold V1 at hd
  split at hd
  ·cases hd
   exact Vk pins s σ H x y v u Q I rv ru ⟨_,_,rx.int,ry.int,q _ H Hs (.refl sub) (.bool _)⟩
  ·cases hd
 ·unfold V1
  split<;>exact fun h=>by cases h
def Hr:D->Bool
 | .none=>true
 | _=>false
def yX (neg:Bool):D->D->R D
 | x,.none=>.ok (.bool (if neg then !Hr x else Hr x))
 | _,_=>.no
theorem J4 {K:a8}{H Hs:Hp}{v:V}{d:D} (h:RB K H Hs v d):decide (v=.non)=Hr d:=by
 rcases h with h | ⟨a,o,rfl,_,_,h⟩
 ·cases h<;>rfl
 ·cases h<;>rfl
theorem Sg:xH X (bH .Is) (yX false):=by
 refine ⟨fun pins s σ H x y v u Q I rv ru ⟨Hs,dx,dy,sub,rx,ry,d,hd,q⟩=>?_,fun x y c n=>?_⟩
 ·unfold yX at hd
  split at hd
  ·cases hd
   exact Tx pins s σ H x y v u Q I rv ru ⟨ry.non,by rw [J4 rx];exact q _ H Hs (.refl sub) (.bool _)⟩
  ·cases hd
 ·unfold yX
  split<;>exact fun h=>by cases h
theorem yY:xH X (bH .IsNot) (yX true):=by
 refine ⟨fun pins s σ H x y v u Q I rv ru ⟨Hs,dx,dy,sub,rx,ry,d,hd,q⟩=>?_,fun x y c n=>?_⟩
 ·unfold yX at hd
  split at hd
  ·cases hd
   exact Q9 pins s σ H x y v u Q I rv ru ⟨ry.non,by rw [J4 rx];exact q _ H Hs (.refl sub) (.bool _)⟩
  ·cases hd
 ·unfold yX
  split<;>exact fun h=>by cases h
def le:D->Bool
 | .none=>true
 | .bool _=>true
 | .int _=>true
 | .str _=>true
 | _=>false
def wq (neg:Bool):D->D->R D
 | x,.list ys=>if le x && ys.all le then .ok (.bool (if neg then !(ys.any fun y=>bf y x) else ys.any fun y=>bf y x)) else .no
 | x,.tuple ys=>if le x && ys.all le then .ok (.bool (if neg then !(ys.any fun y=>bf y x) else ys.any fun y=>bf y x)) else .no
 | _,_=>.no
theorem J5 {K:a8}{H:Hp}{v:V}{d:D} (h:RD K H v d) (f:le d=true):qT v=true:=by
 cases h<;>first | rfl | cases f
theorem EB {K:a8}{H Hs:Hp}{v:V}{d:D} (h:RB K H Hs v d) (f:le d=true):qT v=true:=by
 rcases h with h | ⟨a,o,rfl,_,_,h⟩
 ·exact J5 h f
 ·cases h<;>cases f
theorem EC {K:a8}{H:Hp}{vs:List V}:∀ {ds:List D},RDs K H vs ds->ds.all le=true->vs.all qT=true:=by
 induction vs with
 | nil=>intro ds _ _;rfl
 | cons x r ih =>
  intro ds h f
  cases h with
  | cons h t =>
   rw [uH,aT] at f ⊢
   exact ⟨J5 h f.1,ih t f.2⟩
theorem U2 {K:a8}{H H2 Hs:Hp}{v u:V}{d e:D} (h:RD K H v d) (h2:RB K H2 Hs u e) (f:le d=true) (f2:le e=true):Qj v u=bf d e:=by
 have h2':RD K Hs u e:=by
  rcases h2 with h2 | ⟨a,o,rfl,_,_,h2⟩
  ·exact h2
  ·cases h2<;>cases f2
 cases h with
 | list _ _=>cases f
 | tuple _ _=>cases f
 | dictK _ _=>cases f
 | dictT _ _ _=>cases f
 | dictF _ _ _=>cases f
 | none=>cases h2'<;>first | rfl | cases f2
 | bool b=>cases h2'<;>first | rfl | cases f2
 | int i=>cases h2'<;>first | rfl | cases f2
 | str x=>cases h2'<;>first | rfl | cases f2
theorem Ht {K:a8}{H H2 Hs:Hp}{u:V}{e:D} (h2:RB K H2 Hs u e) (f2:le e=true):∀ {vs:List V}{ds:List D},RDs K H vs ds->ds.all le=true->WX u vs=ds.any fun y=>bf y e
 | _,_,.nil,_=>rfl
 | _,_,.cons h t,f=>by
  rw [uH,aT] at f
  have:=Ht h2 f2 t f.2
  unfold WX at this ⊢
  rw [ef,ef,this,U2 h h2 f.1 f2]
theorem Nm {neg:Bool}{f:a9->a9->Sem a9} (h:qy X f (XM X.K neg)):xH X f (wq neg):=by
 refine ⟨fun pins s σ H x y v u Q I rv ru ⟨Hs,dx,dy,sub,rx,ry,d,hd,q⟩=>?_,fun x y c n=>?_⟩
 ·unfold wq at hd
  split at hd
  ·split at hd
   ·rename_i hc
    simp only [aT] at hc
    cases hd
    obtain ⟨b,ws,rfl,qb,rb⟩:=ry.list sub
    refine h pins s σ H _ _ v u Q I rv ru ⟨b,ws,rfl,.inl qb,EB rx hc.1,EC rb hc.2,?_⟩
    rw [Ht rx hc.1 rb hc.2]
    exact q _ H Hs (.refl sub) (.bool _)
   ·cases hd
  ·split at hd
   ·rename_i hc
    simp only [aT] at hc
    cases hd
    obtain ⟨b,ws,rfl,qb,rb,_⟩:=ry.tuple sub
    refine h pins s σ H _ _ v u Q I rv ru ⟨b,ws,rfl,.inr qb,EB rx hc.1,EC rb hc.2,?_⟩
    rw [Ht rx hc.1 rb hc.2]
    exact q _ H Hs (.refl sub) (.bool _)
   ·cases hd
  ·cases hd
 ·unfold wq
  split<;>(try split)<;>exact fun h=>by cases h
theorem vc:xH X (bH .In) (wq false):=Nm Ky
theorem qZ:xH X (bH .NotIn) (wq true):=Nm Cy
end
end
end J
namespace J
open PySem L2
section
section
variable {c:C}{e a b:a_}{g ga gb:au->R D}{pos:Pos}
def ED:D->D->R D
 | .list xs,.int i=>match Eb xs i with
  | some d=>.ok d
  | none=>.no
 | .tuple xs,.int i=>match Eb xs i with
  | some d=>.ok d
  | none=>.no
 | .str x,.int i=>if x.length<=1000 then (match Eb x.cps.toList i with
  | some k=>.ok (.str ⟨#[k]⟩)
  | none=>.no) else .no
 | _,_=>.no
theorem J6 {K:a8}{H:Hp}{vs:List V}{ds:List D} (h:RDs K H vs ds) {i:Int}{d:D} (e:Eb ds i=some d):∃ v,Eb vs i=some v/\RD K H v d:=by
 unfold Eb at e ⊢
 rw [h.length]
 cases hx:RW ds.length i with
 | none=>rw [hx] at e;cases e
 | some j =>
  rw [hx] at e
  exact h.get' e
theorem Y3 {X:Cx}:Vp X (rD X.K ED):=by
 intro va sl pins s σ H x y v u Q I rv ru h
 obtain ⟨Hs,dx,dy,sub,rx,ry,d,hd,q⟩:=h
 unfold ED at hd
 split at hd
 ·split at hd
  ·rename_i d' he
   cases hd
   obtain ⟨p,vs,rfl,qa,ra⟩:=rx.list sub
   obtain ⟨w,hw,rw'⟩:=J6 ra he
   exact oZ va sl pins s σ H _ _ v u Q I rv ru ⟨p,vs,_,w,rfl,ry.int,qa,hw,q _ H Hs (.refl sub) rw'⟩
  ·cases hd
 ·split at hd
  ·rename_i d' he
   cases hd
   obtain ⟨p,vs,rfl,qa,ra,_⟩:=rx.tuple sub
   obtain ⟨w,hw,rw'⟩:=J6 ra he
   exact TH va sl pins s σ H _ _ v u Q I rv ru ⟨p,vs,_,w,rfl,ry.int,qa,hw,q _ H Hs (.refl sub) rw'⟩
  ·cases hd
 ·split at hd
  ·rename_i hz
   split at hd
   ·rename_i k he
    cases hd
    exact TJ va sl pins s σ H _ _ v u Q I rv ru ⟨_,_,k,rx.str,ry.int,bC (cA hz),he,q _ H Hs (.refl sub) (.str _)⟩
   ·cases hd
  ·cases hd
 ·cases hd
theorem U3 (x y:D) (c:Str) (n:Option D):ED x y≠.ex c n:=by
 unfold ED
 split<;>(try split)<;>(try split)<;>exact fun h=>by cases h
theorem VN (ha:JB c a ga) (hb:JB c b gb) (hs:uS b:=by exact fun _ _=>rfl):JE c (.Subscript a b pos) (g2 ga gb ED):=.of fun ρ=>qA (RX Y3 (ha ρ) (hb ρ) hs) fun σ H Q q=>two U3 q
def AM (ds:List D) (lo hi:Option Int):List D:=(ds.drop (HT.iR ds.length 0 lo)).take (HT.iR ds.length ds.length hi - HT.iR ds.length 0 lo)
theorem J7 {K:a8}{H:Hp}{vs:List V}{ds:List D} (h:RDs K H vs ds) (lo hi:Option Int):RDs K H (Ea vs lo hi) (AM ds lo hi):=by
 unfold Ea AM
 rw [h.length]
 exact (h.drop _).take _
def J8:D->Option Int->Option Int->R D
 | .list xs,lo,hi=>.ok (.list (AM xs lo hi))
 | .tuple xs,lo,hi=>.ok (.tuple (AM xs lo hi))
 | _,_,_=>.no
inductive Sh (K:a8) (x:V) (lo:Option Int) (hi:Option Int) (H:Hp) (Q:VK):Prop
 | mk (Hs dx:_) (h0:dB Hs H) (h1:RB K H Hs x dx) (h2:∃ d,J8 dx lo hi=.ok d/\∀ v H' Hs',cT H Hs H' Hs'->RD K Hs' v d->Q v H'):Sh K x lo hi H Q
def Y4 (K:a8):V->Option Int->Option Int->Hp->VK->Prop:=Sh K
theorem Y5 {X:Cx}:Vn X (Y4 X.K):=by
 intro pins s σ H x v vl vu lo hi sl Q I rx hs pl pu h
 obtain ⟨Hs,dx,sub,rb,d,hd,q⟩:=h
 unfold J8 at hd
 split at hd
 ·cases hd
  obtain ⟨p,vs,rfl,qa,ra⟩:=rb.list sub
  exact Qi pins s σ H _ v vl vu lo hi sl Q I rx hs pl pu ⟨p,vs,rfl,qa,fun l hl=>q _ _ _ (.new sub hl) (.list (.of aW) ((J7 ra lo hi).same (cT.new sub hl).sh))⟩
 ·cases hd
  obtain ⟨p,vs,rfl,qa,ra,_⟩:=rb.tuple sub
  by_cases hw:HT.iR vs.length 0 lo=0/\HT.iR vs.length vs.length hi=vs.length
  ·refine Qx pins s σ H _ v vl vu lo hi sl Q I rx hs pl pu ⟨p,vs,rfl,qa,hw,?_⟩
   rcases rb with rb | ⟨_,_,_,_,_,ow⟩
   ·refine q _ H Hs (.refl sub) ?_
    unfold AM
    rw [<- ra.length,hw.1,hw.2,ra.length]
    simpa using rb
   ·cases ow
  ·exact TF pins s σ H _ v vl vu lo hi sl Q I rx hs pl pu ⟨p,vs,rfl,qa,hw,fun l hl=>q _ _ _ (.new sub hl) (.tuple aW ((J7 ra lo hi).same (cT.new sub hl).sh))⟩
 ·cases hd
inductive VO (K:a8) (cls:Str->ah) (E:XK) (ρ:au) (r:R (Option Int)) (σ:St) (H:Hp) (Q:Option Int->Hp->Prop):Prop
 | mk (H0 Hs0:Hp) (la:Nat->Option ah) (Hs:Hp) (f:Fr K H0 Hs0 la ρ σ H Hs) (q:Fin K cls E H Hs r fun d=>∀ H' Hs',cT H Hs H' Hs'->Q d H'):VO K cls E ρ r σ H Q
def Y6 (K:a8) (cls:Str->ah) (E:XK) (ρ:au) (r:R (Option Int)):TO:=VO K cls E ρ r
structure JO (c:C) (e:Option a_) (g:au->R (Option Int)):Prop where of ::
 run:∀ ρ,PO c.X e (Y6 c.X.K c.cls c.E ρ (g ρ))
instance {c:C}{e:Option a_}{g:au->R (Option Int)}:CoeFun (JO c e g) (fun _=>∀ ρ,PO c.X e (Y6 c.X.K c.cls c.E ρ (g ρ))):=⟨JO.run⟩
theorem YC {X:Cx}{e:Option a_}{t t':TO} (h:PO X e t) (m:∀ σ H Q,t' σ H Q->t σ H Q):PO X e t':=fun pins s σ H Q I q=>h pins s σ H Q I (m σ H Q q)
def V2:au->R (Option Int):=fun _=>.ok none
def QE (g:au->R D):au->R (Option Int):=fun ρ=>(g ρ).bind fun d=>match d with
 | .int i=>.ok (some i)
 | _=>.no
theorem y9:JO c none V2:=.of fun ρ=>YC Qe fun σ H Q h_0=>by obtain ⟨H0,Hs0,la,Hs,f,q⟩:=h_0;exact q H Hs (.refl f.st.sub)
theorem rX (h:JE c e g):JO c (some e) (QE g):=.of fun ρ=>YC (Qf (h ρ)) fun σ H Q h_1=>by
 obtain ⟨H0,Hs0,la,Hs,f,q⟩:=h_1
 refine yT f q fun d v H1 Hs1 e1 s1 f1 r1=>?_
 unfold QE at q
 rw [e1,bind_ok] at q
 cases r1 with
 | int i=>exact ⟨i,rfl,q H1 Hs1 s1⟩
 | _=>exact q.elim
theorem VP {K:a8}{cls:Str->ah}{E:XK}{ρ:au}{r:R (Option Int)}{β:Type}{k:Option Int->R β}{σ:St}{H:Hp}{H0 Hs0 Hs:Hp}{la:Nat->Option ah}{Q:Option Int->Hp->Prop}{q:β->Prop} (f:Fr K H0 Hs0 la ρ σ H Hs)
  (h:Fin K cls E H Hs (r.bind k) q) (m:∀ d H' Hs',r=.ok d->cT H Hs H' Hs'->Fr K H0 Hs0 la ρ σ H' Hs'->Q d H'):Y6 K cls E ρ r σ H Q:=by
 refine ⟨H0,Hs0,la,Hs,f,?_⟩
 cases r with
 | ok d=>exact fun H' Hs' s=>m d H' Hs' rfl s (f.step s)
 | ex c n=>exact h
 | no=>exact h
def Si (g:au->R D) (gl gh:au->R (Option Int)):au->R D:=fun ρ=>(g ρ).bind fun x=>(gl ρ).bind fun l=>(gh ρ).bind fun h=>J8 x l h
theorem q_ {lo hi:Option a_}{gl gh:au->R (Option Int)}{p2:Pos} (he:JB c e g) (hl:JO c lo gl) (hh:JO c hi gh):JE c (.Subscript e (.Slice lo hi none p2) pos) (Si g gl gh):=.of fun ρ=>qA (MB Y5 (he ρ) (hl ρ) (hh ρ)) fun σ H Q h_2=>by
 obtain ⟨H0,Hs0,la,Hs,f,q⟩:=h_2
 refine one f q fun d v H1 Hs1 e1 s1 f1 r1=>?_
 unfold Si at q
 rw [e1,bind_ok] at q
 refine VP f1 (q.on s1 (q':=fun _=>True) fun _ _=>trivial) fun l H2 Hs2 e2 s2 f2=>?_
 rw [e2,bind_ok] at q
 refine VP f2 (q.on (s1.trans s2) (q':=fun _=>True) fun _ _=>trivial) fun h H3 Hs3 e3 s3 f3=>?_
 rw [e3,bind_ok] at q
 cases hr:J8 d l h with
 | ok z=>rw [hr] at q;exact ⟨Hs3,d,f3.st.sub,(r1.step s2).step s3,z,hr,fun w H4 Hs4 s4 r4=>q w H4 Hs4 (s1.trans (s2.trans (s3.trans s4))) r4⟩
 | ex c n=>unfold J8 at hr;split at hr<;>cases hr
 | no=>rw [hr] at q;exact q.elim
inductive YD (K:a8) (h:List D->R D) (xs:List V) (H:Hp) (Q:VK):Prop
 | mk (Hs ds:_) (h0:dB Hs H) (h1:Sc K H Hs xs ds) (h2:∃ d,h ds=.ok d/\∀ v H' Hs',cT H Hs H' Hs'->RD K Hs' v d->Q v H'):YD K h xs H Q
def rC (K:a8) (h:List D->R D):List V->Hp->VK->Prop:=YD K h
def LX (X:Cx) (f:a9) (h:List D->R D):Prop:=jb X f (rC X.K h)/\∀ x c n,h x≠.ex c n
def cb (gs:au->R (List D)) (h:List D->R D):au->R D:=fun ρ=>(gs ρ).bind h
theorem Sj {K:a8}{cls:Str->ah}{E:XK}{h:List D->R D}{gs:au->R (List D)}{ρ:au}{σ:St}{H:Hp}{Q:VK} (hx:∀ x c n,h x≠.ex c n) (q:TR K cls E ρ (cb gs h ρ) σ H Q):UY (rC K h) (X3 K cls E ρ (gs ρ)) σ H Q:=by
 obtain ⟨H0,Hs0,la,Hs,f,q⟩:=q
 refine Ng f q fun ds vs H1 Hs1 e1 s1 f1 r1=>?_
 unfold cb at q
 rw [e1,bind_ok] at q
 cases hr:h ds with
 | ok d =>
  rw [hr] at q
  exact ⟨Hs1,ds,f1.st.sub,r1,d,hr,fun w H3 Hs3 s3 r3=>q w H3 Hs3 (s1.trans s3) r3⟩
 | ex c n=>exact (hx ds c n hr).elim
 | no=>rw [hr] at q;exact q.elim
variable {es:List a_}{gs:au->R (List D)}{x:Str}{p:Pos}{id T:String}{h:List D->R D}
theorem bZ (hc:LX c.X (.builtin id) h) (hg:Gl c.X x) (hm:c.X.mg x=none) (hv:ij x=some (.builtin id)) (ha:Sd c (e::es) gs) (hn:x≠"__name__":=by decide) (hdb:(x == ("__debug__" : Str))=false:=by decide)
  (he:aA (e::es) c.X.env=(false,du e c.X.env)::aA es c.X.env:=by rfl) (hpl:(fS pos (aA es c.X.env)).any (·.1)=false:=by rfl):JE c (.Call (.Name x p) (e::es) [] pos) (cb gs h):=.of fun ρ=>qA (oE hc.1 hg hm hv (ha ρ) hn hdb he hpl) fun σ H Q q=>Sj hc.2 q
theorem f6 (hc:LX c.X (.type T) h) (hg:Gl c.X x) (hm:c.X.mg x=none) (hv:ij x=some (.type T)) (ha:Sd c (e::es) gs) (hn:x≠"__name__":=by decide) (hdb:(x == ("__debug__" : Str))=false:=by decide)
  (he:aA (e::es) c.X.env=(false,du e c.X.env)::aA es c.X.env:=by rfl) (hpl:(fS pos (aA es c.X.env)).any (·.1)=false:=by rfl):JE c (.Call (.Name x p) (e::es) [] pos) (cb gs h):=.of fun ρ=>qA (we hc.1 hg hm hv (ha ρ) hn hdb he hpl) fun σ H Q q=>Sj hc.2 q
end
end
section
section
variable {X:Cx}
theorem Sc.one {K:a8}{H Hs:Hp}{xs:List V}{d:D} (h:Sc K H Hs xs [d]):∃ x,xs=[x]/\RB K H Hs x d:=by
 cases h with | cons a t=>cases t;exact ⟨_,rfl,a⟩
def i8 (h:D->R D):List D->R D
 | [d]=>h d
 | _=>.no
theorem tV {f:a9}{h:D->R D} (hx:∀ d c n,h d≠.ex c n)
  (hr:∀ pins s σ H x u Q Hs d d',bG X pins σ H s->dw x u->dB Hs H->RB X.K H Hs x d->h d=.ok d'->(∀ v H' Hs',cT H Hs H' Hs'->RD X.K Hs' v d'->Q v H')->aq (aL X.prog X.w) X.A (call f [u]) (EP X pins σ Q) X.xe s):LX X f (i8 h):=by
 refine ⟨fun pins s σ H xs us Q I r ⟨Hs,ds,sub,rb,d,hd,q⟩=>?_,fun x c n=>?_⟩
 ·unfold i8 at hd
  split at hd
  ·obtain ⟨x,rfl,rx⟩:=rb.one
   obtain ⟨u,rfl,ru⟩:=kF r
   exact hr pins s σ H x u Q Hs _ _ I ru sub rx hd q
  ·cases hd
 ·unfold i8
  split
  ·exact hx _ _ _
  ·exact fun h=>by cases h
def k8:D->R D
 | .list xs=>.ok (.int xs.length)
 | .tuple xs=>.ok (.int xs.length)
 | .str x=>if x.length<=1000 then .ok (.int x.length) else .no
 | _=>.no
theorem RDk.length {K:a8}{H:Hp}{vs:List (cR×V)}:∀ {ds:List (D×D)},RDk K H vs ds->vs.length=ds.length:=by
 induction vs with
 | nil=>intro ds h;cases h;rfl
 | cons x r ih=>intro ds h;cases h with | cons a b=>exact congrArg (· + 1) (ih b)
theorem RDt.length {K:a8}{H:Hp}:∀ {vs:List (List cR×V)}{ds:List (D×D)},RDt K H vs ds->vs.length=ds.length
 | _,_,.nil=>rfl
 | _,_,.cons _ t=>by simp [RDt.length t]
theorem RB.dict {K:a8}{H Hs:Hp}{v:V}{ds:List (D×D)} (sub:dB Hs H) (h:RB K H Hs v (.dict ds)):∃ a,v=.ref a/\((∃ kvs,H a=some (.dK kvs)/\RDk K Hs kvs ds)\/(∃ kvs,H a=some (.dT kvs)/\kvs≠[]/\RDt K Hs kvs ds)\/∃ o kvs es,ds=(.none,.none)::es/\H a=some (.frz o (.dT kvs))/\kvs≠[]/\RDt K Hs kvs es):=by
 rcases h with h | ⟨a,o,rfl,h2,h3,h4⟩
 ·cases h with
  | dictK q r=>exact ⟨_,rfl,.inl ⟨_,sub _ _ q,r⟩⟩
  | dictT q n r=>exact ⟨_,rfl,.inr (.inl ⟨_,sub _ _ q,n,r⟩)⟩
  | dictF q n r=>exact ⟨_,rfl,.inr (.inr ⟨_,_,_,rfl,sub _ _ q,n,r⟩)⟩
 ·cases h4 with
  | dK r=>exact ⟨a,rfl,.inl ⟨_,h2,r⟩⟩
  | dT n r=>exact ⟨a,rfl,.inr (.inl ⟨_,h2,n,r⟩)⟩
  | dF n r=>exact ⟨a,rfl,.inr (.inr ⟨_,_,_,rfl,h2,n,r⟩)⟩
theorem iq:LX X (.builtin "len") (i8 k8):=by
 refine tV (fun d c n=>?_) fun pins s σ H x u Q Hs d d' I ru sub rx hd q=>?_
 ·unfold k8
  split<;>(try split)<;>exact fun h=>by cases h
 ·unfold k8 at hd
  split at hd
  ·cases hd
   obtain ⟨a,vs,rfl,qa,ra⟩:=rx.list sub
   refine uU pins s σ H _ _ Q I (.cons ru .nil) ⟨a,vs,rfl,.inl qa,?_⟩
   rw [ra.length]
   exact q _ H Hs (.refl sub) (.int _)
  ·cases hd
   obtain ⟨a,vs,rfl,qa,ra,_⟩:=rx.tuple sub
   refine uU pins s σ H _ _ Q I (.cons ru .nil) ⟨a,vs,rfl,.inr qa,?_⟩
   rw [ra.length]
   exact q _ H Hs (.refl sub) (.int _)
  ·split at hd
   ·rename_i hz
    cases hd
    exact Cz pins s σ H _ _ Q I (.cons ru .nil) ⟨_,by rw [rx.str],bC (cA hz),q _ H Hs (.refl sub) (.int _)⟩
   ·cases hd
  ·cases hd
def AN (T:String) (d:D):Bool:=match T,d with
 | "str",.str _=>true
 | "int",.int _=>true
 | "int",.bool _=>true
 | "bool",.bool _=>true
 | "list",.list _=>true
 | "tuple",.tuple _=>true
 | _,_=>false
def xI (g:au->R D) (T:String):au->R D:=fun ρ=>(g ρ).bind fun d=>if qI d then .ok (.bool (AN T d)) else .no
theorem QF {K:a8}{d:D} (T:String) (hT:T="str"\/T="int"\/T="bool"\/T="list"\/T="tuple") (h:qI d=true):dH K (.type (Y1 d)) (.type T)=some (AN T d):=by
 rcases hT with rfl | rfl | rfl | rfl | rfl<;>cases d<;>first | rfl | simp [qI] at h
theorem pi {c:C}{e:a_}{g:au->R D}{p p2 pos:Pos}{T:Str}{Ts:String} (h:JB c e g) (hgi:Gl c.X "isinstance") (hi:c.X.mg "isinstance"=none) (hgT:Gl c.X T) (hT:c.X.mg T=none) (hv:ij T=some (.type Ts))
  (hTs:Ts="str"\/Ts="int"\/Ts="bool"\/Ts="list"\/Ts="tuple")
  (hn:T≠"__name__":=by decide) (hdb:(T == ("__debug__" : Str))=false:=by decide)
  (he:aA [e,.Name T p2] c.X.env=(false,du e c.X.env)::aA [.Name T p2] c.X.env:=by rfl) (hpl:(fS pos (aA [.Name T p2] c.X.env)).any (·.1)=false:=by rfl) :
  JE c (.Call (.Name "isinstance" p) [e,.Name T p2] [] pos) (xI g Ts):=.of fun ρ=>by
 refine qA (oE Nc hgi hi jQ (cf (h ρ) (cf (IK hgT hT hv (v:=.ty Ts) rfl hn hdb) fe) he) (by decide) (by decide) he hpl) fun σ H Q h_0=>?_
 obtain ⟨H0,Hs0,la,Hs,f,q⟩:=h_0
 refine one f q fun d v H1 Hs1 e1 s1 f1 r1=>?_
 unfold xI at q
 rw [e1,bind_ok] at q
 by_cases hd:qI d=true
 ·rw [if_pos hd] at q
  exact ⟨v,d,Ts,_,rfl,(r1.full f1.st.sub).rep hd,QF Ts hTs hd,q _ H1 Hs1 s1 (.bool _)⟩
 ·rw [if_neg hd] at q;exact q.elim
def nj:List D->Option (List Bool)
 | []=>some []
 | .bool b::r=>(nj r).map (b::·)
 | _::_=>none
theorem CT {ds:List D}:∀ {bs:List Bool},nj ds=some bs->ds=bs.map cu:=by
 induction ds with
 | nil=>intro bs h;cases h;rfl
 | cons d r ih =>
  intro bs h
  cases d with
  | bool b =>
   have h:(nj r).map (b::·)=some bs:=h
   cases hr:nj r with
   | none=>rw [hr] at h;cases h
   | some z=>rw [hr] at h;cases h;rw [ih hr];rfl
  | _=>cases h
def eG (k:List Bool->Bool):D->R D
 | .list ds=>match nj ds with
  | some bs=>.ok (.bool (k bs))
  | none=>.no
 | _=>.no
theorem EE {id:String}{k:List Bool->Bool} (h:jb X (.builtin id) (fun xs H Q=>∃ p,∃ bs:List Bool,xs=[.ref p]/\lZ X.K H p (bs.map V.bl)/\Q (.bl (k bs)) H)):LX X (.builtin id) (i8 (eG k)):=by
 refine tV (fun d c n=>?_) fun pins s σ H x u Q Hs d d' I ru sub rx hd q=>?_
 ·unfold eG
  split<;>(try split)<;>exact fun h=>by cases h
 ·unfold eG at hd
  split at hd
  ·split at hd
   ·rename_i bs hb
    cases hd
    obtain ⟨a,vs,rfl,qa,ra⟩:=rx.list sub
    rw [CT hb] at ra
    rw [AJ ra] at qa
    exact h pins s σ H _ _ Q I (.cons ru .nil) ⟨a,bs,rfl,qa,q _ H Hs (.refl sub) (.bool _)⟩
   ·cases hd
  ·cases hd
theorem o8 (hc:X.calm=true):LX X (.builtin "all") (i8 (eG fun bs=>bs.all id)):=EE (yJ hc)
theorem yZ (hc:X.calm=true):LX X (.builtin "any") (i8 (eG fun bs=>bs.any id)):=EE (yK hc)
def o9 (x:Str):List D:=x.cps.toList.map fun c=>aQ ⟨#[c]⟩
theorem KY {K:a8}{H:Hp} (x:Str):RDs K H (yR x) (o9 x):=by
 unfold yR o9
 induction x.cps.toList with
 | nil=>exact .nil
 | cons a r ih=>exact .cons (.str _) ih
def hJ:D->R D
 | .list xs=>.ok (.tuple xs)
 | .tuple xs=>.ok (.tuple xs)
 | .str x=>if x.cps.size<=1000 then .ok (.tuple (o9 x)) else .no
 | _=>.no
theorem ir (hc:X.calm=true):LX X (.type "tuple") (i8 hJ):=by
 refine tV (fun d c n=>?_) fun pins s σ H x u Q Hs d d' I ru sub rx hd q=>?_
 ·unfold hJ
  split<;>(try split)<;>exact fun h=>by cases h
 ·unfold hJ at hd
  split at hd
  ·cases hd
   obtain ⟨a,vs,rfl,qa,ra⟩:=rx.list sub
   exact t4 pins s σ H _ _ Q I (.cons ru .nil) ⟨a,vs,rfl,.inl ⟨qa,fun l hl=>q _ _ _ (.new sub hl) (.tuple aW (ra.same (cT.new sub hl).sh))⟩⟩
  ·cases hd
   obtain ⟨a,vs,rfl,qa,ra,_⟩:=rx.tuple sub
   refine t4 pins s σ H _ _ Q I (.cons ru .nil) ⟨a,vs,rfl,.inr ⟨qa,?_⟩⟩
   rcases rx with rx | ⟨_,_,_,_,_,ow⟩
   ·exact q _ H Hs (.refl sub) rx
   ·cases ow
  ·split at hd
   ·rename_i hz
    cases hd
    exact xG hc pins s σ H _ _ Q I (.cons ru .nil) ⟨_,by rw [rx.str],bC (cA hz),fun l hl=>q _ _ _ (.new sub hl) (.tuple aW (KY _))⟩
   ·cases hd
  ·cases hd
def BE:D->R D
 | .list xs=>.ok (.list xs)
 | .tuple xs=>.ok (.list xs)
 | _=>.no
theorem QG:LX X (.type "list") (i8 BE):=by
 refine tV (fun d c n=>?_) fun pins s σ H x u Q Hs d d' I ru sub rx hd q=>?_
 ·unfold BE
  split<;>exact fun h=>by cases h
 ·unfold BE at hd
  split at hd
  ·cases hd
   obtain ⟨a,vs,rfl,qa,ra⟩:=rx.list sub
   exact uV pins s σ H _ _ Q I (.cons ru .nil) ⟨a,vs,rfl,.inl qa,fun l hl=>q _ _ _ (.new sub hl) (.list (.of aW) (ra.same (cT.new sub hl).sh))⟩
  ·cases hd
   obtain ⟨a,vs,rfl,qa,ra,_⟩:=rx.tuple sub
   exact uV pins s σ H _ _ Q I (.cons ru .nil) ⟨a,vs,rfl,.inr qa,fun l hl=>q _ _ _ (.new sub hl) (.list (.of aW) (ra.same (cT.new sub hl).sh))⟩
  ·cases hd
def gx:List D->Option (List Str)
 | []=>some []
 | .str b::r=>(gx r).map (b::·)
 | _::_=>none
theorem r6 {ds:List D}:∀ {bs:List Str},gx ds=some bs->ds=bs.map aQ:=by
 induction ds with
 | nil=>intro bs h;cases h;rfl
 | cons d r ih =>
  intro bs h
  cases d with
  | str b =>
   have h:(gx r).map (b::·)=some bs:=h
   cases hr:gx r with
   | none=>rw [hr] at h;cases h
   | some z=>rw [hr] at h;cases h;rw [ih hr];rfl
  | _=>cases h
@[simp] theorem strsOf_map:∀ bs:List Str,gx (bs.map aQ)=some bs
 | []=>rfl
 | b::r=>by show (gx (r.map aQ)).map (b::·)=_;rw [strsOf_map r];rfl
def rY:D->R D
 | .list ds=>match gx ds with
  | some ss=>if ss.length<64 then .ok (.list ((jC ss).map .str)) else .no
  | none=>.no
 | _=>.no
theorem KZ:LX X (.builtin "sorted") (i8 rY):=by
 refine tV (fun d c n=>?_) fun pins s σ H x u Q Hs d d' I ru sub rx hd q=>?_
 ·unfold rY
  split<;>(try split)<;>(try split)<;>exact fun h=>by cases h
 ·unfold rY at hd
  split at hd
  ·split at hd
   ·split at hd
    ·rename_i ss hs hz
     cases hd
     obtain ⟨a,vs,rfl,qa,ra⟩:=rx.list sub
     rw [r6 hs] at ra
     rw [pc ra] at qa
     exact wn pins s σ H _ _ Q I (.cons ru .nil) ⟨a,ss,rfl,qa,hz,fun l hl=>q _ _ _ (.new sub hl) (.list (.of aW) (yS _))⟩
    ·cases hd
   ·cases hd
  ·cases hd
end
end
section
inductive VQ (K:a8) (cls:Str->ah) (n:Nat) (F:List D->R D) (vs:List V) (H:Hp) (Q:VK) (E:XK):Prop
 | mk (Hs ds:_) (h0:dB Hs H) (h1:ds.length=n) (h2:RDs K Hs vs ds) (h3:Fin K cls E H Hs (F ds) fun d=>∀ v H' Hs',cT H Hs H' Hs'->RD K Hs' v d->Q v H'):VQ K cls n F vs H Q E
def Sk (K:a8) (cls:Str->ah) (n:Nat) (F:List D->R D):Sp:=VQ K cls n F
structure Fn (P:aO) (w:bd) (K:a8) (mg:Str->Option a9) (base:bt) (cls:Str->ah) (x:Str) (k n:Nat) (F:List D->R D):Prop where
 ex:∃ f fd ps,sO P w K mg base (mR P w) k f fd ps (Sk K cls n F)/\mg x=some (.ref f)/\e6 K (.ref f)=true/\jA K fd ps []
section
variable {c:C}{e a b:a_}{g ga gb:au->R D}{pos:Pos}{es:List a_}{gs:au->R (List D)}{x:Str}{p:Pos}
def dJ (n:Nat) (F:List D->R D) (gs:au->R (List D)):au->R D:=fun ρ=>(gs ρ).bind fun ds=>if ds.length=n then F ds else .no
theorem QH {k n:Nat}{F:List D->R D} (G:Fn c.X.prog c.X.w c.X.K c.X.mg c.X.base c.cls x k n F) (hr:jt k c.X.A) (hg:Gl c.X x) (hx:jB (mR c.X.prog c.X.w) c.X c.E) (ha:DV c (e::es) gs)
  (hdb:(x == ("__debug__" : Str))=false:=by decide) (he:aA (e::es) c.X.env=(false,du e c.X.env)::aA es c.X.env:=by rfl) (hpl:(fS pos (aA es c.X.env)).any (·.1)=false:=by rfl) :
  JE c (.Call (.Name x p) (e::es) [] pos) (dJ n F gs):=.of fun ρ=>by
 obtain ⟨f,fd,ps,hf,hm,hk,hb⟩:=G.ex
 refine qA (IR (E:=c.E) hf hr hg hm hk hb .nil hx (ha ρ) hdb he hpl) fun σ H Q h_0=>?_
 obtain ⟨H0,Hs0,la,Hs,fr,q⟩:=h_0
 refine AK fr q fun ds vs H1 Hs1 e1 s1 f1 r1=>?_
 unfold dJ at q
 rw [e1,bind_ok] at q
 by_cases hn:ds.length=n
 ·rw [if_pos hn] at q
  show Sk _ _ _ _ (vs++[]) _ _ _
  rw [bV]
  exact ⟨Hs1,ds,f1.st.sub,hn,r1,q.on s1 fun d k v H2 Hs2 s2 r2=>k v H2 Hs2 (s1.trans s2) r2⟩
 ·rw [if_neg hn] at q;exact q.elim
end
inductive Fl where
 | nx (ρ:au)
 | rt (d:D)
 | bk (ρ:au)
 | ct (ρ:au)
def oa (K:a8) (cls:Str->ah) (E:XK) (H0 Hs0:Hp) (la:Nat->Option ah) (D:tM) (r:R Fl):Prop:=match r with
 | .ok (.nx ρ')=>∀ σ' H' Hs',Fr K H0 Hs0 la ρ' σ' H' Hs'->D.nx σ' H'
 | .ok (.bk ρ')=>∀ σ' H' Hs',Fr K H0 Hs0 la ρ' σ' H' Hs'->D.bk σ' H'
 | .ok (.ct ρ')=>∀ σ' H' Hs',Fr K H0 Hs0 la ρ' σ' H' Hs'->D.ct σ' H'
 | .ok (.rt d)=>∀ v H' Hs',cT H0 Hs0 H' Hs'->RD K Hs' v d->D.rt v H'
 | .ex c n=>∀ H' Hs',cT H0 Hs0 H' Hs'->XW K cls E c n H' Hs'
 | .no=>False
inductive YE (K:a8) (cls:Str->ah) (E:XK) (ρ:au) (r:R Fl) (D:tM) (σ:St) (H:Hp):Prop
 | mk (H0 Hs0:Hp) (la:Nat->Option ah) (Hs:Hp) (f:Fr K H0 Hs0 la ρ σ H Hs) (q:oa K cls E H0 Hs0 la D r):YE K cls E ρ r D σ H
def SR (K:a8) (cls:Str->ah) (E:XK) (ρ:au) (r:R Fl):TS:=YE K cls E ρ r
structure JS (c:C) (s:cp) (g:au->R Fl):Prop where of ::
 run:∀ ρ,PS c.X s (SR c.X.K c.cls c.E ρ (g ρ))
instance {c:C}{s:cp}{g:au->R Fl}:CoeFun (JS c s g) (fun _=>∀ ρ,PS c.X s (SR c.X.K c.cls c.E ρ (g ρ))):=⟨JS.run⟩
structure J9 (c:C) (s:List cp) (g:au->R Fl):Prop where of ::
 run:∀ ρ,AB c.X s (SR c.X.K c.cls c.E ρ (g ρ))
instance {c:C}{s:List cp}{g:au->R Fl}:CoeFun (J9 c s g) (fun _=>∀ ρ,AB c.X s (SR c.X.K c.cls c.E ρ (g ρ))):=⟨J9.run⟩
theorem Fr.set {K:a8}{H0 Hs0 H Hs:Hp}{la:Nat->Option ah}{ρ:au}{σ:St} (f:Fr K H0 Hs0 la ρ σ H Hs) (i:Nat) {v:V}{d:D} (r:RD K Hs v d):Fr K H0 Hs0 la (ρ.set i (.shr d)) (σ.set i (some v)) H Hs:=by
 have hl:=f.len
 have nx:∀ {j:Nat}{s:Sl},(∀ d,s≠.shr d)->(ρ.set i (.shr d))[j]?=some s->ρ[j]?=some s/\i≠j:=fun {j s} hs e=>by
  by_cases hj:i=j
  ·subst hj
   by_cases hi:i<ρ.length
   ·rw [aM hi] at e;exact absurd (bJ e).symm (hs d)
   ·rw [cJ (by simpa using hi)] at e;cases e
  ·rw [ak hj] at e;exact ⟨e,hj⟩
 refine ⟨f.st,by simp [hl],fun j e h=>?_,fun j e h=>?_,fun j e h=>?_,fun j k d1 d2 a h1 h2 h3 h4=>?_,f.lh,fun j e h=>?_,fun j k d1 d2 h1 h2=>?_⟩
 ·by_cases hj:i=j
  ·subst hj
   by_cases hi:i<ρ.length
   ·rw [aM hi] at h
    cases h
    exact ⟨v,aM (by omega),r⟩
   ·rw [cJ (by simpa using hi)] at h;cases h
  ·rw [ak hj] at h ⊢
   exact f.sh j e h
 ·obtain ⟨h,hj⟩:=nx (fun _ z=>by cases z) h
  rw [ak hj]
  exact f.ow j e h
 ·obtain ⟨h,hj⟩:=nx (fun _ z=>by cases z) h
  rw [ak hj]
  exact f.lk j e h
 ·obtain ⟨h1,n1⟩:=nx (fun _ z=>by cases z) h1
  obtain ⟨h2,n2⟩:=nx (fun _ z=>by cases z) h2
  rw [ak n1] at h3
  rw [ak n2] at h4
  exact f.dj j k d1 d2 a h1 h2 h3 h4
 ·obtain ⟨h,hj⟩:=nx (fun _ z=>by cases z) h
  obtain ⟨a,as,O⟩:=f.o2 j e h
  refine ⟨a,as,by rw [ak hj];exact O.at_,O.ob,O.nd,O.out,fun b hb k e' hk=>?_,O.inn⟩
  obtain ⟨hk,nk⟩:=nx (fun _ z=>by cases z) hk
  rw [ak nk]
  exact O.dj b hb k e' hk
 ·exact f.u2 j k d1 d2 (nx (fun _ z=>by cases z) h1).1 (nx (fun _ z=>by cases z) h2).1
theorem Fr.setO {K:a8}{H0 Hs0 H Hs:Hp}{la:Nat->Option ah}{ρ:au}{σ:St} (f:Fr K H0 Hs0 la ρ σ H Hs) (i:Nat) {a:ah}{o:HO}{d:D} (n:H a=none) (r:mV K Hs o d):Fr K H0 Hs0 la (ρ.set i (.own d)) (σ.set i (some (.ref a))) (upd H a o) Hs:=by
 have f':=f.step (cT.mine (o:=o) f.st.sub n)
 have hl:=f.len
 have n0:H0 a=none:=f.st.all.free n
 have ns:Hs a=none:=f.st.sub.free n
 have nx:∀ {j:Nat}{s:Sl},(∀ d,s≠.own d)->(ρ.set i (.own d))[j]?=some s->ρ[j]?=some s/\i≠j:=fun {j s} hs e=>by
  by_cases hj:i=j
  ·subst hj
   by_cases hi:i<ρ.length
   ·rw [aM hi] at e;exact absurd (bJ e).symm (hs d)
   ·rw [cJ (by simpa using hi)] at e;cases e
  ·rw [ak hj] at e;exact ⟨e,hj⟩
 have ne:∀ j e,ρ[j]?=some (Sl.own e)->σ[j]?≠some (some (V.ref a)):=fun j e h z=>by
  obtain ⟨b,o',h1,h2,_⟩:=f.ow j e h
  rw [z] at h1
  cases h1
  rw [n] at h2;cases h2
 refine ⟨f'.st,by simp [hl],fun j e h=>?_,fun j e h=>?_,fun j e h=>?_,fun j k d1 d2 b h1 h2 h3 h4=>?_,f.lh,fun j e h=>?_,fun j k d1 d2 h1 h2=>?_⟩
 ·obtain ⟨h,hj⟩:=nx (fun _ z=>by cases z) h
  rw [ak hj]
  exact f'.sh j e h
 ·by_cases hj:i=j
  ·subst hj
   by_cases hi:i<ρ.length
   ·rw [aM hi] at h
    cases h
    exact ⟨a,o,aM (by omega),aW,ns,n0,r⟩
   ·rw [cJ (by simpa using hi)] at h;cases h
  ·rw [ak hj] at h ⊢
   exact f'.ow j e h
 ·obtain ⟨h,hj⟩:=nx (fun _ z=>by cases z) h
  rw [ak hj]
  exact f'.lk j e h
 ·by_cases hj:i=j
  ·by_cases hk:i=k
   ·exact hj.symm.trans hk
   ·rw [ak hk] at h2 h4
    subst hj
    by_cases hi:i<ρ.length
    ·rw [aM (by omega)] at h3
     cases h3
     exact (ne k d2 h2 h4).elim
    ·rw [cJ (by simpa using hi)] at h1;cases h1
  ·rw [ak hj] at h1 h3
   by_cases hk:i=k
   ·subst hk
    by_cases hi:i<ρ.length
    ·rw [aM (by omega)] at h4
     cases h4
     exact (ne j d1 h1 h3).elim
    ·rw [cJ (by simpa using hi)] at h2;cases h2
   ·rw [ak hk] at h2 h4
    exact f.dj j k d1 d2 b h1 h2 h3 h4
 ·obtain ⟨h,hj⟩:=nx (fun _ z=>by cases z) h
  obtain ⟨b,as,O⟩:=f.o2 j e h
  have nb:∀ c∈b::as,c≠a:=fun c hc z=>by
   subst z
   rcases List.mem_cons.mp hc with z | z
   ·have:=O.ob;rw [<- z,n] at this;cases this
   ·obtain ⟨o,ho,_⟩:=O.inn.there z;rw [n] at ho;cases ho
  refine ⟨b,as,by rw [ak hj];exact O.at_,by rw [aS (nb b ao)];exact O.ob,O.nd,O.out,fun c hc k e' hk=>?_,O.inn.upd fun z=>nb a (am _ z) rfl⟩
  by_cases nk:i=k
  ·subst nk
   intro z
   by_cases hi:i<ρ.length
   ·rw [aM (by omega)] at z
    cases z
    exact nb _ hc rfl
   ·rw [cJ (by simp;omega)] at hk;cases hk
  ·rw [ak nk] at hk ⊢
   exact O.dj c hc k e' hk
 ·exact f.u2 j k d1 d2 (nx (fun _ z=>by cases z) h1).1 (nx (fun _ z=>by cases z) h2).1
theorem Fr.write {K:a8}{H0 Hs0 H Hs:Hp}{la:Nat->Option ah}{ρ:au}{σ:St} (f:Fr K H0 Hs0 la ρ σ H Hs) (i:Nat) {a:ah}{o:HO}{d d':D} (hi:ρ[i]?=some (Sl.own d)) (hs:σ[i]?=some (some (V.ref a))) (r:mV K Hs o d'):Fr K H0 Hs0 la (ρ.set i (.own d')) σ (upd H a o) Hs:=by
 obtain ⟨a',o',h1,h2,h3,h4,h5⟩:=f.ow i d hi
 rw [hs] at h1
 cases h1
 have hl:=f.len
 have hil:i<ρ.length:=(List.getElem?_eq_some_iff.mp hi).1
 have nx:∀ {j:Nat}{s:Sl},(∀ d,s≠.own d)->(ρ.set i (.own d'))[j]?=some s->ρ[j]?=some s/\i≠j:=fun {j s} hs e=>by
  by_cases hj:i=j
  ·subst hj
   rw [aM hil] at e;exact absurd (bJ e).symm (hs d')
  ·rw [ak hj] at e;exact ⟨e,hj⟩
 refine ⟨⟨fun b u e=>?_,f.st.sh,fun b u e=>?_,f.st.out⟩,by simp [hl],fun j e h=>?_,fun j e h=>?_,fun j e h=>?_,fun j k d1 d2 b h1 h2 h3 h4=>?_,f.lh,fun j e h=>?_,fun j k d1 d2 h1 h2=>?_⟩
 ·rw [aS (bj e h4)];exact f.st.all b u e
 ·rw [aS (bj e h3)];exact f.st.sub b u e
 ·obtain ⟨h,hj⟩:=nx (fun _ z=>by cases z) h
  exact f.sh j e h
 ·by_cases hj:i=j
  ·subst hj
   rw [aM hil] at h
   cases h
   exact ⟨a,o,hs,aW,h3,h4,r⟩
  ·rw [ak hj] at h
   obtain ⟨b,u,k1,k2,k3,k4,k5⟩:=f.ow j e h
   refine ⟨b,u,k1,?_,k3,k4,k5⟩
   rw [aS (fun z=>hj ?_)]
   ·exact k2
   ·subst z
    exact f.dj i j d e b hi h hs k1
 ·obtain ⟨h,hj⟩:=nx (fun _ z=>by cases z) h
  obtain ⟨b,u,k1,k2,k3,k4,k5,k6⟩:=f.lk j e h
  refine ⟨b,u,k1,k2,?_,k4,k5,k6⟩
  rw [aS (bj k5 h4)]
  exact k3
 ·have own:∀ {j:Nat}{e:D},(ρ.set i (.own d'))[j]?=some (Sl.own e)->∃ e',ρ[j]?=some (Sl.own e'):=fun {j e} h=>by
   by_cases hj:i=j
   ·subst hj;exact ⟨d,hi⟩
   ·rw [ak hj] at h;exact ⟨e,h⟩
  obtain ⟨e1,h1⟩:=own h1
  obtain ⟨e2,h2⟩:=own h2
  exact f.dj j k e1 e2 b h1 h2 h3 h4
 ·obtain ⟨h,hj⟩:=nx (fun _ z=>by cases z) h
  obtain ⟨b,as,O⟩:=f.o2 j e h
  have nb:∀ c∈b::as,c≠a:=fun c hc z=>by
   subst z
   exact O.dj c hc i d hi hs
  refine ⟨b,as,O.at_,by rw [aS (nb b ao)];exact O.ob,O.nd,O.out,fun c hc k e' hk=>?_,O.inn.upd fun z=>nb a (am _ z) rfl⟩
  by_cases nk:i=k
  ·subst nk
   exact O.dj c hc i d hi
  ·rw [ak nk] at hk
   exact O.dj c hc k e' hk
 ·exact f.u2 j k d1 d2 (nx (fun _ z=>by cases z) h1).1 (nx (fun _ z=>by cases z) h2).1
def dI (ρ:au):au:=ρ.map fun s=>match s with
 | .own d=>.shr d
 | .ow2 dss=>.shr (.list (dss.map .list))
 | s=>s
open Classical in
theorem Fr.share {K:a8}{H0 Hs0 H Hs:Hp}{la:Nat->Option ah}{ρ:au}{σ:St} (f:Fr K H0 Hs0 la ρ σ H Hs):∃ Hs',Fr K H0 Hs0 la (dI ρ) σ H Hs'/\cT H Hs H Hs'\/Fr K H0 Hs0 la (dI ρ) σ H Hs':=by
 let P:ah->Prop:=fun b=>(∃ (i:Nat) (d:D),ρ[i]?=some (Sl.own d)/\σ[i]?=some (some (V.ref b)))\/∃ (i:Nat) (dss:List (List D)) (a:ah) (as:List ah),ρ[i]?=some (Sl.ow2 dss)/\O2 K H0 H Hs ρ σ i dss a as/\b∈a::as
 let Hs':Hp:=fun b=>if P b then H b else Hs b
 have pos:∀ b,P b->Hs' b=H b:=fun b h=>if_pos h
 have neg:∀ b,¬ P b->Hs' b=Hs b:=fun b h=>if_neg h
 have up:dB Hs Hs':=fun b o e=>by
  by_cases h:P b
  ·rw [pos b h];exact f.st.sub b o e
  ·rw [neg b h];exact e
 have none0:∀ b o,H0 b=some o->¬ P b:=fun b o e hP=>by
  rcases hP with ⟨i,d,h1,h2⟩ | ⟨i,dss,a,as,h1,O,hb⟩
  ·obtain ⟨a,o',k1,_,_,k4,_⟩:=f.ow i d h1
   rw [h2] at k1;cases k1
   rw [e] at k4;cases k4
  ·have:=(O.out b hb).2
   rw [e] at this;cases this
 have un:∀ {j:Nat}{s:Sl},(dI ρ)[j]?=some s->(∃ d,s=.shr d/\ρ[j]?=some (Sl.own d))\/(∃ dss:List (List D),s=.shr (.list (dss.map .list))/\ρ[j]?=some (Sl.ow2 dss))\/((∀ d,s≠.own d)/\(∀ d,s≠.ow2 d)/\ρ[j]?=some s):=fun {j s} e=>by
  unfold dI at e
  rw [aP] at e
  cases h:ρ[j]? with
  | none=>rw [h] at e;cases e
  | some t =>
   rw [h] at e
   cases t with
   | own d=>cases e;exact .inl ⟨d,rfl,rfl⟩
   | no=>cases e;exact .inr (.inr ⟨fun _ z=>(by cases z),fun _ z=>(by cases z),rfl⟩)
   | shr d=>cases e;exact .inr (.inr ⟨fun _ z=>(by cases z),fun _ z=>(by cases z),rfl⟩)
   | lck d=>cases e;exact .inr (.inr ⟨fun _ z=>(by cases z),fun _ z=>(by cases z),rfl⟩)
   | ow2 d=>cases e;exact .inr (.inl ⟨d,rfl,rfl⟩)
 refine ⟨Hs',.inr ⟨⟨f.st.all,f.st.sh.trans up,fun b o e=>?_,fun a o e t z=>?_⟩,by simp [dI,f.len],fun j d h=>?_,fun j d h=>?_,fun j d h=>?_,fun j k d1 d2 a h1 h2 _ _=>?_,f.lh,fun j d h=>?_,fun j k d1 d2 h1 h2=>?_⟩⟩
 ·by_cases h:P b
  ·rw [pos b h] at e;exact e
  ·rw [neg b h] at e;exact f.st.sub b o e
 ·rw [neg a (none0 a o e)];exact f.st.out a o e t z
 ·rcases un h with ⟨d',e,h'⟩ | ⟨dss,e,h'⟩ | ⟨_,_,h'⟩
  ·cases e
   obtain ⟨a,o,k1,k2,k3,k4,k5⟩:=f.ow j d h'
   refine ⟨_,k1,?_⟩
   have hp:Hs' a=some o:=by rw [pos a (.inl ⟨j,d,h',k1⟩)];exact k2
   have e:dB (upd Hs a o) Hs':=fun b u q=>by
    by_cases hb:b=a
    ·subst hb;rw [aW] at q;cases q;exact hp
    ·rw [aS hb] at q;exact up b u q
   exact (k5.share k3).same e
  ·cases e
   obtain ⟨a,as,O⟩:=f.o2 j dss h'
   refine ⟨_,O.at_,?_⟩
   have hp:∀ b∈a::as,∀ o,H b=some o->Hs' b=some o:=fun b hb o ho=>by rw [pos b (.inr ⟨j,dss,a,as,h',O,hb⟩)];exact ho
   refine .list (.of (hp a ao _ O.ob)) ?_
   have go:∀ {as':List ah}{dss':List (List D)},(∀ b∈as',b∈a::as)->BB K H Hs as' dss'->RDs K Hs' (as'.map V.ref) (dss'.map .list):=fun {as' dss'} hs hi=>by
    induction hi with
    | nil=>exact .nil
    | cons h1 h2 _ ih=>exact .cons (.list (.of (hp _ (hs _ ao) _ h1)) (h2.same up)) (ih fun b hb=>hs b (am _ hb))
   exact go (fun b hb=>am _ hb) O.inn
  ·obtain ⟨v,k1,k2⟩:=f.sh j d h'
   exact ⟨v,k1,k2.same up⟩
 ·rcases un h with ⟨d',e,h'⟩ | ⟨d',e,h'⟩ | ⟨n,_,h'⟩
  ·cases e
  ·cases e
  ·exact (n d rfl).elim
 ·rcases un h with ⟨d',e,h'⟩ | ⟨d',e,h'⟩ | ⟨_,_,h'⟩
  ·cases e
  ·cases e
  ·obtain ⟨a,o,k1,k2,k3,k4,k5,k6⟩:=f.lk j d h'
   exact ⟨a,o,k1,k2,k3,by rw [neg a (none0 a o k5)];exact k4,k5,k6.same up⟩
 ·rcases un h1 with ⟨d',e,h'⟩ | ⟨d',e,h'⟩ | ⟨n,_,h'⟩
  ·cases e
  ·cases e
  ·exact (n d1 rfl).elim
 ·rcases un h with ⟨d',e,h'⟩ | ⟨d',e,h'⟩ | ⟨_,n,h'⟩
  ·cases e
  ·cases e
  ·exact (n d rfl).elim
 ·rcases un h1 with ⟨d',e,h'⟩ | ⟨d',e,h'⟩ | ⟨_,n,h'⟩
  ·cases e
  ·cases e
  ·exact (n d1 rfl).elim
theorem Fr.shared {K:a8}{H0 Hs0 H Hs:Hp}{la:Nat->Option ah}{ρ:au}{σ:St} (f:Fr K H0 Hs0 la ρ σ H Hs):∃ Hs',Fr K H0 Hs0 la (dI ρ) σ H Hs':=by
 obtain ⟨Hs',h | h⟩:=f.share
 ·exact ⟨Hs',h.1⟩
 ·exact ⟨Hs',h⟩
section
variable {c:C}{e a b:a_}{g ga gb:au->R D}{pos:Pos}{x:Str}{st:cp}{bX:List cp}{gs gr:au->R Fl}
def aN (g h:au->R Fl):au->R Fl:=fun ρ=>(g ρ).bind fun fl=>match fl with
 | .nx ρ'=>h ρ'
 | fl=>.ok fl
theorem cB:J9 c [] (fun ρ=>.ok (.nx ρ)):=.of fun ρ=>Y2 IL fun D σ H h_1=>by obtain ⟨H0,Hs0,la,Hs,f,q⟩:=h_1;exact q σ H Hs f
theorem aK (h:JS c st gs):J9 c [st] gs:=.of fun ρ=>uM (h ρ)
theorem aw (h:JS c st gs) (hr:J9 c bX gr):J9 c (st::bX) (aN gs gr):=.of fun ρ pins s σ H D I h_2=>by
 obtain ⟨H0,Hs0,la,Hs,f,q⟩:=h_2
 unfold aN at q
 cases hg:gs ρ with
 | no=>rw [hg] at q;exact q.elim
 | ex x n =>
  rw [hg] at q
  refine jz (h ρ) (oB (X:=c.X) (sts:=bX)) pins s σ H D I ⟨H0,Hs0,la,Hs,f,?_⟩
  rw [hg]
  exact q
 | ok fl =>
  rw [hg,bind_ok] at q
  cases fl with
  | nx ρ' =>
   refine jz (h ρ) (hr ρ') pins s σ H D I ⟨H0,Hs0,la,Hs,f,?_⟩
   rw [hg]
   exact fun σ' H' Hs' f'=>⟨H0,Hs0,la,Hs',f',q⟩
  | rt d =>
   refine jz (h ρ) (oB (X:=c.X) (sts:=bX)) pins s σ H D I ⟨H0,Hs0,la,Hs,f,?_⟩
   rw [hg]
   exact q
  | bk ρ' =>
   refine jz (h ρ) (oB (X:=c.X) (sts:=bX)) pins s σ H D I ⟨H0,Hs0,la,Hs,f,?_⟩
   rw [hg]
   exact q
  | ct ρ' =>
   refine jz (h ρ) (oB (X:=c.X) (sts:=bX)) pins s σ H D I ⟨H0,Hs0,la,Hs,f,?_⟩
   rw [hg]
   exact q
theorem sE {K:a8}{cls:Str->ah}{E:XK}{ρ:au}{r:R D}{k:D->R Fl}{σ:St}{H:Hp}{H0 Hs0 Hs:Hp}{la:Nat->Option ah}{D':tM}{Q:V->Hp->Prop} (f:Fr K H0 Hs0 la ρ σ H Hs)
  (h:oa K cls E H0 Hs0 la D' (r.bind k)) (m:∀ d v H' Hs',r=.ok d->cT H Hs H' Hs'->Fr K H0 Hs0 la ρ σ H' Hs'->RD K Hs' v d->Q v H'):TR K cls E ρ r σ H Q:=by
 refine ⟨H0,Hs0,la,Hs,f,?_⟩
 cases r with
 | ok d=>exact fun v H' Hs' s r=>m d v H' Hs' rfl s (f.step s) r
 | ex c n=>exact fun H' Hs' s=>h H' Hs' (f.st.trans s)
 | no=>exact h
theorem sT {K:a8}{cls:Str->ah}{E:XK}{ρ:au}{r:R Bool}{k:Bool->R Fl}{σ:St}{H:Hp}{H0 Hs0 Hs:Hp}{la:Nat->Option ah}{D':tM}{Q:Bool->Hp->Prop} (f:Fr K H0 Hs0 la ρ σ H Hs)
  (h:oa K cls E H0 Hs0 la D' (r.bind k)) (m:∀ d H' Hs',r=.ok d->cT H Hs H' Hs'->Fr K H0 Hs0 la ρ σ H' Hs'->Q d H'):KS K cls E ρ r σ H Q:=by
 refine ⟨H0,Hs0,la,Hs,f,?_⟩
 cases r with
 | ok d=>exact fun H' Hs' s=>m d H' Hs' rfl s (f.step s)
 | ex c n=>exact fun H' Hs' s=>h H' Hs' (f.st.trans s)
 | no=>exact h
def cC (g:au->R D):au->R Fl:=fun ρ=>(g (dI ρ)).bind fun d=>.ok (.rt d)
theorem bD (h:JE c e g):JS c (.Return (some e) pos) (cC g):=.of fun ρ=>y0 (Cq (h (dI ρ))) fun D σ H h_3=>by
 obtain ⟨H0,Hs0,la,Hs,f,q⟩:=h_3
 obtain ⟨Hs',f'⟩:=f.shared
 refine sE f' q fun d v H1 Hs1 e1 s1 f1 r1=>?_
 unfold cC at q
 rw [e1,bind_ok] at q
 exact q v H1 Hs1 f1.st r1
def e7 (t:au->R Bool) (g h:au->R Fl):au->R Fl:=fun ρ=>(t ρ).bind fun b=>if b then g ρ else h ρ
theorem eV {t:a_}{gt:au->R Bool}{A B:List cp}{gA gB:au->R Fl} (ht:JT c t gt) (hA:J9 c A gA) (hB:J9 c B gB):JS c (.If t A B pos) (e7 gt gA gB):=.of fun ρ=>y0 (RP (ht ρ) (hA ρ) (hB ρ)) fun D σ H h_5=>by
 obtain ⟨H0,Hs0,la,Hs,f,q⟩:=h_5
 refine sT f q fun d H1 Hs1 e1 s1 f1=>?_
 unfold e7 at q
 rw [e1,bind_ok] at q
 cases d with
 | true=>exact AD ⟨H0,Hs0,la,Hs1,f1,q⟩
 | false=>exact xD ⟨H0,Hs0,la,Hs1,f1,q⟩
def eZ (i:Nat) (g:au->R D):au->R Fl:=fun ρ=>(g ρ).bind fun d=>.ok (.nx (ρ.set i (.shr d)))
theorem dR (i:Nat) {pos':Pos} (h:JE c e g) (hN:c.X.N.Nodup) (hi:c.X.N[i]?=some x:=by rfl) (hx:Q3 c.X.env.scope x:=by first | exact fv rfl | exact dD rfl) (hs:gL e (some (.Name x pos')) pos.line c.X.env=pure false:=by rfl)
  (hf:c.X.fn x=true\/c.X.env.scope.names.lookup x=some .local:=by first | exact .inl rfl | exact .inr rfl | assumption):JS c (.Assign [.Name x pos'] e pos) (eZ i g):=.of fun ρ=>y0 (yz hN hi hx (h ρ) hs hf) fun D σ H h_6=>by
 obtain ⟨H0,Hs0,la,Hs,f,q⟩:=h_6
 refine sE f q fun d v H1 Hs1 e1 s1 f1 r1=>?_
 unfold eZ at q
 rw [e1,bind_ok] at q
 exact q _ H1 Hs1 (f1.set i r1)
def tm (g:au->R D):au->R Fl:=fun ρ=>(g ρ).bind fun _=>.ok (.nx ρ)
theorem pj (h:JE c e g) (hs:gL e none pos.line c.X.env=pure false:=by rfl):JS c (.Expr e pos) (tm g):=.of fun ρ=>y0 (uN (h ρ) hs) fun D σ H h_7=>by
 obtain ⟨H0,Hs0,la,Hs,f,q⟩:=h_7
 refine sE f q fun d v H1 Hs1 e1 s1 f1 r1=>?_
 unfold tm at q
 rw [e1,bind_ok] at q
 exact q _ H1 Hs1 f1
def YF (K:a8) (H0 Hs0:Hp) (la:Nat->Option ah) (H Hs:Hp) (Q:St->Hp->Prop) (r:R au):Prop:=match r with
 | .ok ρ'=>∀ σ',Fr K H0 Hs0 la ρ' σ' H Hs->Q σ' H
 | _=>False
inductive VR (K:a8) (ρ:au) (d:D) (r:R au) (v:V) (σ:St) (H:Hp) (Q:St->Hp->Prop):Prop
 | mk (H0 Hs0:Hp) (la:Nat->Option ah) (Hs:Hp) (f:Fr K H0 Hs0 la ρ σ H Hs) (rd:RD K Hs v d) (q:YF K H0 Hs0 la H Hs Q r):VR K ρ d r v σ H Q
def U4 (K:a8) (ρ:au) (d:D) (r:R au):TG:=VR K ρ d r
inductive Sm (K:a8) (ρ:au) (ds:List D) (r:R au) (vs:List V) (σ:St) (H:Hp) (Q:St->Hp->Prop):Prop
 | mk (H0 Hs0:Hp) (la:Nat->Option ah) (Hs:Hp) (f:Fr K H0 Hs0 la ρ σ H Hs) (rd:RDs K Hs vs ds) (q:YF K H0 Hs0 la H Hs Q r):Sm K ρ ds r vs σ H Q
def VS (K:a8) (ρ:au) (ds:List D) (r:R au):Mo:=Sm K ρ ds r
structure JG (c:C) (t:a_) (k:D->au->R au):Prop where of ::
 run:∀ ρ d,PG c.X t (U4 c.X.K ρ d (k d ρ))
instance {c:C}{t:a_}{k:D->au->R au}:CoeFun (JG c t k) (fun _=>∀ ρ d,PG c.X t (U4 c.X.K ρ d (k d ρ))):=⟨JG.run⟩
structure V3 (c:C) (t:List a_) (k:List D->au->R au):Prop where of ::
 run:∀ ρ d,RQ c.X t (VS c.X.K ρ d (k d ρ))
instance {c:C}{t:List a_}{k:List D->au->R au}:CoeFun (V3 c t k) (fun _=>∀ ρ d,RQ c.X t (VS c.X.K ρ d (k d ρ))):=⟨V3.run⟩
theorem YG {X:Cx}{e:a_}{t t':TG} (h:PG X e t) (m:∀ v σ H Q,t' v σ H Q->t v σ H Q):PG X e t':=fun pins s σ H v u Q I r q=>h pins s σ H v u Q I r (m v σ H Q q)
theorem Y7 {X:Cx}{e:List a_}{t t':Mo} (h:RQ X e t) (m:∀ v σ H Q,t' v σ H Q->t v σ H Q):RQ X e t':=fun pins s σ H v u Q I r q=>h pins s σ H v u Q I r (m v σ H Q q)
def bB (i:Nat):D->au->R au:=fun d ρ=>.ok (ρ.set i (.shr d))
theorem cM (i:Nat) (hN:c.X.N.Nodup) (hi:c.X.N[i]?=some x:=by rfl) (hx:Q3 c.X.env.scope x:=by first | exact fv rfl | exact dD rfl) (hf:c.X.fn x=true\/c.X.env.scope.names.lookup x=some .local:=by first | exact .inl rfl | exact .inr rfl | assumption) :
  JG c (.Name x pos) (bB i):=.of fun ρ d=>YG (cj hN hi hx hf) fun v σ H Q h_11=>by obtain ⟨H0,Hs0,la,Hs,f,r,q⟩:=h_11;exact q _ (f.set i r)
variable {kt:D->au->R au}{kts:List D->au->R au}{t:a_}{ts:List a_}
def lr:List D->au->R au:=fun ds ρ=>match ds with
 | []=>.ok ρ
 | _=>.no
def cq (k:D->au->R au) (ks:List D->au->R au):List D->au->R au:=fun ds ρ=>match ds with
 | d::r=>(k d ρ).bind fun ρ'=>ks r ρ'
 | _=>.no
theorem lu:V3 c [] lr:=.of fun ρ ds=>Y7 Cr fun vs σ H Q h_12=>by
 obtain ⟨H0,Hs0,la,Hs,f,r,q⟩:=h_12
 cases r with
 | nil=>exact ⟨rfl,q σ f⟩
 | cons _ _=>exact q.elim
theorem dg (h:JG c t kt) (hr:V3 c ts kts) (hs:(ik (t::ts) c.X.env).map (·.2)=qJ t c.X.env::(ik ts c.X.env).map (·.2):=by rfl):V3 c (t::ts) (cq kt kts):=.of fun ρ ds pins s σ H vs us Q I rv h_13=>by
 obtain ⟨H0,Hs0,la,Hs,f,r,q⟩:=h_13
 cases r with
 | nil=>exact q.elim
 | @cons v vr d dr r1 r2 =>
  unfold cq at q
  cases hk:kt d ρ with
  | ok ρ' =>
   simp only [hk,bind_ok] at q
   refine qR (h ρ d) (hr ρ' dr) hs pins s σ H _ us Q I rv ⟨v,vr,rfl,H0,Hs0,la,Hs,f,r1,?_⟩
   rw [hk]
   exact fun σ' f'=>⟨H0,Hs0,la,Hs,f',r2,q⟩
  | ex x n=>simp only [hk,bind_ex] at q;exact q.elim
  | no=>simp only [hk,bind_no] at q;exact q.elim
def kJ (n:Nat) (ks:List D->au->R au):D->au->R au:=fun d ρ=>match d with
 | .tuple ds=>if ds.length=n then ks ds ρ else .no
 | _=>.no
theorem pp {k n:Nat} (hc:c.X.calm=true) (h:V3 c ts kts) (hn:(ik ts c.X.env).length=n:=by rfl) (hst:(ik ts c.X.env).findIdx? (·.1)=none:=by rfl):JG c (.Tuple ts k pos) (kJ n kts):=.of fun ρ d=>by
 cases d with
 | tuple ds =>
  refine YG (GR hc (h ρ ds) hn hst) fun v σ H Q h_14=>?_
  obtain ⟨H0,Hs0,la,Hs,f,r,q⟩:=h_14
  cases r with
  | @tuple p xs _ hq rs =>
   unfold kJ at q
   by_cases hl:ds.length=n
   ·simp only [if_pos hl] at q
    exact ⟨p,xs,rfl,(kE.of (f.st.sub _ _ hq)),by rw [rs.length];exact hl,H0,Hs0,la,Hs,f,rs,q⟩
   ·simp only [if_neg hl] at q;exact q.elim
 | _=>exact fun pins s σ H v u Q I rv h_15=>by obtain ⟨H0,Hs0,la,Hs,f,r,q⟩:=h_15;exact q.elim
def y_ (g:au->R D) (k:D->au->R au):au->R Fl:=fun ρ=>(g ρ).bind fun d=>match k d ρ with
 | .ok ρ'=>.ok (.nx ρ')
 | _=>.no
theorem z0 (h:JE c e g) (hg:JG c t kt) (hs:xR [t] e pos.line c.X.env=pure false:=by rfl) (hw:xS [t] e c.X.env=pure none:=by rfl) (h1:(ik [t] c.X.env).map (·.2)=[qJ t c.X.env]:=by rfl) :
  JS c (.Assign [t] e pos) (y_ g kt):=.of fun ρ=>by
 cases hr:g ρ with
 | ok d =>
  refine y0 (Mq (h ρ) (hg ρ d) hs hw h1) fun D σ H h_16=>?_
  obtain ⟨H0,Hs0,la,Hs,f,q⟩:=h_16
  refine sE (k:=fun d=>match kt d ρ with | .ok ρ'=>.ok (.nx ρ') | _=>.no) f q fun d' v H1 Hs1 e1 s1 f1 r1=>?_
  rw [hr] at e1
  cases e1
  unfold y_ at q
  rw [hr,bind_ok] at q
  refine ⟨H0,Hs0,la,Hs1,f1,r1,?_⟩
  cases hk:kt d ρ with
  | ok ρ'=>rw [hk] at q;exact fun σ' f'=>q σ' H1 Hs1 f'
  | ex x n=>rw [hk] at q;exact q.elim
  | no=>rw [hk] at q;exact q.elim
 | ex x n =>
  refine y0 (Mq (h ρ) (hg ρ .none) hs hw h1) fun D σ H h_17=>?_
  obtain ⟨H0,Hs0,la,Hs,f,q⟩:=h_17
  refine sE (k:=fun _=>.no) (D':=D) f (by unfold y_ at q;rw [hr] at q ⊢;exact q) fun d' v H1 Hs1 e1 s1 f1 r1=>?_
  rw [hr] at e1;cases e1
 | no =>
  refine fun pins s σ H D I h_18=>?_
  obtain ⟨H0,Hs0,la,Hs,f,q⟩:=h_18
  unfold y_ at q
  rw [hr] at q
  exact q.elim
end
end
section
def No (K:a8) (J:It) (ds:List D) (Hn Hs:Hp):Prop:=∀ H2 Hs2,dB Hn H2->dB Hs Hs2->dB Hs2 H2 ->
 (∀ i,i<ds.length->J.go i H2)/\(∀ i,ds.length<=i->J.stop i H2)/\∀ i x H3,i<ds.length->J.yld i H2 x H3->∃ d Hs3,ds[i]?=some d/\cT H2 Hs2 H3 Hs3/\RD K Hs3 x d
theorem CU {K:a8}{Hn Hs:Hp}{a:ah}{vs:List V}{ds:List D} (h:lZ K Hn a vs) (r:RDs K Hs vs ds):No K (Xq K a) ds Hn Hs:=fun H2 Hs2 e1 e2 e3=>by
 have q:=e1.seq h
 refine ⟨fun i hi=>?_,fun i hi=>⟨vs,q,by rw [r.length];exact hi⟩,fun i x H3 hi y=>?_⟩
 ·have hi':i<vs.length:=by rw [r.length];exact hi
  exact ⟨vs,vs[i],q,aR hi'⟩
 ·obtain ⟨rfl,y⟩:=y
  obtain ⟨d,k1,k2⟩:=r.get (y vs q)
  exact ⟨d,Hs2,k1,.refl e3,k2.same e2⟩
theorem Np {K:a8}{Hn Hs:Hp}{a:ah}{vs:List V}{ds:List D} (h:kE K Hn a vs) (r:RDs K Hs vs ds):No K (Xr K a) ds Hn Hs:=fun H2 Hs2 e1 e2 e3=>by
 have q:=e1.tup h
 refine ⟨fun i hi=>?_,fun i hi=>⟨vs,q,by rw [r.length];exact hi⟩,fun i x H3 hi y=>?_⟩
 ·have hi':i<vs.length:=by rw [r.length];exact hi
  exact ⟨vs,vs[i],q,aR hi'⟩
 ·obtain ⟨rfl,y⟩:=y
  obtain ⟨d,k1,k2⟩:=r.get (y vs q)
  exact ⟨d,Hs2,k1,.refl e3,k2.same e2⟩
theorem Nq {K:a8}{Hn Hs:Hp} (x:Str):No K (Vv x) (o9 x) Hn Hs:=fun H2 Hs2 e1 e2 e3=>by
 have hl:(o9 x).length=x.cps.size:=by simp [o9]
 refine ⟨fun i hi=>by rw [hl] at hi;exact hi,fun i hi=>by rw [hl] at hi;exact hi,fun i v H3 hi y=>?_⟩
 obtain ⟨rfl,c,k1,rfl⟩:=y
 refine ⟨.str ⟨#[c]⟩,Hs2,?_,.refl e3,.str _⟩
 unfold o9
 rw [aP,cX,k1]
 rfl
def r9 (lo:Int) (n:Nat):List D:=(bv n).map fun (k:Nat)=>cm (lo + k)
theorem Nr {K:a8}{Hn Hs:Hp} (lo:Int) (n:Nat):No K (WV lo n) (r9 lo n) Hn Hs:=fun H2 Hs2 e1 e2 e3=>by
 have hl:(r9 lo n).length=n:=by simp [r9]
 refine ⟨fun i hi=>by rw [hl] at hi;exact hi,fun i hi=>by rw [hl] at hi;exact hi,fun i v H3 hi y=>?_⟩
 obtain ⟨rfl,rfl⟩:=y
 refine ⟨.int (lo + i),Hs2,?_,.refl e3,.int _⟩
 rw [hl] at hi
 unfold r9
 rw [aP,Kj hi]
 rfl
def iZ (n:Nat):List D->List D
 | []=>[]
 | d::r=>.tuple [.int n,d]::iZ (n + 1) r
theorem wt:∀ (ds:List D) (n i:Nat),(iZ n ds)[i]?=(ds[i]?).map fun d=>cG [.int ((n + i:Nat):Int),d]
 | [],_,_=>by simp [iZ]
 | d::r,n,0=>by simp [iZ]
 | d::r,n,i + 1=>by
  simp only [iZ,jy]
  rw [wt r (n + 1) i,show n + 1 + i=n + (i + 1) by omega]
theorem wu:∀ (ds:List D) (n:Nat),(iZ n ds).length=ds.length
 | [],_=>rfl
 | d::r,n=>by simp [iZ,wu r]
theorem QI {K:a8}{Hn Hs:Hp}{a:ah}{vs:List V}{ds:List D} (h:kE K Hn a vs) (r:RDs K Hs vs ds):No K (XX K a) (iZ 0 ds) Hn Hs:=fun H2 Hs2 e1 e2 e3=>by
 have q:=e1.tup h
 have hl:=wu ds 0
 refine ⟨fun i hi=>?_,fun i hi=>⟨vs,q,by rw [r.length];omega⟩,fun i x H3 hi y=>?_⟩
 ·have hi':i<vs.length:=by rw [r.length];omega
  exact ⟨vs,vs[i],q,aR hi'⟩
 ·obtain ⟨p,hp,rfl,y⟩:=y
  obtain ⟨x,k0,rfl⟩:=y vs q
  obtain ⟨d,k1,k2⟩:=r.get k0
  have st:=cT.new (o:=.tup [.int i,x]) e3 hp
  refine ⟨.tuple [.int i,d],_,?_,st,.tuple aW (.cons (.int _) (.cons ((k2.same e2).same st.sh) .nil))⟩
  rw [wt,k1]
  simp
def xJ:List D->List D->List D
 | x::xs,y::ys=>.tuple [x,y]::xJ xs ys
 | _,_=>[]
theorem EF:∀ (xs ys:List D) (i:Nat) (x y:D),xs[i]?=some x->ys[i]?=some y->(xJ xs ys)[i]?=some (.tuple [x,y])
 | x::xs,y::ys,0,_,_,h1,h2=>by simp at h1 h2;subst h1 h2;rfl
 | _::xs,_::ys,i + 1,x,y,h1,h2=>by
  simp only [jy] at h1 h2
  simp only [xJ,jy]
  exact EF xs ys i x y h1 h2
 | [],_,_,_,_,h1,_=>by simp at h1
 | _::_,[],_,_,_,_,h2=>by simp at h2
theorem EG:∀ (xs ys:List D),(xJ xs ys).length=min xs.length ys.length
 | x::xs,y::ys=>by simp [xJ,EG xs ys]
 | [],_=>by simp [xJ]
 | _::_,[]=>by simp [xJ]
theorem U5 {K:a8}{Hn Hs:Hp}{a b:ah}{vs ws:List V}{ds es:List D} (h:kE K Hn a vs) (r:RDs K Hs vs ds) (h':kE K Hn b ws) (r':RDs K Hs ws es):No K (XY K a b) (xJ ds es) Hn Hs:=fun H2 Hs2 e1 e2 e3=>by
 have q:=e1.tup h
 have q':=e1.tup h'
 have hl:=EG ds es
 refine ⟨fun i hi=>?_,fun i hi=>⟨vs,ws,q,q',by rw [r.length,r'.length];omega⟩,fun i x H3 hi y=>?_⟩
 ·have h1:i<vs.length:=by rw [r.length];omega
  have h2:i<ws.length:=by rw [r'.length];omega
  exact ⟨vs,ws,vs[i],ws[i],q,q',aR h1,aR h2⟩
 ·obtain ⟨p,hp,rfl,y⟩:=y
  obtain ⟨x,z,k0,k0',rfl⟩:=y vs ws q q'
  obtain ⟨d,k1,k2⟩:=r.get k0
  obtain ⟨d',k1',k2'⟩:=r'.get k0'
  have st:=cT.new (o:=.tup [x,z]) e3 hp
  exact ⟨.tuple [d,d'],_,EF ds es i d d' k1 k1',st,.tuple aW (.cons ((k2.same e2).same st.sh) (.cons ((k2'.same e2).same st.sh) .nil))⟩
inductive VT (K:a8) (cls:Str->ah) (E:XK) (ρ:au) (r:R (List D)) (σ:St) (H:Hp) (Q:It->Hp->Prop):Prop
 | mk (H0 Hs0:Hp) (la:Nat->Option ah) (Hs:Hp) (f:Fr K H0 Hs0 la ρ σ H Hs) (q:Fin K cls E H Hs r fun ds=>∀ J H' Hs' Hn,cT H Hs H' Hs'->dB Hn H'->No K J ds Hn Hs'->Q J H'):VT K cls E ρ r σ H Q
def X6 (K:a8) (cls:Str->ah) (E:XK) (ρ:au) (r:R (List D)):TI:=VT K cls E ρ r
inductive VU (K:a8) (cls:Str->ah) (E:XK) (ρ:au) (r:R (List D)) (σ:St) (H:Hp) (Q:It->Hp->Prop):Prop
 | mk (H0 Hs0:Hp) (la:Nat->Option ah) (Hs:Hp) (f:Fr K H0 Hs0 la ρ σ H Hs) (q:Fin K cls E H Hs r fun ds=>∀ J H' Hs',cT H Hs H' Hs'->No K J ds Hs' Hs'->Q J H'):VU K cls E ρ r σ H Q
def YH (K:a8) (cls:Str->ah) (E:XK) (ρ:au) (r:R (List D)):TI:=VU K cls E ρ r
structure JI (c:C) (tg it:a_) (g:au->R (List D)):Prop where of ::
 run:∀ ρ,PI c.X tg it (X6 c.X.K c.cls c.E ρ (g ρ))
instance {c:C}{tg it:a_}{g:au->R (List D)}:CoeFun (JI c tg it g) (fun _=>∀ ρ,PI c.X tg it (X6 c.X.K c.cls c.E ρ (g ρ))):=⟨JI.run⟩
structure LY (c:C) (tg it:a_) (g:au->R (List D)):Prop where of ::
 run:∀ ρ,PI c.X tg it (YH c.X.K c.cls c.E ρ (g ρ))
instance {c:C}{tg it:a_}{g:au->R (List D)}:CoeFun (LY c tg it g) (fun _=>∀ ρ,PI c.X tg it (YH c.X.K c.cls c.E ρ (g ρ))):=⟨LY.run⟩
theorem Ja {X:Cx}{tg e:a_}{t t':TI} (h:PI X tg e t) (m:∀ σ H Q,t' σ H Q->t σ H Q):PI X tg e t':=fun pins s σ H Q I q=>h pins s σ H Q I (m σ H Q q)
section
variable {c:C}{e a b l tg:a_}{g ga gb:au->R D}{pos p:Pos}{gs:au->R (List D)}
def z3:D->R (List D)
 | .list ds=>.ok ds
 | .tuple ds=>.ok ds
 | .str x=>.ok (o9 x)
 | _=>.no
def jf (g:au->R D):au->R (List D):=fun ρ=>(g ρ).bind z3
theorem eI (h:JB c l g):JI c tg l (jf g):=.of fun ρ=>by
 cases hr:g ρ with
 | no=>exact fun pins s σ H Q I h_0=>by obtain ⟨H0,Hs0,la,Hs,f,q⟩:=h_0;exact by unfold jf at q;rw [hr] at q;exact q.elim
 | ex x n =>
  refine Ja (uP (h ρ)) fun σ H Q h_1=>?_
  obtain ⟨H0,Hs0,la,Hs,f,q⟩:=h_1
  refine one f q fun d v H1 Hs1 e1 s1 f1 r1=>?_
  rw [hr] at e1;cases e1
 | ok d =>
  cases d with
  | list ds =>
   refine Ja (uP (h ρ)) fun σ H Q h_2=>?_
   obtain ⟨H0,Hs0,la,Hs,f,q⟩:=h_2
   refine one f q fun d v H1 Hs1 e1 s1 f1 r1=>?_
   rw [hr] at e1;cases e1
   unfold jf at q
   rw [hr,bind_ok] at q
   obtain ⟨a,vs,rfl,qa,ra⟩:=r1.list f1.st.sub
   exact ⟨a,rfl,⟨vs,qa⟩,q _ H1 Hs1 H1 s1 (.refl _) (CU qa ra)⟩
  | tuple ds =>
   refine Ja (Mr (h ρ)) fun σ H Q h_3=>?_
   obtain ⟨H0,Hs0,la,Hs,f,q⟩:=h_3
   refine one f q fun d v H1 Hs1 e1 s1 f1 r1=>?_
   rw [hr] at e1;cases e1
   unfold jf at q
   rw [hr,bind_ok] at q
   obtain ⟨a,vs,rfl,qa,ra,_⟩:=r1.tuple f1.st.sub
   exact ⟨a,rfl,⟨vs,qa⟩,q _ H1 Hs1 H1 s1 (.refl _) (Np qa ra)⟩
  | str x =>
   refine Ja (MZ (h ρ)) fun σ H Q h_4=>?_
   obtain ⟨H0,Hs0,la,Hs,f,q⟩:=h_4
   refine one f q fun d v H1 Hs1 e1 s1 f1 r1=>?_
   rw [hr] at e1;cases e1
   unfold jf at q
   rw [hr,bind_ok] at q
   exact ⟨x,r1.str,q _ H1 Hs1 H1 s1 (.refl _) (Nq x)⟩
  | none=>exact fun pins s σ H Q I h_5=>by obtain ⟨H0,Hs0,la,Hs,f,q⟩:=h_5;exact by unfold jf at q;rw [hr] at q;exact q.elim
  | bool _=>exact fun pins s σ H Q I h_6=>by obtain ⟨H0,Hs0,la,Hs,f,q⟩:=h_6;exact by unfold jf at q;rw [hr] at q;exact q.elim
  | int _=>exact fun pins s σ H Q I h_7=>by obtain ⟨H0,Hs0,la,Hs,f,q⟩:=h_7;exact by unfold jf at q;rw [hr] at q;exact q.elim
  | dict _=>exact fun pins s σ H Q I h_8=>by obtain ⟨H0,Hs0,la,Hs,f,q⟩:=h_8;exact by unfold jf at q;rw [hr] at q;exact q.elim
theorem yb (h:JE c l g):LY c tg l (jf g):=.of fun ρ=>by
 cases hr:g ρ with
 | no=>exact fun pins s σ H Q I h_9=>by obtain ⟨H0,Hs0,la,Hs,f,q⟩:=h_9;exact by unfold jf at q;rw [hr] at q;exact q.elim
 | ex x n =>
  refine Ja (uP (h ρ)) fun σ H Q h_10=>?_
  obtain ⟨H0,Hs0,la,Hs,f,q⟩:=h_10
  refine yT f q fun d v H1 Hs1 e1 s1 f1 r1=>?_
  rw [hr] at e1;cases e1
 | ok d =>
  cases d with
  | list ds =>
   refine Ja (uP (h ρ)) fun σ H Q h_11=>?_
   obtain ⟨H0,Hs0,la,Hs,f,q⟩:=h_11
   refine yT f q fun d v H1 Hs1 e1 s1 f1 r1=>?_
   rw [hr] at e1;cases e1
   unfold jf at q
   rw [hr,bind_ok] at q
   cases r1 with
   | list qa ra=>exact ⟨_,rfl,⟨_,f1.st.sub.seq qa⟩,q _ H1 Hs1 s1 (CU qa ra)⟩
  | tuple ds =>
   refine Ja (Mr (h ρ)) fun σ H Q h_12=>?_
   obtain ⟨H0,Hs0,la,Hs,f,q⟩:=h_12
   refine yT f q fun d v H1 Hs1 e1 s1 f1 r1=>?_
   rw [hr] at e1;cases e1
   unfold jf at q
   rw [hr,bind_ok] at q
   cases r1 with
   | tuple qa ra=>exact ⟨_,rfl,⟨_,(kE.of (f1.st.sub _ _ qa))⟩,q _ H1 Hs1 s1 (Np (.of qa) ra)⟩
  | str x =>
   refine Ja (MZ (h ρ)) fun σ H Q h_13=>?_
   obtain ⟨H0,Hs0,la,Hs,f,q⟩:=h_13
   refine yT f q fun d v H1 Hs1 e1 s1 f1 r1=>?_
   rw [hr] at e1;cases e1
   unfold jf at q
   rw [hr,bind_ok] at q
   cases r1 with
   | str _=>exact ⟨x,rfl,q _ H1 Hs1 s1 (Nq x)⟩
  | none=>exact fun pins s σ H Q I h_14=>by obtain ⟨H0,Hs0,la,Hs,f,q⟩:=h_14;exact by unfold jf at q;rw [hr] at q;exact q.elim
  | bool _=>exact fun pins s σ H Q I h_15=>by obtain ⟨H0,Hs0,la,Hs,f,q⟩:=h_15;exact by unfold jf at q;rw [hr] at q;exact q.elim
  | int _=>exact fun pins s σ H Q I h_16=>by obtain ⟨H0,Hs0,la,Hs,f,q⟩:=h_16;exact by unfold jf at q;rw [hr] at q;exact q.elim
  | dict _=>exact fun pins s σ H Q I h_17=>by obtain ⟨H0,Hs0,la,Hs,f,q⟩:=h_17;exact by unfold jf at q;rw [hr] at q;exact q.elim
theorem LY.i (h:LY c tg l gs):JI c tg l gs:=.of fun ρ=>Ja (h ρ) fun σ H Q ⟨H0,Hs0,la,Hs,f,q⟩=>⟨H0,Hs0,la,Hs,f,by
 cases hr:gs ρ with
 | ok ds=>rw [hr] at q;exact fun J H' Hs' s i=>q J H' Hs' Hs' s s.sub i
 | ex x n=>rw [hr] at q;exact q
 | no=>rw [hr] at q;exact q⟩
def Hu:List D->R (List D)
 | [.int j]=>if -(2 ^ 62)<=j/\j<2 ^ 62 then .ok (r9 0 j.toNat) else .no
 | _=>.no
def vd (gs:au->R (List D)):au->R (List D):=fun ρ=>(gs ρ).bind Hu
theorem m6 (hg:Gl c.X "range") (hm:c.X.mg "range"=none) (ha:Sd c [a] gs) (hs:aA [a] c.X.env=[(false,du a c.X.env)]:=by rfl):LY c tg (.Call (.Name "range" p) [a] [] pos) (vd gs):=.of fun ρ=>Ja (Ku hg hm (ha ρ) hs) fun σ H Q h_18=>by
 obtain ⟨H0,Hs0,la,Hs,f,q⟩:=h_18
 refine Ng f q fun ds vs H1 Hs1 e1 s1 f1 r1=>?_
 unfold vd at q
 rw [e1,bind_ok] at q
 unfold Hu at q
 split at q
 ·rename_i j
  by_cases hj:-(2 ^ 62)<=j/\j<2 ^ 62
  ·rw [if_pos hj] at q
   obtain ⟨x,rfl,rx⟩:=r1.one
   exact ⟨j,by rw [rx.int],hj.1,hj.2,q _ H1 Hs1 s1 (Nr 0 _)⟩
  ·rw [if_neg hj] at q;exact q.elim
 ·exact q.elim
def X7:List D->R (List D)
 | [.tuple ds]=>.ok (iZ 0 ds)
 | _=>.no
def Hv (gs:au->R (List D)):au->R (List D):=fun ρ=>(gs ρ).bind X7
theorem RDs.one {K:a8}{H:Hp}{xs:List V}{d:D} (h:RDs K H xs [d]):∃ x,xs=[x]/\RD K H x d:=by
 cases h with | cons a t=>cases t;exact ⟨_,rfl,a⟩
theorem RDs.two {K:a8}{H:Hp}{xs:List V}{d e:D} (h:RDs K H xs [d,e]):∃ x y,xs=[x,y]/\RD K H x d/\RD K H y e:=by
 cases h with | cons a t=>cases t with | cons b t=>cases t;exact ⟨_,_,rfl,a,b⟩
theorem zb {elts:List a_}{x1}{tpos:Pos} (hg:Gl c.X "enumerate") (hm:c.X.mg "enumerate"=none) (ha:DV c [a] gs) (hs:aA [a] c.X.env=[(false,du a c.X.env)]:=by rfl):LY c (.Tuple elts x1 tpos) (.Call (.Name "enumerate" p) [a] [] pos) (Hv gs):=.of fun ρ=>Ja (Qt hg hm (ha ρ) hs) fun σ H Q h_20=>by
 obtain ⟨H0,Hs0,la,Hs,f,q⟩:=h_20
 refine AK f q fun ds vs H1 Hs1 e1 s1 f1 r1=>?_
 unfold Hv at q
 rw [e1,bind_ok] at q
 unfold X7 at q
 split at q
 ·obtain ⟨x,rfl,rx⟩:=r1.one
  cases rx with
  | tuple qa ra=>exact ⟨_,_,rfl,(kE.of (f1.st.sub _ _ qa)),q _ H1 Hs1 s1 (QI (.of qa) ra)⟩
 ·exact q.elim
def zp:List D->R (List D)
 | [.tuple ds,.tuple es]=>.ok (xJ ds es)
 | _=>.no
def QJ (gs:au->R (List D)):au->R (List D):=fun ρ=>(gs ρ).bind zp
theorem QK {elts:List a_}{x1}{tpos:Pos} (hg:Gl c.X "zip") (hm:c.X.mg "zip"=none) (ha:DV c [a,b] gs) (hs:aA [a,b] c.X.env=[(false,du a c.X.env),(false,du b c.X.env)]:=by rfl) (hs2:aA [b] c.X.env=[(false,du b c.X.env)]:=by rfl) :
  LY c (.Tuple elts x1 tpos) (.Call (.Name "zip" p) [a,b] [] pos) (QJ gs):=.of fun ρ=>Ja (TX hg hm (ha ρ) hs hs2) fun σ H Q h_21=>by
 obtain ⟨H0,Hs0,la,Hs,f,q⟩:=h_21
 refine AK f q fun ds vs H1 Hs1 e1 s1 f1 r1=>?_
 unfold QJ at q
 rw [e1,bind_ok] at q
 unfold zp at q
 split at q
 ·obtain ⟨x,y,rfl,rx,ry⟩:=r1.two
  cases rx with
  | tuple qa ra =>
   cases ry with
   | tuple qb rb=>exact ⟨_,_,_,_,rfl,(kE.of (f1.st.sub _ _ qa)),(kE.of (f1.st.sub _ _ qb)),q _ H1 Hs1 s1 (U5 (.of qa) ra (.of qb) rb)⟩
 ·exact q.elim
end
end
section
inductive YI (K:a8) (cls:Str->ah) (E:XK) (ρ:au) (r:R D) (σ:St) (H:Hp) (Q:VK):Prop
 | mk (H0 Hs0:Hp) (la:Nat->Option ah) (Hs:Hp) (f:Fr K H0 Hs0 la ρ σ H Hs) (q:Fin K cls E H Hs r fun d=>∀ a o H' Hs',cT H Hs H' Hs'->H' a=none->mV K Hs' o d->Q (.ref a) (upd H' a o)):YI K cls E ρ r σ H Q
def TN (K:a8) (cls:Str->ah) (E:XK) (ρ:au) (r:R D):TE:=YI K cls E ρ r
structure JN (c:C) (e:a_) (g:au->R D):Prop where of ::
 run:∀ ρ,PE c.X e (TN c.X.K c.cls c.E ρ (g ρ))
instance {c:C}{e:a_}{g:au->R D}:CoeFun (JN c e g) (fun _=>∀ ρ,PE c.X e (TN c.X.K c.cls c.E ρ (g ρ))):=⟨JN.run⟩
section
variable {c:C}{e a b l tg:a_}{g ga gb:au->R D}{pos p:Pos}{gs:au->R (List D)}{es:List a_}{x:Str}
theorem Y8 {K:a8}{cls:Str->ah}{E:XK}{ρ:au}{r:R D}{σ:St}{H:Hp}{Q:VK} (q:TR K cls E ρ r σ H Q):TN K cls E ρ r σ H Q:=by
 obtain ⟨H0,Hs0,la,Hs,f,q⟩:=q
 refine ⟨H0,Hs0,la,Hs,f,?_⟩
 cases r with
 | ok d=>exact fun a o H' Hs' s n r=>q _ _ _ (s.trans (.new s.sub n)) (r.share (s.sub.free n))
 | ex x n=>exact q
 | no=>exact q
theorem JN.je (h:JN c e g):JE c e g:=.of fun ρ=>qA (h ρ) fun σ H Q q=>Y8 q
theorem pq (h:DV c es gs):JN c (.List es pos) (dQ gs .list):=.of fun ρ=>qA (o0 (h ρ)) fun σ H Q h_0=>by
 obtain ⟨H0,Hs0,la,Hs,f,q⟩:=h_0
 refine AK f q fun ds vs H1 Hs1 e1 s1 f1 r1=>?_
 unfold dQ at q
 rw [e1,bind_ok] at q
 by_cases hl:ds.length<=1000
 ·rw [if_pos hl] at q
  exact ⟨bC (cA (by rw [r1.length];exact hl)),fun p hp=>q p _ H1 Hs1 s1 hp (.lst r1)⟩
 ·rw [if_neg hl] at q;exact q.elim
theorem Jb:JN c (.Dict [] [] pos) (fun _=>.ok (.dict [])):=.of fun ρ=>qA MM fun σ H Q h_1=>by obtain ⟨H0,Hs0,la,Hs,f,q⟩:=h_1;exact fun p hp=>q p _ H Hs (.refl f.st.sub) hp (.dK .nil)
def e8 (i:Nat) (g:au->R D):au->R Fl:=fun ρ=>(g ρ).bind fun d=>.ok (.nx (ρ.set i (.own d)))
theorem sN {K:a8}{cls:Str->ah}{E:XK}{ρ:au}{r:R D}{k:D->R Fl}{σ:St}{H:Hp}{H0 Hs0 Hs:Hp}{la:Nat->Option ah}{D':tM}{Q:V->Hp->Prop} (f:Fr K H0 Hs0 la ρ σ H Hs)
  (h:oa K cls E H0 Hs0 la D' (r.bind k)) (m:∀ d a o H' Hs',r=.ok d->Fr K H0 Hs0 la ρ σ H' Hs'->H' a=none->mV K Hs' o d->Q (.ref a) (upd H' a o)):TN K cls E ρ r σ H Q:=by
 refine ⟨H0,Hs0,la,Hs,f,?_⟩
 cases r with
 | ok d=>exact fun a o H' Hs' s n r=>m d a o H' Hs' rfl (f.step s) n r
 | ex c n=>exact fun H' Hs' s=>h H' Hs' (f.st.trans s)
 | no=>exact h
theorem gG (i:Nat) {pos':Pos} (h:JN c e g) (hN:c.X.N.Nodup) (hi:c.X.N[i]?=some x:=by rfl) (hx:Q3 c.X.env.scope x:=by first | exact fv rfl | exact dD rfl) (hs:gL e (some (.Name x pos')) pos.line c.X.env=pure false:=by rfl)
  (hf:c.X.fn x=true\/c.X.env.scope.names.lookup x=some .local:=by first | exact .inl rfl | exact .inr rfl | assumption):JS c (.Assign [.Name x pos'] e pos) (e8 i g):=.of fun ρ=>y0 (yz hN hi hx (h ρ) hs hf) fun D σ H h_2=>by
 obtain ⟨H0,Hs0,la,Hs,f,q⟩:=h_2
 refine sN f q fun d a o H1 Hs1 e1 f1 n1 r1=>?_
 unfold e8 at q
 rw [e1,bind_ok] at q
 exact q _ _ Hs1 (f1.setO i n1 r1)
def K_ {α:Type}:R α->R α
 | .ex _ _=>.no
 | r=>r
theorem Jc {α:Type}{r:R α}{a:α} (h:K_ r=.ok a):r=.ok a:=by
 cases r<;>first | exact h | cases h
def gT (f:D->R (Option D)):List D->R (List D)
 | []=>.ok []
 | d::r=>(f d).bind fun o=>(gT f r).bind fun ys=>.ok (match o with
  | some y=>y::ys
  | none=>ys)
theorem zc {f:D->R (Option D)}{d:D}{r ys:List D} (h:gT f (d::r)=.ok ys):∃ o zs,f d=.ok o/\gT f r=.ok zs/\ys=o.toList++zs:=by
 unfold gT at h
 cases hf:f d with
 | ok o =>
  rw [hf,bind_ok] at h
  cases hm:gT f r with
  | ok zs =>
   rw [hm,bind_ok] at h
   cases h
   cases o<;>exact ⟨_,zs,rfl,rfl,rfl⟩
  | ex x n=>rw [hm] at h;cases h
  | no=>rw [hm] at h;cases h
 | ex x n=>rw [hf] at h;cases h
 | no=>rw [hf] at h;cases h
def QL:Sl->Sl
 | .own d=>.lck d
 | .ow2 _=>.no
 | s=>s
def oH (nt:Nat) (ix:List Nat) (ρ:au):au:=mX nt Sl.no++ix.map fun i=>QL ((ρ[i]?).getD .no)
def VV (nt:Nat):D->au->R au:=match nt with
 | 1=>bB 0
 | 2=>kJ 2 (cq (bB 0) (cq (bB 1) lr))
 | _=>fun _ _=>.no
def iu (nt:Nat) (ρ:au) (gt:au->R Bool) (ge:au->R D):D->R (Option D):=fun d=>K_ ((VV nt d ρ).bind fun ρ'=>(gt ρ').bind fun b=>if b then (ge ρ').bind fun y=>.ok (some y) else .ok none)
def dE (nt:Nat) (ix:List Nat) (gi:au->R (List D)) (gt:au->R Bool) (ge:au->R D):au->R D:=fun ρ=>(gi ρ).bind fun ds=>if ds.length<=1000 then (gT (iu nt (oH nt ix ρ) gt ge) ds).bind fun ys=>.ok (.list ys) else .no
structure VW (c:C) (ifs:List a_) (g:au->R Bool):Prop where of ::
 run:∀ ρ,Pt c.X ifs (KS c.X.K c.cls c.E ρ (g ρ))
instance {c:C}{ifs:List a_}{g:au->R Bool}:CoeFun (VW c ifs g) (fun _=>∀ ρ,Pt c.X ifs (KS c.X.K c.cls c.E ρ (g ρ))):=⟨VW.run⟩
theorem f9:VW c [] (fun _=>.ok true):=.of fun ρ pins s σ H Q I h_3=>by obtain ⟨H0,Hs0,la,Hs,f,q⟩:=h_3;exact Qp pins s σ H Q I (q H Hs (.refl f.st.sub))
theorem iG {gt:au->R Bool} (h:JT c e gt):VW c [e] gt:=.of fun ρ=>Qq (h ρ)
def L3 (K:a8) (nt:Nat):TG:=match nt with
 | 1=>wW 0
 | _=>Tj K 2 (L2.ac (wW 0) (L2.ac (wW 1) L2.aF))
theorem CV {K:a8}{nt:Nat} (h:nt=1\/nt=2):S4 nt (L3 K nt):=by
 rcases h with rfl | rfl
 ·exact MO (by decide)
 ·exact Qr (by decide) (by decide)
theorem EH {K:a8}{nt:Nat}{H0 Hs0 H Hs:Hp}{la:Nat->Option ah}{ρ ρ':au}{σ:St}{v:V}{d:D}{Q:St->Hp->Prop} (hnt:nt=1\/nt=2) (f:Fr K H0 Hs0 la ρ σ H Hs) (r:RD K Hs v d) (hb:VV nt d ρ=.ok ρ')
  (q:∀ σ',Fr K H0 Hs0 la ρ' σ' H Hs->Q σ' H):L3 K nt v σ H Q:=by
 rcases hnt with rfl | rfl
 ·cases hb
  exact q _ (f.set 0 r)
 ·unfold VV kJ at hb
  simp only at hb
  cases r with
  | @tuple p xs ds hq rs =>
   simp only at hb
   split at hb
   ·rename_i hl
    cases rs with
    | nil=>cases hl
    | cons r1 rs =>
     cases rs with
     | nil=>cases hl
     | cons r2 rs =>
      cases rs with
      | nil =>
       cases hb
       exact ⟨p,_,rfl,(kE.of (f.st.sub _ _ hq)),rfl,_,_,rfl,_,_,rfl,rfl,q _ ((f.set 0 r1).set 1 r2)⟩
      | cons _ _=>simp at hl
   ·cases hb
  | none=>cases hb
  | bool _=>cases hb
  | int _=>cases hb
  | str _=>cases hb
  | list _ _=>cases hb
  | dictK _ _=>cases hb
  | dictT _ _ _=>cases hb
  | dictF _ _ _=>cases hb
theorem Fr.block {K:a8}{H0 Hs0 H Hs:Hp}{la:Nat->Option ah}{ρ:au}{σ:St} (f:Fr K H0 Hs0 la ρ σ H Hs) (nt:Nat) (ix:List Nat):∃ la',Fr K H Hs la' (oH nt ix ρ) (L2.ju nt ix σ) H Hs:=by
 have lk:∀ (j:Nat) (d:D),(oH nt ix ρ)[j]?=some (Sl.lck d)->∃ a o,(L2.ju nt ix σ)[j]?=some (some (V.ref a))/\H a=some o/\Hs a=none/\mV K Hs o d:=fun j d h=>by
  unfold oH at h
  by_cases hj:j<nt
  ·rw [bw (by simpa using hj),bQ,if_pos hj] at h;cases h
  ·have hj:nt<=j:=by omega
   rw [bq (by simpa using hj),cZ,aP] at h
   cases hi:ix[j - nt]? with
   | none=>rw [hi] at h;cases h
   | some i =>
    rw [hi] at h
    have at_:∀ v,σ[i]?=some (some v)->(L2.ju nt ix σ)[j]?=some (some v):=fun v k1=>by
     unfold L2.ju
     rw [bq (by simpa using hj),cZ,aP,hi]
     simp [k1]
    cases hr:ρ[i]? with
    | none=>simp only [dn,hr,gN,QL] at h;cases h
    | some s =>
     simp only [dn,hr,kn] at h
     cases s with
     | own d' =>
      cases h
      obtain ⟨a,o,k1,k2,k3,k4,k5⟩:=f.ow i d hr
      exact ⟨a,o,at_ _ k1,k2,k3,k5⟩
     | lck d' =>
      cases h
      obtain ⟨a,o,k1,k2,k3,k4,k5,k6⟩:=f.lk i d hr
      exact ⟨a,o,at_ _ k1,k3,k4,k6⟩
     | no=>cases h
     | shr _=>cases h
     | ow2 _=>cases h
 have no2:∀ (j:Nat) (d:List (List D)),¬ (oH nt ix ρ)[j]?=some (Sl.ow2 d):=fun j d h=>by
  unfold oH at h
  by_cases hj:j<nt
  ·rw [bw (by simpa using hj),bQ,if_pos hj] at h;cases h
  ·have hj:nt<=j:=by omega
   rw [bq (by simpa using hj),cZ,aP] at h
   cases hi:ix[j - nt]? with
   | none=>rw [hi] at h;cases h
   | some i =>
    rw [hi] at h
    cases hr:ρ[i]? with
    | none=>simp only [dn,hr,gN,QL] at h;cases h
    | some s =>
     simp only [dn,hr,kn] at h
     cases s<;>cases h
 refine ⟨fun j=>match (oH nt ix ρ)[j]?,(L2.ju nt ix σ)[j]? with
  | some (Sl.lck _),some (some (V.ref a))=>some a
  | _,_=>none,.refl f.st.sub,by simp [oH,L2.ju],fun j d h=>?_,fun j d h=>?_,fun j d h=>?_,fun j k d1 d2 a h1 h2 _ _=>?_,fun j a h=>?_,fun j d h=>(no2 j d h).elim,fun j k d1 d2 h1 _=>(no2 j d1 h1).elim⟩
 case refine_3 =>
  obtain ⟨a,o,k1,k2,k3,k4⟩:=lk j d h
  exact ⟨a,o,k1,by rw [h,k1],k2,k3,k2,k4⟩
 case refine_5 =>
  split at h
  ·rename_i d a' h1 h2
   cases h
   obtain ⟨a',o,k1,k2,_⟩:=lk j d h1
   rw [h2] at k1
   cases k1
   exact ⟨o,k2⟩
  ·cases h
 all_goals
  unfold oH at *
 ·have h:=h
  by_cases hj:j<nt
  ·rw [bw (by simpa using hj),bQ,if_pos hj] at h;cases h
  ·have hj:nt<=j:=by omega
   rw [bq (by simpa using hj),cZ,aP] at h
   cases hi:ix[j - nt]? with
   | none=>rw [hi] at h;cases h
   | some i =>
    rw [hi] at h
    cases hr:ρ[i]? with
    | none=>simp only [dn,hr,gN,QL] at h;cases h
    | some s =>
     simp only [dn,hr,kn] at h
     cases s with
     | shr d' =>
      cases h
      obtain ⟨v,k1,k2⟩:=f.sh i d hr
      refine ⟨v,?_,k2⟩
      unfold L2.ju
      rw [bq (by simpa using hj),cZ,aP,hi]
      simp [k1]
     | no=>cases h
     | own _=>cases h
     | lck _=>cases h
     | ow2 _=>cases h
 ·have h:=h
  by_cases hj:j<nt
  ·rw [bw (by simpa using hj),bQ,if_pos hj] at h;cases h
  ·have hj:nt<=j:=by omega
   rw [bq (by simpa using hj),cZ,aP] at h
   cases hi:ix[j - nt]? with
   | none=>rw [hi] at h;cases h
   | some i =>
    rw [hi] at h
    cases hr:ρ[i]? with
    | none=>simp only [dn,hr,gN,QL] at h;cases h
    | some s =>
     simp only [dn,hr,kn] at h
     cases s<;>cases h
 ·have h1:=h1
  by_cases hj:j<nt
  ·rw [bw (by simpa using hj),bQ,if_pos hj] at h1;cases h1
  ·have hj:nt<=j:=by omega
   rw [bq (by simpa using hj),cZ,aP] at h1
   cases hi:ix[j - nt]? with
   | none=>rw [hi] at h1;cases h1
   | some i =>
    rw [hi] at h1
    cases hr:ρ[i]? with
    | none=>simp only [dn,hr,gN,QL] at h1;cases h1
    | some s =>
     simp only [dn,hr,kn] at h1
     cases s<;>cases h1
theorem zd {f:D->R (Option D)} (h:∀ d c n,f d≠.ex c n):∀ (ds:List D) (c:Str) (n:Option D),gT f ds≠.ex c n
 | [],c,n=>fun e=>by cases e
 | d::r,c,n=>fun e=>by
  unfold gT at e
  cases hf:f d with
  | ok o =>
   rw [hf,bind_ok] at e
   cases hm:gT f r with
   | ok zs=>rw [hm,bind_ok] at e;cases e
   | ex x k=>exact zd h r x k hm
   | no=>rw [hm] at e;cases e
  | ex x k=>exact h d x k hf
  | no=>rw [hf] at e;cases e
theorem EI (nt:Nat) (ρ:au) (gt:au->R Bool) (ge:au->R D) (d:D) (c:Str) (n:Option D):iu nt ρ gt ge d≠.ex c n:=by
 unfold iu K_
 split<;>first | exact fun e=>by cases e | skip
 rename_i h
 exact fun e=>h c n e
inductive YJ (K:a8) (f:D->R (Option D)) (ds ys:List D) (H1 Hs1:Hp) (i m:Nat) (acc:List V) (H':Hp):Prop
 | mk (done bX zs ya Hs':_) (h0:ds=done++bX) (h1:done.length=i) (h2:bX.length=m) (h3:cT H1 Hs1 H' Hs') (h4:RDs K Hs' acc ya) (h5:ya.length<=i) (h6:gT f bX=.ok zs) (h7:ys=ya++zs):YJ K f ds ys H1 Hs1 i m acc H'
theorem Jd {K:a8}{cls:Str->ah}{E:XK}{nt:Nat}{ix:List Nat}{gi:au->R (List D)}{gt:au->R Bool}{ge:au->R D}{ρ:au}{σ:St}{H:Hp}{Q:VK} (hnt:nt=1\/nt=2)
  (q:TN K cls E ρ (dE nt ix gi gt ge ρ) σ H Q) :
  MN nt ix (X6 K cls E ρ (gi ρ)) (L3 K nt) (fun σ H Q=>∃ ρ',KS K cls E0 ρ' (gt ρ') σ H Q) (fun σ H Q=>∃ ρ',TR K cls E0 ρ' (ge ρ') σ H Q) σ H Q:=by
 obtain ⟨H0,Hs0,la,Hs,f,q⟩:=q
 refine ⟨H0,Hs0,la,Hs,f,?_⟩
 unfold dE at q
 cases hi:gi ρ with
 | no=>rw [hi] at q;exact q
 | ex x n=>rw [hi] at q;exact q
 | ok ds =>
  rw [hi,bind_ok] at q
  intro J H1 Hs1 Hn s1 sn it
  by_cases hl:ds.length<=1000
  ·rw [if_pos hl] at q
   cases hm:gT (iu nt (oH nt ix ρ) gt ge) ds with
   | no=>rw [hm] at q;exact q.elim
   | ex x n=>exact (zd (EI _ _ _ _) _ _ _ hm).elim
   | ok ys =>
    rw [hm,bind_ok] at q
    obtain ⟨lb,fb⟩:=(f.step s1).block nt ix
    refine ⟨YJ K (iu nt (oH nt ix ρ) gt ge) ds ys H1 Hs1,
     ⟨ds.length,[],ds,ys,[],Hs1,rfl,rfl,rfl,.refl s1.sub,.nil,c_ _,hm,rfl⟩,?_⟩
    rintro i m acc H' ⟨done,bX,zs,ya,Hs',hds,hdl,hrl,st,ra,yl,hz,hy⟩
    obtain ⟨igo,istop,iyld⟩:=it H' Hs' (sn.trans st.all) st.sh st.sub
    cases bX with
    | nil =>
     left
     cases hz
     rw [bV] at hds hy
     subst hy hds
     exact ⟨istop i (by omega),fun p hp=>q p _ H' Hs' (s1.trans st) hp (.lst ra)⟩
    | cons d bX =>
     right
     have hil:i<ds.length:=by rw [hds,aB,aU];omega
     refine ⟨igo i hil,cA (by rw [ra.length];omega),fun x H2 hyl=>?_⟩
     obtain ⟨d',Hs2,hd,s2,r2⟩:=iyld i x H2 hil hyl
     have hdd:d'=d:=by
      rw [hds,bq (by omega)] at hd
      simp [hdl] at hd
      exact hd.symm
     subst hdd
     obtain ⟨o,zs',hf,hz',rfl⟩:=zc hz
     have hf:=Jc hf
     cases hb:VV nt d' (oH nt ix ρ) with
     | no=>rw [hb] at hf;cases hf
     | ex x n=>rw [hb] at hf;cases hf
     | ok ρ' =>
      rw [hb,bind_ok] at hf
      refine EH hnt ((fb.step st).step s2) r2 hb fun σ2 f2=>⟨ρ',?_⟩
      refine ⟨_,_,_,Hs2,f2,?_⟩
      cases ht:gt ρ' with
      | no=>rw [ht] at hf;cases hf
      | ex x n=>rw [ht] at hf;cases hf
      | ok b =>
       rw [ht,bind_ok] at hf
       intro H3 Hs3 s3
       cases b with
       | false =>
        rw [if_neg aY] at hf
        cases hf
        refine xD ⟨bX.length,by rw [<- hrl];simp,done++[d'],bX,zs',ya,Hs3,by rw [hds];simp,by simp [hdl],rfl,(st.trans s2).trans s3,ra.same (s2.trans s3).sh,by omega,hz',by simpa using hy⟩
       | true =>
        rw [if_pos rfl] at hf
        refine AD ⟨ρ',_,_,_,Hs3,f2.step s3,?_⟩
        cases he:ge ρ' with
        | no=>rw [he] at hf;cases hf
        | ex x n=>rw [he] at hf;cases hf
        | ok y =>
         rw [he,bind_ok] at hf
         cases hf
         intro v H4 Hs4 s4 r4
         exact ⟨bX.length,by rw [<- hrl];simp,done++[d'],bX,zs',ya++[y],Hs4,by rw [hds];simp,by simp [hdl],rfl,((st.trans s2).trans s3).trans s4,(ra.same ((s2.trans s3).trans s4).sh).append (.cons r4 .nil),by simp;omega,hz',by rw [hy];simp⟩
  ·rw [if_neg hl] at q;exact q.elim
def C.comp (c:C) (N':List Str) (scope:eT) (cl:List (Str×ah)) (A:ah) (s₀:af) (H₀:Hp) (ex:List ah) (pn:List (ah×Obj)):C:=⟨cS c.X N' scope cl A s₀ H₀ ex pn,c.cls,E0⟩
variable {elt iter:a_}{ifs:List a_}{scope:eT}{N':List Str}{nt:Nat}{ix:List Nat}{gi:au->R (List D)}{gt:au->R Bool}{ge:au->R D}
def vf (c:C) (N':List Str) (scope:eT) (nt:Nat) (tg:a_) (ifs:List a_) (elt:a_) (gt:au->R Bool) (ge:au->R D):Prop :=
 ∀ cl A s₀ H₀ ex pn,PG (c.comp N' scope cl A s₀ H₀ ex pn).X tg (L3 c.X.K nt)/\VW (c.comp N' scope cl A s₀ H₀ ex pn) ifs gt/\JE (c.comp N' scope cl A s₀ H₀ ex pn) elt ge
theorem vf.at (h:vf c N' scope nt tg ifs elt gt ge):∀ cl A s₀ H₀ ex pn,PG (cS c.X N' scope cl A s₀ H₀ ex pn) tg (L3 c.X.K nt)/\Pt (cS c.X N' scope cl A s₀ H₀ ex pn) ifs (fun σ H Q=>∃ ρ',KS c.X.K c.cls E0 ρ' (gt ρ') σ H Q) /\
  PE (cS c.X N' scope cl A s₀ H₀ ex pn) elt (fun σ H Q=>∃ ρ',TR c.X.K c.cls E0 ρ' (ge ρ') σ H Q):=fun cl A s₀ H₀ ex pn=>by
 obtain ⟨h1,h2,h3⟩:=h cl A s₀ H₀ ex pn
 exact ⟨h1,fun pins s σ H Q I h_4=>by obtain ⟨ρ',q⟩:=h_4;exact h2 ρ' pins s σ H Q I q,fun pins s σ H Q I h_5=>by obtain ⟨ρ',q⟩:=h_5;exact h3 ρ' pins s σ H Q I q⟩
theorem dO (nt:Nat) (hnt:nt=1\/nt=2) (hc:c.X.calm=true) (S:o6 c.X scope N' nt ix) (hi:JI c tg iter gi) (hb:vf c N' scope nt tg ifs elt gt ge) (hs:∀ x,eB iter c.X.env x=pure x:=by intro _;rfl) :
  JN c (.ListComp elt [⟨tg,iter,ifs,0⟩] scope pos) (dE nt ix gi gt ge):=.of fun ρ=>qA (El hc S (CV hnt) (hi ρ) hb.at hs) fun σ H Q q=>Jd hnt q
theorem j6 (i:Nat) {spos py:Pos} (nt:Nat) (hnt:nt=1\/nt=2) (hN:c.X.N.Nodup) (hc:c.X.calm=true) (S:o6 c.X scope N' nt ix) (hi:JI c tg iter gi) (hb:vf c N' scope nt tg ifs elt gt ge)
  (hiN:c.X.N[i]?=some x:=by rfl) (hy:c.X.env.scope.names.lookup x=some .local:=by rfl)
  (hsw:gL (.ListComp elt [⟨tg,iter,ifs,0⟩] scope pos) (some (.Name x py)) spos.line c.X.env=pure true:=by rfl)
  (hs:∀ x,eB iter c.X.env x=pure x:=by intro _;rfl):JS c (.Assign [.Name x py] (.ListComp elt [⟨tg,iter,ifs,0⟩] scope pos) spos) (e8 i (dE nt ix gi gt ge)):=.of fun ρ=>y0 (Hc hN hiN hy hc S (CV hnt) (hi ρ) hb.at hsw hs) fun D σ H h_6=>by
 obtain ⟨H0,Hs0,la,Hs,f,q⟩:=h_6
 refine Jd (Q:=fun x H1=>D.nx (σ.set i (some x)) H1) hnt (sN f q fun d a o H1 Hs1 e1 f1 n1 r1=>?_)
 unfold e8 at q
 rw [e1,bind_ok] at q
 exact q _ _ Hs1 (f1.setO i n1 r1)
end
end
section
theorem Nt {X:Cx}{st:cp}{t:TS} (h:PS X.nox st t):PS X st t:=fun pins s σ H D I hw =>
 bE (h pins s σ H D (I.wish _) hw) (fun _ _ q=>q.unwish) fun _ _ z=>eN z
def C.nox (c:C):C:=⟨c.X.nox,c.cls,E0⟩
def iw (k:D->au->R au) (b:au->R Fl):List D->au->R Fl
 | [],ρ=>.ok (.nx ρ)
 | d::r,ρ=>match k d ρ with
  | .ok ρ1=>match b ρ1 with
   | .ok (.nx ρ')=>iw k b r ρ'
   | .ok (.ct ρ')=>iw k b r ρ'
   | .ok (.bk ρ')=>.ok (.nx ρ')
   | .ok (.rt d)=>.ok (.rt d)
   | _=>.no
  | _=>.no
def CW (i:Nat) (ρ:au):au:=match ρ[i]? with
 | some (Sl.own d)=>ρ.set i (.lck d)
 | _=>ρ
def ze (i:Nat) (ρ0 ρ:au):au:=match ρ0[i]?,ρ[i]? with
 | some (Sl.own _),some (Sl.lck d)=>ρ.set i (.own d)
 | _,_=>ρ
def Y9 (i:Nat) (ρ0:au):R Fl->R Fl
 | .ok (.nx ρ)=>.ok (.nx (ze i ρ0 ρ))
 | .ok (.bk ρ)=>.no
 | .ok (.ct ρ)=>.no
 | r=>r
section
variable {K:a8}{cls:Str->ah}{E:XK}
inductive YK (K:a8) (cls:Str->ah) (E:XK) (H0 Hs0:Hp) (la:Nat->Option ah) (D':tM) (kt:D->au->R au) (gb:au->R Fl) (ds:List D) (i m:Nat) (σ:St) (H:Hp):Prop
 | mk (done bX ρ Hs:_) (h0:ds=done++bX) (h1:done.length=i) (h2:bX.length=m) (h3:Fr K H0 Hs0 la ρ σ H Hs) (h4:oa K cls E H0 Hs0 la D' (iw kt gb bX ρ)):YK K cls E H0 Hs0 la D' kt gb ds i m σ H
theorem Nu {J:It}{Hn H0 Hs0:Hp}{la:Nat->Option ah}{ds:List D}{kt:D->au->R au}{gb:au->R Fl}{ρ:au}{σ:St}{H Hs:Hp}{D':tM}{tg:TG}{tb:TS}
  (it:No K J ds Hn Hs0) (hn:dB Hn H0) (f:Fr K H0 Hs0 la ρ σ H Hs)
  (htg:∀ ρ d v σ H Q,U4 K ρ d (kt d ρ) v σ H Q->tg v σ H Q) (htb:∀ ρ D σ H,SR K cls E0 ρ (gb ρ) D σ H->tb D σ H)
  (q:oa K cls E H0 Hs0 la D' (iw kt gb ds ρ)) :
  Xu tg tb D' σ J H:=by
 refine ⟨YK K cls E H0 Hs0 la D' kt gb ds,⟨ds.length,[],ds,ρ,Hs,rfl,rfl,rfl,f,q⟩,?_⟩
 rintro i m σ H ⟨done,bX,ρ,Hs,hds,hdl,hrl,f,q⟩
 obtain ⟨igo,istop,iyld⟩:=it H Hs (hn.trans f.st.all) f.st.sh f.st.sub
 cases bX with
 | nil =>
  rw [bV] at hds
  subst hds
  exact .inl ⟨istop i (by omega),q σ H Hs f⟩
 | cons d bX =>
  have hil:i<ds.length:=by rw [hds,aB,aU];omega
  refine .inr ⟨igo i hil,fun σ' H'=>∃ ρ' Hs',Fr K H0 Hs0 la ρ' σ' H' Hs'/\oa K cls E H0 Hs0 la D' (iw kt gb bX ρ'),fun σ' H' ⟨ρ',Hs',f',q'⟩=>⟨bX.length,by rw [<- hrl];simp,done++[d],bX,ρ',Hs',by rw [hds];simp,by simp [hdl],rfl,f',q'⟩,fun x H2 hyl=>?_⟩
  obtain ⟨d',Hs2,hd,s2,r2⟩:=iyld i x H2 hil hyl
  have hdd:d'=d:=by
   rw [hds,bq (by omega)] at hd
   simp [hdl] at hd
   exact hd.symm
  subst hdd
  unfold iw at q
  refine htg ρ d' x σ H2 _ ⟨H0,Hs0,la,Hs2,f.step s2,r2,?_⟩
  cases hk:kt d' ρ with
  | ex c n=>rw [hk] at q;exact q
  | no=>rw [hk] at q;exact q
  | ok ρ1 =>
   rw [hk] at q
   intro σ2 f2
   refine htb ρ1 _ σ2 H2 ⟨H0,Hs0,la,Hs2,f2,?_⟩
   cases hg:gb ρ1 with
   | no=>simp only [hg] at q;exact q.elim
   | ex c n=>simp only [hg] at q;exact q.elim
   | ok fl =>
    simp only [hg] at q
    cases fl with
    | nx ρ'=>exact fun σ' H' Hs' f'=>⟨ρ',Hs',f',q⟩
    | ct ρ'=>exact fun σ' H' Hs' f'=>⟨ρ',Hs',f',q⟩
    | bk ρ'=>exact fun σ' H' Hs' f'=>q σ' H' Hs' f'
    | rt d=>exact q
def sQ (A B:Hp):Hp:=fun b=>match A b with
 | some o=>some o
 | none=>B b
theorem jF {A B:Hp}:dB A (sQ A B):=fun b o e=>by unfold sQ;rw [e]
theorem jg {A B:Hp}{b:ah} (h:A b=none):sQ A B b=B b:=by unfold sQ;rw [h]
theorem EJ {A B H:Hp} (h1:dB A H) (h2:dB B H):dB (sQ A B) H:=fun b o e=>by
 cases h:A b with
 | some u=>unfold sQ at e;rw [h] at e;cases e;exact h1 b o h
 | none=>rw [jg h] at e;exact h2 b o e
theorem Nv {A B H:Hp} (h1:dB A H) (h2:dB B H):dB B (sQ A B):=fun b o e=>by
 cases h:A b with
 | some u =>
  unfold sQ
  rw [h]
  have:=h1 b u h
  rw [h2 b o e] at this
  exact this.symm
 | none=>rw [jg h];exact e
theorem Fr.into {H0 Hs0 H Hs:Hp}{la:Nat->Option ah}{ρ:au}{σ:St} (f:Fr K H0 Hs0 la ρ σ H Hs):Fr K (sQ H0 Hs) Hs la ρ σ H Hs:=by
 have sub:=EJ f.st.all f.st.sub
 refine ⟨⟨sub,.refl _,f.st.sub,fun a o e _ z=>z⟩,f.len,f.sh,fun i d h=>?_,fun i d h=>?_,f.dj,fun i a e=>let ⟨o,k⟩:=f.lh i a e;⟨o,jF _ _ k⟩,fun i d h=>?_,f.u2⟩
 ·obtain ⟨a,o,h1,h2,h3,h4,h5⟩:=f.ow i d h
  exact ⟨a,o,h1,h2,h3,by rw [jg h4];exact h3,h5⟩
 ·obtain ⟨a,o,h1,h2,h3,h4,h5,h6⟩:=f.lk i d h
  exact ⟨a,o,h1,h2,h3,h4,jF _ _ h5,h6⟩
 ·obtain ⟨a,as,O⟩:=f.o2 i d h
  exact ⟨a,as,O.at_,O.ob,O.nd,fun b hb=>⟨(O.out b hb).1,by rw [jg (O.out b hb).2];exact (O.out b hb).1⟩,O.dj,O.inn⟩
theorem cT.outof {H0 Hs0 H1 Hs1 H' Hs':Hp} (s:cT H0 Hs0 H1 Hs1) (t:cT (sQ H0 Hs1) Hs1 H' Hs'):cT H0 Hs0 H' Hs' :=
 ⟨jF.trans t.all,s.sh.trans t.sh,t.sub,fun a o e n z=>t.out a o (jF _ _ e) n (s.out a o e n z)⟩
theorem Fr.outof {H0 Hs0 H1 Hs1 H' Hs':Hp}{la:Nat->Option ah}{ρ1 ρ:au}{σ1 σ:St} (f1:Fr K H0 Hs0 la ρ1 σ1 H1 Hs1) (f:Fr K (sQ H0 Hs1) Hs1 la ρ σ H' Hs'):Fr K H0 Hs0 la ρ σ H' Hs':=by
 refine ⟨f1.st.outof f.st,f.len,f.sh,fun i d h=>?_,fun i d h=>?_,f.dj,f1.lh,fun i d h=>?_,f.u2⟩
 ·obtain ⟨a,o,h1,h2,h3,h4,h5⟩:=f.ow i d h
  exact ⟨a,o,h1,h2,h3,jF.free h4,h5⟩
 ·obtain ⟨a,o,h1,h2,h3,h4,h5,h6⟩:=f.lk i d h
  obtain ⟨o',e⟩:=f1.lh i a h2
  have e':=jF (B:=Hs1) _ _ e
  rw [h5] at e'
  cases e'
  exact ⟨a,o,h1,h2,h3,h4,e,h6⟩
 ·obtain ⟨a,as,O⟩:=f.o2 i d h
  exact ⟨a,as,O.at_,O.ob,O.nd,fun b hb=>⟨(O.out b hb).1,jF.free (O.out b hb).2⟩,O.dj,O.inn⟩
end
end
section
section
variable {K:a8}{cls:Str->ah}{E:XK}
theorem oa.into {H0 Hs0 H1 Hs1:Hp}{la:Nat->Option ah}{ρ1:au}{σ1:St}{D':tM}{r:R Fl} (f1:Fr K H0 Hs0 la ρ1 σ1 H1 Hs1) (q:oa K cls E H0 Hs0 la D' r):oa K cls E (sQ H0 Hs1) Hs1 la D' r:=by
 cases r with
 | no=>exact q
 | ex c n=>exact fun H' Hs' s=>q H' Hs' (f1.st.outof s)
 | ok fl =>
  cases fl with
  | nx ρ=>exact fun σ' H' Hs' f=>q σ' H' Hs' (f1.outof f)
  | bk ρ=>exact fun σ' H' Hs' f=>q σ' H' Hs' (f1.outof f)
  | ct ρ=>exact fun σ' H' Hs' f=>q σ' H' Hs' (f1.outof f)
  | rt d=>exact fun v H' Hs' s r=>q v H' Hs' (f1.st.outof s) r
theorem Fr.lock {H0 Hs0 H Hs:Hp}{la:Nat->Option ah}{ρ:au}{σ:St} (f:Fr K H0 Hs0 la ρ σ H Hs) {i:Nat}{d:D}{a:ah}{o:HO} (hi:ρ[i]?=some (Sl.own d)) (k1:σ[i]?=some (some (V.ref a))) (k2:H a=some o) (k3:Hs a=none) (k4:H0 a=none) (k5:mV K Hs o d) :
  Fr K (sQ H0 (upd Hs a o)) Hs (fun j=>if j=i then some a else la j) (ρ.set i (.lck d)) σ H Hs:=by
 have hil:i<ρ.length:=(List.getElem?_eq_some_iff.mp hi).1
 have sub:dB (upd Hs a o) H:=fun b u q=>by
  by_cases hb:b=a
  ·subst hb;rw [aW] at q;cases q;exact k2
  ·rw [aS hb] at q;exact f.st.sub b u q
 have nx:∀ {j:Nat}{s:Sl},(∀ d,s≠.lck d)->(ρ.set i (.lck d))[j]?=some s->ρ[j]?=some s/\i≠j:=fun {j s} hs e=>by
  by_cases hj:i=j
  ·subst hj
   rw [aM hil] at e;exact absurd (bJ e).symm (hs d)
  ·rw [ak hj] at e;exact ⟨e,hj⟩
 refine ⟨⟨EJ f.st.all sub,.refl _,f.st.sub,fun a o e _ z=>z⟩,by simp [f.len],fun j e h=>?_,fun j e h=>?_,fun j e h=>?_,fun j k d1 d2 b h1 h2 h3 h4=>?_,fun j b h=>?_,fun j e h=>?_,fun j k d1 d2 h1 h2=>?_⟩
 ·obtain ⟨h,_⟩:=nx (fun _ z=>by cases z) h
  exact f.sh j e h
 ·obtain ⟨h,hj⟩:=nx (fun _ z=>by cases z) h
  obtain ⟨b,u,q1,q2,q3,q4,q5⟩:=f.ow j e h
  refine ⟨b,u,q1,q2,q3,?_,q5⟩
  rw [jg q4,aS (fun z=>hj ?_)]
  ·exact q3
  ·subst z
   exact f.dj i j d e b hi h k1 q1
 ·by_cases hj:i=j
  ·subst hj
   rw [aM hil] at h
   cases h
   exact ⟨a,o,k1,if_pos rfl,k2,k3,by rw [jg k4,aW],k5⟩
  ·rw [ak hj] at h
   obtain ⟨b,u,q1,q2,q3,q4,q5,q6⟩:=f.lk j e h
   exact ⟨b,u,q1,by rw [if_neg (de hj)];exact q2,q3,q4,jF _ _ q5,q6⟩
 ·obtain ⟨h1,_⟩:=nx (fun _ z=>by cases z) h1
  obtain ⟨h2,_⟩:=nx (fun _ z=>by cases z) h2
  exact f.dj j k d1 d2 b h1 h2 h3 h4
 ·by_cases hj:j=i
  ·simp only [if_pos hj] at h
   cases h
   exact ⟨o,by rw [jg k4,aW]⟩
  ·simp only [if_neg hj] at h
   obtain ⟨u,e⟩:=f.lh j b h
   exact ⟨u,jF _ _ e⟩
 ·obtain ⟨h,hj⟩:=nx (fun _ z=>by cases z) h
  obtain ⟨b,as,O⟩:=f.o2 j e h
  refine ⟨b,as,O.at_,O.ob,O.nd,fun c hc=>⟨(O.out c hc).1,?_⟩,fun c hc k e' hk=>O.dj c hc k e' (nx (fun _ z=>by cases z) hk).1,O.inn⟩
  rw [jg (O.out c hc).2,aS (fun z=>?_)]
  ·exact (O.out c hc).1
  ·subst z
   exact O.dj c hc i d hi k1
 ·exact f.u2 j k d1 d2 (nx (fun _ z=>by cases z) h1).1 (nx (fun _ z=>by cases z) h2).1
theorem cT.unlock {H0 Hs0 H Hs H' Hs':Hp}{a:ah}{o:HO} (s:cT H0 Hs0 H Hs) (t:cT (sQ H0 (upd Hs a o)) Hs H' Hs'):cT H0 Hs0 H' Hs' :=
 ⟨jF.trans t.all,s.sh.trans t.sh,t.sub,fun b u e n z=>t.out b u (jF _ _ e) n (s.out b u e n z)⟩
theorem Fr.unlock {H0 Hs0 H Hs H' Hs':Hp}{la:Nat->Option ah}{ρ ρ':au}{σ σ':St} (f:Fr K H0 Hs0 la ρ σ H Hs) {i:Nat}{d:D}{a:ah}{o:HO} (hi:ρ[i]?=some (Sl.own d)) (k4:H0 a=none)
  (f':Fr K (sQ H0 (upd Hs a o)) Hs (fun j=>if j=i then some a else la j) ρ' σ' H' Hs'):Fr K H0 Hs0 la (ze i ρ ρ') σ' H' Hs':=by
 have st:=f.st.unlock f'.st
 have own:∀ (j:Nat) (e:D),ρ'[j]?=some (Sl.own e)->∃ b u,σ'[j]?=some (some (V.ref b))/\H' b=some u/\Hs' b=none/\H0 b=none/\mV K Hs' u e/\(sQ H0 (upd Hs a o)) b=none:=fun j e h=>by
  obtain ⟨b,u,q1,q2,q3,q4,q5⟩:=f'.ow j e h
  exact ⟨b,u,q1,q2,q3,jF.free q4,q5,q4⟩
 have lck:∀ (j:Nat) (e:D),j≠i->ρ'[j]?=some (Sl.lck e)->∃ b u,σ'[j]?=some (some (V.ref b))/\la j=some b/\H' b=some u/\Hs' b=none/\H0 b=some u/\mV K Hs' u e:=fun j e hj h=>by
  obtain ⟨b,u,q1,q2,q3,q4,q5,q6⟩:=f'.lk j e h
  simp only [if_neg hj] at q2
  obtain ⟨u',e'⟩:=f.lh j b q2
  have:=jF (B:=upd Hs a o) _ _ e'
  rw [q5] at this
  cases this
  exact ⟨b,u,q1,q2,q3,q4,e',q6⟩
 have two:∀ (j:Nat) (e:List (List D)),ρ'[j]?=some (Sl.ow2 e)->∃ b as,O2 K H0 H' Hs' ρ' σ' j e b as:=fun j e h=>by
  obtain ⟨b,as,O⟩:=f'.o2 j e h
  exact ⟨b,as,O.at_,O.ob,O.nd,fun c hc=>⟨(O.out c hc).1,jF.free (O.out c hc).2⟩,O.dj,O.inn⟩
 unfold ze
 cases hl:ρ'[i]? with
 | none =>
  simp only [hi]
  refine ⟨st,f'.len,f'.sh,fun j e h=>let ⟨b,u,q1,q2,q3,q4,q5,_⟩:=own j e h;⟨b,u,q1,q2,q3,q4,q5⟩,fun j e h=>lck j e (fun z=>by rw [z,hl] at h;cases h) h,f'.dj,f.lh,two,f'.u2⟩
 | some s =>
  cases s with
  | no=>simp only [hi];exact ⟨st,f'.len,f'.sh,fun j e h=>let ⟨b,u,q1,q2,q3,q4,q5,_⟩:=own j e h;⟨b,u,q1,q2,q3,q4,q5⟩,fun j e h=>lck j e (fun z=>by rw [z,hl] at h;cases h) h,f'.dj,f.lh,two,f'.u2⟩
  | shr _=>simp only [hi];exact ⟨st,f'.len,f'.sh,fun j e h=>let ⟨b,u,q1,q2,q3,q4,q5,_⟩:=own j e h;⟨b,u,q1,q2,q3,q4,q5⟩,fun j e h=>lck j e (fun z=>by rw [z,hl] at h;cases h) h,f'.dj,f.lh,two,f'.u2⟩
  | own _=>simp only [hi];exact ⟨st,f'.len,f'.sh,fun j e h=>let ⟨b,u,q1,q2,q3,q4,q5,_⟩:=own j e h;⟨b,u,q1,q2,q3,q4,q5⟩,fun j e h=>lck j e (fun z=>by rw [z,hl] at h;cases h) h,f'.dj,f.lh,two,f'.u2⟩
  | ow2 _=>simp only [hi];exact ⟨st,f'.len,f'.sh,fun j e h=>let ⟨b,u,q1,q2,q3,q4,q5,_⟩:=own j e h;⟨b,u,q1,q2,q3,q4,q5⟩,fun j e h=>lck j e (fun z=>by rw [z,hl] at h;cases h) h,f'.dj,f.lh,two,f'.u2⟩
  | lck d' =>
   simp only [hi]
   have hil:i<ρ'.length:=(List.getElem?_eq_some_iff.mp hl).1
   have nx:∀ {j:Nat}{s:Sl},(∀ d,s≠.own d)->(ρ'.set i (.own d'))[j]?=some s->ρ'[j]?=some s/\i≠j:=fun {j s} hs e=>by
    by_cases hj:i=j
    ·subst hj
     rw [aM hil] at e;exact absurd (bJ e).symm (hs d')
    ·rw [ak hj] at e;exact ⟨e,hj⟩
   obtain ⟨b,u,q1,q2,q3,q4,q5,q6⟩:=f'.lk i d' hl
   simp only [if_pos rfl] at q2
   cases q2
   have ne:∀ (j:Nat) (e:D),ρ'[j]?=some (Sl.own e)->σ'[j]?≠some (some (V.ref a)):=fun j e h z=>by
    obtain ⟨b,u,p1,_,_,_,_,p6⟩:=own j e h
    rw [z] at p1
    cases p1
    rw [q5] at p6;cases p6
   refine ⟨st,by simp [f'.len],fun j e h=>?_,fun j e h=>?_,fun j e h=>?_,fun j k d1 d2 c h1 h2 h3 h4=>?_,f.lh,fun j e h=>?_,fun j k d1 d2 h1 h2=>?_⟩
   ·obtain ⟨h,_⟩:=nx (fun _ z=>by cases z) h
    exact f'.sh j e h
   ·by_cases hj:i=j
    ·subst hj
     rw [aM hil] at h
     cases h
     exact ⟨a,u,q1,q3,q4,k4,q6⟩
    ·rw [ak hj] at h
     obtain ⟨b,u,p1,p2,p3,p4,p5,_⟩:=own j e h
     exact ⟨b,u,p1,p2,p3,p4,p5⟩
   ·obtain ⟨h,hj⟩:=nx (fun _ z=>by cases z) h
    exact lck j e (de hj) h
   ·by_cases hj:i=j
    ·by_cases hk:i=k
     ·exact hj.symm.trans hk
     ·rw [ak hk] at h2
      subst hj
      rw [q1] at h3
      cases h3
      exact (ne k d2 h2 h4).elim
    ·rw [ak hj] at h1
     by_cases hk:i=k
     ·subst hk
      rw [q1] at h4
      cases h4
      exact (ne j d1 h1 h3).elim
     ·rw [ak hk] at h2
      exact f'.dj j k d1 d2 c h1 h2 h3 h4
   ·obtain ⟨h,hj⟩:=nx (fun _ z=>by cases z) h
    obtain ⟨b,as,O⟩:=two j e h
    refine ⟨b,as,O.at_,O.ob,O.nd,O.out,fun c hc k e' hk=>?_,O.inn⟩
    by_cases nk:i=k
    ·subst nk
     intro z
     rw [q1] at z
     cases z
     obtain ⟨b',as',O'⟩:=f'.o2 j e h
     have hh:=O.at_
     rw [O'.at_] at hh
     cases hh
     have hs:as'=as:=by
      have h1:=O.ob
      rw [O'.ob] at h1
      injection h1 with h1
      injection h1 with h1
      exact LU (fun x y z=>by cases z;rfl) |>.mp h1
     subst hs
     have:=(O'.out _ hc).2
     rw [q5] at this;cases this
    ·rw [ak nk] at hk
     exact O.dj c hc k e' hk
   ·exact f'.u2 j k d1 d2 (nx (fun _ z=>by cases z) h1).1 (nx (fun _ z=>by cases z) h2).1
end
section
variable {c:C}{e a b iter tg:a_}{g ga gb:au->R D}{pos p:Pos}{gi:au->R (List D)}{body:List cp}{x:Str}{kt:D->au->R au}{gbd:au->R Fl}
def m7 (gi:au->R (List D)) (kt:D->au->R au) (gb:au->R Fl):au->R Fl:=fun ρ=>match gi ρ with
 | .ok ds=>iw kt gb ds ρ
 | _=>.no
theorem l8 (hc:c.X.calm=true) (hi:LY c.nox tg iter gi) (hg:JG c.nox tg kt) (hb:J9 c.nox body gbd) (hs:∀ x,eB iter c.X.env x=pure x:=by intro _;rfl):JS c (.For tg iter body [] pos) (m7 gi kt gbd):=.of fun ρ=>by
 refine Nt (y0 (Ct v_ hc (hi ρ) (g:=fun v σ H Q=>∃ ρ d,U4 c.X.K ρ d (kt d ρ) v σ H Q) (tb:=fun D σ H=>∃ ρ,SR c.X.K c.cls E0 ρ (gbd ρ) D σ H) ?_ ?_ hs) fun D σ H ⟨H0,Hs0,la,Hs,f,q⟩=>?_)
 ·exact fun pins s σ H v u Q I r h_0=>by obtain ⟨ρ,d,q⟩:=h_0;exact hg ρ d pins s σ H v u Q I r q
 ·exact fun pins s σ H D I h_1=>by obtain ⟨ρ,q⟩:=h_1;exact hb ρ pins s σ H D I q
 ·refine ⟨H0,Hs0,la,Hs,f,?_⟩
  unfold m7 at q
  cases hr:gi ρ with
  | no=>rw [hr] at q;exact q
  | ex x n=>rw [hr] at q;exact q.elim
  | ok ds =>
   rw [hr] at q
   intro J H1 Hs1 s1 it
   have f1:=f.step s1
   exact Nu (E:=c.E) (cls:=c.cls) (kt:=kt) (gb:=gbd) (tg:=fun v σ H Q=>∃ ρ d,U4 c.X.K ρ d (kt d ρ) v σ H Q) (tb:=fun D σ H=>∃ ρ,SR c.X.K c.cls E0 ρ (gbd ρ) D σ H) it (Nv f1.st.all f1.st.sub) f1.into (fun ρ d v σ H Q h=>⟨ρ,d,h⟩) (fun ρ D σ H h=>⟨ρ,h⟩) (oa.into f1 q)
def qq (i:Nat) (kt:D->au->R au) (gb:au->R Fl):au->R Fl:=fun ρ=>match ρ[i]? with
 | some (Sl.own (.list ds))=>Y9 i ρ (iw kt gb ds (CW i ρ))
 | _=>m7 (jf fun ρ=>Gm ρ i) kt gb ρ
theorem zf {kt:D->au->R au}{gb:au->R Fl}:∀ (ds:List D) (ρ:au) (fl:Fl),iw kt gb ds ρ=.ok fl->(∃ ρ',fl=.nx ρ')\/∃ d,fl=.rt d
 | [],ρ,fl,h=>by cases h;exact .inl ⟨_,rfl⟩
 | d::r,ρ,fl,h=>by
  unfold iw at h
  split at h
  ·split at h
   ·exact zf r _ _ h
   ·exact zf r _ _ h
   ·cases h;exact .inl ⟨_,rfl⟩
   ·cases h;exact .inr ⟨_,rfl⟩
   ·cases h
  ·cases h
theorem CY {kt:D->au->R au}{gb:au->R Fl}:∀ (ds:List D) (ρ:au) (c:Str) (n:Option D),iw kt gb ds ρ≠.ex c n
 | [],ρ,c,n,h=>by cases h
 | d::r,ρ,c,n,h=>by
  unfold iw at h
  split at h
  ·split at h
   ·exact CY r _ _ _ h
   ·exact CY r _ _ _ h
   ·cases h
   ·cases h
   ·cases h
  ·cases h
theorem Je (i:Nat) (hc:c.X.calm=true) (hg:JG c.nox tg kt) (hb:J9 c.nox body gbd) (hN:c.X.N[i]?=some x:=by rfl) (hv:Kr c.X.env.scope x:=by first | exact fv rfl | exact dD (fv rfl) | exact dD (dD rfl)) (hd:(x == ("__debug__" : Str))=false:=by decide)
  (hcd:(x == ("__classdict__" : Str))=false:=by decide) (hs:∀ y,eB (.Name x p) c.X.env y=pure y:=by intro _;rfl):JS c (.For tg (.Name x p) body [] pos) (qq i kt gbd):=.of fun ρ=>by
 by_cases ho:∃ ds,ρ[i]?=some (Sl.own (.list ds))
 ·obtain ⟨ds,ho⟩:=ho
  refine Nt (y0 (Ct (tg:=tg) v_ hc (uP (X:=c.nox.X) (lY hN hv hd hcd)) (g:=fun v σ H Q=>∃ ρ d,U4 c.X.K ρ d (kt d ρ) v σ H Q) (tb:=fun D σ H=>∃ ρ,SR c.X.K c.cls E0 ρ (gbd ρ) D σ H) ?_ ?_ hs) fun D σ H ⟨H0,Hs0,la,Hs,f,q⟩=>?_)
  ·exact fun pins s σ H v u Q I r h_2=>by obtain ⟨ρ,d,q⟩:=h_2;exact hg ρ d pins s σ H v u Q I r q
  ·exact fun pins s σ H D I h_3=>by obtain ⟨ρ,q⟩:=h_3;exact hb ρ pins s σ H D I q
  ·obtain ⟨a,o,k1,k2,k3,k4,k5⟩:=f.ow i _ ho
   cases k5 with
   | @lst vs _ r =>
    refine ⟨_,k1,a,rfl,⟨_,.of k2⟩,?_⟩
    have hn:lZ c.X.K (upd Hs a (.lst vs)) a vs:=.of aW
    unfold qq at q
    simp only [ho] at q
    have fl:=f.lock ho k1 k2 k3 k4 (.lst r)
    have sub:dB (upd Hs a (.lst vs)) H:=fun b u q=>by
     by_cases hb:b=a
     ·subst hb;rw [aW] at q;cases q;exact k2
     ·rw [aS hb] at q;exact f.st.sub b u q
    refine Nu (E:=c.E) (cls:=c.cls) (kt:=kt) (gb:=gbd) (ρ:=CW i ρ) (Hs:=Hs) (la:=fun i'=>if i'=i then some a else la i') (tg:=fun v σ H Q=>∃ ρ d,U4 c.X.K ρ d (kt d ρ) v σ H Q) (tb:=fun D σ H=>∃ ρ,SR c.X.K c.cls E0 ρ (gbd ρ) D σ H) (CU hn r) (Nv f.st.all sub) ?_ (fun ρ d v σ H Q h=>⟨ρ,d,h⟩) (fun ρ D σ H h=>⟨ρ,h⟩) ?_
    ·unfold CW
     rw [ho]
     exact fl
    ·cases hr:iw kt gbd ds (CW i ρ) with
     | no=>rw [hr] at q;exact q
     | ex c n=>exact (CY _ _ _ _ hr).elim
     | ok fl =>
      rw [hr] at q
      rcases zf _ _ _ hr with ⟨ρ',rfl⟩ | ⟨d,rfl⟩
      ·exact fun σ' H' Hs' f'=>q σ' H' Hs' (f.unlock ho k4 f')
      ·exact fun v H' Hs' s r=>q v H' Hs' (f.st.unlock s) r
 ·have e:qq i kt gbd ρ=m7 (jf fun ρ=>Gm ρ i) kt gbd ρ:=by
   unfold qq
   split
   ·rename_i ds h;exact (ho ⟨ds,h⟩).elim
   ·rfl
  rw [e]
  exact l8 hc (yb (c:=c.nox) (ai (c:=c.nox) i hN hv hd hcd)) hg hb hs ρ
def gy (t:au->R Bool) (b:au->R Fl):Nat->au->R Fl
 | 0,_=>.no
 | n + 1,ρ=>match t ρ with
  | .ok true=>match b ρ with
   | .ok (.nx ρ')=>gy t b n ρ'
   | .ok (.ct ρ')=>gy t b n ρ'
   | .ok (.bk ρ')=>.ok (.nx ρ')
   | .ok (.rt d)=>.ok (.rt d)
   | _=>.no
  | .ok false=>.ok (.nx ρ)
  | _=>.no
theorem zg (n:Nat) {t:a_}{gt:au->R Bool} (ht:JT c.nox t gt) (hb:J9 c.nox body gbd):JS c (.While t body [] pos) (gy gt gbd n):=.of fun ρ=>by
 refine Nt (y0 (uO v_ (tc:=fun σ H Q=>∃ ρ,KS c.X.K c.cls E0 ρ (gt ρ) σ H Q) (tb:=fun D σ H=>∃ ρ,SR c.X.K c.cls E0 ρ (gbd ρ) D σ H) ?_ ?_) fun D σ H ⟨H0,Hs0,la,Hs,f,q⟩=>?_)
 ·exact fun pins s σ H Q I h_4=>by obtain ⟨ρ,q⟩:=h_4;exact ht ρ pins s σ H Q I q
 ·exact fun pins s σ H D I h_5=>by obtain ⟨ρ,q⟩:=h_5;exact hb ρ pins s σ H D I q
 ·refine ⟨fun m σ H=>∃ ρ Hs,Fr c.X.K H0 Hs0 la ρ σ H Hs/\oa c.X.K c.cls c.E H0 Hs0 la D (gy gt gbd m ρ),⟨n,ρ,Hs,f,q⟩,?_⟩
  rintro m σ H ⟨ρ,Hs,f,q⟩
  cases m with
  | zero=>exact q.elim
  | succ m =>
   unfold gy at q
   refine ⟨ρ,H0,Hs0,la,Hs,f,?_⟩
   cases hg:gt ρ with
   | no=>rw [hg] at q;exact q
   | ex x n=>rw [hg] at q;exact q.elim
   | ok b =>
    rw [hg] at q
    intro H1 Hs1 s1
    cases b with
    | false=>exact xD (q σ H1 Hs1 (f.step s1))
    | true =>
     refine AD ⟨fun σ' H'=>∃ ρ' Hs',Fr c.X.K H0 Hs0 la ρ' σ' H' Hs'/\oa c.X.K c.cls c.E H0 Hs0 la D (gy gt gbd m ρ'),fun σ' H' h=>⟨m,d_ _,h⟩,ρ,H0,Hs0,la,Hs1,f.step s1,?_⟩
     cases hb':gbd ρ with
     | no=>simp only [hb'] at q;exact q
     | ex x n=>simp only [hb'] at q;exact q.elim
     | ok fl =>
      simp only [hb'] at q
      cases fl with
      | nx ρ'=>exact fun σ' H' Hs' f'=>⟨ρ',Hs',f',q⟩
      | ct ρ'=>exact fun σ' H' Hs' f'=>⟨ρ',Hs',f',q⟩
      | bk ρ'=>exact fun σ' H' Hs' f'=>q σ' H' Hs' f'
      | rt d=>exact q
end
end
section
section
variable {c:C}{e k:a_}{g gk:au->R D}{pos p apos cpos:Pos}{x:Str}
def m9 (i:Nat) (g:au->R D):au->R Fl:=fun ρ=>match ρ[i]? with
 | some (Sl.own (.list ds))=>(g ρ).bind fun d=>if ds.length<1000 then .ok (.nx (ρ.set i (.own (.list (ds++[d]))))) else .no
 | _=>.no
theorem jh (i:Nat) (h:JE c e g) (hN:c.X.N[i]?=some x:=by rfl) (hv:Kr c.X.env.scope x:=by first | exact fv rfl | exact dD (fv rfl) | exact dD (dD rfl)) (hd:(x == ("__debug__" : Str))=false:=by decide)
  (hcd:(x == ("__classdict__" : Str))=false:=by decide)
  (hbase:qL (.Name x p) "append" c.X.env (du (.Name x p) c.X.env)=du (.Name x p) c.X.env:=by rfl)
  (hfew:((fS cpos (aA [e] c.X.env)).all (fun x=>!x.1) && (backToKw cpos (Px [] c.X.env)).all (fun x=>x.1.isSome)
   && decide ([e].length + ([] : List Ap).length + (if ([] : List Ap).isEmpty then 0 else 1)<30))=true:=by rfl)
  (hline:(apos.endLine == cpos.line)=true:=by rfl) (hst:aA [e] c.X.env=(false,du e c.X.env)::aA [] c.X.env:=by rfl) (hplain:(fS cpos (aA [] c.X.env)).any (·.1)=false:=by rfl)
  (hs:gL (.Call (.Attribute (.Name x p) "append" apos) [e] [] cpos) none pos.line c.X.env=pure false:=by rfl) :
  JS c (.Expr (.Call (.Attribute (.Name x p) "append" apos) [e] [] cpos) pos) (m9 i g):=.of fun ρ=>by
 refine y0 (uN (Br dX Av Aw Bs (lY hN hv hd hcd) (cf (h ρ) fe hst) hbase hfew hline hst hplain) hs) fun D σ H h_0=>?_
 obtain ⟨H0,Hs0,la,Hs,f,q⟩:=h_0
 replace q:oa c.X.K c.cls c.E H0 Hs0 la D (m9 i g ρ):=q
 unfold m9 at q
 split at q
 ·rename_i ds ho
  obtain ⟨a,o,k1,k2,k3,k4,k5⟩:=f.ow i _ ho
  cases k5 with
  | @lst vs _ r =>
   refine ⟨_,k1,.inl ⟨rfl,_,.of k2⟩,?_⟩
   refine sE f q fun d v H1 Hs1 e1 s1 f1 r1=>?_
   rw [e1,bind_ok] at q
   by_cases hl:ds.length<1000
   ·rw [if_pos hl] at q
    have r':=r.same s1.sh
    exact ⟨a,vs,v,rfl,rfl,s1.all _ _ k2,cA (by rw [r.length];omega),q _ _ Hs1 (f1.write i ho k1 (.lst (r'.append (.cons r1 .nil))))⟩
   ·rw [if_neg hl] at q;exact q.elim
 ·exact q.elim
def oI:D->Option cR
 | .int i=>some (.inl i)
 | .str x=>some (.inr x)
 | _=>none
theorem vg {d:D}{y:cR} (h:oI d=some y):d=kD y:=by
 cases d<;>cases h<;>rfl
@[simp] theorem keyOf_of (y:cR):oI (kD y)=some y:=by cases y<;>rfl
def sR (kvs:List (D×D)) (k d:D):List (D×D):=if kvs.any (fun kv=>bf kv.1 k) then kvs.map (fun kv=>if bf kv.1 k then (kv.1,d) else kv) else kvs++[(k,d)]
theorem CZ (a b:cR):bf (kD a) (kD b)=decide (a=b):=by
 cases a<;>cases b<;>simp [kD,bf,rN]
theorem RDk.any {K:a8}{H:Hp}{kvs:List (cR×V)} (y:cR):∀ {ds:List (D×D)},RDk K H kvs ds->(ds.any fun kv=>bf kv.1 (kD y))=kvs.any fun kv=>decide (kv.1=y):=by
 induction kvs with
 | nil=>intro ds h;cases h;rfl
 | cons x r ih=>intro ds h;cases h with | cons h t=>rw [ef,ef,ih t,CZ]
theorem RDk.repl {K:a8}{H:Hp} (y:cR) {v:V}{d:D} (rv:RD K H v d):∀ {kvs:List (cR×V)}{ds:List (D×D)},RDk K H kvs ds ->
  RDk K H (kvs.map fun kv=>if kv.1=y then (kv.1,v) else kv) (ds.map fun kv=>if bf kv.1 (kD y) then (kv.1,d) else kv)
 | _,_,.nil=>.nil
 | _,_,.cons (k:=k) h t=>by
  rw [aI,aI]
  have e:=CZ k y
  by_cases hk:k=y
  ·subst hk
   rw [show (if k=k then (k,v) else (k,_))=(k,v) from if_pos rfl,show (if bf (kD k) (kD k)=true then (kD k,d) else (kD k,_))=(kD k,d) from if_pos (by rw [e];simp)]
   exact .cons rv (RDk.repl k rv t)
  ·simp only [e,hk,if_neg,decide_false,c7,not_false_eq_true]
   exact .cons h (RDk.repl y rv t)
theorem RDk.snoc {K:a8}{H:Hp} (y:cR) {v:V}{d:D} (rv:RD K H v d):∀ {kvs:List (cR×V)}{ds:List (D×D)},RDk K H kvs ds->RDk K H (kvs++[(y,v)]) (ds++[(kD y,d)])
 | _,_,.nil=>.cons rv .nil
 | _,_,.cons h t=>.cons h (RDk.snoc y rv t)
theorem RDk.put {K:a8}{H:Hp}{kvs:List (cR×V)}{ds:List (D×D)} (r:RDk K H kvs ds) (y:cR) {v:V}{d:D} (rv:RD K H v d):RDk K H (kG kvs y v) (sR ds (kD y) d):=by
 unfold kG sR
 rw [r.any y]
 split
 ·exact r.repl y rv
 ·exact r.snoc y rv
def hX (kvs:List (D×D)):Bool:=kvs.all fun kv=>(oI kv.1).isSome
def C_ (i:Nat) (gk g:au->R D):au->R Fl:=fun ρ=>match ρ[i]? with
 | some (Sl.own (.dict kvs))=>(g ρ).bind fun d=>(gk ρ).bind fun k=>match oI k with
  | some _=>if kvs.length<1000/\hX kvs=true then .ok (.nx (ρ.set i (.own (.dict (sR kvs k d))))) else .no
  | none=>.no
 | _=>.no
theorem D0 {K:a8}{H:Hp}{v:V}{y:cR} (h:RD K H v (kD y)):v=kV y:=by
 cases y<;>cases h<;>rfl
theorem RDt.flat {K:a8}{H:Hp}{kvs:List (List cR×V)}{ds:List (D×D)} (h:RDt K H kvs ds) (f:hX ds=true):kvs=[]/\ds=[]:=by
 cases h with
 | nil=>exact ⟨rfl,rfl⟩
 | cons h t=>simp [hX,tD,oI] at f
theorem Jf (i:Nat) (h:JE c e g) (hk:JE c k gk) (hu:c.X.A.units + 1<kj) (hN:c.X.N[i]?=some x:=by rfl) (hv:Kr c.X.env.scope x:=by first | exact fv rfl | exact dD (fv rfl) | exact dD (dD rfl)) (hd:(x == ("__debug__" : Str))=false:=by decide)
  (hcd:(x == ("__classdict__" : Str))=false:=by decide) (hs:gL e (some (.Subscript (.Name x p) k apos)) pos.line c.X.env=pure false:=by rfl):JS c (.Assign [.Subscript (.Name x p) k apos] e pos) (C_ i gk g):=.of fun ρ=>by
 refine y0 (IV hu (lY hN hv hd hcd) (hk ρ) (h ρ) hs) fun D σ H h_1=>?_
 obtain ⟨H0,Hs0,la,Hs,f,q⟩:=h_1
 replace q:oa c.X.K c.cls c.E H0 Hs0 la D (C_ i gk g ρ):=q
 unfold C_ at q
 split at q
 ·rename_i kvs ho
  obtain ⟨a,o,k1,k2,k3,k4,k5⟩:=f.ow i _ ho
  have main:∀ {H:Hp}{vs:List (cR×V)},Fr c.X.K H0 Hs0 la ρ σ H Hs->H a=some (.dK vs)->RDk c.X.K Hs vs kvs->S2 (Ks i) (TR c.X.K c.cls c.E ρ (gk ρ)) (TR c.X.K c.cls c.E ρ (g ρ)) D σ H:=fun {H vs} f k2 r=>by
   refine sE f q fun d v H1 Hs1 e1 s1 f1 r1=>?_
   rw [e1,bind_ok] at q
   refine ⟨_,k1,sE f1 q fun y w H2 Hs2 e2 s2 f2 r2=>?_⟩
   rw [e2,bind_ok] at q
   split at q
   ·rename_i ky hy
    obtain rfl:=vg hy
    by_cases hl:kvs.length<1000/\hX kvs=true
    ·rw [if_pos hl] at q
     have ha:=s2.all _ _ (s1.all _ _ k2)
     have r':=(r.same s1.sh).same s2.sh
     rw [D0 r2]
     exact ⟨a,_,rfl,Ei.k ha (cA (by rw [r.length];omega)),q _ _ Hs2 (f2.write i ho k1 (.dK (r'.put ky (r1.same s2.sh))))⟩
    ·rw [if_neg hl] at q;exact q.elim
   ·exact q.elim
  cases k5 with
  | dK r=>exact main f k2 r
  | dT n r =>
   refine sE f q fun d v H1 Hs1 e1 s1 f1 r1=>?_
   rw [e1,bind_ok] at q
   refine ⟨_,k1,sE f1 q fun y w H2 Hs2 e2 s2 f2 r2=>?_⟩
   rw [e2,bind_ok] at q
   split at q
   ·rw [if_neg (fun z=>n (r.flat z.2).1)] at q;exact q.elim
   ·exact q.elim
  | dF n r =>
   refine sE f q fun d v H1 Hs1 e1 s1 f1 r1=>?_
   rw [e1,bind_ok] at q
   refine ⟨_,k1,sE f1 q fun y w H2 Hs2 e2 s2 f2 r2=>?_⟩
   rw [e2,bind_ok] at q
   split at q
   ·rw [if_neg (fun z=>by cases z.2)] at q;exact q.elim
   ·exact q.elim
 ·exact q.elim
def li (kvs:List (D×D)) (k:D):Option D:=(kvs.find? fun kv=>bf kv.1 k).map (·.2)
theorem RDk.val {K:a8}{H:Hp}:∀ {kvs:List (cR×V)}{ds:List (D×D)},RDk K H kvs ds->∀ (y:cR),(oG kvs y=none/\li ds (kD y)=none)\/∃ v d,oG kvs y=some v/\li ds (kD y)=some d/\RD K H v d
 | _,_,.nil,y=>.inl ⟨rfl,rfl⟩
 | _,_,.cons (k:=k) h t,y=>by
  unfold oG li
  rw [cc,cc,CZ]
  by_cases hk:k=y
  ·simp only [hk,decide_true,dn]
   exact .inr ⟨_,_,rfl,rfl,h⟩
  ·simp only [hk,decide_false]
   exact RDk.val t y
def bc:D->D->R D
 | .dict kvs,k=>match oI k with
  | some _=>if hX kvs=true then (match li kvs k with
   | some d=>.ok d
   | none=>.no) else .no
  | none=>.no
 | x,k=>ED x k
variable {a b:a_}{ga gb:au->R D}
theorem bT (hu:c.X.A.units + 1<kj) (ha:JB c a ga) (hb:JB c b gb) (hs:uS b:=by exact fun _ _=>rfl):JE c (.Subscript a b pos) (g2 ga gb bc):=.of fun ρ=>by
 by_cases hx:∃ kvs,ga ρ=.ok (.dict kvs)
 ·obtain ⟨kvs,hx⟩:=hx
  refine qA (IU hu (ha ρ) (hb ρ) hs) fun σ H Q h_2=>?_
  obtain ⟨H0,Hs0,la,Hs,f,q⟩:=h_2
  refine one f q fun d v H1 Hs1 e1 s1 f1 r1=>?_
  rw [hx] at e1
  cases e1
  unfold g2 at q
  rw [hx,bind_ok] at q
  refine one f1 (q.on s1 (q':=fun _=>True) fun _ _=>trivial) fun y w H2 Hs2 e2 s2 f2 r2=>?_
  rw [e2,bind_ok] at q
  unfold bc at q
  simp only at q
  split at q
  ·rename_i ky hy
   obtain rfl:=vg hy
   by_cases hf:hX kvs=true
   ·rw [if_pos hf] at q
    obtain ⟨p,rfl,h⟩:=(r1.step s2).dict f2.st.sub
    have rk:w=kV ky:=by
     rcases r2 with r2 | ⟨_,o,rfl,_,_,ow⟩
     ·exact D0 r2
     ·cases ky<;>cases ow
    subst rk
    rcases h with ⟨vs,h1,h2⟩ | ⟨vs,h1,hn,h2⟩ | ⟨o,vs,es,rfl,h1,hn,h2⟩
    ·rcases h2.val ky with ⟨_,h3⟩ | ⟨u,d,h3,h4,h5⟩
     ·rw [h3] at q;exact q.elim
     ·rw [h4] at q
      exact ⟨p,u,rfl,by rw [<- h3];exact xE.k h1,q _ H2 Hs2 (s1.trans s2) h5⟩
    ·exact (hn (h2.flat hf).1).elim
    ·cases hf
   ·rw [if_neg hf] at q;exact q.elim
  ·exact q.elim
 ·refine qA (VN ha hb hs ρ) fun σ H Q q=>?_
  have e:g2 ga gb bc ρ=g2 ga gb ED ρ:=by
   unfold g2
   cases hr:ga ρ with
   | ok d =>
    cases d with
    | dict kvs=>exact (hx ⟨kvs,hr⟩).elim
    | _=>rfl
   | _=>rfl
  rw [e] at q
  exact q
def kq:D->R D
 | .dict kvs=>if hX kvs=true then .ok (.list (kvs.map (·.1))) else .no
 | x=>BE x
theorem EK {K:a8}{H:Hp}:∀ {kvs:List (cR×V)}{ds:List (D×D)},RDk K H kvs ds->RDs K H (kvs.map fun p=>kV p.1) (ds.map (·.1))
 | _,_,.nil=>.nil
 | _,_,.cons (k:=k) h t=>.cons (by cases k<;>constructor) (EK t)
theorem zh {X:Cx} (hc:X.calm=true):LX X (.type "list") (i8 kq):=by
 refine tV (fun d c n=>?_) fun pins s σ H x u Q Hs d d' I ru sub rx hd q=>?_
 ·unfold kq BE
  split<;>(try split)<;>(try split)<;>exact fun h=>by cases h
 ·by_cases hx:∃ kvs,d=.dict kvs
  ·obtain ⟨kvs,rfl⟩:=hx
   unfold kq at hd
   simp only at hd
   split at hd
   ·rename_i hf
    cases hd
    obtain ⟨a,rfl,⟨vs,h1,h2⟩ | ⟨vs,h1,n,h2⟩ | ⟨o,vs,es,rfl,h1,n,h2⟩⟩:=rx.dict sub
    ·exact yQ hc pins s σ H _ _ Q I (.cons ru .nil) ⟨a,vs,rfl,h1,fun l hl=>q _ _ _ (.new sub hl) (.list (.of aW) ((EK h2).same (cT.new sub hl).sh))⟩
    ·exact (n (h2.flat hf).1).elim
    ·cases hf
   ·cases hd
  ·have e:kq d=BE d:=by
    cases d with
    | dict kvs=>exact (hx ⟨kvs,rfl⟩).elim
    | _=>rfl
   rw [e] at hd
   exact (QG (X:=X)).1 pins s σ H [x] [u] Q I (.cons ru .nil) ⟨Hs,[d],sub,.cons rx .nil,d',hd,q⟩
end
end
section
open PyProof.Rows (envOfC)
section
variable {c:C}{e a b d:a_}{g ga gb gc:au->R D}{pos p cpos:Pos}{x:Str}
theorem Nw {K:a8}{cls:Str->ah}{E:XK}{h h':D->D->R D}{ρ:au}{σ:St}{H:Hp}{Q:VK} (hx:∀ x y c n,h x y≠.ex c n) (hx':∀ x y c n,h' x y≠.ex c n) (q:TR K cls E ρ (qY ga gb gc h h' ρ) σ H Q) :
  GV (rD K h) (rD K h') (TB K cls E ρ (ga ρ)) (TB K cls E ρ (gb ρ)) (TB K cls E ρ (gc ρ)) σ H Q:=by
 obtain ⟨H0,Hs0,la,Hs,f,q⟩:=q
 refine one f q fun x v H1 Hs1 e1 s1 f1 r1=>?_
 unfold qY at q
 rw [e1,bind_ok] at q
 refine one f1 (q.on s1 (q':=fun _=>True) fun _ _=>trivial) fun y u H2 Hs2 e2 s2 f2 r2=>?_
 rw [e2,bind_ok] at q
 cases hr:h x y with
 | ex c n=>exact (hx x y c n hr).elim
 | no=>rw [hr] at q;exact q.elim
 | ok z =>
  rw [hr,bind_ok] at q
  refine ⟨Hs2,x,y,f2.st.sub,r1.step s2,r2,z,hr,fun w H3 Hs3 s3 r3=>?_⟩
  cases r3 with
  | bool k =>
   refine ⟨k,rfl,?_⟩
   have f3:=f2.step s3
   cases k with
   | false=>exact xD (q _ H3 Hs3 (s1.trans (s2.trans s3)) (.bool _))
   | true =>
    refine AD (one f3 (q.on (s1.trans (s2.trans s3)) (q':=fun _=>True) fun _ _=>trivial) fun t u' H4 Hs4 e4 s4 f4 r4=>?_)
    simp only [e4,bind_ok] at q
    cases hr':h' y t with
    | ex c n=>exact (hx' y t c n hr').elim
    | no=>rw [hr'] at q;exact q.elim
    | ok z' =>
     rw [hr'] at q
     exact ⟨Hs4,y,t,f4.st.sub,(r2.step s3).step s4,r4,z',hr',fun w H5 Hs5 s5 r5=>q w H5 Hs5 (s1.trans (s2.trans (s3.trans (s4.trans s5)))) r5⟩
  | none=>exact q.elim
  | int _=>exact q.elim
  | str _=>exact q.elim
  | list _ _=>exact q.elim
  | tuple _ _=>exact q.elim
  | dictK _ _=>exact q.elim
  | dictT _ _ _=>exact q.elim
  | dictF _ _ _=>exact q.elim
theorem EL {op op':xQ}{h h':D->D->R D} (ho:xH c.X (bH op) h) (ho':xH c.X (bH op') h') (ha:JB c a ga) (hb:JB c b gb) (hc:JB c d gc) (hm:LN [op,op'] [b,d]=false:=by with_unfolding_all rfl):JE c (.Compare a [op,op'] [b,d] pos) (qY ga gb gc h h') :=
 .of fun ρ=>qA (Mt ho.1 ho'.1 (ha ρ) (hb ρ) (hc ρ) hm) fun σ H Q q=>Nw ho.2 ho'.2 q
theorem Nx {op op':xQ}{h h':D->D->R D} (ho:xH c.X (bH op) h) (ho':xH c.X (bH op') h') (ha:JB c a ga) (hb:JB c b gb) (hc:JB c d gc) (hm:LN [op,op'] [b,d]=false:=by with_unfolding_all rfl):JT c (.Compare a [op,op'] [b,d] pos) (ej (qY ga gb gc h h')) :=
 .of fun ρ=>VH (Mu ho.1 ho'.1 (ha ρ) (hb ρ) (hc ρ) hm) fun σ H Q q=>Nw ho.2 ho'.2 (V0 q)
def U6:D->R D
 | .int i=>.ok (.int (-i))
 | _=>.no
def EM (g:au->R D):au->R D:=fun ρ=>(g ρ).bind U6
theorem Ny (h:JE c e g):JE c (.UnaryOp .USub e pos) (EM g):=.of fun ρ=>qA (Vg Tv (h ρ)) fun σ H Q h_0=>by
 obtain ⟨H0,Hs0,la,Hs,f,q⟩:=h_0
 refine yT f q fun d v H1 Hs1 e1 s1 f1 r1=>?_
 unfold EM at q
 rw [e1,bind_ok] at q
 cases r1 with
 | int i=>exact ⟨i,rfl,q _ H1 Hs1 s1 (.int _)⟩
 | _=>exact q.elim
inductive VX (K:a8) (w:bd) (cls:Str->ah) (E:XK) (ρ:au) (r:R (List Str)) (σ:St) (H:Hp) (Q:VK):Prop
 | mk (H0 Hs0:Hp) (la:Nat->Option ah) (Hs:Hp) (f:Fr K H0 Hs0 la ρ σ H Hs) (q:Fin K cls E H Hs r fun ss=>∀ p H' Hs',cT H Hs H' Hs'->H' p=none->Q (.ref p) (upd H' p (ll w p ss))):VX K w cls E ρ r σ H Q
def X8 (K:a8) (w:bd) (cls:Str->ah) (E:XK) (ρ:au) (r:R (List Str)):TE:=VX K w cls E ρ r
structure QM (c:C) (e:a_) (g:au->R (List Str)):Prop where of ::
 run:∀ ρ,PE c.X e (X8 c.X.K c.X.w c.cls c.E ρ (g ρ))
instance {c:C}{e:a_}{g:au->R (List Str)}:CoeFun (QM c e g) (fun _=>∀ ρ,PE c.X e (X8 c.X.K c.X.w c.cls c.E ρ (g ρ))):=⟨QM.run⟩
theorem Jg {K:a8}{w:bd}{cls:Str->ah}{E:XK}{ρ:au}{r:R (List Str)}{β:Type}{k:List Str->R β}{σ:St}{H:Hp}{H0 Hs0 Hs:Hp}{la:Nat->Option ah}{Q:V->Hp->Prop}{q:β->Prop} (f:Fr K H0 Hs0 la ρ σ H Hs)
  (h:Fin K cls E H Hs (r.bind k) q) (m:∀ ss p H' Hs',r=.ok ss->cT H Hs H' Hs'->Fr K H0 Hs0 la ρ σ H' Hs'->H' p=none->Q (.ref p) (upd H' p (ll w p ss))):X8 K w cls E ρ r σ H Q:=by
 refine ⟨H0,Hs0,la,Hs,f,?_⟩
 cases r with
 | ok d=>exact fun p H' Hs' s n=>m d p H' Hs' rfl s (f.step s) n
 | ex c n=>exact h
 | no=>exact h
variable {gset:au->R (List Str)}
def tW:D->R (List Str)
 | .list ds=>match gx ds with
  | some ss=>if ss.length<60 then .ok (dz [] ss) else .no
  | none=>.no
 | .tuple ds=>match gx ds with
  | some ss=>if ss.length<60 then .ok (dz [] ss) else .no
  | none=>.no
 | _=>.no
def pw (g:au->R D):au->R (List Str):=fun ρ=>(g ρ).bind tW
theorem D1 (hc:c.X.calm=true) (h:JB c e g) (hg2:Gl c.X "set") (hm2:c.X.mg "set"=none) (he:aA [e] c.X.env=(false,du e c.X.env)::aA [] c.X.env:=by rfl) :
  QM c (.Call (.Name "set" p) [e] [] cpos) (pw g):=.of fun ρ=>by
 refine qA (we (Ew hc) hg2 hm2 PyProof.Rows.boot_set (cf (h ρ) fe he) (he:=he)) fun σ H Q h_1=>?_
 obtain ⟨H0,Hs0,la,Hs,f,q⟩:=h_1
 refine one f q fun d v H1 Hs1 e1 s1 f1 r1=>?_
 unfold pw at q
 rw [e1,bind_ok] at q
 unfold tW at q
 split at q
 ·split at q
  ·rename_i ss hs
   by_cases hz:ss.length<60
   ·rw [if_pos hz] at q
    obtain ⟨a,vs,rfl,qa,ra⟩:=r1.list f1.st.sub
    rw [r6 hs] at ra
    rw [pc ra] at qa
    exact ⟨a,ss,rfl,.inl qa,aH (Kk hz 1) (by decide),fun p hp=>q p H1 Hs1 s1 hp⟩
   ·rw [if_neg hz] at q;exact q.elim
  ·exact q.elim
 ·split at q
  ·rename_i ss hs
   by_cases hz:ss.length<60
   ·rw [if_pos hz] at q
    obtain ⟨a,vs,rfl,qa,ra,_⟩:=r1.tuple f1.st.sub
    rw [r6 hs] at ra
    rw [pc ra] at qa
    exact ⟨a,ss,rfl,.inr qa,aH (Kk hz 1) (by decide),fun p hp=>q p H1 Hs1 s1 hp⟩
   ·rw [if_neg hz] at q;exact q.elim
  ·exact q.elim
 ·exact q.elim
def kK (g:au->R (List Str)):au->R D:=fun ρ=>(g ρ).bind fun ss=>if ss.length<64 then .ok (.list ((jC ss).map .str)) else .no
theorem tX (hc:c.X.calm=true) (h:QM c e gset) (hg:Gl c.X "sorted") (hm:c.X.mg "sorted"=none) (he:aA [e] c.X.env=(false,du e c.X.env)::aA [] c.X.env:=by rfl) :
  JE c (.Call (.Name "sorted" p) [e] [] cpos) (kK gset):=.of fun ρ=>by
 refine qA (oE (xF hc) hg hm wV (cf (h ρ) fe he) (he:=he)) fun σ H Q h_2=>?_
 obtain ⟨H0,Hs0,la,Hs,f,q⟩:=h_2
 dsimp only [L2.UY,L2.E7,L2.Mx]
 refine Jg (w:=c.X.w) f q fun ss p H1 Hs1 e1 s1 f1 n1=>?_
 unfold kK at q
 rw [e1,bind_ok] at q
 by_cases hz:ss.length<64
 ·rw [if_pos hz] at q
  have st1:cT H1 Hs1 (upd H1 p (ll c.X.w p ss)) Hs1:=.mine f1.st.sub n1
  exact ⟨p,ss,rfl,aW,hz,fun l hl=>q _ _ _ (s1.trans (st1.trans (.new st1.sub hl))) (.list (.of aW) (yS _))⟩
 ·rw [if_neg hz] at q;exact q.elim
def vh (g:au->R (List Str)):au->R D:=fun ρ=>(g ρ).bind fun ss=>.ok (.int ss.length)
theorem L5 (h:QM c e gset) (hg:Gl c.X "len") (hm:c.X.mg "len"=none) (he:aA [e] c.X.env=(false,du e c.X.env)::aA [] c.X.env:=by rfl) :
  JE c (.Call (.Name "len" p) [e] [] cpos) (vh gset):=.of fun ρ=>by
 refine qA (oE AI hg hm c9 (cf (h ρ) fe he) (he:=he)) fun σ H Q h_3=>?_
 obtain ⟨H0,Hs0,la,Hs,f,q⟩:=h_3
 dsimp only [L2.UY,L2.E7,L2.Mx]
 refine Jg (w:=c.X.w) f q fun ss p H1 Hs1 e1 s1 f1 n1=>?_
 unfold vh at q
 rw [e1,bind_ok] at q
 have st1:cT H1 Hs1 (upd H1 p (ll c.X.w p ss)) Hs1:=.mine f1.st.sub n1
 exact ⟨p,ss,rfl,aW,q _ _ _ (s1.trans st1) (.int _)⟩
variable {elt iter tg:a_}{ifs:List a_}{scope:eT}{N':List Str}{nt:Nat}{ix:List Nat}{gi:au->R (List D)}{gt:au->R Bool}{ge:au->R D}
def wv (nt:Nat) (ix:List Nat) (gi:au->R (List D)) (gt:au->R Bool) (ge:au->R D):au->R (List Str):=fun ρ=>(gi ρ).bind fun ds=>if ds.length<=60 then (gT (iu nt (oH nt ix ρ) gt ge) ds).bind fun ys=>match gx ys with
 | some ss=>.ok (dz [] ss)
 | none=>.no else .no
theorem AO {ys:List D}{xs:List D}:∀ {ss:List Str},gx (xs++ys)=some ss->∃ s1 s2,gx xs=some s1/\gx ys=some s2/\ss=s1++s2:=by
 induction xs with
 | nil=>intro ss h;exact ⟨[],ss,rfl,h,rfl⟩
 | cons d r ih =>
  intro ss h
  cases d with
  | str b =>
   have h:(gx (r++ys)).map (b::·)=some ss:=h
   cases hr:gx (r++ys) with
   | none=>rw [hr] at h;cases h
   | some z =>
    rw [hr] at h
    cases h
    obtain ⟨s1,s2,h1,h2,rfl⟩:=ih hr
    exact ⟨b::s1,s2,by show (gx r).map (b::·)=_;rw [h1];rfl,h2,rfl⟩
  | _=>cases h
theorem zi (z:Str):∀ (l acc:List Str),dz acc (l++[z])=if z∈dz acc l then dz acc l else dz acc l++[z]
 | [],acc=>rfl
 | x::l,acc=>by
  show dz _ (l++[z])=_
  rw [zi z l]
  rfl
inductive YL (f:D->R (Option D)) (ds:List D) (ss:List Str) (H1 Hs1:Hp) (i m:Nat) (acc:List Str) (H':Hp):Prop
 | mk (done bX zs sa sz Hs':_) (h0:ds=done++bX) (h1:done.length=i) (h2:bX.length=m) (h3:cT H1 Hs1 H' Hs') (h4:acc=dz [] sa) (h5:sa.length<=i) (h6:gT f bX=.ok zs) (h7:gx zs=some sz) (h8:ss=sa++sz):YL f ds ss H1 Hs1 i m acc H'
theorem QN {K:a8}{w:bd}{cls:Str->ah}{E:XK}{ρ:au}{σ:St}{H:Hp}{Q:VK} (hnt:nt=1\/nt=2)
  (q:X8 K w cls E ρ (wv nt ix gi gt ge ρ) σ H Q) :
  Nf w nt ix (X6 K cls E ρ (gi ρ)) (L3 K nt) (fun σ H Q=>∃ ρ',KS K cls E0 ρ' (gt ρ') σ H Q) (fun σ H Q=>∃ ρ',TR K cls E0 ρ' (ge ρ') σ H Q) σ H Q:=by
 obtain ⟨H0,Hs0,la,Hs,f,q⟩:=q
 refine ⟨H0,Hs0,la,Hs,f,?_⟩
 unfold wv at q
 cases hi:gi ρ with
 | no=>rw [hi] at q;exact q
 | ex x n=>rw [hi] at q;exact q
 | ok ds =>
  rw [hi,bind_ok] at q
  intro J H1 Hs1 Hn s1 sn it
  by_cases hl:ds.length<=60
  ·rw [if_pos hl] at q
   cases hm:gT (iu nt (oH nt ix ρ) gt ge) ds with
   | no=>rw [hm] at q;exact q.elim
   | ex x n=>exact (zd (EI _ _ _ _) _ _ _ hm).elim
   | ok ys =>
    rw [hm,bind_ok] at q
    cases hs:gx ys with
    | none=>rw [hs] at q;exact q.elim
    | some ss =>
     rw [hs] at q
     obtain ⟨lb,fb⟩:=(f.step s1).block nt ix
     refine ⟨YL (iu nt (oH nt ix ρ) gt ge) ds ss H1 Hs1,
      ⟨ds.length,[],ds,ys,[],ss,Hs1,rfl,rfl,rfl,.refl s1.sub,rfl,c_ _,hm,hs,rfl⟩,?_⟩
     rintro i m acc H' ⟨done,bX,zs,sa,sz,Hs',hds,hdl,hrl,st,rfl,yl,hz,hzs,hy⟩
     obtain ⟨igo,istop,iyld⟩:=it H' Hs' (sn.trans st.all) st.sh st.sub
     cases bX with
     | nil =>
      left
      cases hz
      cases hzs
      rw [bV] at hds hy
      subst hy hds
      exact ⟨istop i (by omega),fun p hp=>q p H' Hs' (s1.trans st) hp⟩
     | cons d bX =>
      right
      have hil:i<ds.length:=by rw [hds,aB,aU];omega
      have hol:=f_ sa []
      simp at hol
      refine ⟨igo i hil,vS (show (dz [] sa).length + 1<=61 by omega) (by decide),fun x H2 hyl=>?_⟩
      obtain ⟨d',Hs2,hd,s2,r2⟩:=iyld i x H2 hil hyl
      have hdd:d'=d:=by
       rw [hds,bq (by omega)] at hd
       simp [hdl] at hd
       exact hd.symm
      subst hdd
      obtain ⟨o,zs',hf,hz',rfl⟩:=zc hz
      have hf:=Jc hf
      obtain ⟨so,sz',hso,hsz,rfl⟩:=AO hzs
      cases hb:VV nt d' (oH nt ix ρ) with
      | no=>rw [hb] at hf;cases hf
      | ex x n=>rw [hb] at hf;cases hf
      | ok ρ' =>
       rw [hb,bind_ok] at hf
       refine EH hnt ((fb.step st).step s2) r2 hb fun σ2 f2=>⟨ρ',?_⟩
       refine ⟨_,_,_,Hs2,f2,?_⟩
       cases ht:gt ρ' with
       | no=>rw [ht] at hf;cases hf
       | ex x n=>rw [ht] at hf;cases hf
       | ok b =>
        rw [ht,bind_ok] at hf
        intro H3 Hs3 s3
        cases b with
        | false =>
         rw [if_neg aY] at hf
         cases hf
         cases hso
         refine xD ⟨bX.length,by rw [<- hrl];simp,done++[d'],bX,zs',sa,sz',Hs3,by rw [hds];simp,by simp [hdl],rfl,(st.trans s2).trans s3,rfl,by omega,hz',hsz,by simpa using hy⟩
        | true =>
         rw [if_pos rfl] at hf
         refine AD ⟨ρ',_,_,_,Hs3,f2.step s3,?_⟩
         cases he:ge ρ' with
         | no=>rw [he] at hf;cases hf
         | ex x n=>rw [he] at hf;cases hf
         | ok y =>
          rw [he,bind_ok] at hf
          cases hf
          intro v H4 Hs4 s4 r4
          cases r4 with
          | str z =>
           cases hso
           exact ⟨z,bX.length,rfl,by rw [<- hrl];simp,done++[d'],bX,zs',sa++[z],sz',Hs4,by rw [hds];simp,by simp [hdl],rfl,((st.trans s2).trans s3).trans s4,(zi z sa []).symm,by simp;omega,hz',hsz,by rw [hy];simp⟩
          | none=>cases hso
          | bool _=>cases hso
          | int _=>cases hso
          | list _ _=>cases hso
          | tuple _ _=>cases hso
          | dictK _ _=>cases hso
          | dictT _ _ _=>cases hso
          | dictF _ _ _=>cases hso
  ·rw [if_neg hl] at q;exact q.elim
theorem Nz (nt:Nat) (hnt:nt=1\/nt=2) (hc:c.X.calm=true) (S:o6 c.X scope N' nt ix) (hi:JI c tg iter gi) (hb:vf c N' scope nt tg ifs elt gt ge) (hs:∀ x,eB iter c.X.env x=pure x:=by intro _;rfl) :
  QM c (.SetComp elt [⟨tg,iter,ifs,0⟩] scope pos) (wv nt ix gi gt ge):=.of fun ρ=>qA (Hl hc S (CV hnt) (hi ρ) hb.at hs) fun σ H Q q=>QN hnt q
end
def bz (n:Nat) (ds:List D):au:=ds.map Sl.shr++mX (n - ds.length) Sl.no
def eJ (n:Nat) (g:au->R Fl):List D->R D:=fun ds=>match g (bz n ds) with
 | .ok (.nx _)=>.ok .none
 | .ok (.rt d)=>.ok d
 | .ex c m=>.ex c m
 | _=>.no
theorem zj {n:Nat}{ds:List D}{i:Nat}{s:Sl} (h:(bz n ds)[i]?=some s):(∃ d,ds[i]?=some d/\s=.shr d)\/s=.no:=by
 unfold bz at h
 by_cases hi:i<ds.length
 ·rw [bw (by simpa using hi),aP] at h
  cases hd:ds[i]? with
  | none=>rw [hd] at h;cases h
  | some z=>rw [hd] at h;cases h;exact .inl ⟨z,rfl,rfl⟩
 ·rw [bq (by simp;omega),bQ] at h
  split at h<;>cases h
  exact .inr rfl
theorem L6 {N:List Str}{vs:List V}{i:Nat}{v:V} (h:vs[i]?=some v):(L2.start N vs)[i]?=some (some v):=by
 unfold L2.start
 have hi:i<vs.length:=(List.getElem?_eq_some_iff.mp h).1
 rw [bw (by simpa using hi),aP,h]
 rfl
theorem Fr.start {K : a8} {H Hs : Hp} {N : List Str} {vs : List V} {ds : List D} (sub : dB Hs H) (r : RDs K Hs vs ds) : Fr K H Hs (fun _ => none) (bz N.length ds) (L2.start N vs) H Hs := by
  have hl := r.length
  refine ⟨.refl sub, by simp [bz, L2.start, hl], fun i d h => ?_, fun i d h => ?_, fun i d h => ?_, fun i j d e a h _ _ _ => ?_, fun i a h => (nomatch h), fun i d h => ?_, fun i j d e h _ => ?_⟩
  · rcases zj h with ⟨z, hz, e⟩ | e
    · cases e
      obtain ⟨v, k1, k2⟩ := r.get' hz
      exact ⟨v, L6 k1, k2⟩
    · cases e
  all_goals (rcases zj h with ⟨z, _, e⟩ | e <;> cases e)
theorem Sn {P:aO}{w:bd}{K:a8}{mg:Str->Option a9}{base:bt}{cls:Str->ah}{x qual:Str}{st:cp}{f:ah}{fd:dL}{N ps:List Str}{k:Nat}{g:au->R Fl} (F:Ee K x qual st f fd) (S:bu N ps (ax st))
  (h:∀ (cdv:a9) (A:bg) (outer:List Env) (s:af) (H:Hp) (E:XK),jt k (A.deeper (j3 qual (ax st) s.heap.objs.size f cdv))->J9 ⟨j4 (mR P w) P w K mg base N qual (ax st) f cdv A outer s H E,cls,E⟩ (iE st) g) :
  sO P w K mg base (mR P w) (k + 1) f fd ps (Sk K cls ps.length (eJ N.length g)):=by
 obtain ⟨oc,od,kV,doc,pm,an,cdv,ct,osl,rfl,lk,hcd⟩:=F.ex
 refine RV lk hcd S (fun vs H Q E h_4=>by obtain ⟨Hs,ds,sub,hn,r,q⟩:=h_4;exact by rw [r.length];exact hn) fun A outer s H vs Q E hr hsp=>?_
 obtain ⟨Hs,ds,sub,hn,r,q⟩:=hsp
 refine ⟨_,h cdv A outer s H E hr (bz N.length ds),H,Hs,_,Hs,Fr.start sub r,?_⟩
 unfold eJ at q
 cases hg:g (bz N.length ds) with
 | no=>rw [hg] at q;exact q
 | ex c n=>rw [hg] at q;exact q
 | ok fl =>
  rw [hg] at q
  cases fl with
  | nx ρ'=>exact fun σ' H' Hs' f'=>q .non H' Hs' f'.st .none
  | rt d=>exact fun v H' Hs' s r=>q v H' Hs' s r
  | bk ρ'=>exact q.elim
  | ct ρ'=>exact q.elim
theorem VY {P:aO}{w:bd}{K:a8}{mg:Str->Option a9}{base:bt}{cls:Str->ah}{x qual:Str}{st:cp}{f:ah}{fd:dL}{N ps:List Str}{k:Nat}{g:au->R Fl} (F:Ee K x qual st f fd) (S:bu N ps (ax st)) (hm:mg x=some (.ref f)) (hb:jA K fd ps [])
  (h:∀ (cdv:a9) (A:bg) (outer:List Env) (s:af) (H:Hp) (E:XK),jt k (A.deeper (j3 qual (ax st) s.heap.objs.size f cdv))->J9 ⟨j4 (mR P w) P w K mg base N qual (ax st) f cdv A outer s H E,cls,E⟩ (iE st) g) :
  Fn P w K mg base cls x (k + 1) ps.length (eJ N.length g):=⟨f,fd,ps,Sn F S h,hm,F.kp,hb⟩
theorem dh {X:Cx}:jB (mR X.prog X.w) X E0:=fun _ _ _ _ _ _ _ h=>by
 obtain ⟨_,_,_,_,_,_,_,_,_,q⟩:=h
 exact q.elim
end
section
def clear2 (ρ:au):au:=ρ.map fun s=>match s with
 | .ow2 _=>.no
 | s=>s
section
variable {K:a8}
theorem Fr.clear2 {H0 Hs0 H Hs:Hp}{la:Nat->Option ah}{ρ:au}{σ:St} (f:Fr K H0 Hs0 la ρ σ H Hs):Fr K H0 Hs0 la (clear2 ρ) σ H Hs/\∀ (j:Nat) (d:List (List D)),¬ (J.clear2 ρ)[j]?=some (Sl.ow2 d):=by
 have un:∀ {j:Nat}{s:Sl},(J.clear2 ρ)[j]?=some s->(∀ d,s≠.ow2 d)/\(ρ[j]?=some s\/s=.no):=fun {j s} e=>by
  unfold J.clear2 at e
  rw [aP] at e
  cases h:ρ[j]? with
  | none=>rw [h] at e;cases e
  | some t =>
   rw [h] at e
   cases t with
   | ow2 d=>cases e;exact ⟨fun _ z=>(by cases z),.inr rfl⟩
   | no=>cases e;exact ⟨fun _ z=>(by cases z),.inl rfl⟩
   | shr d=>cases e;exact ⟨fun _ z=>(by cases z),.inl rfl⟩
   | lck d=>cases e;exact ⟨fun _ z=>(by cases z),.inl rfl⟩
   | own d=>cases e;exact ⟨fun _ z=>(by cases z),.inl rfl⟩
 have is:∀ {j:Nat}{s:Sl},s≠.no->(J.clear2 ρ)[j]?=some s->ρ[j]?=some s:=fun {j s} n e=>(un e).2.resolve_right n
 have no2:∀ (j:Nat) (d:List (List D)),¬ (J.clear2 ρ)[j]?=some (Sl.ow2 d):=fun j d e=>(un e).1 d rfl
 exact ⟨⟨f.st,by simp [J.clear2,f.len],fun j d h=>f.sh j d (is (fun z=>by cases z) h),fun j d h=>f.ow j d (is (fun z=>by cases z) h),fun j d h=>f.lk j d (is (fun z=>by cases z) h),fun j k d e a h1 h2=>f.dj j k d e a (is (fun z=>by cases z) h1) (is (fun z=>by cases z) h2),f.lh,fun j d h=>(no2 j d h).elim,fun j k d e h _=>(no2 j d h).elim⟩,no2⟩
end
def re:List ah->Hp->Hp
 | [],H=>H
 | a::as,H=>re as (upd H a (.lst []))
section
variable {c:C}{e:a_}{g gi:au->R D}{pos p apos cpos spos:Pos}{x:Str}
theorem zk:∀ (as:List ah) (H:Hp),(∀ a∈as,H a=none)->as.Nodup->dB H (re as H)
 | [],H,_,_=>.refl H
 | a::as,H,h,nd=>by
  obtain ⟨n1,n2⟩:=List.nodup_cons.mp nd
  refine (iY (h a ao)).trans (zk as _ (fun b hb=>?_) n2)
  rw [aS (fun (z:b=a)=>n1 (z ▸ hb))]
  exact h b (am _ hb)
theorem EN:∀ (as:List ah) (H:Hp),as.Nodup->∀ a∈as,re as H a=some (.lst [])
 | a::as,H,nd,b,hb=>by
  obtain ⟨n1,n2⟩:=List.nodup_cons.mp nd
  show re as (upd H a (.lst [])) b=_
  by_cases hm:b∈as
  ·exact EN as _ n2 b hm
  ·have e:b=a:=(List.mem_cons.mp hb).resolve_right hm
   subst e
   have:∀ (as:List ah) (H:Hp),b∉as->re as H b=H b:=by
    intro as
    induction as with
    | nil=>intro H _;rfl
    | cons c as ih =>
     intro H h
     show re as (upd H c (.lst [])) b=_
     rw [ih _ (fun z=>h (am _ z)),aS (fun (z:b=c)=>h (by rw [z];exact ao))]
   rw [this as _ hm,aW]
theorem md:∀ (as:List ah) (H:Hp) (b:ah),re as H b=none->H b=none/\b∉as
 | [],H,b,h=>⟨h,by simp⟩
 | a::as,H,b,h=>by
  obtain ⟨h1,h2⟩:=md as (upd H a (.lst [])) b h
  by_cases hb:b=a
  ·subst hb;rw [aW] at h1;cases h1
  ·rw [aS hb] at h1
   exact ⟨h1,fun z=>(List.mem_cons.mp z).elim hb h2⟩
def QO (i:Nat):au->R Fl:=fun ρ=>.ok (.nx ((clear2 ρ).set i (.ow2 [[],[],[],[]])))
theorem U7 (i:Nat) {p1 p2 p3 p4:Pos}{pos':Pos} (hN:c.X.N.Nodup) (hi:c.X.N[i]?=some x:=by rfl) (hx:Q3 c.X.env.scope x:=by first | exact fv rfl | exact dD rfl)
  (hs:gL (.List [.List [] p1,.List [] p2,.List [] p3,.List [] p4] p) (some (.Name x pos')) spos.line c.X.env=pure false:=by rfl)
  (hf:c.X.fn x=true\/c.X.env.scope.names.lookup x=some .local:=by first | exact .inl rfl | exact .inr rfl | assumption)
  (h1:aA [.List [] p1,.List [] p2,.List [] p3,.List [] p4] c.X.env=(false,du (.List [] p1) c.X.env)::aA [.List [] p2,.List [] p3,.List [] p4] c.X.env:=by rfl)
  (h2:aA [.List [] p2,.List [] p3,.List [] p4] c.X.env=(false,du (.List [] p2) c.X.env)::aA [.List [] p3,.List [] p4] c.X.env:=by rfl)
  (h3:aA [.List [] p3,.List [] p4] c.X.env=(false,du (.List [] p3) c.X.env)::aA [.List [] p4] c.X.env:=by rfl)
  (h4:aA [.List [] p4] c.X.env=(false,du (.List [] p4) c.X.env)::aA [] c.X.env:=by rfl) :
  JS c (.Assign [.Name x pos'] (.List [.List [] p1,.List [] p2,.List [] p3,.List [] p4] p) spos) (QO i):=.of fun ρ=>by
 refine y0 (yz hN hi hx (o0 (cf (o0 fe) (cf (o0 fe) (cf (o0 fe) (cf (o0 fe) fe h4) h3) h2) h1)) hs hf) fun D σ H h_0=>?_
 obtain ⟨H0,Hs0,la,Hs,f,q⟩:=h_0
 replace q:oa c.X.K c.cls c.E H0 Hs0 la D (QO i ρ):=q
 obtain ⟨f,no2⟩:=f.clear2
 refine ⟨c_ _,fun a1 n1=>⟨c_ _,fun a2 n2=>⟨c_ _,fun a3 n3=>⟨c_ _,fun a4 n4=>⟨bC (cA (show 4<=1000 by decide)),fun a n=>?_⟩⟩⟩⟩⟩
 have N:=md [a1,a2,a3,a4] H a n
 have N4:=md [a1,a2,a3] H a4 n4
 have N3:=md [a1,a2] H a3 n3
 have N2:=md [a1] H a2 n2
 simp only [bh,aV,or_false,not_or] at N N4 N3 N2
 have nd:[a1,a2,a3,a4].Nodup:=by
  simp only [List.nodup_cons,bh,aV,or_false,not_or,gP,and_true,not_false_eq_true]
  exact ⟨⟨de N2.2,de N3.2.1,de N4.2.1⟩,⟨de N3.2.2,de N4.2.2.1⟩,de N4.2.2.2⟩
 have free:∀ b∈[a1,a2,a3,a4],H b=none:=fun b hb=>by
  simp only [bh,aV,or_false] at hb
  rcases hb with rfl | rfl | rfl | rfl
  ·exact n1
  ·exact N2.1
  ·exact N3.1
  ·exact N4.1
 have nd5:(a::[a1,a2,a3,a4]).Nodup:=List.nodup_cons.mpr ⟨by simp only [bh,aV,or_false,not_or];exact N.2,nd⟩
 have sm:dB H (re [a1,a2,a3,a4] H):=zk _ _ free nd
 have all:dB H (upd (re [a1,a2,a3,a4] H) a (.lst [.ref a1,.ref a2,.ref a3,.ref a4])):=sm.trans (iY n)
 have free5:∀ b∈a::[a1,a2,a3,a4],H b=none:=fun b hb=>(List.mem_cons.mp hb).elim (fun z=>z ▸ N.1) (free b)
 have st:cT H Hs (upd (re [a1,a2,a3,a4] H) a (.lst [.ref a1,.ref a2,.ref a3,.ref a4])) Hs:=⟨all,.refl _,f.st.sub.trans all,fun _ _ _ _ z=>z⟩
 have f':=f.step st
 have hl:i<σ.length\/¬ i<σ.length:=Decidable.em _
 have nx:∀ {j:Nat}{s:Sl},(∀ d,s≠.ow2 d)->((clear2 ρ).set i (.ow2 [[],[],[],[]]))[j]?=some s->(clear2 ρ)[j]?=some s/\i≠j:=fun {j s} hs e=>by
  by_cases hj:i=j
  ·subst hj
   by_cases hi:i<(clear2 ρ).length
   ·rw [aM hi] at e;exact absurd (bJ e).symm (hs _)
   ·rw [cJ (by simpa using hi)] at e;cases e
  ·rw [ak hj] at e;exact ⟨e,hj⟩
 refine q _ _ Hs ⟨f'.st,by simp [f'.len],fun j d h=>?_,fun j d h=>?_,fun j d h=>?_,fun j k d d' b h1 h2 h3 h4=>?_,f'.lh,fun j d h=>?_,fun j k d d' h1 h2=>?_⟩
 ·obtain ⟨h,hj⟩:=nx (fun _ z=>by cases z) h
  rw [ak hj];exact f'.sh j d h
 ·obtain ⟨h,hj⟩:=nx (fun _ z=>by cases z) h
  rw [ak hj];exact f'.ow j d h
 ·obtain ⟨h,hj⟩:=nx (fun _ z=>by cases z) h
  rw [ak hj];exact f'.lk j d h
 ·obtain ⟨h1,hj⟩:=nx (fun _ z=>by cases z) h1
  obtain ⟨h2,hk⟩:=nx (fun _ z=>by cases z) h2
  rw [ak hj] at h3
  rw [ak hk] at h4
  exact f'.dj j k d d' b h1 h2 h3 h4
 ·by_cases hj:i=j
  ·subst hj
   by_cases hi:i<(clear2 ρ).length
   ·rw [aM hi] at h
    cases h
    have at4:=EN [a1,a2,a3,a4] H nd
    have ne:∀ b∈[a1,a2,a3,a4],b≠a:=fun b hb z=>(List.nodup_cons.mp nd5).1 (z ▸ hb)
    have go:∀ b∈[a1,a2,a3,a4],upd (re [a1,a2,a3,a4] H) a (.lst [.ref a1,.ref a2,.ref a3,.ref a4]) b=some (.lst []):=fun b hb=>by rw [aS (ne b hb)];exact at4 b hb
    refine ⟨a,[a1,a2,a3,a4],aM (by rw [<- f'.len];exact hi),aW,nd5,fun b hb=>⟨f.st.sub.free (free5 b hb),f.st.all.free (free5 b hb)⟩,fun b hb k e hk=>?_,.cons (go _ (by simp)) .nil (.cons (go _ (by simp)) .nil (.cons (go _ (by simp)) .nil (.cons (go _ (by simp)) .nil .nil)))⟩
    obtain ⟨hk,nk⟩:=nx (fun _ z=>by cases z) hk
    rw [ak nk]
    intro z
    obtain ⟨b',o,k1,k2,_⟩:=f.ow k e hk
    rw [z] at k1
    cases k1
    rw [free5 b hb] at k2;cases k2
   ·rw [cJ (by simpa using hi)] at h;cases h
  ·rw [ak hj] at h;exact (no2 j d h).elim
 ·by_cases hj:i=j
  ·by_cases hk:i=k
   ·exact hj.symm.trans hk
   ·rw [ak hk] at h2;exact (no2 k d' h2).elim
  ·rw [ak hj] at h1;exact (no2 j d h1).elim
theorem NA {st:cp}{gs:au->R Fl} (h:JS c st gs):JS c st (fun ρ=>gs (dI ρ)):=.of fun ρ=>y0 (h (dI ρ)) fun D σ H h_1=>by
 obtain ⟨H0,Hs0,la,Hs,f,q⟩:=h_1
 obtain ⟨Hs',f'⟩:=f.shared
 exact ⟨H0,Hs0,la,Hs',f',q⟩
def shareAt (i:Nat) (ρ:au):au:=match ρ[i]? with
 | some (Sl.own d)=>ρ.set i (.shr d)
 | _=>ρ
theorem Fr.shareAt {K:a8}{H0 Hs0 H Hs:Hp}{la:Nat->Option ah}{ρ:au}{σ:St} (f:Fr K H0 Hs0 la ρ σ H Hs) (i:Nat):∃ Hs',Fr K H0 Hs0 la (J.shareAt i ρ) σ H Hs':=by
 unfold J.shareAt
 split
 ·rename_i d ho
  obtain ⟨a,o,k1,k2,k3,k4,k5⟩:=f.ow i d ho
  have hil:i<ρ.length:=(List.getElem?_eq_some_iff.mp ho).1
  have up:dB Hs (upd Hs a o):=iY k3
  have nx:∀ {j:Nat}{s:Sl},(∀ d,s≠.shr d)->(ρ.set i (.shr d))[j]?=some s->ρ[j]?=some s/\i≠j:=fun {j s} hs e=>by
   by_cases hj:i=j
   ·subst hj
    rw [aM hil] at e;exact absurd (bJ e).symm (hs d)
   ·rw [ak hj] at e;exact ⟨e,hj⟩
  have ne:∀ (j:Nat) (e:D) (b:ah),i≠j->ρ[j]?=some (Sl.own e)->σ[j]?=some (some (V.ref b))->b≠a:=fun j e b hj h hb z=>by
   subst z
   exact hj (f.dj i j d e b ho h k1 hb)
  refine ⟨upd Hs a o,⟨f.st.all,f.st.sh.trans up,fun b u e=>?_,fun b u e t z=>?_⟩,by simp [f.len],fun j e h=>?_,fun j e h=>?_,fun j e h=>?_,fun j k d1 d2 b h1 h2 h3 h4=>?_,f.lh,fun j e h=>?_,fun j k d1 d2 h1 h2=>?_⟩
  ·by_cases hb:b=a
   ·subst hb;rw [aW] at e;cases e;exact k2
   ·rw [aS hb] at e;exact f.st.sub b u e
  ·rw [aS (bj e k4)];exact f.st.out b u e t z
  ·by_cases hj:i=j
   ·subst hj
    rw [aM hil] at h
    cases h
    exact ⟨_,k1,k5.share k3⟩
   ·rw [ak hj] at h
    obtain ⟨v,q1,q2⟩:=f.sh j e h
    exact ⟨v,q1,q2.same up⟩
  ·obtain ⟨h,hj⟩:=nx (fun _ z=>by cases z) h
   obtain ⟨b,u,q1,q2,q3,q4,q5⟩:=f.ow j e h
   exact ⟨b,u,q1,q2,by rw [aS (ne j e b hj h q1)];exact q3,q4,q5.same up⟩
  ·obtain ⟨h,hj⟩:=nx (fun _ z=>by cases z) h
   obtain ⟨b,u,q1,q2,q3,q4,q5,q6⟩:=f.lk j e h
   exact ⟨b,u,q1,q2,q3,by rw [aS (bj q5 k4)];exact q4,q5,q6.same up⟩
  ·exact f.dj j k d1 d2 b (nx (fun _ z=>by cases z) h1).1 (nx (fun _ z=>by cases z) h2).1 h3 h4
  ·obtain ⟨h,hj⟩:=nx (fun _ z=>by cases z) h
   obtain ⟨b,as,O⟩:=f.o2 j e h
   refine ⟨b,as,O.at_,O.ob,O.nd,fun c hc=>⟨?_,(O.out c hc).2⟩,fun c hc k e' hk=>O.dj c hc k e' (nx (fun _ z=>by cases z) hk).1,O.inn.step (.refl _) up⟩
   rw [aS (fun z=>O.dj c hc i d ho (by rw [z];exact k1))]
   exact (O.out c hc).1
  ·exact f.u2 j k d1 d2 (nx (fun _ z=>by cases z) h1).1 (nx (fun _ z=>by cases z) h2).1
 ·exact ⟨Hs,f⟩
theorem Hw (i:Nat) {st:cp}{gs:au->R Fl} (h:JS c st gs):JS c st (fun ρ=>gs (shareAt i ρ)):=.of fun ρ=>y0 (h (shareAt i ρ)) fun D σ H h_2=>by
 obtain ⟨H0,Hs0,la,Hs,f,q⟩:=h_2
 obtain ⟨Hs',f'⟩:=f.shareAt i
 exact ⟨H0,Hs0,la,Hs',f',q⟩
theorem BB.get {K:a8}{H Hs:Hp}{as:List ah}{dss:List (List D)} (h:BB K H Hs as dss):∀ {j:Nat}{ds:List D},dss[j]?=some ds->∃ b vs,as[j]?=some b/\H b=some (.lst vs)/\RDs K Hs vs ds:=by
 induction h with
 | nil=>intro j ds e;cases e
 | cons h r t ih =>
  intro j ds e
  cases j with
  | zero=>cases e;exact ⟨_,_,rfl,h,r⟩
  | succ j=>have q:=ih (j:=j) e;exact q
theorem BB.set {K:a8}{H Hs:Hp}{vs':List V}{ds':List D} (r':RDs K Hs vs' ds'):∀ {as:List ah}{dss:List (List D)}{j:Nat}{b:ah},BB K H Hs as dss->as[j]?=some b->as.Nodup->BB K (L2.upd H b (.lst vs')) Hs as (dss.set j ds')
 | _,_,_,_,.nil,h,_=>by simp at h
 | _,_,0,b,.cons h r t,e,nd=>by
  simp at e
  subst e
  exact .cons aW r' (t.upd (List.nodup_cons.mp nd).1)
 | _,_,j + 1,b,.cons (a:=a) h r t,e,nd=>by
  have e':_:=e
  simp only [jy] at e'
  obtain ⟨n1,n2⟩:=List.nodup_cons.mp nd
  have hb:b∈_:=cO e'
  exact .cons (by rw [aS (fun z=>n1 (by rw [z];exact hb))];exact h) r (BB.set r' t e' n2)
def oJ (i:Nat) (gi g:au->R D):au->R Fl:=fun ρ=>match ρ[i]? with
 | some (Sl.ow2 dss)=>(gi ρ).bind fun k=>match k with
  | .int j=>if 0<=j then (match dss[j.toNat]? with
   | some ds=>(g ρ).bind fun d=>if ds.length<1000 then .ok (.nx (ρ.set i (.ow2 (dss.set j.toNat (ds++[d]))))) else .no
   | none=>.no) else .no
  | _=>.no
 | _=>.no
variable {ie:a_}
theorem zm (i:Nat) (hie:JE c ie gi) (h:JE c e g) (hN:c.X.N[i]?=some x:=by rfl) (hv:Kr c.X.env.scope x:=by first | exact fv rfl | exact dD (fv rfl) | exact dD (dD rfl)) (hd:(x == ("__debug__" : Str))=false:=by decide)
  (hcd:(x == ("__classdict__" : Str))=false:=by decide) {p3:Pos} (hpx:uS ie:=by exact fun _ _=>rfl)
  (hbase:qL (.Subscript (.Name x p) ie p3) "append" c.X.env (du (.Subscript (.Name x p) ie p3) c.X.env)=du (.Subscript (.Name x p) ie p3) c.X.env:=by rfl)
  (hfew:((fS cpos (aA [e] c.X.env)).all (fun x=>!x.1) && (backToKw cpos (Px [] c.X.env)).all (fun x=>x.1.isSome)
   && decide ([e].length + ([] : List Ap).length + (if ([] : List Ap).isEmpty then 0 else 1)<30))=true:=by rfl)
  (hline:(apos.endLine == cpos.line)=true:=by rfl) (hst:aA [e] c.X.env=(false,du e c.X.env)::aA [] c.X.env:=by rfl) (hplain:(fS cpos (aA [] c.X.env)).any (·.1)=false:=by rfl)
  (hs:gL (.Call (.Attribute (.Subscript (.Name x p) ie p3) "append" apos) [e] [] cpos) none pos.line c.X.env=pure false:=by rfl) :
  JS c (.Expr (.Call (.Attribute (.Subscript (.Name x p) ie p3) "append" apos) [e] [] cpos) pos) (oJ i gi g):=.of fun ρ=>by
 refine y0 (uN (Br dX Av Aw Bs (RX oZ (lY hN hv hd hcd) (hie ρ) hpx) (cf (h ρ) fe hst) hbase hfew hline hst hplain) hs) fun D σ H h_3=>?_
 obtain ⟨H0,Hs0,la,Hs,f,q⟩:=h_3
 replace q:oa c.X.K c.cls c.E H0 Hs0 la D (oJ i gi g ρ):=q
 unfold oJ at q
 split at q
 ·rename_i dss ho
  obtain ⟨a,as,O⟩:=f.o2 i dss ho
  refine ⟨_,O.at_,?_⟩
  refine sE f q fun k v H1 Hs1 e1 s1 f1 r1=>?_
  rw [e1,bind_ok] at q
  cases r1 with
  | int j =>
   simp only at q
   by_cases hj:0<=j
   ·rw [if_pos hj] at q
    split at q
    ·rename_i ds hds
     obtain ⟨b,vs,hb,hH,rv⟩:=O.inn.get hds
     have hix:Eb (as.map V.ref) j=some (.ref b):=by
      have:=uR (xs:=as.map V.ref) (j:=j.toNat) (v:=V.ref b) (by rw [aP,hb];rfl)
      rwa [fG hj] at this
     refine ⟨a,_,j,_,rfl,rfl,.of (s1.all _ _ O.ob),hix,.inl ⟨rfl,_,.of (s1.all _ _ hH)⟩,?_⟩
     refine sE f1 q fun d w H2 Hs2 e2 s2 f2 r2=>?_
     rw [e2,bind_ok] at q
     by_cases hl:ds.length<1000
     ·rw [if_pos hl] at q
      have st:=s1.trans s2
      refine ⟨b,vs,w,rfl,rfl,st.all _ _ hH,cA (by rw [rv.length];omega),?_⟩
      have hil:i<ρ.length:=(List.getElem?_eq_some_iff.mp ho).1
      obtain ⟨a',as',O2'⟩:=f2.o2 i dss ho
      have ea:a'=a:=by
       have:=O2'.at_
       rw [O.at_] at this
       cases this;rfl
      subst ea
      have eas:as'=as:=by
       have h1:=O2'.ob
       rw [st.all _ _ O.ob] at h1
       injection h1 with h1
       injection h1 with h1
       exact (LU (fun x y z=>by cases z;rfl) |>.mp h1).symm
      subst eas
      have hbm:b∈a'::as':=am _ (cO hb)
      have nb:b≠a':=fun z=>(List.nodup_cons.mp O.nd).1 (z ▸ cO hb)
      obtain ⟨bs,b0⟩:=O2'.out b hbm
      have nx:∀ {j':Nat}{s:Sl},(∀ d,s≠.ow2 d)->(ρ.set i (.ow2 (dss.set j.toNat (ds++[d]))))[j']?=some s->ρ[j']?=some s/\i≠j':=fun {j' s} hs e=>by
       by_cases hj:i=j'
       ·subst hj
        rw [aM hil] at e;exact absurd (bJ e).symm (hs _)
       ·rw [ak hj] at e;exact ⟨e,hj⟩
      refine q _ _ Hs2 ⟨⟨fun c u e=>?_,f2.st.sh,fun c u e=>?_,f2.st.out⟩,by simp [f2.len],fun j' d' h=>f2.sh j' d' (nx (fun _ z=>by cases z) h).1,fun j' d' h=>?_,fun j' d' h=>?_,fun j' k' d' e' a h1 h2=>f2.dj j' k' d' e' a (nx (fun _ z=>by cases z) h1).1 (nx (fun _ z=>by cases z) h2).1,f2.lh,fun j' d' h=>?_,fun j' k' d' e' h1 h2=>?_⟩
      ·rw [aS (bj e b0)];exact f2.st.all c u e
      ·rw [aS (bj e bs)];exact f2.st.sub c u e
      ·obtain ⟨h,_⟩:=nx (fun _ z=>by cases z) h
       obtain ⟨c',u,k1,k2,k3,k4,k5⟩:=f2.ow j' d' h
       refine ⟨c',u,k1,?_,k3,k4,k5⟩
       rw [aS (fun z=>O2'.dj b hbm j' d' h (by rw [<- z];exact k1))]
       exact k2
      ·obtain ⟨h,_⟩:=nx (fun _ z=>by cases z) h
       obtain ⟨c',u,k1,k2,k3,k4,k5,k6⟩:=f2.lk j' d' h
       refine ⟨c',u,k1,k2,?_,k4,k5,k6⟩
       rw [aS (bj k5 b0)]
       exact k3
      ·by_cases hj':i=j'
       ·subst hj'
        rw [aM hil] at h
        cases h
        refine ⟨a',as',O2'.at_,by rw [aS (de nb)];exact O2'.ob,O2'.nd,O2'.out,fun c hc k e' hk=>O2'.dj c hc k e' (nx (fun _ z=>by cases z) hk).1,?_⟩
        exact BB.set ((rv.same st.sh).append (.cons r2 .nil)) O2'.inn hb (List.nodup_cons.mp O2'.nd).2
       ·rw [ak hj'] at h
        exact (hj' (f2.u2 i j' _ _ ho h)).elim
      ·by_cases hj':i=j'
       ·by_cases hk':i=k'
        ·exact hj'.symm.trans hk'
        ·rw [ak hk'] at h2
         exact (hk' (f2.u2 i k' _ _ ho h2)).elim
       ·rw [ak hj'] at h1
        exact (hj' (f2.u2 i j' _ _ ho h1)).elim
     ·rw [if_neg hl] at q;exact q.elim
    ·exact q.elim
   ·rw [if_neg hj] at q;exact q.elim
  | none=>exact q.elim
  | bool _=>exact q.elim
  | str _=>exact q.elim
  | list _ _=>exact q.elim
  | tuple _ _=>exact q.elim
  | dictK _ _=>exact q.elim
  | dictT _ _ _=>exact q.elim
  | dictF _ _ _=>exact q.elim
 ·exact q.elim
end
end
section
open PyProof.Rows (OwnCls)
section
variable {X:Cx}
end
section
variable {c:C}{e:a_}{g:au->R D}{pos p apos cpos:Pos}{x:Str}
end
structure Er (mg:Str->Option a9) (base:bt) (cls:Str->ah) (x:Str):Prop where
 ex:∃ bmB newId initId Bn,OwnCls x (cls x) bmB newId mg base/\ExcBaseFacts Bn newId initId bmB
def pz (x:Str) (gs:au->R (List D)):au->R Fl:=fun ρ=>(gs ρ).bind fun ds=>if ds.length<=1000 then .ex x none else .no
section
variable {P:aO}{w:bd}{K:a8}{mg:Str->Option a9}{base:bt}{N:List Str}{qual:Str}{scope:eT}{f:ah}{cd:a9}{A:bg}{outer:List Env}{s:af}{H:Hp}{E:XK}{cls:Str->ah}
theorem vi {x:Str}{np cpos pos:Pos}{e0:a_}{bX:List a_}{gs:au->R (List D)} (R0:Er mg base cls x)
  (hg:Gl (j4 (mR P w) P w K mg base N qual scope f cd A outer s H E) x) (ha:DV ⟨j4 (mR P w) P w K mg base N qual scope f cd A outer s H E,cls,E⟩ (e0::bX) gs)
  (he:aA (e0::bX) (j4 (mR P w) P w K mg base N qual scope f cd A outer s H E).env=(false,du e0 (j4 (mR P w) P w K mg base N qual scope f cd A outer s H E).env)::aA bX (j4 (mR P w) P w K mg base N qual scope f cd A outer s H E).env:=by rfl)
  (hdb:(x == ("__debug__" : Str))=false:=by decide) (hpl:(fS cpos (aA bX (j4 (mR P w) P w K mg base N qual scope f cd A outer s H E).env)).any (·.1)=false:=by rfl) :
  JS ⟨j4 (mR P w) P w K mg base N qual scope f cd A outer s H E,cls,E⟩ (.Raise (some (.Call (.Name x np) (e0::bX) [] cpos)) none pos) (pz x gs):=.of fun ρ=>by
 obtain ⟨bmB,newId,initId,Bn,O,FB⟩:=R0.ex
 refine y0 (N7 O FB hg (ha ρ) he hdb hpl) fun D σ H1 h_1=>?_
 obtain ⟨H0,Hs0,la,Hs,f,q⟩:=h_1
 replace q:oa K cls E H0 Hs0 la D (pz x gs ρ):=q
 refine ⟨H0,Hs0,la,Hs,f,?_⟩
 unfold pz at q
 cases hr:gs ρ with
 | no=>rw [hr] at q;exact q
 | ex y n=>rw [hr] at q;exact fun H' Hs' s=>q H' Hs' (f.st.trans s)
 | ok ds =>
  rw [hr,bind_ok] at q
  intro vs H2 Hs2 s2 r2
  by_cases hl:ds.length<=1000
  ·rw [if_pos hl] at q
   exact ⟨bC (cA (by rw [r2.length];exact hl)),q H2 Hs2 (f.st.trans s2)⟩
  ·rw [if_neg hl] at q;exact q.elim
end
end
section
structure Bi (mg:Str->Option a9):Prop where
 len:mg "len"=none
 isinstance:mg "isinstance"=none
 all:mg "all"=none
 any:mg "any"=none
 zip:mg "zip"=none
 tuple:mg "tuple"=none
 list:mg "list"=none
 sorted:mg "sorted"=none
 set:mg "set"=none
 range:mg "range"=none
 enumerate:mg "enumerate"=none
 dict:mg "dict"=none
 sum:mg "sum"=none
 max:mg "max"=none
 min:mg "min"=none
 reversed:mg "reversed"=none
 str:mg "str"=none
 int:mg "int"=none
 bool:mg "bool"=none
end
section
structure Xf (K:a8) (base:bt) (cls:Str->ah) (names:List Str) (C:ah) (j:Nat):Prop where
 ek:N9 K C
 is:∀ i n,names[i]?=some n->dH K (.ref C) (.ref (cls n))=some (decide (i=j))
 ve:dH K (.ref C) (.type "ValueError")=some true
 ox:∃ bm,Hi base C bm/\bm.contains (.ref (cls "PlanError"))=true
 lt:j<11
inductive So (K:a8) (base:bt) (cls:Str->ah) (names:List Str) (vs:List V) (H:Hp) (Q:VK) (z_3:XK):Prop
 | mk (ea C j:_) (h0:vs=[.ref ea]) (h1:H ea=some (yN ea C)) (h2:Xf K base cls names C j) (h3:∀ t H',dB H H'->H t=none->H' t=some (.tup [.str "refused",.int (j:Nat)])->Q (.ref t) H'):So K base cls names vs H Q z_3
def U8 (K:a8) (base:bt) (cls:Str->ah) (names:List Str):Sp:=So K base cls names
def bits (j:Nat):List Bool:=[decide (0=j),decide (1=j),decide (2=j),decide (3=j),decide (4=j),decide (5=j),decide (6=j),decide (7=j),decide (8=j),decide (9=j),decide (10=j)]
theorem Hx:∀ j,j<11->(bits j).countP id=1:=by
 intro j h
 have:∀ k:_root_.Fin 11,(bits k.val).countP id=1:=by decide
 exact this ⟨j,h⟩
theorem QP:∀ j,j<11->(bits j)[j]?=some true/\∀ m,m<j->(bits j)[m]?=some false:=by
 intro j h
 have:∀ k:_root_.Fin 11,(bits k.val)[k.val]?=some true/\∀ m:_root_.Fin 11,m.val<k.val->(bits k.val)[m.val]?=some false:=by decide
 exact ⟨(this ⟨j,h⟩).1,fun m hm=>(this ⟨j,h⟩).2 ⟨m,by omega⟩ hm⟩
section
variable {X:Cx}{cls:Str->ah}{names:List Str}{base:bt}
theorem mf {e0:a_}{n:Str}{p p2 pos:Pos} (h0:PE X e0 (Ks 0)) (hg:Gl X "isinstance") (hm:X.mg "isinstance"=none) (hgn:Gl X n) (hmn:X.mg n=some (.ref (cls n))) (hdb:(n == ("__debug__" : Str))=false:=by decide)
  (he:aA [e0,.Name n p2] X.env=(false,du e0 X.env)::aA [.Name n p2] X.env:=by rfl) (hpl:(fS pos (aA [.Name n p2] X.env)).any (·.1)=false:=by rfl) :
  PE X (.Call (.Name "isinstance" p) [e0,.Name n p2] [] pos) (fun σ H Q=>∃ ea C j i,σ[0]?=some (some (V.ref ea))/\H ea=some (yN ea C)/\Xf X.K base cls names C j/\names[i]?=some n/\Q (.bl (decide (i=j))) H) :=
 qA (oE wZ hg hm jQ (cf h0 (cf (Co hgn hmn (v:=.ref (cls n)) rfl hdb) fe) he) (by decide) (by decide) he hpl) fun σ H Q ⟨ea,C,j,i,h1,h2,x,h3,q⟩ =>
  ⟨_,h1,.ref ea,.ref (cls n),.ref (cls n),_,rfl,.inr ⟨_,rfl,rfl⟩,.inr ⟨ea,C,rfl,h2,x.ek,x.is i n h3⟩,q⟩
theorem QQ {e0:a_}{p p2 pos:Pos} (h0:PE X e0 (Ks 0)) (hg:Gl X "isinstance") (hm:X.mg "isinstance"=none) (hgn:Gl X "ValueError") (hmn:X.mg "ValueError"=none)
  (he:aA [e0,.Name "ValueError" p2] X.env=(false,du e0 X.env)::aA [.Name "ValueError" p2] X.env:=by rfl) (hpl:(fS pos (aA [.Name "ValueError" p2] X.env)).any (·.1)=false:=by rfl) :
  PE X (.Call (.Name "isinstance" p) [e0,.Name "ValueError" p2] [] pos) (fun σ H Q=>∃ ea C j,σ[0]?=some (some (V.ref ea))/\H ea=some (yN ea C)/\Xf X.K base cls names C j/\Q (.bl true) H) :=
 qA (oE wZ hg hm jQ (cf h0 (cf (IK hgn hmn (u:=.type "ValueError") (v:=.ty "ValueError") rfl rfl) fe) he) (by decide) (by decide) he hpl) fun σ H Q ⟨ea,C,j,h1,h2,x,q⟩ =>
  ⟨_,h1,.ref ea,.ty "ValueError",.type "ValueError",_,rfl,.inl ⟨_,rfl,rfl⟩,.inr ⟨ea,C,rfl,h2,x.ek,x.ve⟩,q⟩
end
end
end J
section
namespace J
open PySem L2
def L7 (wh:Str->Option Nat) (gb:au->R Fl):au->R Fl:=fun ρ=>match gb ρ with
 | .ok fl=>.ok fl
 | .ex y none=>match wh y with
  | some j=>.ok (.rt (.tuple [.str "refused",.int (j:Nat)]))
  | none=>.no
 | _=>.no
structure Wh (P:aO) (w:bd) (K:a8) (mg:Str->Option a9) (base:bt) (cls:Str->ah) (x:Str) (names:List Str) (wh:Str->Option Nat):Prop where
 fn:∃ f fd ps,Ey P w K mg base 1 f fd ps (U8 K base cls names)/\mg x=some (.ref f)/\e6 K (.ref f)=true/\jA K fd ps []
 pe:mg "PlanError"=some (.ref (cls "PlanError"))
 ox:∃ bp,Hi base (cls "PlanError") bp
 xf:∀ y j,wh y=some j->Xf K base cls names (cls y) j
section
variable {c:C}{body:List cp}{x n:Str}{np np2 np3 hpos cpos rpos pos:Pos}{gb:au->R Fl}{names:List Str}{wh:Str->Option Nat}
end
end J
namespace L2
open PySem
theorem l_.mono1 {k:Nat}{A:bg} (r:l_ k A) (h:1<=k:=by decide):l_ 1 A:=⟨by have:=r.dp;omega,by have:=r.un;omega⟩
end L2
end
namespace J
open PySem L2
section
open PyProof.Rows (OwnCls)
abbrev QR:List a9:=[.type "ValueError",.type "Exception",.type "BaseException",.type "object"]
theorem Hy {K:a8}{h:bt}{mg:Str->Option a9}{x:Str}{C:ah}{bmB:List a9}{newId:String} (X:K.In h) (G:h.Ns bM mg) (e:gZ K bM x=some (some (.ref C))) (q:Ax K C bmB newId=true) (m1:eM K C (.type "BaseException")=some true) :
  OwnCls x C bmB newId mg h/\∃ bm,Hi h C bm/\∀ v,(v == bL C)=false->eM K C v=some true->bm.contains v=true:=by
 have hmg:=ko X G e
 unfold Ax at q
 split at q
 ·rename_i dd cd sl look
  split at q
  ·rename_i C' bm k0 k1 k2 k3 n k5 hmro hslots
   simp only [aT,beq_iff_eq,jR] at q
   obtain ⟨⟨⟨⟨⟨rfl,rfl⟩,nodel⟩,tl⟩,nsok⟩,noinit⟩:=q
   have slots:sl=#[k0,k1,k2,k3,some (.builtin n),k5]:=by
    cases sl with | mk l=>simp only at hslots;rw [hslots]
   have inMro:∀ v,eM K C' v=some true->cd.mro.contains v=true:=fun v hv=>by
    unfold eM h_ at hv
    rw [look] at hv
    simp only [oV] at hv
    split at hv
    ·cases hv
    ·exact bJ hv
   have bX:∀ v,(v == bL C')=false->eM K C' v=some true->bm.contains v=true:=fun v nv hv=>by
    have:=inMro v hv
    rw [hmro,vM,nv,oS] at this
    exact this
   obtain ⟨nm,bs,mro,ns,qn,hd,sn,sub,ab,col,del⟩:=cd
   dsimp only at hmro nodel nsok noinit
   subst hmro nodel slots
   have at_:=X _ _ look
   exact ⟨⟨hmg,bm,ns,nm,qn,bs,hd,sn,sub,ab,col,dd,k0,k1,k2,k3,k5,_,at_,.of_isNs (PySem.W.isNs_of_in X nsok),PySem.W.nsMap_none_of_in X nsok noinit,PySem.W.tail_of_in X tl⟩,
    bm,⟨⟨nm,qn,ns,bs,hd,sn,sub,ab,col,dd,k0,k1,k2,k3,k5,n,at_⟩,bX _ rfl m1⟩,bX⟩
  ·cases q
 ·cases q
structure TopC (K:a8) (x:Str) (C:ah):Prop where
 ns:gZ K bM x=some (some (.ref C))
 ex:Ax K C QR "ValueError.__new__"=true
 mb:eM K C (.type "BaseException")=some true
theorem TopC.er {K:a8}{h:bt}{mg:Str->Option a9}{cls:Str->ah}{x:Str}{C:ah} (T:TopC K x C) (X:K.In h) (G:h.Ns bM mg) (hc:cls x=C):Er mg h cls x:=by
 subst hc
 exact ⟨_,_,_,_,(Hy X G T.ns T.ex T.mb).1,PySem.F.excBase_ValueError⟩
theorem QS {K:a8}{t C:ah}{cd:ClassData}{b:Bool} (h1:h_ K C=some cd) (h2:yu K (.ref C)=some (.type "type")) (h3:nZ K (.ref t) (.ref C)=some b) (hn:b=false->t≠C):dH K (.ref t) (.ref C)=some b:=by
 unfold dH
 split
 ·rename_i he
  have e:t=C:=by have:=eq_of_beq he;cases this;rfl
  cases b with
  | true=>rfl
  | false=>exact (hn rfl e).elim
 ·unfold M9
  simp only [h1,h2,uw,beq_self_eq_true,l5,if_true]
  exact h3
theorem U9 {K:a8}{t:ah} (h3:nZ K (.ref t) (.type "ValueError")=some true):dH K (.ref t) (.type "ValueError")=some true:=by
 unfold dH
 split
 ·rename_i he
  cases (eq_of_beq he)
 ·unfold M9
  show (if PySem.W.kitMeta "ValueError"=true then _ else none)=some true
  rw [if_pos (by decide +kernel)]
  exact h3
inductive VZ (K:a8) (F:List D->R D) (vs:List V) (H:Hp) (Q:VK) (z_3:XK):Prop
 | mk (Hs ds d:_) (h0:dB Hs H) (h1:ds.length=1) (h2:RDs K Hs vs ds) (h3:F ds=.ok d) (h4:∀ v H' Hs',cT H Hs H' Hs'->RD K Hs' v d->Q v H'):VZ K F vs H Q z_3
def V_ (K:a8) (F:List D->R D):Sp:=VZ K F
theorem Ua {K:a8}{cls:Str->ah}{F:List D->R D}:∀ vs H Q E,V_ K F vs H Q E->Sk K cls 1 F vs H Q E:=fun vs H Q E ⟨Hs,ds,d,s,l,r,e,q⟩=>⟨Hs,ds,s,l,r,by rw [e];exact q⟩
def W0 (l:List (Str×ah)):Str->ah:=fun x=>(l.lookup x).getD 0
theorem Ub {K:a8}{F:List D->R D}{H:Hp}{a:ah}{ns:List Int} (hF:F [.list (ns.map .int)]=.ok (.bool true)) (h:lZ K H a (ns.map V.int)):V_ K F [.ref a] H (fun v _=>v=.bl true) fun _ _ _=>False:=by
 have ri:∀ ns:List Int,RDs K H (ns.map V.int) (ns.map .int):=fun ns=>by
  induction ns with
  | nil=>exact .nil
  | cons x r ih=>exact .cons (.int x) ih
 refine ⟨H,[.list (ns.map .int)],.bool true,.refl H,rfl,.cons (.list h (ri ns)) .nil,hF,?_⟩
 intro v H' Hs' _ r
 cases r
 rfl
theorem Uc {P:aO}{w:bd}{H:Hp}{s:af}{e:a9}{s':af} (h:mR P w [] H s (fun _ _ _=>False) e s'):False:=by
 obtain ⟨_,_,_,_,_,_,_,_,_,q⟩:=h
 exact q
theorem walkF {l:xv}{k:Nat}{q:aO}{loose:List Str}{XP:(Str->Option a9)->bt->Prop}{YP:bd->bt->Prop}{d:DefRec}{K:Params->a8}{x:Str}{F0:List D->R D}
  (hn:l.most=some 63) (hdf:d.params.defaults=[]) (hr:jt k wT) (hY:∀ (w:bd) (h:bt),YP w h->(K w.params).In h)
  (F:∀ (w:bd) (mg:Str->Option a9) (fa:ah) (h:bt),(K w.params).In h->h.Ns bM mg->mg d.name=some (.ref fa) ->
   ∃ fd:dL,(∀ (s:af) (u:a9),Ao s fd ⟨[u],[]⟩ [(x,u)])/\∀ base:bt,(K w.params).In base->base.Ns bM mg->sO l.prog w (K w.params) mg base (mR l.prog w) k fa fd [x] (V_ (K w.params) F0))
  (hF:∀ ns:List Int,ns.length<=63->F0 [.list (ns.map .int)]=.ok (.bool true)) :
  Pl q loose XP YP l.row.toRowW d [] (fun f vs=>Kg f vs) :=
 L2.Qm (n:=63) (k:=k) (x:=x) (CX:=fun w=>mR l.prog w) (sp:=fun w=>V_ (K w.params) F0) hn (by decide) hdf hr hY F (fun w H a ns hl _ hS=>Ub (hF ns hl) hS) fun _ _ _ _ _ h=>Uc h
def Sq (i:Nat) (g:au->R Fl):au->R Fl:=fun ρ=>g (shareAt i ρ)
theorem Hz {c:C} (i:Nat) {st:cp}{gs:au->R Fl} (h:JS c st gs):JS c st (Sq i gs):=Hw i h
end
section
section
variable {s:Sl}{ρ:au}{d x y:D}{ds:List D}
theorem zo {α β:Type} (a:α) (f:α->R β):(R.ok a).bind f=f a:=id rfl
theorem W2 {α β:Type} (c:Str) (n:Option D) (f:α->R β):(R.ex c n:R α).bind f=.ex c n:=id rfl
def L8 (h:au->R Fl):Fl->R Fl:=fun fl=>match fl with
 | .nx ρ'=>h ρ'
 | fl=>.ok fl
theorem w_ (g h:au->R Fl):aN g h (s::ρ)=(g (s::ρ)).bind (L8 h):=id rfl
theorem vj (h:au->R Fl) (ρ:au):L8 h (.nx ρ)=h ρ:=id rfl
theorem EO (h:au->R Fl) (d:D):L8 h (.rt d)=.ok (.rt d):=id rfl
def Ya (g h:au->R Fl) (ρ:au):Bool->R Fl:=fun b=>bif b then g ρ else h ρ
theorem W3 (t:au->R Bool) (g h:au->R Fl):e7 t g h (s::ρ)=(t (s::ρ)).bind (Ya g h (s::ρ)):=by
 show (t (s::ρ)).bind _=_
 congr 1
 funext b
 cases b<;>rfl
theorem NB (g h:au->R Fl) (ρ:au):Ya g h ρ false=h ρ:=id rfl
theorem NC (g h:au->R Fl) (ρ:au) (b:Bool):Ya g h ρ b=bif b then g ρ else h ρ:=id rfl
def Yb:D->R Fl:=fun d=>.ok (.rt d)
theorem Sr (g:au->R D):cC g (s::ρ)=(g (dI (s::ρ))).bind Yb:=id rfl
theorem W4 (d:D):Yb d=.ok (.rt d):=id rfl
def zq:Sl->Sl
 | .own d=>.shr d
 | .ow2 dss=>.shr (.list (dss.map .list))
 | s=>s
theorem Jh:dI (s::ρ)=zq s::dI ρ:=by cases s<;>rfl
theorem EQ:dI []=[]:=id rfl
theorem Ji:zq .no=.no:=id rfl
theorem ES (d:D):zq (.shr d)=.shr d:=id rfl
theorem ET (d:D):zq (.own d)=.shr d:=id rfl
theorem EU (d:List (List D)):zq (.ow2 d)=.shr (.list (d.map .list)):=id rfl
def W5 (i:Nat) (ρ:au):D->R Fl:=fun d=>.ok (.nx (ρ.set i (.shr d)))
theorem ND (i:Nat) (g:au->R D):eZ i g (s::ρ)=(g (s::ρ)).bind (W5 i (s::ρ)):=id rfl
theorem NE (i:Nat) (ρ:au) (d:D):W5 i ρ d=.ok (.nx (ρ.set i (.shr d))):=id rfl
def Ss (i:Nat) (ρ:au):D->R Fl:=fun d=>.ok (.nx (ρ.set i (.own d)))
theorem NF (i:Nat) (g:au->R D):e8 i g (s::ρ)=(g (s::ρ)).bind (Ss i (s::ρ)):=id rfl
theorem Jj (i:Nat) (ρ:au) (d:D):Ss i ρ d=.ok (.nx (ρ.set i (.own d))):=id rfl
def MI (ρ:au):D->R Fl:=fun _=>.ok (.nx ρ)
theorem NG (g:au->R D):tm g (s::ρ)=(g (s::ρ)).bind (J.MI (s::ρ)):=id rfl
theorem Jk (ρ:au) (d:D):J.MI ρ d=.ok (.nx ρ):=id rfl
def YM (gb:au->R D) (h:D->D->R D) (ρ:au):D->R D:=fun x=>(gb ρ).bind (h x)
theorem W6 (ga gb:au->R D) (h:D->D->R D):g2 ga gb h (s::ρ)=(ga (s::ρ)).bind (YM gb h (s::ρ)):=id rfl
theorem Su (gb:au->R D) (h:D->D->R D) (ρ:au) (x:D):YM gb h ρ x=(gb ρ).bind (h x):=id rfl
def NH:D->R Bool:=fun d=>match d with
 | .bool b=>.ok b
 | _=>.no
theorem Sv (g:au->R D):ej g (s::ρ)=(g (s::ρ)).bind NH:=id rfl
theorem NI (b:Bool):NH (.bool b)=.ok b:=id rfl
def W7:Bool->R Bool:=fun b=>.ok (!b)
theorem Sw (g:au->R Bool):jP g (s::ρ)=(g (s::ρ)).bind W7:=id rfl
theorem NJ (b:Bool):W7 b=.ok (!b):=id rfl
def W8 (h:au->R Bool) (ρ:au):Bool->R Bool:=fun b=>bif b then h ρ else .ok false
def YN (h:au->R Bool) (ρ:au):Bool->R Bool:=fun b=>bif b then .ok true else h ρ
theorem Sx (g h:au->R Bool):wo g h (s::ρ)=(g (s::ρ)).bind (W8 h (s::ρ)):=by
 show (g (s::ρ)).bind _=_
 congr 1;funext b;cases b<;>rfl
theorem W9 (g h:au->R Bool):LW g h (s::ρ)=(g (s::ρ)).bind (YN h (s::ρ)):=by
 show (g (s::ρ)).bind _=_
 congr 1;funext b;cases b<;>rfl
theorem NK (h:au->R Bool) (ρ:au) (b:Bool):W8 h ρ b=bif b then h ρ else .ok false:=id rfl
theorem Sy (h:au->R Bool) (ρ:au) (b:Bool):YN h ρ b=bif b then .ok true else h ρ:=id rfl
def Sz:Bool->R D:=fun b=>.ok (.bool (!b))
theorem NL (g:au->R D):yU g (s::ρ)=((g (s::ρ)).bind NH).bind Sz:=id rfl
theorem Jl (b:Bool):Sz b=.ok (.bool (!b)):=id rfl
def SA (h:au->R D) (ρ:au):Bool->R D:=fun b=>bif b then h ρ else .ok (.bool false)
def Wa (h:au->R D) (ρ:au):Bool->R D:=fun b=>bif b then .ok (.bool true) else h ρ
theorem NM (g h:au->R D):tf g h (s::ρ)=((g (s::ρ)).bind NH).bind (SA h (s::ρ)):=by
 show (ej g (s::ρ)).bind _=(ej g (s::ρ)).bind _
 congr 1;funext b;cases b<;>rfl
theorem SB (g h:au->R D):QA g h (s::ρ)=((g (s::ρ)).bind NH).bind (Wa h (s::ρ)):=by
 show (ej g (s::ρ)).bind _=(ej g (s::ρ)).bind _
 congr 1;funext b;cases b<;>rfl
theorem Jm (h:au->R D) (ρ:au) (b:Bool):SA h ρ b=bif b then h ρ else .ok (.bool false):=id rfl
theorem NN (h:au->R D) (ρ:au) (b:Bool):Wa h ρ b=bif b then .ok (.bool true) else h ρ:=id rfl
def Wb (g h:au->R D) (ρ:au):Bool->R D:=fun b=>bif b then g ρ else h ρ
theorem SC (t:au->R Bool) (g h:au->R D):X5 t g h (s::ρ)=(t (s::ρ)).bind (Wb g h (s::ρ)):=by
 show (t (s::ρ)).bind _=_
 congr 1;funext b;cases b<;>rfl
theorem NO (g h:au->R D) (ρ:au) (b:Bool):Wb g h ρ b=bif b then g ρ else h ρ:=id rfl
def Wc (gb gc:au->R D) (h h':D->D->R D) (ρ:au):D->R D:=fun x=>(gb ρ).bind fun y=>(h x y).bind fun z=>match z with
 | .bool true=>(gc ρ).bind fun w=>h' y w
 | .bool false=>.ok (.bool false)
 | _=>.no
def Wd (gc:au->R D) (h h':D->D->R D) (ρ:au) (x:D):D->R D:=fun y=>(h x y).bind fun z=>match z with
 | .bool true=>(gc ρ).bind fun w=>h' y w
 | .bool false=>.ok (.bool false)
 | _=>.no
def We (gc:au->R D) (h':D->D->R D) (ρ:au) (y:D):D->R D:=fun z=>match z with
 | .bool true=>(gc ρ).bind (h' y)
 | .bool false=>.ok (.bool false)
 | _=>.no
theorem Jn (ga gb gc:au->R D) (h h':D->D->R D):qY ga gb gc h h' (s::ρ)=(ga (s::ρ)).bind (Wc gb gc h h' (s::ρ)):=id rfl
theorem NP (gb gc:au->R D) (h h':D->D->R D) (ρ:au) (x:D):Wc gb gc h h' ρ x=(gb ρ).bind (Wd gc h h' ρ x):=id rfl
theorem NQ (gc:au->R D) (h h':D->D->R D) (ρ:au) (x y:D):Wd gc h h' ρ x y=(h x y).bind (We gc h' ρ y):=id rfl
theorem NR (gc:au->R D) (h':D->D->R D) (ρ:au) (y:D) (b:Bool):We gc h' ρ y (.bool b)=bif b then (gc ρ).bind (h' y) else .ok (.bool false):=by cases b<;>rfl
def NS (gs:au->R (List D)) (ρ:au):D->R (List D):=fun d=>(gs ρ).bind fun ds=>.ok (d::ds)
def NT (d:D):List D->R (List D):=fun ds=>.ok (d::ds)
theorem NU (g:au->R D) (gs:au->R (List D)):J.ac g gs (s::ρ)=(g (s::ρ)).bind (NS gs (s::ρ)):=id rfl
theorem EV (gs:au->R (List D)) (ρ:au) (d:D):NS gs ρ d=(gs ρ).bind (NT d):=id rfl
theorem EW (d:D) (ds:List D):NT d ds=.ok (d::ds):=id rfl
theorem SD (ρ:au):J.aF ρ=.ok []:=id rfl
def SE (k:List D->D):List D->R D:=fun ds=>if ds.length<=1000 then .ok (k ds) else .no
theorem NV (gs:au->R (List D)) (k:List D->D):dQ gs k (s::ρ)=(gs (s::ρ)).bind (SE k):=id rfl
theorem Jo (k:List D->D) (ds:List D):SE k ds=if ds.length<=1000 then .ok (k ds) else .no:=id rfl
theorem NW (gs:au->R (List D)) (h:List D->R D):cb gs h (s::ρ)=(gs (s::ρ)).bind h:=id rfl
def YO (n:Nat) (F:List D->R D):List D->R D:=fun ds=>if ds.length=n then F ds else .no
theorem Wf (n:Nat) (F:List D->R D) (gs:au->R (List D)):dJ n F gs (s::ρ)=(gs (s::ρ)).bind (YO n F):=id rfl
theorem SF (n:Nat) (F:List D->R D) (ds:List D):YO n F ds=if ds.length=n then F ds else .no:=id rfl
theorem SG (h:D->R D) (d:D):i8 h [d]=h d:=id rfl
theorem NX (d:D) (ρ:au):Gm (.shr d::ρ) 0=.ok d:=id rfl
theorem SH (s:Sl) (ρ:au) (n:Nat):Gm (s::ρ) (n + 1)=Gm ρ n:=by simp [Gm]
theorem NY (d:D) (ρ:au):Gn (.shr d::ρ) 0=.ok d:=id rfl
theorem N_ (d:D) (ρ:au):Gn (.own d::ρ) 0=.ok d:=id rfl
theorem SJ (s:Sl) (ρ:au) (n:Nat):Gn (s::ρ) (n + 1)=Gn ρ n:=by simp [Gn]
def Wg (T:String):D->R D:=fun d=>if qI d then .ok (.bool (AN T d)) else .no
theorem SK (g:au->R D) (T:String):xI g T (s::ρ)=(g (s::ρ)).bind (Wg T):=id rfl
theorem O0 (T:String) (d:D):Wg T d=if qI d then .ok (.bool (AN T d)) else .no:=id rfl
def Wi (gl gh:au->R (Option Int)) (ρ:au):D->R D:=fun x=>(gl ρ).bind fun l=>(gh ρ).bind fun h=>J8 x l h
def Wj (gh:au->R (Option Int)) (ρ:au) (x:D):Option Int->R D:=fun l=>(gh ρ).bind fun h=>J8 x l h
theorem Wk (g:au->R D) (gl gh:au->R (Option Int)):Si g gl gh (s::ρ)=(g (s::ρ)).bind (Wi gl gh (s::ρ)):=id rfl
theorem O1 (gl gh:au->R (Option Int)) (ρ:au) (x:D):Wi gl gh ρ x=(gl ρ).bind (Wj gh ρ x):=id rfl
theorem O3 (gh:au->R (Option Int)) (ρ:au) (x:D) (l:Option Int):Wj gh ρ x l=(gh ρ).bind (J8 x l):=id rfl
theorem SL (ρ:au):V2 ρ=.ok none:=id rfl
def Wl:D->R (Option Int):=fun d=>match d with
 | .int i=>.ok (some i)
 | _=>.no
theorem SM (g:au->R D):QE g (s::ρ)=(g (s::ρ)).bind Wl:=id rfl
theorem O4 (i:Int):Wl (.int i)=.ok (some i):=id rfl
theorem Ud (g:au->R D):jf g (s::ρ)=(g (s::ρ)).bind z3:=id rfl
theorem O5 (gs:au->R (List D)):vd gs (s::ρ)=(gs (s::ρ)).bind Hu:=id rfl
theorem SO (gs:au->R (List D)):Hv gs (s::ρ)=(gs (s::ρ)).bind X7:=id rfl
theorem SQ (gs:au->R (List D)):QJ gs (s::ρ)=(gs (s::ρ)).bind zp:=id rfl
def SS (nt:Nat) (ix:List Nat) (gt:au->R Bool) (ge:au->R D) (ρ:au):List D->R D:=fun ds=>if ds.length<=1000 then (gT (iu nt (oH nt ix ρ) gt ge) ds).bind fun ys=>.ok (.list ys) else .no
def SU:List D->R D:=fun ys=>.ok (.list ys)
theorem O6 (nt:Nat) (ix:List Nat) (gi:au->R (List D)) (gt:au->R Bool) (ge:au->R D):dE nt ix gi gt ge (s::ρ)=(gi (s::ρ)).bind (SS nt ix gt ge (s::ρ)):=id rfl
theorem Jp (nt:Nat) (ix:List Nat) (gt:au->R Bool) (ge:au->R D) (ρ:au) (ds:List D):SS nt ix gt ge ρ ds=if ds.length<=1000 then (gT (iu nt (oH nt ix ρ) gt ge) ds).bind SU else .no:=id rfl
theorem Jq (ys:List D):SU ys=.ok (.list ys):=id rfl
theorem qr (gi:au->R (List D)) (kt:D->au->R au) (gb:au->R Fl) (ds:List D) (h:gi (s::ρ)=.ok ds):m7 gi kt gb (s::ρ)=iw kt gb ds (s::ρ):=by unfold m7;rw [h]
def O7 (k:D->au->R au) (ρ:au):D->R Fl:=fun d=>match k d ρ with
 | .ok ρ'=>.ok (.nx ρ')
 | _=>.no
theorem SW (g:au->R D) (k:D->au->R au):y_ g k (s::ρ)=(g (s::ρ)).bind (O7 k (s::ρ)):=id rfl
theorem BF (ds:List D):z3 (.list ds)=.ok ds:=id rfl
theorem BG (ds:List D):z3 (.tuple ds)=.ok ds:=id rfl
theorem BH (x:Str):z3 (.str x)=.ok (o9 x):=id rfl
theorem O8 (ds:List D):X7 [.tuple ds]=.ok (iZ 0 ds):=id rfl
theorem Wm (ds es:List D):zp [.tuple ds,.tuple es]=.ok (xJ ds es):=id rfl
def BI (ρ:au) (i:Nat):Sl:=QL ((ρ[i]?).getD .no)
def O9 (ix:List Nat) (ρ:au):au:=ix.map (BI ρ)
theorem Oa (ix:List Nat) (ρ:au):oH 1 ix ρ=.no::O9 ix ρ:=id rfl
theorem Ob (ix:List Nat) (ρ:au):oH 2 ix ρ=.no::.no::O9 ix ρ:=id rfl
theorem Oc (ρ:au):O9 [] ρ=[]:=id rfl
theorem Od (i:Nat) (ix:List Nat) (ρ:au):O9 (i::ix) ρ=BI ρ i::O9 ix ρ:=id rfl
theorem Oe (s:Sl) (ρ:au):BI (s::ρ) 0=QL s:=id rfl
theorem Of (s:Sl) (ρ:au) (n:Nat):BI (s::ρ) (n + 1)=BI ρ n:=by simp [BI]
theorem BJ (d:D):QL (.shr d)=.shr d:=id rfl
theorem D2 {i:Nat}{ρ:au}{d:D} (h:ρ[i]?=some (Sl.own d)):shareAt i ρ=ρ.set i (.shr d):=by unfold shareAt;rw [h]
theorem dA {α:Type} (f:D->R (Option D)) (c:α->D) (h:α->D):∀ (xs:List α),(∀ x∈xs,f (c x)=.ok (some (h x)))->gT f (xs.map c)=.ok (xs.map h)
 | [],_=>rfl
 | x::r,e=>by
  rw [aI,aI]
  unfold gT
  rw [e x ao,bind_ok,dA f c h r fun y hy=>e y (am _ hy),bind_ok]
theorem dP {α:Type} (f:D->R (Option D)) (c:α->D) (h:α->D) (p:α->Bool):∀ (xs:List α),(∀ x∈xs,f (c x)=.ok (if p x then some (h x) else none))->gT f (xs.map c)=.ok ((xs.filter p).map h)
 | [],_=>rfl
 | x::r,e=>by
  rw [aI]
  unfold gT
  rw [e x ao,bind_ok,dP f c h p r fun y hy=>e y (am _ hy),bind_ok]
  cases hp:p x<;>simp [hp]
theorem SX {ρ:au}{gt:au->R Bool}{ge:au->R D}{d:D}:iu 1 ρ gt ge d=K_ (((gt (ρ.set 0 (.shr d)))).bind fun b=>if b then (ge (ρ.set 0 (.shr d))).bind fun y=>.ok (some y) else .ok none):=id rfl
theorem fc {ρ:au}{gt:au->R Bool}{ge:au->R D}{d y:D} (h1:gt (ρ.set 0 (.shr d))=.ok true) (h2:ge (ρ.set 0 (.shr d))=.ok y):iu 1 ρ gt ge d=.ok (some y):=by
 rw [SX,h1,bind_ok,if_pos rfl,h2];rfl
theorem jG {ρ:au}{gt:au->R Bool}{ge:au->R D}{d y:D}{b:Bool} (h1:gt (ρ.set 0 (.shr d))=.ok b) (h2:b=true->ge (ρ.set 0 (.shr d))=.ok y):iu 1 ρ gt ge d=.ok (if b then some y else none):=by
 rw [SX,h1,bind_ok]
 cases b with
 | true=>rw [if_pos rfl,h2 rfl];rfl
 | false=>rfl
theorem QT {j:Int} (h1:-(2 ^ 62)<=j) (h2:j<2 ^ 62):Hu [.int j]=.ok (r9 0 j.toNat):=by
 have h:-(2 ^ 62)<=j/\j<2 ^ 62:=⟨h1,h2⟩
 unfold Hu
 split
 ·rename_i j' e
  have e':j=j':=by injection e with e;injection e
  subst e'
  rw [if_pos h]
 ·rename_i hn
  exact (hn j rfl).elim
end
end
end J
section
namespace L2
open PySem PySem.Spec PyProof.Rows
theorem Og {X:Cx}{CX:IP}{k i:Nat}{f:ah}{fd:dL}{ps:List Str}{sp:Sp}{x:Str}{p pos:Pos}{e:a_}{es:List a_}{t:TA}{E:XK}{ds:List a9}{dvs:List V}
  (F:sO X.prog X.w X.K X.mg X.base CX k f fd ps sp) (hr:jt k X.A) (hN:X.N[i]?=some x) (hv:Kr X.env.scope x) (hk:e6 X.K (.ref f)=true) (hb:jA X.K fd ps ds) (hd:da dvs ds) (hx:jB CX X E)
  (ha:PA X (e::es) t) (hdb:(x == ("__debug__" : Str))=false:=by decide) (hcd:(x == ("__classdict__" : Str))=false:=by decide) (he:aA (e::es) X.env=(false,du e X.env)::aA es X.env:=by rfl) (hpl:(fS pos (aA es X.env)).any (·.1)=false:=by rfl) :
  PE X (.Call (.Name x p) (e::es) [] pos) (fun σ H Q=>σ[i]?=some (some (V.ref f))/\IQ sp dvs E t σ H Q):=by
 intro pins s σ H Q I ⟨hi,h⟩
 refine jW (fm (lY hN hv hdb hcd pins s σ H (fun v H'=>v=V.ref f/\H'=H) I ⟨.ref f,hi,rfl,rfl⟩) fun u s0 ⟨v,H0,I0,r0,ev,eh⟩=>?_)
 subst ev eh
 cases r0
 refine tF (h₀:=X.base) I0.ok.mod.kin hk (fm (ha pos pins s0 σ H0 _ I0 h) fun us s1 ⟨vs,H1,I1,r,q⟩=>⟨I1.kIn,?_⟩) he hpl
 exact Mz F hr hb hd hx I1 r q
end L2
namespace J
open PySem L2
open PyProof.Rows (envOfC)
def BK (wh:Str->Option Nat):R D->R D
 | .ok d=>.ok d
 | .ex y none=>match wh y with
  | some j=>.ok (.tuple [.str "refused",.int (j:Nat)])
  | none=>.no
 | _=>.no
def zr (wh:Str->Option Nat) (F:List D->R D):List D->R D:=fun ds=>BK wh (F ds)
def YQ (K:a8) (cls:Str->ah) (n:Nat) (a:ah) (F:List D->R D):Sp:=fun vs H Q E=>∃ vs',vs=V.ref a::vs'/\Sk K cls n F vs' H Q E
structure X9 (P:aO) (w:bd) (K:a8) (mg:Str->Option a9) (base:bt) (cls:Str->ah) (x y:Str) (k n:Nat) (F:List D->R D):Prop where
 ex:∃ f fd ps a,sO P w K mg base (mR P w) k f fd ps (YQ K cls n a F)/\mg x=some (.ref f)/\e6 K (.ref f)=true/\jA K fd ps []/\mg y=some (.ref a)
section
variable {c:C}{e a b:a_}{g ga gb:au->R D}{pos rpos:Pos}{es:List a_}{gs:au->R (List D)}{x y:Str}{p q:Pos}
theorem QU {k n:Nat}{F:List D->R D} (G:X9 c.X.prog c.X.w c.X.K c.X.mg c.X.base c.cls x y k n F) (hr:jt k c.X.A) (hg:Gl c.X x) (hgy:Gl c.X y) (hx:jB (mR c.X.prog c.X.w) c.X c.E) (ha:DV c es gs)
  (hdb:(x == ("__debug__" : Str))=false:=by decide) (hdy:(y == ("__debug__" : Str))=false:=by decide) (he:aA (.Name y q::es) c.X.env=(false,du (.Name y q) c.X.env)::aA es c.X.env:=by rfl) (hpl:(fS pos (aA es c.X.env)).any (·.1)=false:=by rfl) :
  JE c (.Call (.Name x p) (.Name y q::es) [] pos) (dJ n F gs):=.of fun ρ=>by
 obtain ⟨f,fd,ps,a,hf,hm,hk,hb,hy⟩:=G.ex
 refine qA (IR (E:=c.E) hf hr hg hm hk hb .nil hx (cf (Co (v:=.ref a) hgy hy rfl hdy) (ha ρ) he) hdb he hpl) fun σ H Q h_0=>?_
 obtain ⟨H0,Hs0,la,Hs,fr,q⟩:=h_0
 show VF c.X.K c.cls c.E ρ (gs ρ) σ H fun xs H2=>YQ c.X.K c.cls n a F (V.ref a::xs++[]) H2 Q c.E
 refine AK fr q fun ds vs H1 Hs1 e1 s1 f1 r1=>?_
 unfold dJ at q
 rw [e1,bind_ok] at q
 by_cases hn:ds.length=n
 ·rw [if_pos hn] at q
  rw [bV]
  exact ⟨vs,rfl,Hs1,ds,f1.st.sub,hn,r1,q.on s1 fun d k v H2 Hs2 s2 r2=>k v H2 Hs2 (s1.trans s2) r2⟩
 ·rw [if_neg hn] at q;exact q.elim
theorem Ue {i k n:Nat}{F:List D->R D}{f:ah}{fd:dL}{ps:List Str} (hf:sO c.X.prog c.X.w c.X.K c.X.mg c.X.base (mR c.X.prog c.X.w) k f fd ps (Sk c.X.K c.cls n F)) (hk:e6 c.X.K (.ref f)=true) (hb:jA c.X.K fd ps []) (hr:jt k c.X.A) (hx:jB (mR c.X.prog c.X.w) c.X c.E) (ha:DV c (e::es) gs)
  (hN:c.X.N[i]?=some x:=by rfl) (hv:Kr c.X.env.scope x:=by first | exact fv rfl | exact dD (fv rfl) | exact dD (dD rfl)) (hdb:(x == ("__debug__" : Str))=false:=by decide) (hcd:(x == ("__classdict__" : Str))=false:=by decide) (he:aA (e::es) c.X.env=(false,du e c.X.env)::aA es c.X.env:=by rfl) (hpl:(fS pos (aA es c.X.env)).any (·.1)=false:=by rfl) (ρ:au) :
  PS c.X (.Return (some (.Call (.Name x p) (e::es) [] pos)) rpos) (fun D σ H=>σ[i]?=some (some (V.ref f))/\SR c.X.K c.cls c.E ρ (cC (dJ n F gs) ρ) D σ H):=by
 refine y0 (Cq (Og (E:=c.E) hf hr hN hv hk hb .nil hx (ha (dI ρ)) hdb hcd he hpl)) fun D σ H ⟨hi,H0,Hs0,la,Hs,fr,q⟩=>⟨hi,?_⟩
 obtain ⟨Hs',f'⟩:=fr.shared
 have t:TR c.X.K c.cls c.E (dI ρ) (dJ n F gs (dI ρ)) σ H D.rt:=sE f' q fun d v H1 Hs1 e1 s1 f1 r1=>by
  unfold cC at q
  rw [e1,bind_ok] at q
  exact q v H1 Hs1 f1.st r1
 clear q f' fr
 obtain ⟨H0,Hs0,la,Hs,fr,q⟩:=t
 show VF c.X.K c.cls c.E (dI ρ) (gs (dI ρ)) σ H fun xs H2=>Sk c.X.K c.cls n F (xs++[]) H2 D.rt c.E
 refine AK fr q fun ds vs H1 Hs1 e1 s1 f1 r1=>?_
 unfold dJ at q
 rw [e1,bind_ok] at q
 by_cases hn:ds.length=n
 ·rw [if_pos hn] at q
  rw [bV]
  exact ⟨Hs1,ds,f1.st.sub,hn,r1,q.on s1 fun d k v H2 Hs2 s2 r2=>k v H2 Hs2 (s1.trans s2) r2⟩
 ·rw [if_neg hn] at q;exact q.elim
end
section
variable {c:C}{body:List cp}{x n:Str}{np np2 np3 hpos cpos rpos pos:Pos}{gb:au->R Fl}{names:List Str}{wh:Str->Option Nat}
theorem Uf (i j:Nat) {a:ah}{ρ:au} (W:Wh c.X.prog c.X.w c.X.K c.X.mg c.X.base c.cls x names wh) (hb:∀ (E:XK) (xe:a9->af->Prop) (pn:List (ah×Obj)),jB (mR c.X.prog c.X.w) (S8 c.X xe pn) E->AB (S8 c.X xe pn) body (fun D σ H=>σ[j]?=some (some (V.ref a))/\SR c.X.K c.cls E ρ (gb ρ) D σ H))
  (hr:l_ 1 c.X.A) (hgx:Gl c.X x) (hg:Gl c.X "PlanError") (hN:c.X.N.Nodup) (hi:c.X.N[i]?=some n:=by rfl) (hn:c.X.env.scope.names.lookup n=some .local:=by rfl)
  (hst:∃ l,c.X.stack=c.X.env::l/\c.X.env.frame=some c.X.env.locals:=by exact ⟨_,rfl,rfl⟩) (hex:c.X.ex=[]:=by rfl) (hdb:(x == ("__debug__" : Str))=false:=by decide) (hd:(n == ("__debug__" : Str))=false:=by decide) (hcd:(n == ("__classdict__" : Str))=false:=by decide) :
  PS c.X (.Try body [.ExceptHandler (some (.Name "PlanError" np)) (some n) [.Return (some (.Call (.Name x np2) [.Name n np3] [] cpos)) rpos] hpos] [] [] pos) (fun D σ H=>σ[j]?=some (some (V.ref a))/\SR c.X.K c.cls c.E ρ (L7 wh gb ρ) D σ H):=by
 obtain ⟨f,fd,ps,F,hm,hk,hbn⟩:=W.fn
 obtain ⟨bp,y⟩:=W.ox
 have hs:∀ ea,AB (U_ c.X ea) [.Return (some (.Call (.Name x np2) [.Name n np3] [] cpos)) rpos] (Va (IQ (U8 c.X.K c.X.base c.cls names) [] E0 (E7 (Ks i) Mx))):=fun ea =>
  uM (Cq (Nb (X:=U_ c.X ea) F (hr.mark _) hgx hm hk hbn (cf (lY hi (.inl hn) hd hcd) fe) hdb))
 refine y0 (U0 hg W.pe y hN hi hn hst hex (tb:=fun E D σ H=>σ[j]?=some (some (V.ref a))/\SR c.X.K c.cls E ρ (gb ρ) D σ H) (fun E xe pn hp=>hb E xe pn hp) hs) fun D σ H h_1=>?_
 obtain ⟨hj,H0,Hs0,la,Hs,fr,q⟩:=h_1
 replace q:oa c.X.K c.cls c.E H0 Hs0 la D (L7 wh gb ρ):=q
 refine ⟨hj,H0,Hs0,la,Hs,fr,?_⟩
 unfold L7 at q
 cases hr':gb ρ with
 | no=>rw [hr'] at q;exact q
 | ok fl =>
  rw [hr'] at q
  cases fl<;>exact q
 | ex z m =>
  rw [hr'] at q
  cases m with
  | some d=>exact q.elim
  | none =>
   simp only at q
   cases hw:wh z with
   | none=>rw [hw] at q;exact q.elim
   | some j =>
    rw [hw] at q
    have X0:=W.xf z j hw
    intro H' Hs' st
    obtain ⟨bm,o1,o2⟩:=X0.ox
    refine ⟨c.cls z,bm,rfl,o1,o2,fun ea hea=>?_⟩
    have hl:i<c.X.N.length:=(List.getElem?_eq_some_iff.mp hi).1
    refine ⟨.ref ea,aM (by simpa [yO] using hl),ea,c.cls z,j,rfl,aW,X0,fun t H2 sm ht hT=>?_⟩
    have s1:dB H' (upd H' ea (yN ea (c.cls z))):=iY hea
    have ht':H' t=none:=s1.free ht
    refine q (.ref t) H2 (upd Hs' t (.tup [.str "refused",.int (j:Nat)])) ?_ (.tuple aW (.cons (.str _) (.cons (.int _) .nil)))
    refine st.trans ⟨s1.trans sm,iY (st.sub.free ht'),fun b u e=>?_,fun a o e _ z=>by rw [aS (bj e ht')];exact z⟩
    by_cases hb':b=t
    ·subst hb';rw [aW] at e;cases e;exact hT
    ·rw [aS hb'] at e;exact sm b u (s1 b u (st.sub b u e))
end
theorem Fr.consNo {K:a8}{H0 Hs0 H Hs:Hp}{ρ:au}{σ:St}{v:V} (f:Fr K H0 Hs0 (fun _=>none) ρ σ H Hs):Fr K H0 Hs0 (fun _=>none) (.no::ρ) (some v::σ) H Hs:=by
 refine ⟨f.st,congrArg (· + 1) f.len,fun i d h=>?_,fun i d h=>?_,fun i d h=>?_,fun i j d e a h1 h2 h3 h4=>?_,fun i a h=>(nomatch h),fun i d h=>?_,fun i j d e h1 h2=>?_⟩
 ·cases i with
  | zero=>cases h
  | succ i=>exact f.sh i d h
 ·cases i with
  | zero=>cases h
  | succ i=>exact f.ow i d h
 ·cases i with
  | zero=>cases h
  | succ i=>exact f.lk i d h
 ·cases i with
  | zero=>cases h1
  | succ i =>
   cases j with
   | zero=>cases h2
   | succ j=>exact congrArg (· + 1) (f.dj i j d e a h1 h2 h3 h4)
 ·cases i with
  | zero=>cases h
  | succ i =>
   obtain ⟨a,as,o⟩:=f.o2 i d h
   refine ⟨a,as,o.at_,o.ob,o.nd,o.out,fun b hb j e h1=>?_,o.inn⟩
   cases j with
   | zero=>cases h1
   | succ j=>exact o.dj b hb j e h1
 ·cases i with
  | zero=>cases h1
  | succ i =>
   cases j with
   | zero=>cases h2
   | succ j=>exact congrArg (· + 1) (f.u2 i j d e h1 h2)
def QV (n:Nat) (g:au->R Fl):List D->R D:=fun ds=>match g (.no::bz n ds) with
 | .ok (.nx _)=>.ok .none
 | .ok (.rt d)=>.ok d
 | .ex c m=>.ex c m
 | _=>.no
theorem QW {P:aO}{w:bd}{K:a8}{mg:Str->Option a9}{base:bt}{cls:Str->ah}{x y x0 qual:Str}{st:cp}{f a:ah}{fd:dL}{N ps:List Str}{k n:Nat}{g:au->R Fl}{F:List D->R D} (Fu:Ee K x qual st f fd) (S:bu (x0::N) ps (ax st)) (hm:mg x=some (.ref f)) (hb:jA K fd ps []) (hy:mg y=some (.ref a)) (hps:ps.length=n + 1)
  (h:∀ (cdv:a9) (A:bg) (outer:List Env) (s:af) (H:Hp) (E:XK),jt k (A.deeper (j3 qual (ax st) s.heap.objs.size f cdv))->∀ ρ,AB (j4 (mR P w) P w K mg base (x0::N) qual (ax st) f cdv A outer s H E) (iE st) (fun D σ H=>σ[0]?=some (some (V.ref a))/\SR K cls E ρ (g ρ) D σ H))
  (hF:∀ ds,ds.length=n->QV N.length g ds=F ds):X9 P w K mg base cls x y (k + 1) n F:=by
 refine ⟨f,fd,ps,a,?_,hm,Fu.kp,hb,hy⟩
 obtain ⟨oc,od,kV,doc,pm,an,cdv,ct,osl,rfl,lk,hcd⟩:=Fu.ex
 refine RV lk hcd S (fun vs H Q E h_2=>by obtain ⟨vs',e,Hs,ds,sub,hn,r,q⟩:=h_2;exact by rw [e,aU,r.length,hn,hps]) fun A outer s H vs Q E hr hsp=>?_
 obtain ⟨vs',rfl,Hs,ds,sub,hn,r,q⟩:=hsp
 have fs:Fr K H Hs (fun _=>none) (.no::bz N.length ds) (L2.start (x0::N) (V.ref a::vs')) H Hs:=by
  have:=(Fr.start (N:=N) sub r).consNo (v:=V.ref a)
  have e:L2.start (x0::N) (V.ref a::vs')=some (V.ref a)::L2.start N vs':=by
   unfold L2.start
   rw [aI,aU,aU,Nat.add_sub_add_right]
   rfl
  rw [e]
  exact this
 refine ⟨_,h cdv A outer s H E hr (.no::bz N.length ds),rfl,H,Hs,_,Hs,fs,?_⟩
 rw [<- hF ds hn] at q
 unfold QV at q
 cases hg:g (.no::bz N.length ds) with
 | no=>rw [hg] at q;exact q
 | ex c n=>rw [hg] at q;exact q
 | ok fl =>
  rw [hg] at q
  cases fl with
  | nx ρ'=>exact fun σ' H' Hs' f'=>q .non H' Hs' f'.st .none
  | rt d=>exact fun v H' Hs' s r=>q v H' Hs' s r
  | bk ρ'=>exact q.elim
  | ct ρ'=>exact q.elim
theorem Oh {wh:Str->Option Nat}{n:Nat}{F:List D->R D}{gs:au->R (List D)}{m:Nat}{ds:List D} (h:gs (dI (.no::bz m ds))=.ok ds) (hl:ds.length=n):QV m (L7 wh (cC (dJ n F gs))) ds=zr wh F ds:=by
 unfold QV L7 cC dJ zr BK
 rw [h,bind_ok,if_pos hl]
 cases F ds with
 | ok d=>rfl
 | no=>rfl
 | ex z o =>
  cases o with
  | some d=>rfl
  | none =>
   show (match (match wh z with
    | some j=>R.ok (Fl.rt (.tuple [.str "refused",.int (j:Nat)]))
    | none=>R.no:R Fl) with
    | .ok (.nx _)=>R.ok PyData.none
    | .ok (.rt d)=>.ok d
    | .ex c m=>.ex c m
    | _=>.no)=_
   cases hw:wh z<;>simp only [hw]
theorem Y_ {α:Type}{us:List α} (h:us.length=1):∃ a,us=[a]:=by
 rcases us with _ | ⟨a0,_ | ⟨z,r⟩⟩
 ·simp at h
 ·exact ⟨_,rfl⟩
 ·simp at h
theorem Z0 {α:Type}{us:List α} (h:us.length=2):∃ a b,us=[a,b]:=by
 rcases us with _ | ⟨a0,_ | ⟨a0,_ | ⟨z,r⟩⟩⟩
 ·simp at h
 ·simp at h
 ·exact ⟨_,_,rfl⟩
 ·simp at h
theorem Z1 {α:Type}{us:List α} (h:us.length=3):∃ a b c,us=[a,b,c]:=by
 rcases us with _ | ⟨a0,_ | ⟨a0,_ | ⟨a0,_ | ⟨z,r⟩⟩⟩⟩
 ·simp at h
 ·simp at h
 ·simp at h
 ·exact ⟨_,_,_,rfl⟩
 ·simp at h
theorem Z2 {α:Type}{us:List α} (h:us.length=4):∃ a b c d,us=[a,b,c,d]:=by
 rcases us with _ | ⟨a0,_ | ⟨a0,_ | ⟨a0,_ | ⟨a0,_ | ⟨z,r⟩⟩⟩⟩⟩
 ·simp at h
 ·simp at h
 ·simp at h
 ·simp at h
 ·exact ⟨_,_,_,_,rfl⟩
 ·simp at h
theorem Z3 {α:Type}{us:List α} (h:us.length=5):∃ a b c d e,us=[a,b,c,d,e]:=by
 rcases us with _ | ⟨a0,_ | ⟨a0,_ | ⟨a0,_ | ⟨a0,_ | ⟨a0,_ | ⟨z,r⟩⟩⟩⟩⟩⟩
 ·simp at h
 ·simp at h
 ·simp at h
 ·simp at h
 ·simp at h
 ·exact ⟨_,_,_,_,_,rfl⟩
 ·simp at h
end J
end
namespace J
open PySem L2
section
section
variable {c:C}{e a b l tg:a_}{g ga gb:au->R D}{pos p:Pos}{gs:au->R (List D)}{es:List a_}{x:Str}
end
end
end J
section
namespace HT
open PySem PyProof.Rows
section
open PySem.SeqAt
open PySem.AutoSeq1 (wpAny_loadPart')
open PySem.MeetsSeq PySem.MeetsSeq2 PySem.MeetsSeq3
variable {prog:aO}{w:bd}{A:bg}{E:a9->af->Prop}{s:af}
end
end HT
namespace L2
open PySem PySem.Spec PyProof.Rows
section
variable {X:Cx}{e st:a_}{te ts:TE}{pos p2:Pos}
end
end L2
namespace J
open PySem L2
section
variable {c:C}{e:a_}{g:au->R D}{pos p2 p3 p4:Pos}
end
end J
end
section
namespace L2
open PySem
def L_ (mask:Nat):Nat->Nat×Nat->Nat×Nat
 | 0,x=>x
 | n + 1,x=>L_ mask n (SetTable.leap mask x.1 x.2)
theorem Jr (mask:Nat):∀ (n m:Nat) (x:Nat×Nat),L_ mask (n + m) x=L_ mask m (L_ mask n x)
 | 0,m,x=>by rw [GK];rfl
 | n + 1,m,x=>by
  rw [Nat.succ_add]
  exact Jr mask n m _
theorem Js (mask:Nat):∀ (n:Nat) (x:Nat×Nat),(L_ mask n x).2=x.2 / 32 ^ n
 | 0,x=>by simp [L_]
 | n + 1,x=>by
  show (L_ mask n _).2=_
  rw [Js mask n]
  show x.2 / 32 / 32 ^ n=_
  rw [Nat.div_div_eq_div_mul,Nat.pow_succ,GL]
theorem Jt (mask:Nat):∀ (n:Nat) (x:Nat×Nat),x.1<=mask->(L_ mask n x).1<=mask
 | 0,x,h=>h
 | n + 1,x,h=>Jt mask n _ (by
  show (x.1 * 5 + 1 + x.2 / 32) % (mask + 1)<=mask
  exact xy (Ci _ (GM _)))
theorem BL {mask:Nat}{owner:Array (Option Nat)}:∀ (fuel i p:Nat),dM mask owner fuel i p=none->∀ n,n<fuel->(owner.getD (L_ mask n (i,p)).1 (some 0)).isSome=true
 | 0,_,_,_,n,h=>absurd h (lW n)
 | fuel + 1,i,p,e,n,h=>by
  unfold dM at e
  split at e
  ·cases e
  ·rename_i hf
   cases n with
   | zero =>
    have h0:=List.find?_eq_none.mp hf 0 (List.mem_range.mpr (by unfold SetTable.runEnd;split<;>omega))
    simp only [xz] at h0
    show (owner.getD i (some 0)).isSome=true
    cases q:owner.getD i (some 0) with
    | none=>rw [q] at h0;exact absurd rfl h0
    | some _=>rfl
   | succ n=>exact BL fuel _ _ e n (GN h)
theorem BM {mask:Nat}{owner:Array (Option Nat)}:∀ (fuel i p k:Nat),dM mask owner fuel i p=some k->owner.getD k (some 0)=none
 | 0,_,_,_,e=>nomatch e
 | fuel + 1,i,p,k,e=>by
  unfold dM at e
  split at e
  ·rename_i k' hf
   cases e
   have:=List.find?_some hf
   cases q:owner.getD (i + k') (some 0) with
   | none=>rfl
   | some _=>rw [q] at this;cases this
  ·exact BM fuel _ _ k e
def M0 (mask:Nat):Prop:=mask=7\/mask=15\/mask=31
def Wn (mask:Nat):Bool:=(bv (mask + 1)).all fun i=>(bv (mask + 1)).all fun j=>(bv (mask + 1)).any fun n=>decide ((L_ mask n (i,0)).1=j)
theorem QX {mask:Nat} (h:M0 mask):Wn mask=true:=by
 rcases h with h | h | h<;>subst h<;>decide +kernel
theorem getD_none {owner:Array (Option Nat)}{k:Nat} (h:owner.getD k (some 0)=none):owner.toList[k]?=some none:=by
 by_cases hk:k<owner.size
 ·rw [ig,iV hk] at h
  rw [cX,iV hk]
  simpa using h
 ·rw [ig,Array.getElem?_eq_none (by omega)] at h
  cases h
theorem L9 {mask:Nat} (hm:M0 mask) {owner:Array (Option Nat)}{j:Nat} (hj:j<=mask) (hn:owner.toList[j]?=some none) {i p:Nat} (hi:i<=mask) (hp:p<2 ^ 64) :
  ∃ k,dM mask owner (qH mask) i p=some k/\owner.toList[k]?=some none:=by
 cases e:dM mask owner (qH mask) i p with
 | some k=>exact ⟨k,rfl,getD_none (BM _ _ _ _ e)⟩
 | none =>
  exfalso
  have hz:(L_ mask 13 (i,p)).2=0:=by
   rw [Js]
   exact Nat.div_eq_of_lt (aH hp (by decide))
  have h1:=Jt mask 13 (i,p) hi
  have g:=QX hm
  unfold Wn at g
  rw [b_] at g
  have g:=g _ (List.mem_range.mpr (jY h1))
  rw [b_] at g
  have g:=g j (List.mem_range.mpr (jY hj))
  rw [gR] at g
  obtain ⟨n,hn1,hn2⟩:=g
  have hn1:=List.mem_range.mp hn1
  have hn2:=of_decide_eq_true hn2
  have hs:(L_ mask (13 + n) (i,p)).1=j:=by
   rw [Jr,<- hn2,<- hz]
  have:=BL _ _ _ e (13 + n) (by unfold qH;omega)
  rw [hs] at this
  have hq:owner.getD j (some 0)=none:=by
   rw [cX] at hn
   rw [ig,hn]
   rfl
  rw [hq] at this
  cases this
theorem QY (h:Int):n8 h<2 ^ 64:=by
 unfold n8
 have:=n_ h (show (0:Int)<2 ^ 64 by decide)
 have:=rO h (show (2 ^ 64:Int)≠0 by decide)
 omega
theorem EX {k:Nat}:∀ {l:List (Option Nat)}{j:Nat},l[j]?=some none->((l.set j (some k)).filterMap id).Perm (k::l.filterMap id)
 | [],_,h=>nomatch h
 | x::r,0,h=>by
  cases h
  exact .refl _
 | x::r,j + 1,h=>by
  have ih:=EX (k:=k) (l:=r) (j:=j) h
  cases x with
  | none=>exact ih
  | some y=>exact (ih.cons y).trans (.swap k y _)
theorem EY:∀ {l:List (Option Nat)},(l.filterMap id).length<l.length->∃ j,j<l.length/\l[j]?=some none
 | [],h=>absurd h (c6 0)
 | none::r,_=>⟨0,GM _,rfl⟩
 | some y::r,h=>by
  obtain ⟨j,h1,h2⟩:=EY (l:=r) (GN h)
  exact ⟨j + 1,Nat.succ_lt_succ h1,h2⟩
def Ju (mask:Nat) (acc:Option (Array (Option Nat)×Nat)) (h:Int):Option (Array (Option Nat)×Nat):=acc.bind fun x=>(dM mask x.1 (qH mask) (n8 h % (mask + 1)) (n8 h)).bind fun j=>some (x.1.setIfInBounds j (some x.2),x.2 + 1)
theorem EZ (mask:Nat) (hs:Array Int):uy mask hs=(hs.toList.foldl (Ju mask) (some (yv (mask + 1) none,0))).map (·.1):=by
 rw [Array.foldl_toList]
 rfl
theorem Jv {mask:Nat} (hm:M0 mask):∀ (l:List Int) (owner:Array (Option Nat)) (k:Nat),owner.size=mask + 1->(owner.toList.filterMap id).Perm (bv k)->k + l.length<=mask ->
  ∃ o',l.foldl (Ju mask) (some (owner,k))=some (o',k + l.length)/\o'.size=mask + 1/\(o'.toList.filterMap id).Perm (bv (k + l.length))
 | [],owner,k,h1,h2,_=>⟨owner,rfl,h1,h2⟩
 | h::r,owner,k,h1,h2,h3=>by
  simp only [aU] at h3 ⊢
  obtain ⟨j,j1,j2⟩:=EY (l:=owner.toList) (by rw [h2.length_eq,fi,av,h1];omega)
  rw [av,h1] at j1
  obtain ⟨m,m1,m2⟩:=L9 hm (xy j1) j2 (i:=n8 h % (mask + 1)) (xy (Ci _ (GM _))) (QY h)
  have e:Ju mask (some (owner,k)) h=some (owner.setIfInBounds m (some k),k + 1):=by
   unfold Ju
   simp only [oV,m1]
  rw [dU,e]
  obtain ⟨o',a1,a2,a3⟩:=Jv hm r (owner.setIfInBounds m (some k)) (k + 1) (by rw [Array.size_setIfInBounds];exact h1) (by
   rw [Array.toList_setIfInBounds]
   refine (EX m2).trans ?_
   rw [List.range_succ]
   exact ((h2.cons k).trans (List.perm_append_singleton k _).symm)) (by omega)
  rw [show k + 1 + r.length=k + (r.length + 1) by omega] at a1 a3
  exact ⟨o',a1,a2,a3⟩
theorem Jw {n:Nat}{o:Array (Option Nat)} (h:o.size=n):(bv n).filterMap (fun j=>o.getD j none)=o.toList.filterMap id:=by
 have e:(bv n).map (fun j=>o.getD j none)=o.toList:=by
  refine xV (by simp [h]) fun i h1 h2=>?_
  simp only [al,fi] at h1
  rw [qm,LV,ig,iV (by omega)]
  simp
 rw [<- e,mY]
 rfl
theorem Jx {mask finger moves:Nat}{led plain:Bool}{hs:Array Int} (hm:M0 mask) (hl:hs.size<=mask):∃ place order,Al mask finger moves led plain hs=some ({ mask,place,dummies:=#[],finger,led,moves,plain },order)/\place.size=hs.size/\order.toList.Perm (bv hs.size):=by
 obtain ⟨o,h1,h2,h3⟩:=Jv hm hs.toList (yv (mask + 1) none) 0 (by simp) (by
  have:(yv (mask + 1) (none:Option Nat)).toList.filterMap id=[]:=by
   rw [Array.toList_replicate,List.filterMap_eq_nil_iff]
   intro x hx
   rw [(List.mem_replicate.mp hx).2]
   rfl
  rw [this]
  exact .refl _) (by rw [av];omega)
 have hc:uy mask hs=some o:=by
  rw [EZ,h1]
  rfl
 rw [GK,av] at h3
 refine ⟨_,_,by unfold Al;rw [hc];rfl,?_,?_⟩
 ·have e:=congrArg sX (Jw h2)
  rw [h3.length_eq,fi] at e
  rw [aJ,al,<- e]
  rw [xA,xA]
  congr 1
  funext j
  cases o.getD j none<;>rfl
 ·rw [List.map_filterMap]
  refine .trans (.of_eq ?_) h3
  rw [<- Jw h2]
  show List.filterMap _ _=List.filterMap _ _
  congr 1
  funext j
  cases o.getD j none<;>rfl
end L2
namespace L2
open PySem
section
variable {P:aO}{w:bd}{A:bg}{E:a9->af->Prop}{s:af}
theorem Oi:∀ n:_root_.Fin 31,n.val<cy n.val/\(cy n.val=8\/cy n.val=16\/cy n.val=32):=by decide +kernel
theorem Oj {n:Nat} (h:n<=30):n<=cy n - 1/\M0 (cy n - 1)/\cy n<=32:=by
 obtain ⟨h1,h2⟩:=Oi ⟨n,by omega⟩
 simp only at h1 h2
 unfold M0
 omega
theorem zt {es:Array (Int×a9)}{order:Array Nat} (h:order.toList.Perm (bv es.size)):(order.filterMap (es[·]?)).toList.Perm es.toList:=by
 rw [Array.toList_filterMap]
 refine (h.filterMap _).trans (.of_eq ?_)
 have e:(bv es.size).map (fun i=>es[i]?)=es.toList.map some:=by
  refine xV (by simp) fun i h1 h2=>?_
  simp only [al,fi] at h1
  rw [qm,LV,qm,Array.getElem_toList]
  exact iV h1
 have e2:(bv es.size).filterMap (fun i=>es[i]?)=((bv es.size).map (fun i=>es[i]?)).filterMap id:=by rw [mY];rfl
 rw [e2,e,mY]
 simp
theorem cY.of {h:bt}{a:ah}{es es':Array (Int×a9)}{ep:Nat}{t t':eC} (I:cY w h a es ep t) (p:es'.toList.Perm es.toList) (f:t'.fits es'.size=true) (l:t'.led=t.led) (pl:t'.plain=t.plain):cY w (h.update a (qN es' t')) a es' (ep + 1) t':=by
 have sz:es'.size=es.size:=by rw [<- av,p.length_eq,av]
 refine ⟨rR I,fun e he=>I.txt e (p.mem_iff.mp he),(p.map jO).nodup_iff.mpr I.nd,by rw [sz];exact I.few,f,l.trans I.led,?_⟩
 rw [sz,pl]
 exact I.pl
theorem zu {t:eC}{n:Nat} (h:t.fits n=true):t.place.size=n/\t.fill<=t.mask:=by
 unfold n5 at h
 rw [aT] at h
 exact ⟨eq_of_beq h.1,of_decide_eq_true h.2⟩
theorem Jy {mask finger moves:Nat}{led plain:Bool}{place:Array Nat}{n:Nat} (h:place.size=n) (hm:n<=mask):n5 { mask,place,dummies:=#[],finger,led,moves,plain } n=true:=by
 unfold n5 Ma
 subst h
 simp only [beq_self_eq_true,uL,decide_eq_true_eq]
 exact hm
theorem HA {a:ah}{es:Array (Int×a9)}{ep:Nat}{t:eC}{wanted:Nat}{Q:Unit->af->Prop} (I:cY w s.heap a es ep t) (hw:wanted<=30) (hz:es.size<=wanted)
  (h:∀ h' es' ep' t',bF a s.heap h'->cY w h' a es' ep' t'->es'.toList.Perm es.toList->M0 t'.mask->wanted<=t'.mask->Q () { s with heap:=h' }):aq (aL P w) A (setRelay a wanted) Q E s:=by
 obtain ⟨w1,w2,w3⟩:=Oj hw
 obtain ⟨place,order,e,hp,ho⟩:=Jx (finger:=t.finger) (moves:=t.movedTo (cy wanted - 1)) (led:=t.led) (plain:=t.plain) (hs:=es.map (·.1)) w2 (by rw [sK];omega)
 rw [sK] at hp ho
 have pm:=zt ho
 have sz:(order.filterMap (es[·]?)).size=es.size:=by rw [<- av,pm.length_eq,av]
 unfold setRelay
 refine a7 (bA I.at_ rfl I.fits ?_)
 show aq _ _ (if cy wanted > sizeLine then _ else _) _ _ s
 have h32:(32:Nat)<=sizeLine:=by decide
 rw [if_neg (by omega)]
 refine a7 ?_
 unfold Kh
 rw [e]
 show aq _ _ (if ((order.filterMap (es[·]?)).size != es.size)=true then _ else pure (order.filterMap (es[·]?),_)) _ _ s
 rw [if_neg (by rw [sz];simp)]
 refine ae ?_
 have fit:n5 { mask:=cy wanted - 1,place,dummies:=#[],finger:=t.finger,led:=t.led,moves:=t.movedTo (cy wanted - 1),plain:=t.plain } (order.filterMap (es[·]?)).size=true:=Jy (by rw [sz];exact hp) (by rw [sz];omega)
 refine iU I.at_ rfl ?_ (by rw [sz];exact fI I.few)
 exact h _ _ _ _ (bI s.heap a _) (I.of pm fit rfl rfl) pm w2 w1
theorem D3 {a:ah}{es:Array (Int×a9)}{ep:Nat}{t:eC}{more:Nat}{Q:Unit->af->Prop} (I:cY w s.heap a es ep t) (hz:es.size + more<=15) (hm:es.size≠0\/M0 t.mask)
  (h:∀ h' es' ep' t',bF a s.heap h'->cY w h' a es' ep' t'->es'.toList.Perm es.toList->(es.size≠0\/M0 t'.mask)->more<=t'.mask->Q () { s with heap:=h' }):aq (aL P w) A (setRoomFor a more) Q E s:=by
 obtain ⟨f1,f2⟩:=zu I.fits
 unfold setRoomFor
 refine a7 (bA I.at_ rfl I.fits ?_)
 dsimp only
 unfold SetTable.roomFor
 by_cases hc:(t.fill + more) * 5 ≥ t.mask * 3
 ·rw [if_pos hc]
  refine HA I (by rw [f1];omega) (by rw [f1];omega) fun h' es' ep' t' a1 a2 a3 a4 a5=>?_
  exact h h' es' ep' t' a1 a2 a3 (.inr a4) (by rw [f1] at a5;omega)
 ·rw [if_neg hc]
  exact ae (h s.heap es ep t (.refl ..) I (.refl _) hm (by omega))
end
end L2
namespace L2
open PySem
theorem yc {α σ:Type}{M:DO}{A:bg}{E:a9->af->Prop}{Q:σ->af->Prop}{f:α->σ->Sem (ForInStep σ)}{b:σ} (I:List α->af->Prop)
  (step:∀ x r s,I (x::r) s->aq M A (f x b) (fun st s'=>st=.yield b/\I r s') E s) (fin:∀ s,I [] s->Q b s):∀ (l:List α) (s:af),I l s->aq M A (forIn l b f) Q E s
 | [],s,h=>by rw [m_];exact ae (fin s h)
 | x::r,s,h=>by
  rw [jq]
  refine a7 (bE (step x r s h) (fun st s' q=>?_) fun _ _ e=>e)
  obtain ⟨rfl,q⟩:=q
  exact yc I step fin r s' q
section
variable {P:aO}{w:bd}{A:bg}{E:a9->af->Prop}{s:af}
theorem E_ {l:List ah}{Q:Bool->af->Prop} (h:∀ a∈l,∃ es ep t,cY w s.heap a es ep t) (q:Q true s):aq (aL P w) A (setsQuiet l) Q E s:=by
 unfold setsQuiet
 refine a7 (yc (fun r s'=>s'=s/\∀ a∈r,∃ es ep t,cY w s.heap a es ep t) (fun a r s' hI=>?_) (fun s' hI=>?_) l s ⟨rfl,h⟩)
 ·obtain ⟨rfl,hI⟩:=hI
  obtain ⟨es,ep,t,I⟩:=hI a ao
  unfold setEntries
  refine a7 (a7 (bA I.at_ rfl I.fits (ae ?_)))
  dsimp only
  rw [<- Kl]
  refine a7 (yc (fun r2 s2=>s2=s'/\∀ e∈r2,tP w e) (fun e r2 s2 h2=>?_) (fun s2 h2=>?_) es.toList s' ⟨rfl,I.txt⟩)
  ·obtain ⟨rfl,h2⟩:=h2
   obtain ⟨x,tk,rfl⟩:=h2 e ao
   exact ae ⟨rfl,rfl,fun e he=>h2 e (am _ he)⟩
  ·obtain ⟨rfl,_⟩:=h2
   exact ae ⟨rfl,rfl,fun b hb=>hI b (am _ hb)⟩
 ·obtain ⟨rfl,_⟩:=hI
  exact ae q
theorem La {o:ah}{es:Array (Int×a9)}{ep:Nat}{t:eC}{Q:Array (Int×a9)->af->Prop} (I:cY w s.heap o es ep t) (hb:w.params.followText "set-order"=true\/t.plain=true\/es.size<=1)
  (q:∀ es',es'.toList.Perm es.toList->Q es' s):aq (aL P w) A (setWalk o) Q E s:=by
 unfold setWalk
 refine a7 (bA I.at_ rfl I.fits (a7 (fB ?_)))
 cases hw:w.params.followText "set-order" with
 | true =>
  simp only [if_true]
  exact a7 (i3 (ae (q _ (wg _ _))))
 | false =>
  simp only [c7,if_false]
  have hd:(!t.plain && decide (es.size > 1))=false:=by
   rcases hb with h | h | h
   ·rw [hw] at h;cases h
   ·rw [h];rfl
   ·rw [decide_eq_false (by omega),mZ]
  have hl:t.led=true:=by rw [I.led,hw];rfl
  show aq _ _ (if (!t.plain && decide (es.size > 1))=true then _ else _) _ _ s
  rw [hd,if_neg aY]
  refine a7 ?_
  show aq _ _ (if (!t.led && decide (es.size > 1))=true then _ else pure ()) _ _ s
  rw [hl,if_neg (by simp)]
  exact ae (ae (q _ (.refl _)))
theorem xK {o a:ah}{eo es:Array (Int×a9)}{epo ep:Nat}{to t:eC}{Q:Array (Int×a9)->af->Prop} (I:cY w s.heap o eo epo to) (J:cY w s.heap a es ep t)
  (q:∀ h' es' ep' t',bF a s.heap h'->cY w h' a es ep' t'->es'.toList.Perm eo.toList->Q es' { s with heap:=h' }):aq (aL P w) A (setWalkUnseen o [a] (some a)) Q E s:=by
 unfold setWalkUnseen
 refine a7 (bA I.at_ rfl I.fits (a7 (fB ?_)))
 cases hc:(w.params.followText "set-order" || to.led && to.plain || decide (eo.size<=1)) with
 | true =>
  rw [if_pos rfl]
  refine La I ?_ fun es' p=>q s.heap es' ep t (.refl ..) J p
  rw [js,js,aT,decide_eq_true_eq] at hc
  rcases hc with (h | h) | h
  ·exact .inl h
  ·exact .inr (.inl h.2)
  ·exact .inr (.inr h)
 | false =>
  rw [if_neg aY]
  rw [II,II,decide_eq_false_iff_not] at hc
  obtain ⟨⟨c1,_⟩,c3⟩:=hc
  refine a7 (E_ (fun b hb=>?_) ?_)
  ·rcases List.mem_cons.mp hb with h | h
   ·rw [h];exact ⟨_,_,_,I⟩
   ·rw [List.mem_singleton.mp h];exact ⟨_,_,_,J⟩
  rw [if_neg (by simp)]
  refine a7 (gf ?_)
  dsimp only
  refine a7 (bA J.at_ rfl J.fits ?_)
  dsimp only
  have hpl:to.plain=false:=I.pl.resolve_left (by omega)
  have hled:(t.led && to.led)=t.led:=by rw [I.led,J.led,l5]
  split
  ·refine a7 (iU J.at_ rfl ?_ (fI J.few))
   refine ae (q _ _ _ _ (bI s.heap a _) (⟨rR J,J.txt,J.nd,J.few,?_,?_,?_⟩:cY w _ a es (ep + 1) _) (.refl _))
   ·exact J.fits
   ·exact hled.trans J.led
   ·exact .inr (by show (t.plain && to.plain)=false;rw [hpl,mZ])
  ·exact ae (q s.heap eo ep t (.refl ..) J (.refl _))
end
end L2
namespace L2
open PySem
section
variable {P:aO}{w:bd}{A:bg}{E:a9->af->Prop}{s:af}
theorem cY.but {h h':bt}{a o:ah}{eo:Array (Int×a9)}{epo:Nat}{to:eC} (I:cY w h o eo epo to) (ne:a≠o) (sb:bF a h h'):cY w h' o eo epo to:=I.keep fun _ e=>(sb.2 o (de ne)).trans e
theorem zv {a o:ah}{es eo:Array (Int×a9)}{ep epo:Nat}{t to:eC}{each:Sem Unit}{Q:Unit->af->Prop} (ne:a≠o) (J:cY w s.heap a es ep t) (I:cY w s.heap o eo epo to)
  (hz:es.size + eo.size<=15) (hm:es.size≠0\/M0 t.mask) (he:∀ (s':af) (Q':Unit->af->Prop),cY w s'.heap o eo epo to->Q' () s'->aq (aL P w) A each Q' E s')
  (q:∀ h' tk' es' ep' t',bF a s.heap h'->cY w h' a es' ep' t'->(∀ x,x∈es'.toList.map jO↔x∈es.toList.map jO\/x∈eo.toList.map jO)->(es'.size≠0\/M0 t'.mask)->Q () { s with heap:=h',toks:=tk' }) :
  aq (aL P w) A (setMerge a o each) Q E s:=by
 unfold setMerge
 rw [if_neg (by simpa using ne)]
 refine a7 (bA I.at_ rfl I.fits ?_)
 dsimp only
 by_cases h0:eo.size=0
 ·rw [if_pos (by simpa [Array.isEmpty] using h0)]
  have e0:eo=#[]:=kC h0
  exact ae (q s.heap s.toks es ep t (.refl ..) J (fun x=>by rw [e0];simp) hm)
 rw [if_neg (by simpa [Array.isEmpty] using h0)]
 refine a7 (D3 J hz hm fun h1 es1 ep1 t1 sb1 J1 p1 m1 r1=>?_)
 have I1:=I.but ne sb1
 have sz1:es1.size=es.size:=by rw [<- av,p1.length_eq,av]
 refine a7 (bA (s:={ s with heap:=h1 }) J1.at_ rfl J1.fits ?_)
 dsimp only
 obtain ⟨f1,f2⟩:=zu J1.fits
 have hpl:to.plain=false:=I.pl.resolve_left h0
 have hled:(t1.led && to.led)=t1.led:=by rw [I.led,J1.led,l5]
 have kp:∀ x,x∈es1.toList.map jO↔x∈es.toList.map jO:=fun x=>(p1.map jO).mem_iff
 by_cases hf:t1.fill=0
 ·have e1:es.size=0:=by
   unfold Ma at hf
   omega
  have mk:M0 t1.mask:=m1.resolve_left (by omega)
  have ee:es=#[]:=kC e1
  unfold Mb
  rw [if_neg (by rw [hf];decide)]
  split
  ·refine iU (s:={ s with heap:=h1 }) J1.at_ rfl ?_ (fI I.few)
   refine q _ s.toks _ _ _ (sb1.trans (bI h1 a _)) (⟨rR J1,I.txt,I.nd,I.few,?_,?_,?_⟩:cY w _ a eo (ep1 + 1) _) (fun x=>by rw [ee];simp) (.inl h0)
   ·exact I.fits
   ·exact hled.trans J1.led
   ·exact .inr (by show (t1.plain && to.plain)=false;rw [hpl,mZ])
  ·obtain ⟨place,order,e,hp,ho⟩:=Jx (finger:=t1.finger) (moves:=t1.moves) (led:=t1.led && to.led) (plain:=t1.plain && to.plain) (hs:=eo.map (·.1)) mk (by rw [sK];exact r1)
   rw [sK] at hp ho
   have pm:=zt ho
   have sz:(order.filterMap (eo[·]?)).size=eo.size:=by rw [<- av,pm.length_eq,av]
   refine a7 ?_
   rw [e]
   show aq _ _ (if ((order.filterMap (eo[·]?)).size != eo.size)=true then _ else pure (order.filterMap (eo[·]?),_)) _ _ _
   rw [if_neg (by rw [sz];simp)]
   refine ae ?_
   refine iU (s:={ s with heap:=h1 }) J1.at_ rfl ?_ (by rw [sz];exact fI I.few)
   refine q _ s.toks _ _ _ (sb1.trans (bI h1 a _)) (⟨rR J1,fun x hx=>I.txt x (pm.mem_iff.mp hx),(pm.map jO).nodup_iff.mpr I.nd,by rw [sz];exact I.few,Jy (by rw [sz];exact hp) (by rw [sz];exact r1),hled.trans J1.led,.inr ?_⟩:cY w _ a (order.filterMap (eo[·]?)) (ep1 + 1) _) (fun x=>?_) (.inl (by rw [sz];exact h0))
   ·show (t1.plain && to.plain)=false;rw [hpl,mZ]
   ·rw [(pm.map jO).mem_iff,ee];simp
  ·rename_i hq
   split at hq<;>cases hq
 ·unfold Mb
  rw [if_pos (by simpa using hf)]
  dsimp only
  refine a7 (xK (s:={ s with heap:=h1 }) I1 J1 fun h2 es2 ep2 t2 sb2 J2 p2=>?_)
  rw [<- Kl]
  have hl:es2.toList.length=eo.size:=by rw [p2.length_eq,av]
  refine a7 (yc (fun r s'=>∃ h' tk' e' p' t',s'={ s with heap:=h',toks:=tk' }/\bF a s.heap h'/\cY w h' a e' p' t'/\e'.size + r.length<=15/\(∀ e∈r,tP w e)/\∀ x,(x∈e'.toList.map jO\/x∈r.map jO)↔x∈es.toList.map jO\/x∈eo.toList.map jO) ?_ ?_ es2.toList _ ⟨h2,s.toks,es1,ep2,t2,rfl,sb1.trans sb2,J2,by omega,fun e he=>I.txt e (p2.mem_iff.mp he),fun x=>by rw [kp,(p2.map jO).mem_iff]⟩)
  ·rintro e r s' ⟨h',tk',e',p',t',rfl,sb',J',z',tx',k'⟩
   obtain ⟨x,tk,rfl⟩:=tx' e ao
   simp only [aU] at z'
   dsimp only
   refine a7 (cr (Bx (s:={ s with heap:=h',toks:=tk' }) (⟨e',p',t',J',.refl _⟩:l7 w h' a (e'.toList.map jO)) (by rw [al,av];exact aH (show e'.size + 1<100 by omega) (by decide)) fun h'' tk'' sb'' S''=>?_))
   obtain ⟨e'',p'',t'',J'',pm''⟩:=S''
   have sb3:=sb'.trans sb''
   have I3:=I.but ne sb3
   refine a7 (he _ _ I3 ?_)
   refine a7 (bA (s:={ s with heap:=h'',toks:=tk'' }) I3.at_ rfl I3.fits ?_)
   dsimp only
   rw [if_neg (by simp)]
   refine ae ⟨rfl,h'',tk'',e'',p'',t'',rfl,sb3,J'',?_,fun e he=>tx' e (am _ he),fun y=>?_⟩
   ·have:=pm''.length_eq
    rw [al,av] at this
    have l2:(if x∈e'.toList.map jO then e'.toList.map jO else e'.toList.map jO++[x]).length<=e'.size + 1:=by
     split<;>simp
    omega
   ·rw [<- k' y,pm''.mem_iff]
    have ek:jO (hashStr w x,jv x tk)=x:=rfl
    rw [aI,bh,ek]
    split
    ·rename_i hx
     constructor
     ·rintro (h | h)
      ·exact .inl h
      ·exact .inr (.inr h)
     ·rintro (h | h | h)
      ·exact .inl h
      ·rw [h];exact .inl hx
      ·exact .inr h
    ·rw [Am,dY]
     constructor
     ·rintro ((h | h) | h)
      ·exact .inl h
      ·exact .inr (.inl h)
      ·exact .inr (.inr h)
     ·rintro (h | h | h)
      ·exact .inl (.inl h)
      ·exact .inl (.inr h)
      ·exact .inr h
  ·rintro s' ⟨h',tk',e',p',t',rfl,sb',J',z',tx',k'⟩
   refine ae (q h' tk' e' p' t' sb' J' (fun x=>?_) (.inl ?_))
   ·rw [<- k' x];simp
   ·intro e0
    obtain ⟨e,hh⟩:∃ e,e∈eo.toList:=by
     cases hq:eo.toList with
     | nil=>rw [<- av,hq] at h0;exact absurd rfl h0
     | cons e r=>exact ⟨e,ao⟩
    have:=(k' (jO e)).mpr (.inr (bN hh))
    rw [kC e0] at this
    simp at this
end
end L2
namespace L2
open PySem PyProof.Rows
theorem D4:GC table "set.__or__"=some im.«frozenset.__or__»:=GD (id':="frozenset.__or__") (by kernel_rfl) rfl (by decide +kernel) (by kernel_rfl)
section
variable {P:aO}{w:bd}{A:bg}{E:a9->af->Prop}{s:af}
theorem cY.ty {a:ah}{es:Array (Int×a9)}{ep:Nat}{t:eC} (I:cY w s.heap a es ep t):s.TypeIs (.ref a) "set":=⟨_,I.at_,rfl⟩
theorem tY {a:ah}{es:Array (Int×a9)}{ep:Nat}{t:eC}{Q:Bool->af->Prop} (I:cY w s.heap a es ep t) (q:Q true s):aq (aL P w) A (sL (.ref a)) Q E s:=by
 unfold sL
 refine a7 (i5 I.ty M6 ?_)
 exact ae q
theorem Ol {h:bt}{a:ah} (e:h.get? a=some (fo w)):cY w h a #[] 0 (.fresh 0 0 (!w.params.followText "set-order")) :=
 ⟨e,(fun _ h=>nomatch h),gP,by decide,rfl,rfl,.inl rfl⟩
theorem QZ {a b:ah}{xs ys:List Str}{Q:a9->af->Prop} (ha:l7 w s.heap a xs) (hb:l7 w s.heap b ys) (ne:a≠b) (hz:xs.length + ys.length<=15)
  (q:∀ h' tk',bF s.heap.objs.size (s.heap.push (fo w)) h'->l7 w h' s.heap.objs.size (dz xs ys)->Q (.ref s.heap.objs.size) { s with heap:=h',toks:=tk' }) :
  aq (aL P w) A (gm .BitOr (.ref a) (.ref b)) Q E s:=by
 obtain ⟨ea,pa,ta,Ia,ma⟩:=ha
 obtain ⟨eb,pb,tb,Ib,mb⟩:=hb
 have sa:ea.size=xs.length:=by rw [<- ma.length_eq,al,av]
 have sb:eb.size=ys.length:=by rw [<- mb.length_eq,al,av]
 refine wpAny_binaryOp_same Ia.ty Ib.ty F.fills_set_or F.slot_set_or (c8 F.slot_set_or Ia.ty D4 ?_ (F.args_set_or_2 _ _))
 have lt1:a<s.heap.objs.size:=ap Ia.at_
 have lt2:b<s.heap.objs.size:=ap Ib.at_
 show aq _ _ (PU "__or__" ⟨[.ref a,.ref b],[]⟩ >>= _) _ _ s
 refine a7 (a7 (ae (ae ?_)))
 dsimp only
 refine a7 (a7 (tY Ia (tY Ib ?_)))
 rw [if_neg (by simp)]
 refine a7 (ae (a7 ?_))
 show aq _ _ (tL a >>= _) _ _ s
 refine a7 ?_
 unfold tL PV
 refine a7 (a7 (i5 Ia.ty M6 (ae ?_)))
 rw [if_pos rfl]
 refine a7 (t6 ?_)
 have g0:(s.heap.push (fo w)).get? s.heap.objs.size=some (fo w):=az _ rfl
 have J0:=Ol g0
 have Ia1:cY w (s.heap.push (fo w)) a ea pa ta:=Ia.keep fun _ e=>ag _ e
 have Ib1:cY w (s.heap.push (fo w)) b eb pb tb:=Ib.keep fun _ e=>ag _ e
 have na:s.heap.objs.size≠a:=de (aC lt1)
 have nb:s.heap.objs.size≠b:=de (aC lt2)
 refine a7 (ae (a7 (zv (s:={ s with heap:=s.heap.push (fo w) }) na J0 Ia1 (by show 0 + ea.size<=15;omega) (.inr (.inl rfl)) (fun _ _ _ q=>ae q) fun h1 tk1 e1 p1 t1 sb1 J1 k1 m1=>ae ?_)))
 have Ib2:=Ib1.but nb sb1
 have n1:(e1.toList.map jO).length<=ea.size:=by
  have:=(nc J1.nd Ia.nd).mpr fun x=>by rw [k1];simp
  rw [this.length_eq,al,av]
  exact ar _
 rw [al,av] at n1
 show aq _ _ (if (bL b != bL a)=true then _ else _) _ _ _
 rw [if_pos (by simp;exact de ne)]
 refine a7 (ae (a7 (cr ?_)))
 show aq _ _ (jr _ s.heap.objs.size (bL b)) _ _ _
 unfold jr
 refine a7 (tY (s:={ s with heap:=h1,toks:=tk1 }) Ib2 ?_)
 rw [if_pos rfl]
 refine a7 (ae ?_)
 unfold PX setEpoch
 refine a7 (a7 (bA (s:={ s with heap:=h1,toks:=tk1 }) Ib2.at_ rfl Ib2.fits (ae ?_)))
 refine zv (s:={ s with heap:=h1,toks:=tk1 }) nb J1 Ib2 (by omega) m1 (fun s' Q' I' q'=>?_) fun h2 tk2 e2 p2 t2 sb2 J2 k2 m2=>?_
 ·unfold PY setEpoch
  refine a7 (a7 (bA I'.at_ rfl I'.fits (ae ?_)))
  dsimp only
  rw [if_neg (by simp)]
  exact ae q'
 ·refine ae (ae ⟨_,rfl,(fun z=>nomatch z),q h2 tk2 (sb1.trans sb2) ⟨e2,p2,t2,J2,?_⟩⟩)
  refine (nc J2.nd (ip _ _ (ma.nodup_iff.mp Ia.nd))).mpr fun x=>?_
  rw [k2,iF,k1,ma.mem_iff,mb.mem_iff]
  simp
end
end L2
namespace L2
open PySem PyProof.Rows
theorem Ug {X:Cx}:qy X (gm .BitOr) (fun x y H Q=>∃ a b xs ys,x=.ref a/\y=.ref b/\a≠b/\H a=some (ll X.w a xs)/\H b=some (ll X.w b ys)/\xs.length + ys.length<=15/\∀ p,H p=none->Q (.ref p) (upd H p (ll X.w p (dz xs ys)))):=by
 intro pins s σ H x y v u Q I rx ry h
 obtain ⟨a,b,xs,ys,rfl,rfl,ne,ha,hb,hz,q⟩:=h
 cases rx
 cases ry
 have Sa:=(show db X.prog X.w H s.heap a (ll X.w a xs) from I.hok a _ ha).1
 have Sb:=(show db X.prog X.w H s.heap b (ll X.w b ys) from I.hok b _ hb).1
 refine QZ Sa Sb ne hz fun h' tk' sb S=>?_
 refine ⟨.ref s.heap.objs.size,_,I.laid (t':=tk') (fun b o e=>?_) (ar _) (CJ S),rfl,q _ (I.hok.fresh (ar _))⟩
 exact (sb.2 b (aC (ap e))).trans (ag _ e)
end L2
namespace J
open PySem L2
section
variable {c:C}{a b:a_}{ga gb:au->R (List Str)}{pos:Pos}
def Uh (xs ys:List Str):R (List Str):=if xs.length + ys.length<=15 then .ok (dz xs ys) else .no
def Om (ga gb:au->R (List Str)):au->R (List Str):=fun ρ=>(ga ρ).bind fun xs=>(gb ρ).bind (J.Uh xs)
theorem Ui (ha:QM c a ga) (hb:QM c b gb):QM c (.BinOp a .BitOr b pos) (Om ga gb):=.of fun ρ=>qA (RT Ug (ha ρ) (hb ρ)) fun σ H Q h_0=>by
 obtain ⟨H0,Hs0,la,Hs,f,q⟩:=h_0
 refine Jg (w:=c.X.w) f q fun xs p H1 Hs1 e1 s1 f1 n1=>?_
 unfold Om at q
 rw [e1,bind_ok] at q
 have s2:cT H1 Hs1 (upd H1 p (ll c.X.w p xs)) Hs1:=.mine f1.st.sub n1
 refine Jg (w:=c.X.w) (f1.step s2) (q.on (s1.trans s2) (q':=fun _=>True) fun _ _=>trivial) fun ys p2 H2 Hs2 e2 s3 f2 n2=>?_
 rw [e2,bind_ok] at q
 unfold J.Uh at q
 by_cases hz:xs.length + ys.length<=15
 ·rw [if_pos hz] at q
  have k1:H2 p=some (ll c.X.w p xs):=s3.all p _ aW
  have ne:p≠p2:=fun z=>by rw [z,n2] at k1;cases k1
  have s4:cT H2 Hs2 (upd H2 p2 (ll c.X.w p2 ys)) Hs2:=.mine f2.st.sub n2
  exact ⟨p,p2,xs,ys,rfl,rfl,ne,by rw [aS ne];exact k1,aW,hz,fun l hl=>q l _ _ (s1.trans (s2.trans (s3.trans s4))) hl⟩
 ·rw [if_neg hz] at q;exact q.elim
end
end J
namespace J
open PySem L2
section
variable {c:C}{a b:a_}{gs:au->R (List D)}{pos px py pt pt2:Pos}{x y:Str}
def Yc (i j:Nat) (ρ:au):List D->R Fl
 | [d,e]=>.ok (.nx ((ρ.set i (.shr d)).set j (.shr e)))
 | _=>.no
def On (i j:Nat) (gs:au->R (List D)):au->R Fl:=fun ρ=>(gs ρ).bind (Yc i j ρ)
theorem Uj (i j:Nat) {kt k2:_} (hc:c.X.calm=true) (hN:c.X.N.Nodup) (ha:DV c [a,b] gs) (hi:c.X.N[i]?=some x:=by rfl) (hj:c.X.N[j]?=some y:=by rfl) (hij:i≠j:=by decide)
  (hx:c.X.env.scope.names.lookup x=some .local:=by rfl) (hy:c.X.env.scope.names.lookup y=some .local:=by rfl) (hw:xS [.Tuple [.Name x px,.Name y py] kt pt] (.Tuple [a,b] k2 pt2) c.X.env=pure (some [x,y]):=by rfl)
  (hs:xR [.Tuple [.Name x px,.Name y py] kt pt] (.Tuple [a,b] k2 pt2) pos.line c.X.env=pure false:=by rfl):JS c (.Assign [.Tuple [.Name x px,.Name y py] kt pt] (.Tuple [a,b] k2 pt2) pos) (On i j gs):=.of fun ρ=>y0 (Tk hc hN hi hj hij hx hy (ha ρ) hw hs) fun D σ H h_0=>by
 obtain ⟨H0,Hs0,la,Hs,f,q⟩:=h_0
 refine ⟨H0,Hs0,la,Hs,f,?_⟩
 unfold On at q
 cases hr:gs ρ with
 | ok ds =>
  rw [hr,bind_ok] at q
  intro vs H' Hs' s r
  match ds,r,q with
  | [],_,q=>exact q.elim
  | [_],_,q=>exact q.elim
  | [d,e],.cons r1 (.cons r2 .nil),q=>exact ⟨_,_,rfl,q _ _ Hs' (((f.step s).set i r1).set j r2)⟩
  | _::_::_::_,_,q=>exact q.elim
 | ex z n =>
  rw [hr] at q
  exact fun H' Hs' s=>q H' Hs' (f.st.trans s)
 | no=>rw [hr] at q;exact q.elim
end
end J
namespace J
open PySem L2
end J
end
section
namespace L2
open PySem PySem.Spec PyProof.Rows
theorem D5:yr (.type "list") "keys"=pure none:=by rw [D_,uJ];kernel_rfl
theorem BN:GC table "dict.update.loop"=some im.«dict.update.loop»:=entryFor_of_tree (by kernel_rfl)
theorem rZ:plainId "dict.update.loop"=true:=by decide +kernel
section
variable {prog:aO}{w:bd}{A:bg}{E:a9->af->Prop}{s:af}{R:vQ->af->Prop}
theorem zw {a:ah}{o:Obj}{xs:Array a9}{k:Nat}{Q:Option a9->af->Prop}
  (hx:s.heap.get? a=some o) (hc:o.cls=.type "list") (hdat:o.data=.seq xs k) (hd:o.dict=none) (hA:A.handled=none)
  (h:∀ h' tk,(∀ b o,s.heap.get? b=some o->h'.get? b=some o)->Q none { s with heap:=h',toks:=tk }) :
  aq (aL prog w) A (PP (.ref a) "keys") Q E s:=by
 obtain ⟨c,dct,dat,sl⟩:=o
 simp only at hc hdat hd
 subst hc hdat hd
 obtain ⟨hp,g,d,tk,os⟩:=s
 have hT:∀ tk',(⟨hp,g,d,tk',os⟩:af).TypeIs (.ref a) "list":=fun _=>⟨_,hx,rfl⟩
 have f1:=sub_AttributeError
 have f3:=F.slot_list_getattribute.lookup
 have f4:=F.slot_list_getattribute.bind (.ref a)
 have f5:=am_list_getattr_none
 have hname:(["__module__","__name__","__qualname__","__doc__","__annotations__"] : List Str).contains "keys"=false:=by decide +kernel
 unfold PP getAttrBy? getAttrBy
 repeat (any_goals (first | assumption | exact hT _ | ((with_reducible show aq _ _ (call (Value.builtin "list.__getattribute__") _ _) _ _ _);refine tG F.slot_list_getattribute (hT _) am_entry_list_getattribute (F.args_list_getattribute_2 _ _) (meets_getattribute_miss_list a xs k sl "keys" _ D5 hname (by size_fits)) ⟨hx,hA,fun h' tk' e hx'=>?_⟩) | wp_step))
 have ha:=hx'.of
 obtain ⟨ob,vs,he,hc,_⟩:=ha.there
 have hTe:(⟨h',g,d,tk',os⟩:af).TypeIs (.ref e) "AttributeError":=⟨_,he,hc⟩
 show aq _ _ (getattributeRaised _ _ _ _ _ _ _) _ _ _
 unfold getattributeRaised
 repeat (any_goals (first | assumption | wp_step))
 exact h _ _ ha.keeps
end
end L2
namespace L2
open PySem PySem.Spec PyProof.Rows
def Jz (acc:List (cR×a9)) (l:List (cR×a9×a9)):List (cR×a9):=l.foldl (fun a t=>GA a t.1 t.2.2) acc
theorem HB (kvs:List (cR×a9)) (k:cR) (v:a9):(GA kvs k v).length<=kvs.length + 1:=by
 unfold GA
 split<;>simp
section
variable {prog:aO}{w:bd}{A:bg}{E:a9->af->Prop}{s:af}{R:vQ->af->Prop}
theorem AQ {I:ah}{fp wr:List ah}{n:Nat}{Pv:Nat->a9->Prop}{St:Nat->bt->Prop} (W:LQ prog w A.in1 I fp wr n Pv St) (D:ah) (hD:D∉fp) (xs:List (cR×a9×a9)) (pa:List ah) (hx:xs.length=n)
  (hv:∀ i v,Pv i v->∃ p x,pa[i]?=some p/\xs[i]?=some x/\v=.ref p) (hk:∀ x∈xs,(dv prog w).is x.1 x.2.1=true) (hp:∀ p∈pa,p∉D::wr) (hb:n<=1000) :
  ∀ (k i:Nat) (s:af) (acc:List (cR×a9)) (j:Int),n - i=k->i<=n->acc.length<=i->St i s.heap->s.heap.DictOf (dv prog w) D acc->(∀ (i:Nat) (p:ah) (x:cR×a9×a9),pa[i]?=some p->xs[i]?=some x->Gp s.heap p #[x.2.1,x.2.2]) ->
   (∀ h' tk,(∀ b o,b∉D::wr->s.heap.get? b=some o->h'.get? b=some o)->h'.DictOf (dv prog w) D (Jz acc (xs.drop i))->R (.ok (.ret .none)) { s with heap:=h',toks:=tk }) ->
   hZ (aL prog w) A (.builtin "dict.update.loop" ⟨[.ref D,.ref I,cg j,.none],[]⟩) R s:=by
 have hDw:D∉wr:=fun z=>hD (W.sub _ z)
 intro k
 induction k with
 | zero =>
  intro i s acc j hk' hi hl st hS hT hR
  obtain rfl:i=n:=by omega
  refine fJ BN ?_
  rw [eY rZ _]
  show aq _ A.in1 (jw (.ref I) >>= _) _ _ s
  refine a7 (W.done s _ _ st fun h' tk kp=>?_)
  show aq _ _ (Builtin.Dict.addKeywords D [] >>= _) _ _ _
  refine a7 (ae (ae (hR h' tk (fun b o hb e=>kp b o (fun z=>hb (am _ z)) e) ?_)))
  rw [Gg (by omega)]
  obtain ⟨o,es,ep,e,r⟩:=hS
  exact ⟨o,es,ep,kp D o hDw e,r⟩
 | succ k ih =>
  intro i s acc j hk' hi hl st hS hT hR
  have hlt:i<n:=by omega
  refine fJ BN ?_
  rw [eY rZ _]
  show aq _ A.in1 (jw (.ref I) >>= _) _ _ s
  refine a7 (W.item i s _ _ hlt st fun v h' tk hP st' kp=>?_)
  obtain ⟨p,x,hpi,hxi,rfl⟩:=hv i v hP
  have hpm:=hp p (cO hpi)
  have hS':h'.DictOf (dv prog w) D acc:=by
   obtain ⟨o,es,ep,e,r⟩:=hS
   exact ⟨o,es,ep,kp D o hDw e,r⟩
  obtain ⟨ot,et,ct,nt,dt⟩:=hT i p x hpi hxi
  have et':h'.get? p=some ot:=kp p ot (fun z=>hpm (am _ z)) et
  have hkx:=hk x (cO hxi)
  refine a7 (cr (a7 (wpAny_tryCatch ?_)))
  unfold Builtin.Dict.pairItems
  refine a7 (kY (T:="tuple") (s:={ s with heap:=h',toks:=tk }) ⟨_,et',ct⟩ ?_)
  rw [if_pos (by decide)]
  refine a7 (eE (s:={ s with heap:=h',toks:=tk }) et' dt (ae ?_))
  show aq _ _ (Gd [x.2.1,x.2.2] (dictSet D x.2.1 x.2.2)) _ _ _
  refine cr ?_
  unfold dictSet
  refine cr (a7 ((dv prog w).pyHash (k:=x.1) hkx ?_))
  refine wpAny_dictSetHashed_pairs (s:={ s with heap:=h',toks:=tk + 1 }) hkx hS' (fun h2 hS2 sb=>?_) (bR hl (bR hi (bR hb (bC (cA (ar _))))))
  refine ae ⟨mQ rZ _,ih (i + 1) _ (GA acc x.1 x.2.2) _ (by omega) hlt ?_ (W.frame _ _ _ st' fun b hb o e=>?_) hS2 (fun i2 p2 x2 e1 e2=>?_) fun h3 tk3 k3 hS3=>?_⟩
  ·have:=HB acc x.1 x.2.2
   omega
  ·rw [sb.2 b fun z=>hD (z ▸ hb)];exact e
  ·obtain ⟨o2,g2,r2⟩:=hT i2 p2 x2 e1 e2
   have hm:=hp p2 (cO e1)
   exact ⟨o2,(sb.2 p2 fun z=>hm (by rw [z];exact ao)).trans (kp p2 o2 (fun z=>hm (am _ z)) g2),r2⟩
  ·refine hR h3 tk3 (fun b o hb e=>k3 b o hb ?_) ?_
   ·show h2.get? b=_
    rw [sb.2 b fun z=>hb (by rw [z];exact ao)]
    exact kp b o (fun z=>hb (am _ z)) e
   ·have hd:xs.drop i=x::xs.drop (i + 1):=by
     obtain ⟨h1,h2⟩:=List.getElem?_eq_some_iff.mp hxi
     rw [Ch h1,h2]
    rw [hd];exact hS3
theorem AR {l:ah}{ol:Obj}{its:List a9}{n:Nat}{xs:List (cR×a9×a9)}{pa:List ah}{Q:a9->af->Prop} (hh:A.handled=none)
  (hol:s.heap.get? l=some ol) (hc:ol.cls=.type "list") (hdd:ol.dict=none) (hdt:ol.data=.seq its.toArray n) (hi:∀ (i:Nat) (v:a9),its[i]?=some v->∃ p x,pa[i]?=some p/\xs[i]?=some x/\v=.ref p) (hx:xs.length=its.length) (hk:∀ x∈xs,(dv prog w).is x.1 x.2.1=true) (hb:its.length<=1000)
  (hT:∀ (i:Nat) (p:ah) (x:cR×a9×a9),pa[i]?=some p->xs[i]?=some x->Gp s.heap p #[x.2.1,x.2.2]) (hpa:∀ p∈pa,p<s.heap.objs.size)
  (h:∀ (h':bt) (tk:Nat),h'.DictOf (dv prog w) s.heap.objs.size (Jz [] xs)->(∀ b o,s.heap.get? b=some o->h'.get? b=some o)->Q (.ref s.heap.objs.size) { s with heap:=h',toks:=tk }) :
  aq (aL prog w) A (call (.type "dict") [.ref l]) Q E s:=by
 refine callType_codes (Q₁:=fun obj s₁=>obj=.ref s.heap.objs.size/\s₁={ s with heap:=s.heap.push { cls:=.type "dict",data:=.dict #[] } }) F.kt_called_dict (F.kt_typeCall_dict_1 _) F.entry_dict_init (kt_code_dict_new _ ⟨rfl,rfl⟩) ?_
 rintro obj s₁ ⟨rfl,rfl⟩
 have hnew:(s.heap.push { cls:=.type "dict",data:=.dict #[] }).DictOf (dv prog w) s.heap.objs.size []:=Ge s.heap
 have hol':(s.heap.push { cls:=.type "dict",data:=.dict #[] }).get? l=some ol:=ag _ hol
 have hlS:l<s.heap.objs.size:=ap hol
 refine ⟨hnew.typeIs,F.args_dict_init_2 _ _,?_⟩
 unfold im.«dict.__init__»
 refine a7 ?_
 unfold Builtin.Dict.selfAndRest
 refine a7 (Pq hnew.typeIs ?_)
 show aq _ _ (pure (s.heap.objs.size,[bL l])) _ _ _
 refine ae ?_
 show aq _ _ (xB "dict.__init__" s.heap.objs.size (.ref l) [] .none) _ _ _
 unfold xB
 refine a7 (kY (T:="list") ⟨_,hol',hc⟩ ?_)
 rw [if_pos (by decide)]
 refine a7 (zw (s:={ s with heap:=s.heap.push { cls:=.type "dict",data:=.dict #[] } }) hol' hc hdt hdd (by simpa using hh) fun h1 tk1 k1=>?_)
 rw [if_pos (by rfl)]
 refine a7 (gf ?_)
 have hol1:=k1 l ol hol'
 refine a7 (iT (s:={ s with heap:=h1,toks:=tk1 }) ⟨_,hol1,hc,⟨_,hdt⟩⟩ ?_)
 have hD1:∃ o,h1.get? s.heap.objs.size=some o:=by
  obtain ⟨o,es,ep,e,_⟩:=hnew
  exact ⟨o,k1 _ _ e⟩
 obtain ⟨oD,eD⟩:=hD1
 have lD:=ap eD
 have W:=uI (prog:=prog) (w:=w) (A:=A.in1.in1) (by simpa using hh) h1.objs.size l (aC (ap hol1)) its.toArray
 have k2:∀ b o,h1.get? b=some o->(h1.push { cls:=.type "list_iterator",data:=.fields #[.ref l,.int 0 0] }).get? b=some o:=fun b o e=>ag _ e
 have hD2:(h1.push { cls:=.type "list_iterator",data:=.fields #[.ref l,.int 0 0] }).DictOf (dv prog w) s.heap.objs.size []:=by
  obtain ⟨o,es,ep,e,r⟩:=hnew
  exact ⟨o,es,ep,k2 _ _ (k1 _ _ e),r⟩
 refine ae ⟨mQ rZ _,AQ (A:=A.in1) W s.heap.objs.size ?_ xs pa (by rw [hx,aJ]) (fun i v e=>hi i v (by simpa using e)) hk (fun p hp=>?_) (by rw [aJ];exact hb) its.length 0 _ [] 0 (by rw [aJ];omega) (c_ _) (ar _) ⟨⟨_,az _ rfl,rfl,rfl⟩,⟨_,k2 _ _ hol1,hc,⟨_,hdt⟩⟩⟩ hD2 (fun i p x e1 e2=>?_) fun h' tk kp hS'=>?_⟩
 ·simp only [bh,aV,or_false,not_or]
  exact ⟨aC lD,eu hlS⟩
 ·have:=hpa p hp
  simp only [bh,aV,or_false,not_or]
  exact ⟨aC this,aC (xw this lD)⟩
 ·obtain ⟨o,g,r⟩:=hT i p x e1 e2
  exact ⟨o,k2 _ _ (k1 _ _ (ag _ g)),r⟩
 ·refine ⟨rfl,h h' tk hS' fun b o e=>kp b o ?_ (k2 _ _ (k1 _ _ (ag _ e)))⟩
  have:=ap e
  simp only [bh,aV,or_false,not_or]
  exact ⟨aC this,aC (xw this lD)⟩
end
end L2
namespace L2
open PySem PySem.Spec PyProof.Rows
theorem F4 {P:aO}{w:bd}{H:Hp}{h:bt} (ok:qo P w H h):∀ (pa:List ah) (kvs:List (cR×V)),kvs.length=pa.length->(∀ (i:Nat) (a:ah) (kv:cR×V),pa[i]?=some a->kvs[i]?=some kv->H a=some (.tup [kV kv.1,kv.2])) ->
  ∃ xs:List (cR×a9×a9),xs.length=pa.length/\(∀ (i:Nat) (p:ah) (x:cR×a9×a9),pa[i]?=some p->xs[i]?=some x->Gp h p #[x.2.1,x.2.2])/\(∀ x∈xs,(dv P w).is x.1 x.2.1=true)/\KV kvs (xs.map fun x=>(x.1,x.2.2))
 | [],[],_,_=>⟨[],rfl,fun i p x e=>by simp at e,fun _ e=>by simp at e,.nil⟩
 | a::pa,kv::kvs,hl,hH=>by
  obtain ⟨xs,h1,h2,h3,h4⟩:=F4 ok pa kvs (Nat.succ.inj hl) fun i b x e1 e2=>hH (i + 1) b x e1 e2
  have h0:=hH 0 a kv rfl rfl
  obtain ⟨_,its,r,it⟩:=(show db P w H h a (.tup [kV kv.1,kv.2]) from ok a _ h0)
  cases r with
  | cons r1 r2 =>
   cases r2 with
   | cons r3 r4 =>
    cases r4
    rename_i u1 u2
    refine ⟨(kv.1,u1,u2)::xs,by simp [h1],fun i p x e1 e2=>?_,fun x hx=>?_,.cons ⟨rfl,r3⟩ h4⟩
    ·cases i with
     | zero=>cases e1;cases e2;exact it
     | succ i=>exact h2 i p x e1 e2
    ·rcases List.mem_cons.mp hx with z | z
     ·rw [z];exact Bu r1
     ·exact h3 x z
 | [],_::_,hl,_=>by simp at hl
 | _::_,[],hl,_=>by simp at hl
theorem BO:∀ {pa:List ah}{us:List a9},da (pa.map V.ref) us->us=pa.map bL
 | [],us,h=>by cases h;rfl
 | a::pa,us,h=>by
  cases h with
  | cons r t=>rw [BO t,show _=bL a from r];rfl
theorem D6 {X:Cx} (hc:X.calm=true):jb X (.type "dict") (fun xs H Q=>∃ (l:ah) (pa:List ah) (kvs:List (cR×V)),xs=[.ref l]/\lZ X.K H l (pa.map V.ref)/\kvs.length=pa.length/\pa.length<=1000/\(∀ (i:Nat) (a:ah) (kv:cR×V),pa[i]?=some a->kvs[i]?=some kv->H a=some (.tup [kV kv.1,kv.2]))/\∀ d,H d=none->Q (.ref d) (upd H d (.dK (yF [] kvs)))):=by
 intro pins s σ H xs us Q I r h
 obtain ⟨l,pa,kvs,rfl,hq,hl,hz,hH,q⟩:=h
 obtain ⟨u,rfl,rx⟩:=kF r
 cases rx
 have hh:=I.ok.hd hc
 obtain ⟨its,r',⟨o,n,ho,h1,h2,h3⟩,_⟩:=I.list hq
 obtain rfl:=BO r'
 obtain ⟨ys,y1,y2,y3,y4⟩:=F4 I.hok pa kvs hl hH
 refine AR (by simpa using hh) ho h1 h2 h3 (xs:=ys) (pa:=pa) (fun i v e=>?_) (by rw [y1,al]) y3 (by rw [al];exact hz) y2 (fun p hp=>?_) fun h' tk dd kp=>?_
 ·rw [aP] at e
  cases hp:pa[i]? with
  | none=>rw [hp] at e;cases e
  | some p =>
   rw [hp] at e
   cases e
   have hi:i<ys.length:=by rw [y1];exact (List.getElem?_eq_some_iff.mp hp).1
   exact ⟨p,ys[i],rfl,aR hi,rfl⟩
 ·obtain ⟨i,hi,e⟩:=fz hp
  have hk:i<kvs.length:=by rw [hl];exact hi
  have:=hH i p kvs[i] (by rw [<- e];exact aR hi) (aR hk)
  obtain ⟨_,_,_,_,g,_⟩:=(show db X.prog X.w H s.heap p (.tup _) from I.hok p _ this)
  exact ap g
 ·have e:Jz [] ys=merged [] (ys.map fun x=>(x.1,x.2.2)):=by unfold Jz merged;rw [sZ]
  rw [e] at dd
  have rel:=KV.merge y4 (Paired.nil:KV (κ:=cR) [] [])
  have ln:=t5 kvs []
  simp only [bO] at ln
  refine ⟨.ref s.heap.objs.size,_,I.laid (t':=tk) kp (ar _) (MJ (bR ln (by rw [GK,hl];exact bC (cA hz))) ?_ rel dd),rfl,q _ (I.hok.fresh (ar _))⟩
  have:=I.big
  exact beq_false_of_ne (eu this)
end L2
namespace J
open PySem L2
def nl:List D->Option (List (cR×D))
 | []=>some []
 | .tuple [k,v]::r=>(oI k).bind fun y=>(nl r).map ((y,v)::·)
 | _::_=>none
def vk:D->R D
 | .list ds=>if ds.length<=1000 then (match nl ds with
  | some ps=>.ok (.dict (ps.foldl (fun a p=>sR a (kD p.1) p.2) []))
  | none=>.no) else .no
 | _=>.no
theorem BP {K:a8}{H:Hp}:∀ {ds:List D}{vs:List V}{ps:List (cR×D)},RDs K H vs ds->nl ds=some ps ->
  ∃ (pa:List ah) (kvs:List (cR×V)),vs=pa.map V.ref/\kvs.length=pa.length/\(∀ (i:Nat) (a:ah) (kv:cR×V),pa[i]?=some a->kvs[i]?=some kv->H a=some (.tup [kV kv.1,kv.2]))/\RDk K H kvs (ps.map fun p=>(kD p.1,p.2))
 | [],vs,ps,r,e=>by
  cases r
  cases e
  exact ⟨[],[],rfl,rfl,fun i a kv e=>by simp at e,.nil⟩
 | d::ds,vs,ps,r,e=>by
  unfold nl at e
  split at e
  ·rename_i h;cases h
  ·rename_i k v r0 h
   cases h
   cases r with
   | cons r1 r2 =>
    rename_i x0 xs0
    cases hk:oI k with
    | none=>rw [hk] at e;cases e
    | some y =>
     rw [hk] at e
     cases hr:nl ds with
     | none=>rw [hr] at e;cases e
     | some qs =>
      rw [hr] at e
      cases e
      obtain ⟨pa,kvs,h1,h2,h3,h4⟩:=BP r2 hr
      obtain ⟨a,vs0,rfl,ha,ra⟩:∃ a vs0,x0=V.ref a/\H a=some (.tup vs0)/\RDs K H vs0 [k,v]:=by
       cases r1 with
       | tuple ha ra=>exact ⟨_,_,rfl,ha,ra⟩
      ·obtain ⟨x1,x2,rfl,q1,q2⟩:=ra.two
       have ek:=vg hk
       subst ek
       have:=D0 q1
       subst this
       refine ⟨a::pa,(y,x2)::kvs,by rw [h1];rfl,by simp [h2],fun i b kv e1 e2=>?_,.cons q2 h4⟩
       cases i with
       | zero=>cases e1;cases e2;exact ha
       | succ i=>exact h3 i b kv e1 e2
  ·cases e
theorem F5 {K:a8}{H:Hp}:∀ {kvs:List (cR×V)}{es:List (D×D)}{acc:List (cR×V)}{ds:List (D×D)},RDk K H kvs es->RDk K H acc ds->RDk K H (yF acc kvs) (es.foldl (fun a p=>sR a p.1 p.2) ds)
 | [],es,acc,ds,r,r0=>by
  cases r
  exact r0
 | kv::kvs,es,acc,ds,r,r0=>by
  cases r with
  | cons h t =>
   rename_i k0 x0 d0 ds0
   have:=F5 (kvs:=kvs) t (r0.put k0 h)
   exact this
section
variable {c:C}{e:a_}{g:au->R D}{p cpos:Pos}
def yd (g:au->R D):au->R D:=fun ρ=>(g ρ).bind vk
theorem Lb (hc:c.X.calm=true) (h:JE c e g) (hg2:Gl c.X "dict") (hm2:c.X.mg "dict"=none) (he:aA [e] c.X.env=(false,du e c.X.env)::aA [] c.X.env:=by rfl) :
  JN c (.Call (.Name "dict" p) [e] [] cpos) (yd g):=.of fun ρ=>by
 refine qA (we (D6 hc) hg2 hm2 PyProof.Rows.boot_dict (cf (h ρ) fe he) (he:=he)) fun σ H Q h_1=>?_
 obtain ⟨H0,Hs0,la,Hs,f,q⟩:=h_1
 dsimp only [L2.UY,L2.E7,L2.Mx]
 refine yT f q fun d v H1 Hs1 e1 s1 f1 r1=>?_
 unfold yd at q
 rw [e1,bind_ok] at q
 unfold vk at q
 split at q
 ·rename_i ds
  by_cases hz:ds.length<=1000
  ·rw [if_pos hz] at q
   split at q
   ·rename_i ps hs
    obtain ⟨a,vs0,rfl,qa,ra⟩:∃ a vs0,v=V.ref a/\lZ c.X.K Hs1 a vs0/\RDs c.X.K Hs1 vs0 ds:=by
     cases r1 with
     | list qa ra=>exact ⟨_,_,rfl,qa,ra⟩
    ·obtain ⟨pa,kvs,rfl,h2,h3,h4⟩:=BP ra hs
     have h5:=F5 h4 (RDk.nil (K:=c.X.K) (H:=Hs1))
     rw [sZ] at h5
     refine ⟨a,pa,kvs,rfl,?_,h2,?_,fun i b kv e1 e2=>f1.st.sub _ _ (h3 i b kv e1 e2),fun l hl=>q l _ H1 Hs1 s1 hl (.dK h5)⟩
     ·exact dB.seq f1.st.sub qa
     ·have:=ra.length
      rw [al] at this
      omega
   ·exact q.elim
  ·rw [if_neg hz] at q;exact q.elim
 ·exact q.elim
end
end J
namespace L2
open PySem PySem.Spec PyProof.Rows
def Uk (K:a8) (a:ah):It :=
 ⟨fun i H=>∃ xs x,lZ K H a xs/\xs[i]?=some x,fun i H v H'=>∃ p,H p=none/\v=.ref p/\∀ xs,lZ K H a xs->∃ x,xs[i]?=some x/\H'=upd H p (.tup [.int i,x]),fun i H=>∃ xs,lZ K H a xs/\xs.length<=i⟩
theorem HC {P:aO}{w:bd}{K:a8}{elts:List a_}{x1}{pos:Pos} (a e it:ah) (hei:e≠it):yA P w K (.Tuple elts x1 pos) (Uk K a) [e,it] e (fun i h=>(∃ old,IsEnum h e it i old)/\h.IsListIter it a i) where
 mem:=by simp
 obj:=fun i h st b hb=>by
  simp only [bh,aV,or_false] at hb
  rcases hb with rfl | rfl
  ·obtain ⟨⟨old,q⟩,_⟩:=st
   exact ⟨_,q,fun v z=>by cases z⟩
  ·obtain ⟨_,o,q,_,d⟩:=st
   exact ⟨o,q,fun v z=>by rw [d] at z;cases z⟩
 keep:=fun i h h' st k=>⟨let ⟨old,q⟩:=st.1;⟨old,k e (by simp) _ q⟩,let ⟨o,q,r⟩:=st.2;⟨o,k it (by simp) o q,r⟩⟩
 item:=by
  intro X hP hw hK hc i pins s σ H E I hf st hg
  subst hP hw hK
  obtain ⟨xs,x,hq,hx⟩:=hg
  obtain ⟨its,rv,p,hz⟩:=I.list hq
  obtain ⟨u,hu,ru⟩:=rv.get hx
  obtain ⟨⟨old,he⟩,hit⟩:=st
  have hit0:=hit
  obtain ⟨oi,ei,_⟩:=hit0
  have he0:=ap he
  refine wpAny_pyNext_enum_item he hit p.isList (by simpa using hu) hei ?_
  intro h1 eo st1 tup sz k1
  refine ⟨_,rfl,GI eo fun h2 e2 sb2=>?_⟩
  have szn:s.heap.objs.size≠e:=eu he0
  have I2:bG X pins σ H { s with heap:=h2,toks:=s.toks + 1 }:=I.turnedL (ch:=[e,it]) (fun b o hb q=>by
   simp only [bh,aV,or_false,not_or] at hb
   exact (sb2.2 b hb.1).trans (k1 b o hb.1 hb.2 q)) hf
  have fT:=I.fpOk (H':=H) (ar _) (I.hok.fresh (ar _))
  have tup2:h2.get? s.heap.objs.size=some { cls:=.type "tuple",data:=.seq #[.int i s.toks,u] }:=(sb2.2 _ szn).trans tup
  have I3:=I2.track (ho:=.tup [.int i,x]) fT ⟨by show 2<=sizeLine;decide,[.int i s.toks,u],.cons ⟨s.toks,rfl⟩ (.cons ru .nil),⟨_,tup2,rfl,0,rfl⟩⟩
  refine ⟨.ref s.heap.objs.size,_,I3,rfl,⟨_,fT.1,rfl,fun ys hy=>?_⟩,⟨⟨u,?_⟩,?_⟩,fun b hb=>?_⟩
  ·rw [I.list_inj hy hq];exact ⟨x,hx,rfl⟩
  ·have:(((i + 1:Nat):Int))=(i:Int) + 1:=by omega
   rw [this];exact e2
  ·obtain ⟨o,q,r⟩:=st1
   exact ⟨o,(sb2.2 it (de hei)).trans q,r⟩
  ·rw [aS]
   ·exact (hf b hb).1
   ·simp only [bh,aV,or_false] at hb
    rcases hb with z | z
    ·rw [z];exact aC he0
    ·rw [z];exact aC (ap ei)
 done:=by
  intro X hP hw hK hc i pins s σ H E I hf st hg
  subst hP hw hK
  obtain ⟨xs,hq,hx⟩:=hg
  obtain ⟨its,rv,p,hz⟩:=I.list hq
  obtain ⟨⟨old,he⟩,hit⟩:=st
  have hl:=rv.length
  refine wpAny_pyNext_enum_end (by simpa using I.ok.hd hc) he hit p.isList (by simp;omega) fun h' eb=>?_
  exact ⟨rfl,I.turnedL (t':=s.toks) (ch:=[e,it]) (fun b o hb q=>eb b o (by
   simp only [bh,aV,or_false,not_or] at hb;exact hb.2) q) hf⟩
 self:=fun _ _ _ _ _ st h=>let ⟨⟨_,q⟩,_⟩:=st;qG q h
def Ul (K:a8) (ta:TA):TI:=fun σ H R=>ta σ H fun vs H1=>∃ a xs,vs=[.ref a]/\lZ K H1 a xs/\R (Uk K a) H1
theorem Oo {X:Cx}{elts:List a_}{x1}{tpos p pos:Pos}{a:a_}{ta:TA} (hg:Gl X "enumerate") (hm:X.mg "enumerate"=none) (ha:PA X [a] ta) (hs:aA [a] X.env=[(false,du a X.env)]:=by rfl) :
  PI X (.Tuple elts x1 tpos) (.Call (.Name "enumerate" p) [a] [] pos) (Ul X.K ta):=by
 intro pins s σ H R I h
 refine Call_ (tN I hg hm boot_enumerate (e_ (fm (ha pos pins s σ H _ I h) fun us s1 h1=>?_) hs rfl))
 obtain ⟨vs,H1,I1,r1,q1⟩:=h1
 obtain ⟨ad,xs,rfl,hq,q⟩:=q1
 obtain ⟨u,rfl,rx⟩:=kF r1
 cases rx
 obtain ⟨its,rv,tp,hz⟩:=I1.list hq
 refine call_enumerate_list tp.isList fun h' e1 t1 sz kp=>?_
 refine qG e1 ?_
 have I2:bG X pins σ H1 { s1 with heap:=h' }:=I1.kept (t':=s1.toks) kp
 refine ⟨s1.heap.objs.size + 1,[s1.heap.objs.size + 1,s1.heap.objs.size],_,_,H1,rfl,I2,HC ad _ _ (eu (d_ _)),⟨⟨.none,e1⟩,t1⟩,fun b hb=>?_,q⟩
 simp only [bh,aV,or_false] at hb
 rcases hb with z | z
 ·rw [z];exact I1.fpOk (iS _) (I1.hok.fresh (iS _))
 ·rw [z];exact I1.fpOk (ar _) (I1.hok.fresh (ar _))
end L2
namespace J
open PySem L2
theorem Op {K:a8}{Hn Hs:Hp}{a:ah}{vs:List V}{ds:List D} (h:lZ K Hn a vs) (r:RDs K Hs vs ds):No K (Uk K a) (iZ 0 ds) Hn Hs:=fun H2 Hs2 e1 e2 e3=>by
 have q:=e1.seq h
 have hl:=wu ds 0
 refine ⟨fun i hi=>?_,fun i hi=>⟨vs,q,by rw [r.length];omega⟩,fun i x H3 hi y=>?_⟩
 ·have hi':i<vs.length:=by rw [r.length];omega
  exact ⟨vs,vs[i],q,aR hi'⟩
 ·obtain ⟨p,hp,rfl,y⟩:=y
  obtain ⟨x,k0,rfl⟩:=y vs q
  obtain ⟨d,k1,k2⟩:=r.get k0
  have st:=cT.new (o:=.tup [.int i,x]) e3 hp
  refine ⟨.tuple [.int i,d],_,?_,st,.tuple aW (.cons (.int _) (.cons ((k2.same e2).same st.sh) .nil))⟩
  rw [wt,k1]
  simp
section
variable {c:C}{a:a_}{gs:au->R (List D)}{p pos:Pos}
def Q_:List D->R (List D)
 | [.list ds]=>.ok (iZ 0 ds)
 | _=>.no
def JA (gs:au->R (List D)):au->R (List D):=fun ρ=>(gs ρ).bind Q_
theorem Lc {elts:List a_}{x1}{tpos:Pos} (hg:Gl c.X "enumerate") (hm:c.X.mg "enumerate"=none) (ha:DV c [a] gs) (hs:aA [a] c.X.env=[(false,du a c.X.env)]:=by rfl):LY c (.Tuple elts x1 tpos) (.Call (.Name "enumerate" p) [a] [] pos) (JA gs):=.of fun ρ=>Ja (Oo hg hm (ha ρ) hs) fun σ H Q h_20=>by
 obtain ⟨H0,Hs0,la,Hs,f,q⟩:=h_20
 refine AK f q fun ds vs H1 Hs1 e1 s1 f1 r1=>?_
 unfold JA at q
 rw [e1,bind_ok] at q
 unfold Q_ at q
 split at q
 ·obtain ⟨x,rfl,rx⟩:=r1.one
  cases rx with
  | list qa ra=>exact ⟨_,_,rfl,dB.seq f1.st.sub qa,q _ H1 Hs1 s1 (Op qa ra)⟩
 ·exact q.elim
end
end J
namespace L2
open PySem PySem.Spec PyProof.Rows
end L2
namespace J
open PySem L2
section
variable {c:C}{tg a:a_}{gs:au->R (List D)}{p pos:Pos}
end
end J
namespace J
open PySem L2
end J
end
namespace J
open PySem L2 PyProof.Rows
section
structure En where
 P:aO
 w:bd
 K:a8
 mg:Str->Option a9
 base:bt
 cls:Str->ah
abbrev FN (e:En):=Fn e.P e.w e.K e.mg e.base e.cls
abbrev FT (e:En):=X9 e.P e.w e.K e.mg e.base e.cls
abbrev ER (e:En):=Er e.mg e.base e.cls
abbrev Cn (mg:Str->Option a9) (x:Str) (n:Int):Prop:=∃ t,mg x=some (.int n t)
structure fP (K:a8) (mg:Str->Option a9) (x:Str) (st:cp):Prop where
 ex:∃ f fd,Ee K x x st f fd/\mg x=some (.ref f)
section
variable {K:a8}{h:bt}{mg:Str->Option a9}{x:Str}
theorem d_in {st:cp}{A:ah}{od an:Option ah}{sl:Array (Option a9)}{oc kV dc pm cv ct:a9} (X:K.In h) (G:h.Ns bM mg) (a:gZ K bM x=some (some (.ref A)))
  (l:K.lookup A=some ⟨oc,od,.func (eO x x (nh st) (iE st) (ax st) .none kV dc pm an cv ct),sl⟩) (c:jx K cv x=true) (k:e6 K (.ref A)=true):fP K mg x st :=
 ⟨_,_,MH l c k,ko X G a⟩
theorem cn_in {n:Int}{tk:Tok} (X:K.In h) (G:h.Ns bM mg) (t:gZ K bM x=some (some (.int n tk))):Cn mg x n:=⟨_,ko X G t⟩
inductive Zs (K:a8):List Str->Prop
 | nil:Zs K []
 | cons {x:Str}{r:List Str}:gZ K bM x=some none->Zs K r->Zs K (x::r)
theorem Zs.get {r:List Str} (z:Zs K r):∀ x∈r,gZ K bM x=some none:=by
 induction z with
 | nil=>exact fun _ h=>nomatch h
 | cons a _ ih =>
  intro y hy
  rcases List.mem_cons.mp hy with e | e
  ·rw [e];exact a
  ·exact ih y e
abbrev zn:List Str:=["len","isinstance","all","any","zip","tuple","list","sorted","set","range","enumerate","dict","sum","max","min","reversed","str","int","bool","ValueError"]
theorem Wo (X:K.In h) (G:h.Ns bM mg) (z:Zs K zn):Bi mg:=by
 have q:∀ x∈zn,mg x=none:=fun x hx=>GO X G (z.get x hx)
 exact ⟨q _ (by decide),q _ (by decide),q _ (by decide),q _ (by decide),q _ (by decide),q _ (by decide),q _ (by decide),q _ (by decide),q _ (by decide),q _ (by decide),q _ (by decide),q _ (by decide),q _ (by decide),q _ (by decide),q _ (by decide),q _ (by decide),q _ (by decide),q _ (by decide),q _ (by decide)⟩
theorem Wp (X:K.In h) (G:h.Ns bM mg) (z:Zs K zn):mg "ValueError"=none:=GO X G (z.get _ (by decide))
end
section
variable {P:aO}{w:bd}{K:a8}{mg:Str->Option a9}{base:bt}{N:List Str}{qual:Str}{scope:eT}{f:ah}{cd:a9}{A:bg}{outer:List Env}{s:af}{H:Hp}{E:XK}
theorem px:jB (mR P w) (j4 (mR P w) P w K mg base N qual scope f cd A outer s H E) E:=Ex fun _ _ h=>h
end
section
variable {c:C}{x y:Str}{e:a_}{es:List a_}{gs:au->R (List D)}{p q pos:Pos}
theorem jc {k j n:Nat}{F:List D->R D} (G:Fn c.X.prog c.X.w c.X.K c.X.mg c.X.base c.cls x k n F) (hr:jt j c.X.A) (hx:jB (mR c.X.prog c.X.w) c.X c.E) (ha:DV c (e::es) gs)
  (hk:k<=j:=by decide) (hg:Gl c.X x:=by exact rfl) (hdb:(x == ("__debug__" : Str))=false:=by decide) (he:aA (e::es) c.X.env=(false,du e c.X.env)::aA es c.X.env:=by rfl) (hpl:(fS pos (aA es c.X.env)).any (·.1)=false:=by rfl) :
  JE c (.Call (.Name x p) (e::es) [] pos) (dJ n F gs):=QH G (hr.mono hk) hg hx ha hdb he hpl
theorem jd {k j n:Nat}{F:List D->R D} (G:X9 c.X.prog c.X.w c.X.K c.X.mg c.X.base c.cls x y k n F) (hr:jt j c.X.A) (hx:jB (mR c.X.prog c.X.w) c.X c.E) (ha:DV c es gs)
  (hk:k<=j:=by decide) (hg:Gl c.X x:=by exact rfl) (hgy:Gl c.X y:=by exact rfl) (hdb:(x == ("__debug__" : Str))=false:=by decide) (hdy:(y == ("__debug__" : Str))=false:=by decide) (he:aA (.Name y q::es) c.X.env=(false,du (.Name y q) c.X.env)::aA es c.X.env:=by rfl) (hpl:(fS pos (aA es c.X.env)).any (·.1)=false:=by rfl) :
  JE c (.Call (.Name x p) (.Name y q::es) [] pos) (dJ n F gs):=QU G (hr.mono hk) hg hgy hx ha hdb hdy he hpl
end
abbrev Bq (x:Str) (st:cp) (us:List a9) (r:List (Str×a9)):Prop:=∀ (kV doc pm:a9) (an:Option ah) (cdv ct:a9),bindArgs (eO x x (nh st) (iE st) (ax st) .none kV doc pm an cdv ct) ⟨us,[]⟩=pure r
section
variable {K:a8}{x:Str}{st:cp}{f:ah}{fd:dL}
theorem b1 {a:Str} (F:Ee K x x st f fd) (h:∀ u,Bq x st [u] [(a,u)]:=by exact fun _ _ _ _ _ _ _=>rfl):jA K fd [a] []:=F.binds fun _ _ _ _ _ _ us hl=>by obtain ⟨_,rfl⟩:=Y_ hl;exact h ..
theorem b2 {a b:Str} (F:Ee K x x st f fd) (h:∀ u v,Bq x st [u,v] [(a,u),(b,v)]:=by exact fun _ _ _ _ _ _ _ _=>rfl):jA K fd [a,b] []:=F.binds fun _ _ _ _ _ _ us hl=>by obtain ⟨_,_,rfl⟩:=Z0 hl;exact h ..
theorem b3 {a b c:Str} (F:Ee K x x st f fd) (h:∀ u v w,Bq x st [u,v,w] [(a,u),(b,v),(c,w)]:=by exact fun _ _ _ _ _ _ _ _ _=>rfl):jA K fd [a,b,c] []:=F.binds fun _ _ _ _ _ _ us hl=>by obtain ⟨_,_,_,rfl⟩:=Z1 hl;exact h ..
theorem b4 {a b c d:Str} (F:Ee K x x st f fd) (h:∀ u v w z,Bq x st [u,v,w,z] [(a,u),(b,v),(c,w),(d,z)]:=by exact fun _ _ _ _ _ _ _ _ _ _=>rfl):jA K fd [a,b,c,d] []:=F.binds fun _ _ _ _ _ _ us hl=>by obtain ⟨_,_,_,_,rfl⟩:=Z2 hl;exact h ..
theorem b5 {a b c d e:Str} (F:Ee K x x st f fd) (h:∀ u v w z y,Bq x st [u,v,w,z,y] [(a,u),(b,v),(c,w),(d,z),(e,y)]:=by exact fun _ _ _ _ _ _ _ _ _ _ _=>rfl):jA K fd [a,b,c,d,e] []:=F.binds fun _ _ _ _ _ _ us hl=>by obtain ⟨_,_,_,_,_,rfl⟩:=Z3 hl;exact h ..
end
theorem nq {e:En}{x:Str}{st:cp}{N ps:List Str}{k:Nat}{g:au->R Fl} (D:fP e.K e.mg x st) (S:bu N ps (ax st)) (b:∀ {f:ah}{fd:dL},Ee e.K x x st f fd->jA e.K fd ps [])
  (h:∀ (f:ah) (cdv:a9) (A:bg) (outer:List Env) (s:af) (H:Hp) (E:XK),jt k (A.deeper (j3 x (ax st) s.heap.objs.size f cdv))->J9 ⟨j4 (mR e.P e.w) e.P e.w e.K e.mg e.base N x (ax st) f cdv A outer s H E,e.cls,E⟩ (iE st) g) :
  FN e x (k + 1) ps.length (eJ N.length g):=by
 obtain ⟨f,fd,F,hm⟩:=D.ex
 exact VY F S hm (b F) (h f)
def YR (N P:List Str) (sc:eT):Bool:=decide (sc.kind=.function) && !sc.isCoroutine && !sc.isGenerator && decide N.Nodup && decide (N.take P.length=P) && P.all (fun x=>decide (sc.names.lookup x=some .local) || decide (sc.names.lookup x=some .cell)) && sc.names.all fun y=>decide (y.2≠.free)
theorem dk {N P:List Str}{sc:eT} (h:YR N P sc=true):bu N P sc:=by
 unfold YR at h
 simp only [aT,decide_eq_true_eq,jR,b_,js] at h
 obtain ⟨⟨⟨⟨⟨⟨a,b⟩,c⟩,d⟩,e⟩,f⟩,g⟩:=h
 exact ⟨a,b,c,d,e,f,g⟩
structure Cw (K:a8) (x:Str) (C:ah):Prop where
 ns:gZ K bM x=some (some (.ref C))
 cl:∃ cd,h_ K C=some cd
 ty:yu K (.ref C)=some (.type "type")
theorem cw_in {K:a8}{x:Str}{C:ah}{cd:ClassData} (a:gZ K bM x=some (some (.ref C))) (i:h_ K C=some cd) (y:yu K (.ref C)=some (.type "type")):Cw K x C:=⟨a,⟨_,i⟩,y⟩
inductive SY (K:a8):List Str->List ah->Prop
 | nil:SY K [] []
 | cons {x:Str}{C:ah}{ns:List Str}{Cs:List ah}:Cw K x C->SY K ns Cs->SY K (x::ns) (C::Cs)
inductive Sb (K:a8) (C:ah):List (ah×Bool)->Prop
 | nil:Sb K C []
 | cons {D:ah}{b:Bool}{l:List (ah×Bool)}:nZ K (.ref C) (.ref D)=some b->(b=false->C≠D)->Sb K C l->Sb K C ((D,b)::l)
structure Wy (K:a8) (C CP:ah) (l:List (ah×Bool)):Prop where
 x1:gH K (.ref C) "__getattribute__"=some (some (.builtin "BaseException.__getattribute__"))
 x2:gH K (.ref C) "__getattr__"=some none
 x3:gH K (.ref C) "__class__"=some (some (.builtin "object.__class__"))
 x4:uD K (.builtin "object.__class__") "__get__"=some (some (.builtin "getset_descriptor.__get__"))
 x5:xu K (.builtin "object.__class__")=some true
 x6:eM K C (.type "object")=some true
 x7:eM K C (.ref CP)=some true
 x8:nZ K (.ref C) (.type "ValueError")=some true
 x9:(bL CP == bL C)=false
 sb:Sb K C l
theorem SY.at {K:a8}{ns:List Str}{Cs:List ah} (N:SY K ns Cs):∀ (i:Nat) (n:Str),ns[i]?=some n->∃ C,Cs[i]?=some C/\Cw K n C:=by
 induction N with
 | nil=>intro i n h;simp at h
 | cons a _ ih =>
  intro i n h
  cases i with
  | zero=>cases h;exact ⟨_,rfl,a⟩
  | succ i=>exact ih i n h
theorem Sb.at {K:a8}{C:ah}{l:List (ah×Bool)} (N:Sb K C l):∀ (i:Nat) (D:ah) (b:Bool),l[i]?=some (D,b)->nZ K (.ref C) (.ref D)=some b/\(b=false->C≠D):=by
 induction N with
 | nil=>intro i D b h;simp at h
 | cons a c _ ih =>
  intro i D b h
  cases i with
  | zero=>cases h;exact ⟨a,c⟩
  | succ i=>exact ih i D b h
theorem Wq {K:a8}{h:bt}{mg:Str->Option a9}{cls:Str->ah}{ns:List Str}{Cs:List ah} (X:K.In h) (G:h.Ns bM mg) (N:SY K ns Cs) (hn:ns.map cls=Cs):∀ n∈ns,mg n=some (.ref (cls n)):=by
 intro n hm
 obtain ⟨i,hi,e⟩:=fz hm
 have e1:ns[i]?=some n:=by rw [aR hi,e]
 obtain ⟨C,h1,h2⟩:=N.at i n e1
 rw [<- hn,aP,e1] at h1
 cases h1
 exact ko X G h2.ns
theorem JC {K:a8}{base:bt}{mg:Str->Option a9}{cls:Str->ah}{x:Str}{C CP:ah}{ns:List Str}{Cs:List ah}{l:List (ah×Bool)}{j:Nat} (X:K.In base) (G:base.Ns bM mg) (T:TopC K x C) (W:Wy K C CP l) (N:SY K ns Cs)
  (hc:cls x=C) (hp:cls "PlanError"=CP) (hn:ns.map cls=Cs) (hl:l.map (·.1)=Cs) (hb:l.map (·.2)=bits j) (hj:j<11) (hx:x∈ns):Xf K base cls ns (cls x) j:=by
 obtain ⟨bm,o,mm⟩:=(Hy X G T.ns T.ex T.mb).2
 subst hc hp
 have hcl:(h_ K (cls x)).isSome=true:=by
  obtain ⟨i,hi,e⟩:=fz hx
  have e1:ns[i]?=some x:=by rw [aR hi,e]
  obtain ⟨C,h1,h2⟩:=N.at i x e1
  rw [<- hn,aP,e1] at h1
  cases h1
  obtain ⟨cd,h3⟩:=h2.cl
  rw [h3];rfl
 refine ⟨⟨W.x1,W.x2,W.x3,W.x4,W.x5,W.x6,T.mb,hcl⟩,fun i n e=>?_,U9 W.x8,⟨bm,o,mm _ W.x9 W.x7⟩,hj⟩
 obtain ⟨D,h1,h2⟩:=N.at i n e
 have h3:Cs[i]?=some (cls n):=by rw [<- hn,aP,e];rfl
 rw [h1] at h3
 cases h3
 obtain ⟨cd,h4⟩:=h2.cl
 have hi:l[i]?≠none:=fun z=>by
  rw [<- hl,aP,z] at h1
  cases h1
 cases hq:l[i]? with
 | none=>exact (hi hq).elim
 | some q =>
  obtain ⟨D,b⟩:=q
  have e1:D=cls n:=by rw [<- hl,aP,hq] at h1;cases h1;rfl
  have e2:(bits j)[i]?=some b:=by rw [<- hb,aP,hq];rfl
  subst e1
  obtain ⟨s1,s2⟩:=W.sb.at i _ b hq
  have e3:b=decide (i=j):=by
   unfold bits at e2
   match i,e2 with
   | 0,e | 1,e | 2,e | 3,e | 4,e | 5,e | 6,e | 7,e | 8,e | 9,e | 10,e=>simpa using e.symm
   | (i + 11),e=>simp at e
  rw [<- e3]
  exact QS h4 h2.ty s1 s2
end
end J
section
namespace L2
open PySem PySem.Spec PyProof.Rows
section
variable {prog:aO}{w:bd}{A:bg}{E:a9->af->Prop}{s:af}{it d:ah}{i n ep:Nat}{o:Obj}{es:Array Cf}
theorem R1 {Q:Option a9->af->Prop}{e:Cf} (hit:s.heap.IsKeyIter it d i es.size ep) (hd:s.heap.get? d=some o) (ho:o.data=.dict es ep) (he:es[i]?=some e)
  (h:∀ h':bt,h'.IsKeyIter it d (i + 1) es.size ep->bF it s.heap h'->Q (some e.key) { s with heap:=h' }) :
  aq (aL prog w) A (jw (.ref it)) Q E s:=by
 obtain ⟨⟨c0,d0,dt,sl⟩,q1,q2,q3⟩:=id hit
 simp only at q2 q3
 subst q2 q3
 unfold jw
 refine a7 (iP ?_)
 refine cn (name:=gF "__next__") hit.typeIs fK ?_
 refine c8 fK hit.typeIs s_ ?_ (sM _)
 refine a7 (eg (a:=.ref it) rfl ?_)
 refine a7 (a7 (a7 (ii hit.typeIs (ae ?_))))
 refine a7 (GG q1 rfl ?_)
 show aq _ _ (if (bL d == dW)=true then _ else _) _ _ s
 rw [if_neg (by simp)]
 refine a7 (eg (a:=d) rfl ?_)
 refine a7 (Ay hd ho ?_)
 show aq _ _ (if ((es.size:Int) != (es.size:Int))=true then _ else _) _ _ s
 rw [if_neg (by simp)]
 refine a7 (eg (a:=d) rfl ?_)
 refine a7 (E3 hd ho ?_)
 show aq _ _ (if ((ep:Int) != (ep:Int))=true then _ else _) _ _ s
 rw [if_neg (by simp)]
 refine ae ?_
 have e0:(if (i:Int)<0 then none else es[(i:Int).toNat]?)=some e:=by
  rw [if_neg (by omega)]
  simpa using he
 simp only [e0]
 refine a7 (a7 (ii hit.typeIs (ae ?_)))
 refine a7 (Pr hit.typeIs ?_)
 refine a7 (gq q1 rfl (by simp [lN]) ?_)
 have st:∀ k x,k=1->x=cg ((i:Int) + 1)->(s.heap.update it (el (·.setIfInBounds k x))).IsKeyIter it d (i + 1) es.size ep:=fun k x hk hx=>by
  subst hk hx
  have q:=fV (el (·.setIfInBounds 1 (cg ((i:Int) + 1)))) q1 rfl
  refine ⟨_,q,rfl,?_⟩
  show Data.fields ((#[.ref d,.int i 0,.int es.size 0,.int ep 0] : Array a9).setIfInBounds 1 (cg ((i:Int) + 1)))=_
  simp [cg]
 have st1:=st _ _ rfl rfl
 refine a7 (cr (a7 (Pr st1.typeIs ?_)))
 refine ae ?_
 exact ae ⟨_,rfl,ae (h _ st1 (bI ..))⟩
theorem Um {Q:Option a9->af->Prop} (hh:A.handled=none) (hit:s.heap.IsKeyIter it d i es.size ep) (hd:s.heap.get? d=some o) (ho:o.data=.dict es ep) (he:es.size<=i)
  (h:∀ h':bt,IG it s.heap h'->Q none { s with heap:=h' }) :
  aq (aL prog w) A (jw (.ref it)) Q E s:=by
 obtain ⟨⟨c0,d0,dt,sl⟩,q1,q2,q3⟩:=id hit
 simp only at q2 q3
 subst q2 q3
 unfold jw
 refine a7 (iP ?_)
 refine cn (name:=gF "__next__") hit.typeIs fK ?_
 refine c8 fK hit.typeIs s_ ?_ (sM _)
 refine a7 (eg (a:=.ref it) rfl ?_)
 refine a7 (a7 (a7 (ii hit.typeIs (ae ?_))))
 refine a7 (GG q1 rfl ?_)
 show aq _ _ (if (bL d == dW)=true then _ else _) _ _ s
 rw [if_neg (by simp)]
 refine a7 (eg (a:=d) rfl ?_)
 refine a7 (Ay hd ho ?_)
 show aq _ _ (if ((es.size:Int) != (es.size:Int))=true then _ else _) _ _ s
 rw [if_neg (by simp)]
 refine a7 (eg (a:=d) rfl ?_)
 refine a7 (E3 hd ho ?_)
 show aq _ _ (if ((ep:Int) != (ep:Int))=true then _ else _) _ _ s
 rw [if_neg (by simp)]
 refine ae ?_
 have e0:(if (i:Int)<0 then none else es[(i:Int).toNat]?)=none:=by
  rw [if_neg (by omega)]
  simpa using he
 simp only [e0]
 refine a7 (a7 (ii hit.typeIs (ae ?_)))
 refine a7 (gq q1 rfl (by simp [lN]) ?_)
 show aq _ _ (tH (.type "StopIteration") [] >>= _) _ _ _
 refine a7 ?_
 simp only [tH,PH]
 refine a7 (bW ?_ (by size_fits))
 refine a7 (m:=k_ _ _) (eg (a:=dW) ?_ ?_)
 ·first
   | rfl
   | (simp only [k_];rfl)
 refine bW ?_ (by size_fits)
 simp only [sJ]
 refine a7 (Ki ?_)
 rw [show A.in1.handled=none from hh]
 refine a7 (ae (PJ ?_))
 refine a7 (i5 (T:="StopIteration") (b:=true) ⟨_,az _ rfl,rfl⟩ vW ?_)
 exact ae (h _ (((bI ..).extBut.push _).push _))
theorem Uo {Q:a9->af->Prop} (hs:(d == gd)=false) (hd:s.heap.get? d=some o) (hx:o.ExactDict) (ho:o.data=.dict es ep)
  (h:Q (.ref s.heap.objs.size) { s with heap:=s.heap.push { cls:=.type "dict_keyiterator",data:=.fields #[.ref d,.int 0 0,.int es.size 0,.int ep 0] } }) :
  aq (aL prog w) A (yo (.ref d)) Q E s:=by
 have ty:s.TypeIs (.ref d) "dict":=⟨o,hd,hx.1⟩
 refine At ty Ck (c8 Ck ty PySem.F.entry_dict_iter ?_ (PySem.F.args_dict_iter_1 _))
 refine a7 (a7 (Pq ty (a7 (eg (a:=(bL d,[])) rfl (ae ?_)))))
 refine a7 (eg (a:=d) rfl ?_)
 refine a7 (eg (a:=()) (by unfold Builtin.Dict.showsAll;rw [hs];rfl) ?_)
 refine a7 (Ay hd ho ?_)
 refine a7 (E3 hd ho ?_)
 refine a7 (bW ?_ (by size_fits))
 exact ae ⟨_,rfl,"dict_keyiterator",_,⟨_,az _ rfl,rfl⟩,PySem.F.slot_dict_keyiterator_next.lookup,h⟩
end
def Yd (a:ah) (o:Obj) (kvs:List (List cR×V)):It :=
 ⟨fun i H=>H a=some (.frz o (.dT kvs))/\i<kvs.length,fun i H x H'=>H'=H/\∃ k v b,kvs[i]?=some (k,v)/\x=.ref b/\H b=some (.tup (k.map kV)),fun i H=>H a=some (.frz o (.dT kvs))/\kvs.length<=i⟩
theorem Ld {α β:Type}{F:α->β->Prop}{l:List α}{m:List β} (h:Go F l m):∀ {i:Nat}{x:α},l[i]?=some x->∃ y,m[i]?=some y/\F x y:=by
 induction h with
 | nil=>intro i x e;simp at e
 | cons a _ ih =>
  intro i x e
  cases i with
  | zero=>cases e;exact ⟨_,rfl,a⟩
  | succ i=>exact ih e
theorem zx {P:aO}{w:bd}{H:Hp}{h:bt}{a:ah}{o:Obj}{kvs:List (List cR×V)} (ok:qo P w H h) (e:H a=some (.frz o (.dT kvs))):(a == gd)=false/\h.get? a=some o/\o.ExactDict/\∃ es ep,o.data=.dict es ep/\es.size=kvs.length /\
  ∀ (i:Nat) (k:List cR) (v:V),kvs[i]?=some (k,v)->∃ (en:Cf) (b:ah),es[i]?=some en/\en.key=bL b/\H b=some (.tup (k.map kV)):=by
 obtain ⟨h0,z,y,xs,r,o',es,ep,h1,h2,h3,h4,h5⟩:=(show db P w H h a (.frz o (.dT kvs)) from ok a _ e)
 rw [h0] at h1
 cases h1
 refine ⟨y,h0,h2,es,ep,h3,?_,fun i k v hk=>?_⟩
 ·rw [<- av,h4,al]
  exact (j0 r).symm
 ·obtain ⟨q,q1,q2⟩:=Ld r hk
  refine ⟨entryOfKey (sI (dv P w)) q,q.2.1,?_,?_,q2.2.1⟩
  ·rw [<- cX,h4,aP,q1]
   rfl
  ·rfl
theorem Le {P:aO}{w:bd}{K:a8}{tg:a_}{a it:ah}{o:Obj}{kvs:List (List cR×V)}{es:Array Cf}{ep:Nat} (hd:o.data=.dict es ep) (hn:es.size=kvs.length) :
  yA P w K tg (Yd a o kvs) [it] it (fun i h=>h.IsKeyIter it a i es.size ep) where
 mem:=by simp
 obj:=fun i h st b hb=>by
  have e:b=it:=by simpa using hb
  subst e
  obtain ⟨o,e,c,d⟩:=st
  exact ⟨o,e,fun v z=>by rw [d] at z;cases z⟩
 keep:=fun i h h' st k=>st.at fun o e=>k it (by simp) o e
 item:=by
  intro X hP hw hK hc i pins s σ H E I hf st hg
  subst hP hw hK
  obtain ⟨hq,hi⟩:=hg
  obtain ⟨_,g1,_,es',ep',g2,g3,g4⟩:=zx I.hok hq
  rw [hd] at g2
  cases g2
  obtain ⟨en,b,e1,e2,e3⟩:=g4 i _ _ (aR hi)
  obtain ⟨f0,f1,f2,f3,f4,f5⟩:=hf it (by simp)
  refine R1 st g1 hd e1 fun h' st' sb=>?_
  have I1:bG X pins σ H { s with heap:=h' }:=I.turned (t':=s.toks) (fun b o hb e=>(sb.2 b hb).trans e) f0 f1 f3 f4 f5
  obtain ⟨o',e,c,d⟩:=id st'
  refine ⟨_,rfl,IM (s:={ s with heap:=h' }) e c d (by decide) ⟨.ref b,H,I1,?_,⟨rfl,_,_,b,aR hi,rfl,e3⟩,st',fun b hb=>(hf b hb).1⟩⟩
  rw [e2]
  rfl
 done:=by
  intro X hP hw hK hc i pins s σ H E I hf st hg
  subst hP hw hK
  obtain ⟨hq,hi⟩:=hg
  obtain ⟨_,g1,_,es',ep',g2,g3,g4⟩:=zx I.hok hq
  obtain ⟨f0,f1,f2,f3,f4,f5⟩:=hf it (by simp)
  exact Um (I.ok.hd hc) st g1 hd (by omega) fun h' eb=>⟨rfl,I.turned (t':=s.toks) (fun b o hb e=>eb b o hb e) f0 f1 f3 f4 f5⟩
 self:=fun _ _ _ _ _ st h=>wpAny_pyIter_keyiter st h
def Wr (tl:TE):TI:=fun σ H R=>tl σ H fun x H1=>∃ a o kvs,x=.ref a/\H1 a=some (.frz o (.dT kvs))/\R (Yd a o kvs) H1
theorem R4 {X:Cx}{tg l:a_}{tl:TE} (hl:PE X l tl):PI X tg l (Wr tl):=by
 intro pins s σ H R I h
 refine fm (hl pins s σ H _ I h) fun v s1 h1=>?_
 obtain ⟨x,H1,I1,r1,q1⟩:=h1
 obtain ⟨a,o,kvs,e,hq,q⟩:=q1
 subst e
 cases r1
 obtain ⟨y,g1,g0,es,ep,g2,g3,g4⟩:=zx I1.hok hq
 refine Uo y g1 g0 g2 ?_
 refine ⟨s1.heap.objs.size,[s1.heap.objs.size],_,_,H1,rfl,I1.kept (t':=s1.toks) fun b o e=>ag _ e,Le g2 g3,⟨_,az _ rfl,rfl,rfl⟩,fun b hb=>?_,q⟩
 rw [List.mem_singleton.mp hb]
 exact I1.fpOk (ar _) (I1.hok.fresh (ar _))
def Z4 (tk tv:TE):TE:=fun σ H Q=>∀ p,H p=none->tk σ (upd H p (.dT [])) fun y H1=>tv σ H1 fun v H2=>∃ kvs k b,H2 p=some (.dT kvs)/\y=.ref b/\H2 b=some (.tup (k.map kV))/\kvs.length<sizeLine/\Q (.ref p) (upd H2 p (.dT (kG kvs k v)))
theorem Oq {X:Cx}{k v:a_}{pos:Pos}{tk tv:TE} (hu:X.A.units + 1<kj) (hk:PE X k tk) (hv:PE X v tv):PE X (.Dict [some k] [v] pos) (Z4 tk tv):=by
 intro pins s σ H Q I h
 refine wpAny_Dict_any rfl rfl (by simp) (by simp) ?_
 have I0:bG X pins σ (upd H s.heap.objs.size (.dT [])) { s with heap:=s.heap.push { cls:=.type "dict",data:=.dict #[] } }:=I.laid (a:=s.heap.objs.size) (o:=.dT []) (t':=s.toks) (fun _ _ q=>ag _ q) (ar _) (ML s.heap I.big)
 have h0:=h s.heap.objs.size (I.hok.fresh (ar _))
 simp only [pairTrees,evalPairs]
 refine a7 (fm (hk pins _ σ _ _ I0 h0) fun u1 s1 h1=>?_)
 obtain ⟨y,H1,I1,r1,q1⟩:=h1
 refine a7 (cr (a7 (fm (hv pins s1 σ H1 _ I1 q1) fun u2 s2 h2=>?_)))
 obtain ⟨z,H2,I2,r2,q2⟩:=h2
 obtain ⟨kvs,ks,b,e1,e2,e3,e4,q⟩:=q2
 refine a7 (iM (ae ?_))
 refine a7 (cr (ae (ae ?_)))
 subst e2
 cases r1
 unfold storeAll
 simp only [jq,m_,bind_assoc]
 obtain ⟨z1,hd,xs,rel,dd⟩:=S1 I2.hok e1
 have hz:xs.length<=sizeLine:=by rw [<- j0 rel];exact z1
 have hl:(kG kvs ks z).length<=sizeLine:=by have:=ni kvs ks z;omega
 refine a7 (wpAny_dictSet_heap (by show X.A.units<kj;omega) (wf I2.hok e3) dd (fun h' dd' hs=>?_) hz)
 obtain ⟨o',es,ep,hq,g2,g3,g4,_,g5⟩:=dd'
 have I3:=CA (t':=s2.toks + (sI (dv X.prog X.w)).draws ks) I2 (by rw [e1];exact iN) hs ⟨o',hq⟩ (ob:=.dT (kG kvs ks z)) ⟨hl,hd,_,(rel.put ks e3 r2).keeps fun c ys ec=>(by rw [aS (Me ec e1 (fun z=>nomatch z))];exact ec),o',es,ep,hq,g2,g3,g4,g5⟩
 exact ae ⟨.ref s.heap.objs.size,_,I3,rfl,q⟩
end L2
namespace J
open PySem L2
def keysOf:List D->Option (List cR)
 | []=>some []
 | d::r=>(oI d).bind fun k=>(keysOf r).map (k::·)
def qt:D->Option (List cR)
 | .tuple ds=>keysOf ds
 | _=>none
theorem BQ:∀ {ds:List D}{ks:List cR},keysOf ds=some ks->ds=ks.map kD
 | [],ks,h=>by cases h;rfl
 | d::r,ks,h=>by
  unfold keysOf at h
  cases hk:oI d with
  | none=>rw [hk] at h;cases h
  | some y =>
   rw [hk,oV] at h
   cases hr:keysOf r with
   | none=>rw [hr] at h;cases h
   | some l =>
    rw [hr] at h
    cases h
    rw [aI,<- vg hk,<- BQ hr]
theorem vm {d:D}{ks:List cR} (h:qt d=some ks):d=tD ks:=by
 cases d<;>first | (cases h;done) | skip
 rename_i ds
 unfold tD
 rw [<- BQ (show keysOf ds=some ks from h)]
theorem BR:∀ ks:List cR,keysOf (ks.map kD)=some ks
 | []=>rfl
 | k::r=>by rw [aI,keysOf,keyOf_of,BR r];rfl
theorem Os (ks:List cR):qt (tD ks)=some ks:=BR ks
theorem JD:∀ a b:List cR,eU (a.map kD) (b.map kD)=decide (a=b)
 | [],[]=>by simp [eU]
 | [],_::_=>by simp [eU]
 | _::_,[]=>by simp [eU]
 | x::a,y::b=>by
  rw [aI,aI]
  simp only [eU]
  rw [CZ,JD a b]
  by_cases h:x=y<;>by_cases h2:a=b<;>simp [h,h2]
theorem D7 (a b:List cR):bf (tD a) (tD b)=decide (a=b):=by
 unfold tD
 simp only [bf]
 exact JD a b
theorem RDt.any {K:a8}{H:Hp}{kvs:List (List cR×V)} (y:List cR):∀ {ds:List (D×D)},RDt K H kvs ds->(ds.any fun kv=>bf kv.1 (tD y))=kvs.any fun kv=>decide (kv.1=y):=by
 induction kvs with
 | nil=>intro ds h;cases h;rfl
 | cons x r ih=>intro ds h;cases h with | cons h t=>rw [ef,ef,ih t,D7]
theorem RDt.repl {K:a8}{H:Hp} (y:List cR) {v:V}{d:D} (rv:RD K H v d) {kvs:List (List cR×V)}:∀ {ds:List (D×D)},RDt K H kvs ds ->
  RDt K H (kvs.map fun kv=>if kv.1=y then (kv.1,v) else kv) (ds.map fun kv=>if bf kv.1 (tD y) then (kv.1,d) else kv):=by
 induction kvs with
 | nil=>intro ds h;cases h;exact .nil
 | cons x r ih =>
  intro ds h
  cases h with
  | @cons k _ _ _ _ h t =>
   rw [aI,aI]
   have e:=D7 k y
   by_cases hk:k=y
   ·subst hk
    rw [show (if k=k then (k,v) else (k,_))=(k,v) from if_pos rfl,show (if bf (tD k) (tD k)=true then (tD k,d) else (tD k,_))=(tD k,d) from if_pos (by rw [e];simp)]
    exact .cons rv (ih t)
   ·simp only [e,hk,if_neg,decide_false,c7,not_false_eq_true]
    exact .cons h (ih t)
theorem RDt.snoc {K:a8}{H:Hp} (y:List cR) {v:V}{d:D} (rv:RD K H v d) {kvs:List (List cR×V)}:∀ {ds:List (D×D)},RDt K H kvs ds->RDt K H (kvs++[(y,v)]) (ds++[(tD y,d)]):=by
 induction kvs with
 | nil=>intro ds h;cases h;exact .cons rv .nil
 | cons x r ih=>intro ds h;cases h with | cons h t=>exact .cons h (ih t)
theorem RDt.put {K:a8}{H:Hp}{kvs:List (List cR×V)}{ds:List (D×D)} (r:RDt K H kvs ds) (y:List cR) {v:V}{d:D} (rv:RD K H v d):RDt K H (kG kvs y v) (sR ds (tD y) d):=by
 unfold kG sR
 rw [r.any y]
 split
 ·exact r.repl y rv
 ·exact r.snoc y rv
theorem Up {κ:Type} [DecidableEq κ] {kvs:List (κ×V)}{y:κ}{v:V}:kG kvs y v≠[]:=by
 unfold kG
 split
 ·rename_i h
  intro z
  have:=List.map_eq_nil_iff.mp z
  subst this
  cases h
 ·simp
theorem RDt.val {K:a8}{H:Hp}{kvs:List (List cR×V)} (y:List cR):∀ {ds:List (D×D)},RDt K H kvs ds->(oG kvs y=none/\li ds (tD y)=none)\/∃ v d,oG kvs y=some v/\li ds (tD y)=some d/\RD K H v d:=by
 induction kvs with
 | nil=>intro ds h;cases h;exact .inl ⟨rfl,rfl⟩
 | cons x r ih =>
  intro ds h
  cases h with
  | @cons k _ _ _ _ h t =>
   unfold oG li
   rw [cc,cc,D7]
   by_cases hk:k=y
   ·simp only [hk,decide_true,dn]
    exact .inr ⟨_,_,rfl,rfl,h⟩
   ·simp only [hk,decide_false]
    exact ih t
def JF:List (D×D)->List (D×D)
 | (.none,_)::r=>r
 | l=>l
def jH (ds:List (D×D)):Bool:=!ds.isEmpty && ds.all fun kv=>(qt kv.1).isSome
theorem RDk.notT {K:a8}{H:Hp}{kvs:List (cR×V)}{ds:List (D×D)} (h:RDk K H kvs ds) (e:jH (JF ds)=true):False:=by
 cases h with
 | nil=>cases e
 | @cons k _ _ _ _ h t =>
  cases k<;>simp [JF,jH,kD,qt] at e
theorem RDt.un {K:a8}{H:Hp}{kvs:List (List cR×V)}{ds:List (D×D)} (h:RDt K H kvs ds):JF ds=ds:=by
 cases h<;>rfl
theorem ye {K:a8}{H Hs:Hp}{v:V}{ks:List cR} (sub:dB Hs H) (h:RB K H Hs v (tD ks)):∃ b,v=.ref b/\H b=some (.tup (ks.map kV)):=by
 rcases h with h | ⟨_,o,rfl,_,_,ow⟩
 ·cases h with
  | tuple q r =>
   have:=x_ (c:=kD) (k:=kV) (fun h=>D0 h) r
   subst this
   exact ⟨_,rfl,sub _ _ q⟩
 ·cases ow
theorem JH {K:a8}{H Hs:Hp}{v:V}{ds:List (D×D)} (sub:dB Hs H) (h:RB K H Hs v (.dict ds)) (e:jH (JF ds)=true):∃ a kvs,v=.ref a/\RDt K Hs kvs (JF ds)/\∀ (b:ah) (k:List cR),H b=some (.tup (k.map kV))->xE H a (.ref b) (oG kvs k):=by
 obtain ⟨a,ea,hh⟩:=h.dict sub
 clear h
 subst ea
 rcases hh with ⟨kvs,h1,h2⟩ | ⟨kvs,h1,hn,h2⟩ | ⟨o,kvs,es,rfl,h1,hn,h2⟩
 ·exact (h2.notT e).elim
 ·exact ⟨a,kvs,rfl,by rw [h2.un];exact h2,fun b k hb=>xE.t h1 hb⟩
 ·exact ⟨a,kvs,rfl,h2,fun b k hb=>.inr ⟨kvs,k,b,.inr ⟨o,h1⟩,rfl,hb,rfl⟩⟩
def D8:D->D->R D
 | .dict ds,k=>match qt k with
  | some _=>if jH (JF ds)=true then (match li (JF ds) k with
   | some d=>.ok d
   | none=>.no) else .no
  | none=>.no
 | _,_=>.no
section
variable {c:C}{a b e k:a_}{ga gb g gk:au->R D}{pos p apos:Pos}{x:Str}
theorem ww (hu:c.X.A.units + 1<kj) (ha:JB c a ga) (hb:JB c b gb) (hs:uS b:=by exact fun _ _=>rfl):JE c (.Subscript a b pos) (g2 ga gb D8):=.of fun ρ=>by
 refine qA (IU hu (ha ρ) (hb ρ) hs) fun σ H Q h_2=>?_
 obtain ⟨H0,Hs0,la,Hs,f,q⟩:=h_2
 refine one f q fun d v H1 Hs1 e1 s1 f1 r1=>?_
 unfold g2 at q
 rw [e1,bind_ok] at q
 refine one f1 (q.on s1 (q':=fun _=>True) fun _ _=>trivial) fun y w H2 Hs2 e2 s2 f2 r2=>?_
 rw [e2,bind_ok] at q
 unfold D8 at q
 split at q
 ·rename_i ds
  split at q
  ·rename_i ky hy
   obtain rfl:=vm hy
   by_cases hf:jH (JF ds)=true
   ·rw [if_pos hf] at q
    obtain ⟨p,kvs,rfl,h2,h3⟩:=JH f2.st.sub (r1.step s2) hf
    obtain ⟨b,rfl,hb⟩:=ye f2.st.sub r2
    rcases h2.val ky with ⟨_,h4⟩ | ⟨u,d,h4,h5,h6⟩
    ·rw [h4] at q;exact q.elim
    ·rw [h5] at q
     exact ⟨p,u,rfl,by rw [<- h4];exact h3 b ky hb,q _ H2 Hs2 (s1.trans s2) h6⟩
   ·rw [if_neg hf] at q;exact q.elim
  ·exact q.elim
 ·exact q.elim
def inT (neg:Bool):D->D->R D
 | k,.dict ds=>match qt k with
  | some _=>if jH (JF ds)=true then .ok (.bool (if neg then !(li (JF ds) k).isSome else (li (JF ds) k).isSome)) else .no
  | none=>.no
 | _,_=>.no
theorem wx (hu:c.X.A.units + 1<kj):xH c.X (bH .NotIn) (inT true):=by
 refine ⟨fun pins s σ H x y v u Q I rv ru h=>?_,fun x y c n=>?_⟩
 ·obtain ⟨Hs,dx,dy,sub,rx,ry,d,hd,q⟩:=h
  unfold inT at hd
  split at hd
  ·rename_i ds
   split at hd
   ·rename_i ky hy
    obtain rfl:=vm hy
    split at hd
    ·rename_i hf
     cases hd
     obtain ⟨p,kvs,rfl,h2,h3⟩:=JH sub ry hf
     obtain ⟨b,rfl,hb⟩:=ye sub rx
     cases ru
     refine L2.Qn hu I (h3 b ky hb) rv fun s' I'=>⟨.bl _,H,I',rfl,?_⟩
     have e:(oG kvs ky).isSome=(li (JF ds) (tD ky)).isSome:=by
      rcases h2.val ky with ⟨h4,h5⟩ | ⟨u,d,h4,h5,h6⟩<;>rw [h4,h5]<;>rfl
     rw [e]
     exact q _ H Hs (.refl sub) (.bool _)
    ·cases hd
   ·cases hd
  ·cases hd
 ·unfold inT
  split<;>(try split)<;>(try split)<;>exact fun h=>by cases h
def qu (i:Nat) (gk g:au->R D):au->R Fl:=fun ρ=>match ρ[i]? with
 | some (Sl.own (.dict kvs))=>(g ρ).bind fun d=>(gk ρ).bind fun k=>match qt k with
  | some _=>if kvs.length<1000/\jH kvs=true then .ok (.nx (ρ.set i (.own (.dict (sR kvs k d))))) else .no
  | none=>.no
 | _=>.no
theorem zy (i:Nat) (h:JE c e g) (hk:JE c k gk) (hu:c.X.A.units + 1<kj) (hN:c.X.N[i]?=some x:=by rfl) (hv:Kr c.X.env.scope x:=by first | exact fv rfl | exact dD (fv rfl) | exact dD (dD rfl)) (hd:(x == ("__debug__" : Str))=false:=by decide)
  (hcd:(x == ("__classdict__" : Str))=false:=by decide) (hs:gL e (some (.Subscript (.Name x p) k apos)) pos.line c.X.env=pure false:=by rfl):JS c (.Assign [.Subscript (.Name x p) k apos] e pos) (qu i gk g):=.of fun ρ=>by
 refine y0 (IV hu (lY hN hv hd hcd) (hk ρ) (h ρ) hs) fun D σ H h_1=>?_
 obtain ⟨H0,Hs0,la,Hs,f,q⟩:=h_1
 replace q:oa c.X.K c.cls c.E H0 Hs0 la D (qu i gk g ρ):=q
 unfold qu at q
 split at q
 ·rename_i kvs ho
  obtain ⟨a,o,k1,k2,k3,k4,k5⟩:=f.ow i _ ho
  refine sE f q fun d v H1 Hs1 e1 s1 f1 r1=>?_
  rw [e1,bind_ok] at q
  refine ⟨_,k1,sE f1 q fun y w H2 Hs2 e2 s2 f2 r2=>?_⟩
  rw [e2,bind_ok] at q
  split at q
  ·rename_i ky hy
   obtain rfl:=vm hy
   by_cases hl:kvs.length<1000/\jH kvs=true
   ·rw [if_pos hl] at q
    cases k5 with
    | dK r=>exact (r.notT (by cases r with | nil=>exact hl.2 | @cons k _ _ _ _ _ _=>cases k<;>exact hl.2)).elim
    | dF n r=>cases hl.2
    | dT n r =>
     have ha:=s2.all _ _ (s1.all _ _ k2)
     have r':=(r.same s1.sh).same s2.sh
     obtain ⟨b,rfl,hb⟩:=ye f2.st.sub (.inl r2)
     exact ⟨a,_,rfl,Ei.t ha hb (cA (by rw [r.length];omega)),q _ _ Hs2 (f2.write i ho k1 (.dT Up (r'.put ky (r1.same s2.sh))))⟩
   ·rw [if_neg hl] at q;exact q.elim
  ·exact q.elim
 ·exact q.elim
end
end J
namespace J
open PySem L2
def kL (i:Nat) (ρ:au):au:=match ρ[i]? with
 | some (Sl.own (.dict ((.tuple ks,v)::r)))=>ρ.set i (.own (.dict ((.none,.none)::(.tuple ks,v)::r)))
 | _=>ρ
theorem R5 {X:Cx}{pins:List (ah×Obj)}{σ:St}{H:Hp}{s:af}{a:ah}{kvs:List (List cR×V)} (I:bG X pins σ H s) (h:H a=some (.dT kvs)):∃ o,bG X pins σ (upd H a (.frz o (.dT kvs))) s:=by
 obtain ⟨z,y,xs,pr,o,es,ep,e1,e2,e3,e4,e5⟩:=(show db X.prog X.w H s.heap a (.dT kvs) from I.hok a _ h)
 have new:db X.prog X.w (upd H a (.frz o (.dT kvs))) s.heap a (.frz o (.dT kvs)) :=
  ⟨e1,z,y,xs,Paired.mapP pr fun p q w=>⟨w.1,by rw [aS (Me w.2.1 h (fun z=>nomatch z))];exact w.2.1,w.2.2⟩,o,es,ep,e1,e2,e3,e4,e5⟩
 have:=I.write (x:=a) (e:=a) (h':=s.heap) (t':=s.toks) (by rw [h];trivial) (.inl rfl) (fun b u _ q=>q) ⟨o,e1⟩ new
 exact ⟨o,this⟩
theorem Wt {X:Cx}{st:cp}{t:TS} (h:PS X st t):PS X st (fun D σ H=>t D σ H\/∃ a kvs,H a=some (.dT kvs)/\∀ o,t D σ (upd H a (.frz o (.dT kvs)))):=fun pins s σ H D I q=>by
 rcases q with q | ⟨a,kvs,ha,q⟩
 ·exact h pins s σ H D I q
 ·obtain ⟨o,I'⟩:=R5 I ha
  exact h pins s σ _ D I' (q o)
theorem Uq {c:C} (i:Nat) {st:cp}{gs:au->R Fl} (h:JS c st gs):JS c st (fun ρ=>gs (kL i ρ)):=.of fun ρ=>y0 (Wt (h (kL i ρ))) fun D' σ H hh=>by
 obtain ⟨H0,Hs0,la,Hs,f,q⟩:=hh
 by_cases hx:∃ ks v r,ρ[i]?=some (Sl.own (.dict ((.tuple ks,v)::r)))
 ·obtain ⟨ks,v,r,ho⟩:=hx
  have e:kL i ρ=ρ.set i (.own (.dict ((.none,.none)::(.tuple ks,v)::r))):=by unfold kL;rw [ho]
  obtain ⟨a,o,k1,k2,k3,k4,k5⟩:=f.ow i _ ho
  generalize hd:Gj ((.tuple ks,v)::r)=d0 at k5
  cases k5 with
  | lst r=>cases hd
  | dK rk =>
   cases hd
   generalize hd:((.tuple ks,v)::r:List (D×D))=d1 at rk
   cases rk with
   | nil=>cases hd
   | @cons k _ _ _ _ _ _=>cases k<;>cases hd
  | dF n r=>cases hd
  | dT n r =>
   cases hd
   exact .inr ⟨a,_,k2,fun o=>⟨H0,Hs0,la,Hs,by rw [e];exact f.write i ho k1 (.dF n r),q⟩⟩
 ·have e:kL i ρ=ρ:=by
   unfold kL
   split
   ·rename_i ks v r ho;exact (hx ⟨ks,v,r,ho⟩).elim
   ·rfl
  refine .inl ⟨H0,Hs0,la,Hs,by rw [e];exact f,q⟩
def D9:D->R (List D)
 | .dict ((.none,.none)::ds)=>.ok (ds.map (·.1))
 | _=>.no
def F6 (g:au->R D):au->R (List D):=fun ρ=>(g ρ).bind D9
theorem RDt.get {K:a8}{H:Hp}{kvs:List (List cR×V)}:∀ {ds:List (D×D)}{i:Nat}{k:List cR}{v:V},RDt K H kvs ds->kvs[i]?=some (k,v)->∃ d,ds[i]?=some (tD k,d):=by
 induction kvs with
 | nil=>intro ds i k v h e;simp at e
 | cons x r ih =>
  intro ds i k v h e
  cases h with
  | cons h t =>
   cases i with
   | zero=>cases e;exact ⟨_,rfl⟩
   | succ i=>have q:=ih (i:=i) t e;exact q
theorem Ot {K:a8}{H:Hp}:∀ ks:List cR,RDs K H (ks.map kV) (ks.map kD)
 | []=>.nil
 | k::r=>.cons (by cases k<;>constructor) (Ot r)
theorem R6 {K:a8}{Hn Hs:Hp}{a:ah}{o:Obj}{kvs:List (List cR×V)}{ds:List (D×D)} (h:Hn a=some (.frz o (.dT kvs))) (r:RDt K Hs kvs ds):No K (Yd a o kvs) (ds.map (·.1)) Hn Hs:=fun H2 Hs2 e1 e2 e3=>by
 have q:=e1 _ _ h
 have hl:=r.length
 refine ⟨fun i hi=>⟨q,?_⟩,fun i hi=>⟨q,?_⟩,fun i x H3 hi y=>?_⟩
 ·rw [al] at hi;omega
 ·rw [al] at hi;omega
 ·obtain ⟨rfl,k,v,b,y1,rfl,y3⟩:=y
  obtain ⟨d,y4⟩:=r.get y1
  have same:dB Hs2 (upd Hs2 b (.tup (k.map kV))):=fun c u e=>by
   by_cases hc:c=b
   ·subst hc
    have:=e3 _ _ e
    rw [y3] at this
    cases this
    exact aW
   ·rw [aS hc];exact e
  refine ⟨tD k,upd Hs2 b (.tup (k.map kV)),by rw [aP,y4];rfl,⟨.refl _,same,fun c u e=>?_,fun c u e t z=>?_⟩,.tuple aW (Ot k)⟩
  ·by_cases hc:c=b
   ·subst hc;rw [aW] at e;cases e;exact y3
   ·rw [aS hc] at e;exact e3 _ _ e
  ·by_cases hc:c=b
   ·subst hc;rw [y3] at e;cases e;cases t
   ·rw [aS hc];exact z
section
variable {c:C}{tg l k v e:a_}{g gk gv:au->R D}{pos:Pos}
theorem yf (h:JB c l g):JI c tg l (F6 g):=.of fun ρ=>by
 refine Ja (R4 (h ρ)) fun σ H Q hh=>?_
 obtain ⟨H0,Hs0,la,Hs,f,q⟩:=hh
 refine one f q fun d v H1 Hs1 e1 s1 f1 r1=>?_
 unfold F6 at q
 rw [e1,bind_ok] at q
 unfold D9 at q
 split at q
 ·obtain ⟨a,ea,hh⟩:=r1.dict f1.st.sub
  rcases hh with ⟨kvs,h1,h2⟩ | ⟨kvs,h1,hn,h2⟩ | ⟨o,kvs,es,he,h1,hn,h2⟩
  ·generalize hd:((.none,.none)::_:List (D×D))=d0 at h2
   cases h2 with
   | nil=>cases hd
   | @cons k _ _ _ _ _ _=>cases k<;>cases hd
  ·generalize hd:((.none,.none)::_:List (D×D))=d0 at h2
   cases h2<;>cases hd
  ·cases he
   exact ⟨a,o,kvs,ea,h1,q _ H1 Hs1 H1 s1 (.refl _) (R6 h1 h2)⟩
 ·exact q.elim
def Pw (gk gv:au->R D):au->R D:=fun ρ=>(gk ρ).bind fun k=>(gv ρ).bind fun v=>match qt k with
 | some _=>.ok (.dict [(k,v)])
 | none=>.no
theorem zz (hu:c.X.A.units + 1<kj) (hk:JE c k gk) (hv:JE c v gv):JN c (.Dict [some k] [v] pos) (Pw gk gv):=.of fun ρ=>by
 refine qA (Oq hu (hk ρ) (hv ρ)) fun σ H Q hh=>?_
 obtain ⟨H0,Hs0,la,Hs,f,q⟩:=hh
 intro p hp
 have sm:cT H Hs (upd H p (.dT [])) Hs:=.mine f.st.sub hp
 have np:Hs p=none:=f.st.sub.free hp
 unfold Pw at q
 refine yT (f.step sm) (q.on sm (q':=fun _=>True) fun _ _=>trivial) fun y w H1 Hs1 e1 s1 f1 r1=>?_
 rw [e1,bind_ok] at q
 refine yT f1 (q.on (sm.trans s1) (q':=fun _=>True) fun _ _=>trivial) fun z u H2 Hs2 e2 s2 f2 r2=>?_
 rw [e2,bind_ok] at q
 split at q
 ·rename_i ky hy
  obtain rfl:=vm hy
  obtain ⟨b,rfl,hb⟩:=ye f1.st.sub (.inl r1)
  have s12:=s1.trans s2
  have hp2:H2 p=some (.dT []):=s12.all _ _ aW
  have hn2:Hs2 p=none:=s12.out _ _ aW rfl np
  let H3:Hp:=fun x=>if x=p then none else H2 x
  have h3:∀ x,x≠p->H3 x=H2 x:=fun x hx=>if_neg hx
  have st:cT H Hs H3 Hs2:=by
   refine ⟨fun x o e=>?_,s12.sh,fun x o e=>?_,fun x o e t n=>?_⟩
   ·have hx:=bj e hp
    rw [h3 x hx]
    exact s12.all _ _ (by rw [aS hx];exact e)
   ·have hx:x≠p:=fun z=>by rw [z,hn2] at e;cases e
    rw [h3 x hx]
    exact f2.st.sub _ _ e
   ·have hx:=bj e hp
    exact s12.out _ _ (by rw [aS hx];exact e) t n
  have:=q p (.dT [(ky,u)]) H3 Hs2 st (if_pos rfl) (.dT (by simp) (.cons r2 .nil))
  have e3:upd H3 p (.dT [(ky,u)])=upd H2 p (.dT (kG [] ky u)):=by
   funext x
   by_cases hx:x=p
   ·subst hx;rw [aW,aW];rfl
   ·rw [aS hx,aS hx,h3 x hx]
  rw [e3] at this
  exact ⟨[],ky,b,hp2,rfl,s2.all _ _ hb,by rw [DQ];decide,this⟩
 ·exact q.elim
def AS (g:au->R D):au->R Bool:=fun ρ=>(g ρ).bind fun d=>match d with
 | .list ds=>.ok (!ds.isEmpty)
 | _=>.no
theorem Ou (h:JB c e g) (he:∀ whole,vP e c.X.env whole=(do let v <- whole;wR e.pos;Gd [v] (truthy v)):=by intro _;rfl):JT c e (AS g):=.of fun ρ=>VH (Mv (h ρ) he) fun σ H Q hh=>by
 obtain ⟨H0,Hs0,la,Hs,f,q⟩:=hh
 refine one f q fun d v H1 Hs1 e1 s1 f1 r1=>?_
 unfold AS at q
 rw [e1,bind_ok] at q
 split at q
 ·obtain ⟨a,vs,rfl,qa,ra⟩:=r1.list f1.st.sub
  refine ⟨_,.inl ⟨vs,qa,rfl⟩,?_⟩
  cases ra with
  | nil=>exact q H1 Hs1 s1
  | cons _ _=>exact q H1 Hs1 s1
 ·exact q.elim
end
end J
namespace L2
open PySem PySem.Spec PyProof.Rows
theorem F7 {ns:List Int}:∀ {its:List a9},da (ns.map V.int) its->∀ {i:Nat}{v:a9},its[i]?=some v->∃ n t,ns[i]?=some n/\v=.int n t:=by
 induction ns with
 | nil=>intro its r i v e;cases r;simp at e
 | cons x r ih =>
  intro its rr i v e
  cases rr with
  | cons a b =>
   cases i with
   | zero=>cases e;obtain ⟨t,rfl⟩:=a;exact ⟨x,t,rfl,rfl⟩
   | succ i=>have q:=ih b (i:=i) e;exact q
theorem AT {X:Cx} (hc:X.calm=true):jb X (.builtin "min") (fun xs H Q=>∃ p,∃ ns:List Int,xs=[.ref p]/\lZ X.K H p (ns.map V.int)/\0<ns.length/\∀ m,m∈ns->(∀ a∈ns,m<=a)->Q (.int m) H):=by
 intro pins s σ H xs us Q I r h
 obtain ⟨p,ns,rfl,hq,hz,q⟩:=h
 obtain ⟨u,rfl,rx⟩:=kF r
 cases rx
 obtain ⟨its,r',pl,hl⟩:=I.list hq
 have ln:its.toArray.size=ns.length:=by have:=r'.length;simp at this ⊢;omega
 obtain ⟨o,ho,hk⟩:=pl.isList
 refine call_min_walk (iT pl.isList ⟨_,_,_,_,_,_,fun i j=>decide (ns.getD i 0<ns.getD j 0),rfl,uI (by simpa using I.ok.hd hc) _ p (aC (ap ho)) its.toArray,⟨⟨_,az _ rfl,rfl,rfl⟩,pl.isList.push _⟩,?_,?_,?_,fun v h' tk hv kp=>?_⟩)
 ·intro b hb
  simp only [bh,aV,or_false] at hb
  have hp:=ap ho
  have hs:(s.heap.push { cls:=.type "list_iterator",data:=.fields #[bL p,mP 0 0] }).objs.size=s.heap.objs.size + 1:=Array.size_push ..
  rcases hb with rfl | rfl
  ·exact Mc (d_ _) hs.symm
  ·exact Mc (fj hp) hs.symm
 ·omega
 ·refine CmpOf.ints_lt (fun i=>ns.getD i 0) fun i v hi=>?_
  obtain ⟨n,t,e1,rfl⟩:=F7 r' (i:=i) (by simpa using hi)
  exact ⟨t,by simp [dq,e1]⟩
 ·rw [ln] at hv
  obtain ⟨b1,b2⟩:=argBest_lt (fun i=>ns.getD i 0) (ns.length - 1)
  obtain ⟨n,t,e1,rfl⟩:=F7 r' (by simpa using hv)
  refine ⟨.int n,H,I.kept (t':=tk) fun b o e=>kp b o ?_ (ag _ e),⟨t,rfl⟩,q n (cO e1) fun a ha=>?_⟩
  ·simp only [dY]
   exact aC (ap e)
  ·obtain ⟨j,hj,e⟩:=fz ha
   have:=b2 j (by omega)
   simpa [dq,e1,hj,e] using this
end L2
namespace J
open PySem L2
def tZ:List D->Option (List Int)
 | []=>some []
 | .int b::r=>(tZ r).map (b::·)
 | _::_=>none
theorem F8 {ds:List D}:∀ {bs:List Int},tZ ds=some bs->ds=bs.map cm:=by
 induction ds with
 | nil=>intro bs h;cases h;rfl
 | cons d r ih =>
  intro bs h
  cases d with
  | int b =>
   have h:(tZ r).map (b::·)=some bs:=h
   cases hr:tZ r with
   | none=>rw [hr] at h;cases h
   | some z=>rw [hr] at h;cases h;rw [ih hr];rfl
  | _=>cases h
theorem zA:∀ bs:List Int,tZ (bs.map cm)=some bs
 | []=>rfl
 | b::r=>by show (tZ (r.map cm)).map (b::·)=_;rw [zA r];rfl
def R7:List Int->Int
 | []=>0
 | x::r=>r.foldl min x
theorem F9:∀ (r:List Int) (x:Int),(r.foldl min x∈x::r)/\∀ a∈x::r,r.foldl min x<=a
 | [],x=>⟨by simp,fun a ha=>by simp at ha;subst ha;exact Int.le_refl _⟩
 | y::r,x=>by
  obtain ⟨h1,h2⟩:=F9 r (min x y)
  rw [dU]
  refine ⟨?_,fun a ha=>?_⟩
  ·rcases List.mem_cons.mp h1 with h | h
   ·rw [h]
    by_cases hxy:x<=y
    ·rw [Int.min_eq_left hxy];simp
    ·rw [Int.min_eq_right (by omega)];simp
   ·exact am _ (am _ h)
  ·have h0:=h2 (min x y) ao
   rcases List.mem_cons.mp ha with h | h
   ·subst h
    exact Int.le_trans h0 (Int.min_le_left _ _)
   ·rcases List.mem_cons.mp h with h | h
    ·subst h
     exact Int.le_trans h0 (Int.min_le_right _ _)
    ·exact h2 a (am _ h)
theorem Ur {ns:List Int}{m:Int} (h1:m∈ns) (h2:∀ a∈ns,m<=a):m=R7 ns:=by
 cases ns with
 | nil=>cases h1
 | cons x r =>
  obtain ⟨k1,k2⟩:=F9 r x
  exact Int.le_antisymm (h2 _ k1) (k2 _ h1)
def HD:D->R D
 | .list ds=>match tZ ds with
  | some ns=>if 0<ns.length then .ok (.int (R7 ns)) else .no
  | none=>.no
 | _=>.no
theorem Us {X:Cx} (hc:X.calm=true):LX X (.builtin "min") (i8 HD):=by
 refine tV (fun d c n=>?_) fun pins s σ H x u Q Hs d d' I ru sub rx hd q=>?_
 ·unfold HD
  split<;>(try split)<;>(try split)<;>exact fun h=>by cases h
 ·unfold HD at hd
  split at hd
  ·split at hd
   ·split at hd
    ·rename_i ns hs hz
     cases hd
     obtain ⟨a,vs,rfl,qa,ra⟩:=rx.list sub
     rw [F8 hs] at ra
     rw [CN ra] at qa
     exact AT hc pins s σ H _ _ Q I (.cons ru .nil) ⟨a,ns,rfl,qa,hz,fun m h1 h2=>by rw [Ur h1 h2];exact q _ H Hs (.refl sub) (.int _)⟩
    ·cases hd
   ·cases hd
  ·cases hd
end J
namespace J
open PySem L2
def R8 (i:Nat) (g:au->R Fl):au->R Fl:=fun ρ=>g (kL i ρ)
theorem HE {c:C} (i:Nat) {st:cp}{gs:au->R Fl} (h:JS c st gs):JS c st (R8 i gs):=Uq i h
end J
namespace J
open PySem L2
def HF (i j:Nat):au->R Fl:=fun ρ=>match ρ[j]? with
 | some (Sl.own (.list ds))=>match ds[ds.length - 1]? with
  | some d=>.ok (.nx ((ρ.set j (.own (.list ds.dropLast))).set i (.shr d)))
  | none=>.no
 | _=>.no
theorem Da {K:a8}{H:Hp}{vs:List V}{ds:List D} (h:RDs K H vs ds):RDs K H vs.dropLast ds.dropLast:=by
 rw [GP,GP,h.length]
 exact h.take _
theorem Ut {c:C} (i j:Nat) {x y:Str}{px p apos cpos pos:Pos} (hN:c.X.N.Nodup) (hi:c.X.N[i]?=some x:=by rfl) (hx:Q3 c.X.env.scope x:=by first | exact fv rfl | exact dD rfl)
  (hf:c.X.fn x=true\/c.X.env.scope.names.lookup x=some .local:=by first | exact .inl rfl | exact .inr rfl | assumption)
  (hj:c.X.N[j]?=some y:=by rfl) (hv:Kr c.X.env.scope y:=by first | exact fv rfl | exact dD (fv rfl) | exact dD (dD rfl)) (hd:(y == ("__debug__" : Str))=false:=by decide) (hcd:(y == ("__classdict__" : Str))=false:=by decide)
  (hbase:qL (.Name y p) "pop" c.X.env (du (.Name y p) c.X.env)=du (.Name y p) c.X.env:=by rfl) (hline:(apos.endLine == cpos.line)=true:=by rfl)
  (hs:gL (.Call (.Attribute (.Name y p) "pop" apos) [] [] cpos) (some (.Name x px)) pos.line c.X.env=pure false:=by rfl) :
  JS c (.Assign [.Name x px] (.Call (.Attribute (.Name y p) "pop" apos) [] [] cpos) pos) (HF i j):=.of fun ρ=>by
 refine y0 (yz hN hi hx (TL dX PySem.F.slot_list_pop PySem.F.type_list_pop TM (lY hj hv hd hcd) hbase hline) hs hf) fun D' σ H hh=>?_
 obtain ⟨H0,Hs0,la,Hs,f,q⟩:=hh
 replace q:oa c.X.K c.cls c.E H0 Hs0 la D' (HF i j ρ):=q
 unfold HF at q
 split at q
 ·rename_i ds ho
  obtain ⟨a,o,k1,k2,k3,k4,k5⟩:=f.ow j _ ho
  cases k5 with
  | @lst vs _ r =>
   cases hl:ds[ds.length - 1]? with
   | none=>rw [hl] at q;exact q.elim
   | some d =>
    rw [hl] at q
    obtain ⟨v,h1,h2⟩:=r.get' hl
    refine ⟨_,k1,.inl ⟨rfl,_,.of k2⟩,a,vs,v,rfl,rfl,k2,by rw [r.length];exact h1,?_⟩
    exact q _ _ Hs ((f.write j ho k1 (.lst (Da r))).set i h2)
 ·exact q.elim
end J
namespace J
open PySem L2
def rS (i:Nat) (ρ:au):R D:=Gm ρ i
def rB (i:Nat) (ρ:au):R D:=Gn ρ i
def kI (n:Int) (_:au):R D:=.ok (.int n)
def kB (b:Bool) (_:au):R D:=.ok (.bool b)
def kN (_:au):R D:=.ok .none
def kT (_:au):R Bool:=.ok true
theorem Wu (i:Nat) (ρ:au):rS i ρ=Gm ρ i:=id rfl
theorem Uu (i:Nat) (ρ:au):rB i ρ=Gn ρ i:=id rfl
theorem Wv (n:Int) (ρ:au):kI n ρ=.ok (.int n):=id rfl
theorem Ww (b:Bool) (ρ:au):kB b ρ=.ok (.bool b):=id rfl
theorem Wx (ρ:au):kN ρ=.ok .none:=id rfl
end J
end
namespace Z
open PySem L2 J
section
def R9 (y:Str):Option Nat:=if y="NoState" then some 1 else if y="NoWant" then some 2 else if y="NoBook" then some 0 else if y="NoWay" then some 5 else none
def jI:au->R Fl:=(cC (yU (cb (ac (dE 1 [1] (jf (rB 0)) kT (g2 (rB 0) (rB 1) (wq false))) aF) (i8 (eG fun bs=>bs.any id)))))
def eR:List D->R D:=eJ 2 jI
def r_:au->R Fl:=(cC (cb (ac (dE 1 [1] (jf (rB 0)) (ej (g2 (rB 0) (rB 1) (wq true))) (rS 0)) aF) (i8 hJ)))
def s9:List D->R D:=eJ 2 r_
def vn:au->R Fl:=(cC (cb (ac (kK (Om (pw (rB 0)) (pw (rB 1)))) aF) (i8 hJ)))
def vo:List D->R D:=eJ 2 vn
def sd:au->R Fl:=(aN (e7 (LW (jP (ej (xI (rB 0) "str"))) (jP (ej (qY (kI 1) (cb (ac (rB 0) aF) (i8 k8)) (kI 6) Se Se)))) (cC (kB false)) (fun ρ=>.ok (.nx ρ))) (cC (cb (ac (dE 1 [] (jf (rB 0)) kT (qY (fun _=>.ok (.str "a")) (rB 0) (fun _=>.ok (.str "z")) Se Se)) aF) (i8 (eG fun bs=>bs.all id)))))
def oK:List D->R D:=eJ 1 sd
def hU:au->R Fl:=(aN (e7 (LW (jP (ej (xI (rB 0) "tuple"))) (jP (ej (cb (ac (dE 1 [] (jf (rB 0)) kT (dJ 1 oK (ac (rS 0) aF))) aF) (i8 (eG fun bs=>bs.all id)))))) (cC (kB false)) (fun ρ=>.ok (.nx ρ))) (cC (cb (ac (dE 2 [] (QJ (ac (rS 0) (ac (Si (rB 0) (QE (kI 1)) V2) aF))) kT (g2 (rB 0) (rB 1) AL)) aF) (i8 (eG fun bs=>bs.all id)))))
def fM:List D->R D:=eJ 1 hU
def nr:au->R Fl:=(cC (tf (dJ 1 fM (ac (rS 1) aF)) (cb (ac (dE 1 [0] (jf (rB 1)) kT (g2 (rB 0) (rB 1) (wq false))) aF) (i8 (eG fun bs=>bs.all id)))))
def fD:List D->R D:=eJ 2 nr
def pA:au->R Fl:=(aN (e7 (LW (jP (ej (xI (rB 0) "int"))) (ej (xI (rB 0) "bool"))) (cC (kB false)) (fun ρ=>.ok (.nx ρ))) (cC (qY (rB 1) (rB 0) (rB 2) Se Se)))
def pB:List D->R D:=eJ 3 pA
def nu:au->R Fl:=(aN (e7 (LW (jP (ej (xI (rB 1) "tuple"))) (ej (g2 (cb (ac (rB 1) aF) (i8 k8)) (kI 6) (lP true)))) (cC (kB false)) (fun ρ=>.ok (.nx ρ))) (aN (y_ (rS 1) (kJ 6 (cq (bB 2) (cq (bB 3) (cq (bB 4) (cq (bB 5) (cq (bB 6) (cq (bB 7) lr)))))))) (aN (e7 (LW (jP (ej (dJ 1 oK (ac (rS 2) aF)))) (jP (ej (dJ 3 pB (ac (rS 7) (ac (kI 0) (ac (kI 9) aF))))))) (cC (kB false)) (fun ρ=>.ok (.nx ρ))) (aN (e7 (jP (ej (cb (ac (dE 1 [0] (jf (dQ (ac (rS 3) (ac (rS 4) (ac (rS 5) (ac (rS 6) aF)))) .tuple)) kT (dJ 2 fD (ac (rS 1) (ac (rS 0) aF)))) aF) (i8 (eG fun bs=>bs.all id))))) (cC (kB false)) (fun ρ=>.ok (.nx ρ))) (cC (tf (dJ 2 eR (ac (rS 3) (ac (rS 4) aF))) (dJ 2 eR (ac (rS 5) (ac (rS 6) aF)))))))))
def nw:List D->R D:=eJ 8 nu
def se:au->R Fl:=(aN (e7 (LW (jP (ej (xI (rB 0) "tuple"))) (ej (g2 (cb (ac (rB 0) aF) (i8 k8)) (kI 2) (lP true)))) (cC (kB false)) (fun ρ=>.ok (.nx ρ))) (aN (y_ (rS 0) (kJ 2 (cq (bB 1) (cq (bB 2) lr)))) (aN (e7 (LW (jP (ej (dJ 1 fM (ac (rS 1) aF)))) (ej (g2 (cb (ac (rB 1) aF) (i8 k8)) (kI 6) V1))) (cC (kB false)) (fun ρ=>.ok (.nx ρ))) (aN (e7 (LW (jP (ej (xI (rB 2) "tuple"))) (ej (g2 (cb (ac (rB 2) aF) (i8 k8)) (kI 6) V1))) (cC (kB false)) (fun ρ=>.ok (.nx ρ))) (aN (e7 (jP (ej (cb (ac (dE 1 [1] (jf (rB 2)) kT (dJ 2 nw (ac (rS 1) (ac (rS 0) aF)))) aF) (i8 (eG fun bs=>bs.all id))))) (cC (kB false)) (fun ρ=>.ok (.nx ρ))) (cC (g2 (vh (wv 1 [] (jf (rB 2)) kT (g2 (rB 0) (kI 0) bc))) (cb (ac (rB 2) aF) (i8 k8)) (lP false))))))))
def sf:List D->R D:=eJ 3 se
def sg:au->R Fl:=(aN (e7 (LW (jP (ej (xI (rB 1) "tuple"))) (ej (g2 (cb (ac (rB 1) aF) (i8 k8)) (kI 2) (lP true)))) (cC (kB false)) (fun ρ=>.ok (.nx ρ))) (aN (y_ (rS 1) (kJ 2 (cq (bB 2) (cq (bB 3) lr)))) (cC (tf (dJ 2 fD (ac (g2 (rB 0) (kI 0) bc) (ac (rS 2) aF))) (tf (dJ 2 fD (ac (g2 (rB 0) (kI 0) bc) (ac (rS 3) aF))) (dJ 2 eR (ac (rS 2) (ac (rS 3) aF))))))))
def si:List D->R D:=eJ 4 sg
def kr:au->R Fl:=(e7 (jP (ej (dJ 2 fD (ac (g2 (rB 0) (kI 0) bc) (ac (rS 1) aF))))) (pz "NoState" (ac (fun _=>.ok (.str "a state is a rising tuple of the book's facts, none twice")) aF)) (fun ρ=>.ok (.nx ρ)))
def ku:List D->R D:=eJ 2 kr
def lv:au->R Fl:=(e7 (jP (ej (dJ 2 si (ac (rS 0) (ac (rS 1) aF))))) (pz "NoWant" (ac (fun _=>.ok (.str "a want is a tuple of two states with nothing in common")) aF)) (fun ρ=>.ok (.nx ρ)))
def lw:List D->R D:=eJ 2 lv
def sj:au->R Fl:=(aN (y_ (rS 1) (kJ 2 (cq (bB 2) (cq (bB 3) lr)))) (cC (tf (cb (ac (dE 1 [0] (jf (rB 2)) kT (g2 (rB 0) (rB 1) (wq false))) aF) (i8 (eG fun bs=>bs.all id))) (dJ 2 eR (ac (rS 3) (ac (rS 0) aF))))))
def lQ:List D->R D:=eJ 4 sj
def ny:au->R Fl:=(cC (dJ 2 lQ (ac (rS 1) (ac (dQ (ac (g2 (rB 0) (kI 1) bc) (ac (g2 (rB 0) (kI 2) bc) aF)) .tuple) aF))))
def nz:List D->R D:=eJ 2 ny
def jJ:au->R Fl:=(aN (On 2 3 (ac (g2 (rB 0) (kI 3) bc) (ac (g2 (rB 0) (kI 4) bc) aF))) (cC (dJ 2 vo (ac (dJ 2 s9 (ac (rS 1) (ac (rS 3) aF))) (ac (rS 2) aF)))))
def jK:List D->R D:=eJ 4 jJ
def sk:au->R Fl:=(aN (e7 (jP (ej (dJ 1 sf (ac (rS 0) aF)))) (pz "NoBook" (ac (fun _=>.ok (.str "a book is a tuple of facts and errands, each as the document tells")) aF)) (fun ρ=>.ok (.nx ρ))) (cC (rS 0)))
def sr:List D->R D:=eJ 1 sk
def kw:au->R Fl:=(aN (tm (dJ 1 sr (ac (rS 0) aF))) (tm (dJ 2 ku (ac (rS 0) (ac (rS 1) aF)))))
def kx:List D->R D:=eJ 2 kw
def nA:au->R Fl:=(aN (tm (dJ 2 kx (ac (rS 0) (ac (rS 1) aF)))) (tm (dJ 2 lw (ac (rS 0) (ac (rS 2) aF)))))
def kM:List D->R D:=eJ 3 nA
def lz:au->R Fl:=(cC (dE 1 [1] (jf (g2 (rB 0) (kI 1) bc)) (ej (dJ 2 nz (ac (rS 0) (ac (rS 1) aF)))) (dQ (ac (rS 0) (ac (dJ 2 jK (ac (rS 0) (ac (rS 1) aF))) aF)) .tuple)))
def jL:List D->R D:=eJ 2 lz
def lA:au->R Fl:=(aN (e8 2 (Pw (rS 1) (dQ aF .list))) (aN (e8 3 (dQ (ac (rS 1) aF) .list)) (aN (gy (AS (rB 3)) (aN (e8 4 (dQ aF .list)) (aN (qq 3 (bB 5) (m7 (jf (dJ 2 jL (ac (rS 0) (ac (rS 5) aF)))) (kJ 2 (cq (bB 6) (cq (bB 7) lr))) (e7 (ej (g2 (rB 7) (rB 2) (inT true))) (aN (qu 2 (rS 7) (g2 (g2 (rB 2) (rB 5) D8) (dQ (ac (g2 (rB 6) (kI 0) bc) aF) .list) dN)) (m9 4 (rS 7))) (fun ρ=>.ok (.nx ρ))))) (Sq 4 (eZ 3 (rS 4))))) 100000) (R8 2 (cC (rS 2))))))
def jM:List D->R D:=eJ 8 lA
def su:au->R Fl:=(aN (e8 2 (dE 1 [1] (F6 (rB 0)) (ej (dJ 2 lQ (ac (rS 0) (ac (rS 1) aF)))) (rS 0))) (cC (dE 1 [0,2] (jf (rB 2)) (ej (g2 (cb (ac (g2 (rB 1) (rB 0) D8) aF) (i8 k8)) (cb (ac (g2 (rB 1) (g2 (rB 2) (kI 0) bc) D8) aF) (i8 k8)) (lP false))) (rS 0))))
def sv:List D->R D:=eJ 3 su
def pC:au->R Fl:=(aN (tm (dJ 3 kM (ac (rS 0) (ac (rS 1) (ac (rS 2) aF))))) (aN (eZ 3 (dJ 2 jM (ac (rS 0) (ac (rS 1) aF)))) (aN (eZ 4 (dJ 2 sv (ac (rS 3) (ac (rS 2) aF)))) (cC (X5 (AS (rB 4)) (g2 (rB 3) (g2 (rB 4) (kI 0) bc) D8) kN)))))
def mh:List D->R D:=eJ 5 pC
def nC:au->R Fl:=(cC (cb (ac (dE 1 [2] (F6 (dJ 2 jM (ac (rS 0) (ac (rS 1) aF)))) kT (dJ 2 lQ (ac (rS 0) (ac (rS 1) aF)))) aF) (i8 (eG fun bs=>bs.any id))))
def kO:List D->R D:=eJ 3 nC
def iy:au->R Fl:=(aN (tm (dJ 3 kM (ac (rS 0) (ac (rS 1) (ac (rS 2) aF))))) (e7 (jP (ej (dJ 3 kO (ac (rS 0) (ac (rS 1) (ac (rS 2) aF)))))) (pz "NoWay" (ac (fun _=>.ok (.str "no row serves the want")) aF)) (fun ρ=>.ok (.nx ρ))))
def gJ:List D->R D:=eJ 3 iy
def nD:au->R Fl:=(aN (eZ 4 (cb (ac (dE 1 [3] (jf (g2 (rB 0) (kI 1) bc)) (ej (g2 (rB 1) (g2 (rB 0) (kI 3) bc) (wq true))) (rS 0)) aF) (i8 hJ))) (cC (QA (g2 (rB 3) (rB 1) (wq false)) (yU (dJ 3 kO (ac (dQ (ac (g2 (rB 0) (kI 0) bc) (ac (rS 4) aF)) .tuple) (ac (rS 1) (ac (rS 2) aF))))))))
def nE:List D->R D:=eJ 5 nD
def kP:au->R Fl:=(aN (tm (dJ 3 gJ (ac (rS 0) (ac (rS 1) (ac (rS 2) aF))))) (cC (dE 1 [0,1,2] (jf (g2 (rB 0) (kI 0) bc)) (ej (dJ 4 nE (ac (rS 1) (ac (rS 2) (ac (rS 3) (ac (rS 0) aF)))))) (rS 0))))
def gU:List D->R D:=eJ 3 kP
def kz:au->R Fl:=(aN (e7 (ej (g2 (rB 1) (cb (ac (rB 0) aF) (i8 k8)) AL)) (cC (g2 (rB 0) (rB 1) bc)) (fun ρ=>.ok (.nx ρ))) (aN (e7 (ej (g2 (rB 0) (dQ aF .list) (lP false))) (cC (kI 0)) (fun ρ=>.ok (.nx ρ))) (cC (g2 (g2 (g2 (rB 0) (g2 (rB 1) (cb (ac (rB 0) aF) (i8 k8)) KU) bc) (kI 31) vb) (rB 1) dN))))
def kA:List D->R D:=eJ 2 kz
def nF:au->R Fl:=(aN (eZ 3 (g2 (g2 (g2 (g2 (dJ 2 kA (ac (rS 0) (ac (rS 1) aF))) (g2 (kI 7919) (rB 1) vb) dN) (kI 1) dN) (kI 48271) vb) (kI 2147483647) KU)) (cC (g2 (g2 (g2 (g2 (g2 (rB 3) (rB 3) vb) (g2 (kI 7) (rB 3) vb) dN) (rB 1) dN) (kI 2147483629) KU) (rB 2) KU)))
def br:List D->R D:=eJ 4 nF
def pE:au->R Fl:=(aN (eZ 2 (fun _=>.ok (.str ""))) (aN (m7 (vd (ac (g2 (dQ (ac (kI 1) (ac (kI 2) (ac (kI 3) (ac (kI 6) (ac (kI 1) (ac (kI 4) aF)))))) .list) (dJ 3 br (ac (rS 0) (ac (rS 1) (ac (kI 6) aF)))) bc) aF)) (bB 3) (eZ 2 (g2 (rB 2) (g2 (fun _=>.ok (.str "abcdefghijklmnopqrstuvwxyz")) (dJ 3 br (ac (rS 0) (ac (g2 (g2 (rB 1) (kI 1) dN) (rB 3) dN) (ac (kI 26) aF)))) bc) dN))) (cC (rS 2))))
def k9:List D->R D:=eJ 4 pE
def nG:au->R Fl:=(aN (e8 3 (fun _=>.ok (.dict []))) (aN (m7 (vd (ac (dJ 3 br (ac (rS 0) (ac (rS 1) (ac (g2 (rB 2) (kI 1) dN) aF)))) aF)) (bB 4) (C_ 3 (dJ 2 k9 (ac (rS 0) (ac (g2 (g2 (rB 1) (kI 1) dN) (g2 (kI 8) (rB 4) vb) dN) aF))) (kB true))) (cC (cb (ac (cb (ac (cb (ac (rB 3) aF) (i8 kq)) aF) (i8 rY)) aF) (i8 hJ)))))
def nI:List D->R D:=eJ 5 nG
def pF:au->R Fl:=(cC (cb (ac (dE 2 [0,1,3] (Hv (ac (rS 2) aF)) (ej (g2 (dJ 3 br (ac (rS 2) (ac (g2 (rB 3) (rB 0) dN) (ac (kI 12) aF)))) (rB 4) AL)) (rS 1)) aF) (i8 hJ)))
def pG:List D->R D:=eJ 4 pF
def pH:au->R Fl:=(aN (eZ 4 (g2 (rB 2) (dJ 3 br (ac (rS 0) (ac (g2 (rB 1) (kI 10) dN) (ac (cb (ac (rB 2) aF) (i8 k8)) aF)))) bc)) (aN (eZ 5 (g2 (rB 2) (dJ 3 br (ac (rS 0) (ac (g2 (rB 1) (kI 11) dN) (ac (cb (ac (rB 2) aF) (i8 k8)) aF)))) bc)) (aN (eZ 6 (g2 (rB 2) (dJ 3 br (ac (rS 0) (ac (g2 (rB 1) (kI 12) dN) (ac (cb (ac (rB 2) aF) (i8 k8)) aF)))) bc)) (aN (eZ 7 (Si (dQ (ac (rS 4) (ac (rS 5) aF)) .list) V2 (QE (g2 (kI 1) (g2 (dJ 3 br (ac (rS 0) (ac (g2 (rB 1) (kI 13) dN) (ac (kI 3) aF)))) (kI 2) Nj) dN)))) (aN (e8 8 (dE 1 [7,0,1] (jf (dQ (ac (rS 6) aF) .list)) (wo (ej (g2 (rB 0) (rB 1) (wq true))) (ej (g2 (dJ 3 br (ac (rS 2) (ac (g2 (rB 3) (kI 14) dN) (ac (kI 4) aF)))) (kI 0) (lP false)))) (rS 0))) (aN (e8 9 (dE 1 [6,0,1] (jf (dQ (ac (rS 4) aF) .list)) (wo (ej (g2 (rB 0) (rB 1) (lP true))) (ej (g2 (dJ 3 br (ac (rS 2) (ac (g2 (rB 3) (kI 15) dN) (ac (kI 3) aF)))) (kI 0) (lP false)))) (rS 0))) (aN (Sq 8 (Sq 9 (e8 10 (dE 1 [] (jf (dQ (ac (rS 7) (ac (rS 8) (ac (dQ (ac (rS 6) aF) .list) (ac (rS 9) aF)))) .tuple)) kT (cb (ac (kK (pw (rB 0))) aF) (i8 hJ)))))) (cC (dQ (ac (rS 3) (ac (g2 (rB 10) (kI 0) bc) (ac (g2 (rB 10) (kI 1) bc) (ac (g2 (rB 10) (kI 2) bc) (ac (g2 (rB 10) (kI 3) bc) (ac (dJ 3 br (ac (rS 0) (ac (rS 1) (ac (kI 5) aF)))) aF)))))) .tuple)))))))))
def pI:List D->R D:=eJ 11 pH
def iH:au->R Fl:=(aN (e7 (wo (ej (g2 (rB 2) (dQ aF .tuple) (lP true))) (ej (g2 (dJ 3 br (ac (rS 0) (ac (kI 97) (ac (kI 2) aF)))) (kI 0) (lP false)))) (cC (dJ 4 pI (ac (rS 0) (ac (rS 1) (ac (rS 2) (ac (rS 3) aF)))))) (fun ρ=>.ok (.nx ρ))) (aN (QO 4) (aN (m7 (Hv (ac (rS 2) aF)) (kJ 2 (cq (bB 5) (cq (bB 6) lr))) (aN (eZ 7 (dJ 3 br (ac (rS 0) (ac (g2 (g2 (rB 1) (kI 10) dN) (rB 5) dN) (ac (kI 8) aF))))) (aN (e7 (ej (g2 (rB 7) (kI 3) AL)) (oJ 4 (g2 (dQ (ac (kI 0) (ac (kI 0) (ac (kI 1) aF))) .list) (rB 7) bc) (rS 6)) (fun ρ=>.ok (.nx ρ))) (aN (eZ 7 (dJ 3 br (ac (rS 0) (ac (g2 (g2 (rB 1) (kI 20) dN) (rB 5) dN) (ac (kI 8) aF))))) (e7 (ej (g2 (rB 7) (kI 4) AL)) (oJ 4 (g2 (dQ (ac (kI 2) (ac (kI 2) (ac (kI 3) (ac (kI 3) aF)))) .list) (rB 7) bc) (rS 6)) (fun ρ=>.ok (.nx ρ))))))) (aN (fun ρ=>(e8 8 (dE 1 [] (jf (rB 4)) kT (cb (ac (rB 0) aF) (i8 hJ)))) (dI ρ)) (cC (dQ (ac (rS 3) (ac (g2 (rB 8) (kI 0) bc) (ac (g2 (rB 8) (kI 1) bc) (ac (g2 (rB 8) (kI 2) bc) (ac (g2 (rB 8) (kI 3) bc) (ac (dJ 3 br (ac (rS 0) (ac (rS 1) (ac (kI 5) aF)))) aF)))))) .tuple))))))
def iI:List D->R D:=eJ 9 iH
def mi:au->R Fl:=(aN (eZ 4 (dJ 3 nI (ac (rS 0) (ac (rS 1) (ac (rS 2) aF))))) (aN (e8 5 (fun _=>.ok (.dict []))) (aN (m7 (vd (ac (dJ 3 br (ac (rS 0) (ac (g2 (rB 1) (kI 60) dN) (ac (g2 (rB 3) (kI 1) dN) aF)))) aF)) (bB 6) (aN (eZ 7 (dJ 2 k9 (ac (rS 0) (ac (g2 (g2 (rB 1) (kI 70) dN) (g2 (kI 40) (rB 6) vb) dN) aF)))) (C_ 5 (rS 7) (dJ 4 iI (ac (rS 0) (ac (g2 (g2 (rB 1) (kI 80) dN) (g2 (kI 40) (rB 6) vb) dN) (ac (rS 4) (ac (rS 7) aF)))))))) (aN (eZ 8 (cb (ac (rB 5) aF) (i8 kq))) (aN (eZ 9 (dJ 3 br (ac (rS 0) (ac (g2 (rB 1) (kI 61) dN) (ac (g2 (cb (ac (rB 8) aF) (i8 k8)) (kI 1) dN) aF))))) (cC (dQ (ac (rS 4) (ac (cb (ac (dE 1 [5] (jf (g2 (Si (rB 8) (QE (rS 9)) V2) (Si (rB 8) V2 (QE (rS 9))) dN)) kT (g2 (rB 1) (rB 0) bc)) aF) (i8 hJ)) aF)) .tuple)))))))
def mj:List D->R D:=eJ 10 mi
def ml:au->R Fl:=(aN (e8 3 (dQ aF .list)) (aN (e8 4 (dQ aF .list)) (aN (m7 (Hv (ac (rS 2) aF)) (kJ 2 (cq (bB 5) (cq (bB 6) lr))) (aN (eZ 7 (dJ 3 br (ac (rS 0) (ac (g2 (rB 1) (rB 5) dN) (ac (kI 8) aF))))) (e7 (ej (g2 (rB 7) (kI 2) AL)) (m9 3 (rS 6)) (e7 (ej (g2 (rB 7) (kI 2) (lP false))) (m9 4 (rS 6)) (fun ρ=>.ok (.nx ρ)))))) (cC (dQ (ac (cb (ac (rB 3) aF) (i8 hJ)) (ac (cb (ac (rB 4) aF) (i8 hJ)) aF)) .tuple)))))
def t_:List D->R D:=eJ 8 ml
def pJ:au->R Fl:=(aN (eZ 3 (dJ 4 mj (ac (rS 0) (ac (kI 100) (ac (rS 1) (ac (rS 2) aF)))))) (aN (eZ 4 (dJ 4 pG (ac (rS 0) (ac (kI 20) (ac (g2 (rB 3) (kI 0) bc) (ac (g2 (dQ (ac (kI 2) (ac (kI 4) aF)) .list) (dJ 3 br (ac (rS 0) (ac (kI 97) (ac (kI 2) aF)))) bc) aF)))))) (cC (dQ (ac (rS 3) (ac (rS 4) (ac (dJ 3 t_ (ac (rS 0) (ac (kI 30) (ac (g2 (rB 3) (kI 0) bc) aF)))) aF))) .tuple))))
def mn:List D->R D:=eJ 5 pJ
def pK:au->R Fl:=(cC (tf (cb (ac (dE 1 [0] (jf (g2 (rB 1) (kI 0) bc)) kT (g2 (rB 0) (rB 1) (wq false))) aF) (i8 (eG fun bs=>bs.all id))) (yU (cb (ac (dE 1 [0] (jf (g2 (rB 1) (kI 1) bc)) kT (g2 (rB 0) (rB 1) (wq false))) aF) (i8 (eG fun bs=>bs.any id))))))
def gz:List D->R D:=eJ 2 pK
def pL:au->R Fl:=(aN (e7 (jP (ej (dJ 2 gz (ac (rS 1) (ac (Si (rB 0) (QE (kI 1)) (QE (kI 3))) aF))))) (cC kN) (fun ρ=>.ok (.nx ρ))) (aN (e8 2 (dE 1 [0] (jf (rB 1)) (ej (g2 (rB 0) (g2 (rB 1) (kI 4) bc) (wq true))) (rS 0))) (cC (cb (ac (kK (pw (g2 (rB 2) (cb (ac (g2 (rB 0) (kI 3) bc) aF) (i8 kq)) dN))) aF) (i8 hJ)))))
def dC:List D->R D:=eJ 3 pL
def lB:au->R Fl:=(aN (e8 2 (Pw (rS 1) (kI 0))) (aN (e8 3 (dQ (ac (rS 1) aF) .list)) (aN (eZ 4 (kI 0)) (aN (gy (ej (g2 (rB 4) (cb (ac (rB 3) aF) (i8 k8)) AL)) (aN (m7 (jf (g2 (rB 0) (kI 1) bc)) (bB 5) (aN (eZ 6 (dJ 2 dC (ac (rS 5) (ac (g2 (rB 3) (rB 4) bc) aF)))) (e7 (wo (ej (g2 (rB 6) kN (yX true))) (ej (g2 (rB 6) (rB 2) (inT true)))) (aN (qu 2 (rS 6) (g2 (g2 (rB 2) (g2 (rB 3) (rB 4) bc) D8) (kI 1) dN)) (m9 3 (rS 6))) (fun ρ=>.ok (.nx ρ))))) (eZ 4 (g2 (rB 4) (kI 1) dN))) 100000) (R8 2 (cC (rS 2)))))))
def lC:List D->R D:=eJ 7 lB
def sw:au->R Fl:=(aN (eZ 3 (dJ 2 lC (ac (rS 0) (ac (rS 1) aF)))) (aN (e8 4 (dE 1 [2,3] (F6 (rB 3)) (ej (dJ 2 gz (ac (rS 0) (ac (rS 1) aF)))) (g2 (rB 2) (rB 0) D8))) (aN (e7 (ej (g2 (rB 4) (dQ aF .list) (lP false))) (cC kN) (fun ρ=>.ok (.nx ρ))) (cC (cb (ac (rB 4) aF) (i8 HD))))))
def lR:List D->R D:=eJ 5 sw
def pM:au->R Fl:=(aN (e8 5 (dQ aF .list)) (aN (m7 (vd (ac (rB 4) aF)) (bB 6) (aN (e8 7 (dE 1 [3] (jf (g2 (rB 2) (kI 1) bc)) (ej (g2 (dJ 2 dC (ac (rS 0) (ac (rS 1) aF))) kN (yX true))) (rS 0))) (aN (e7 (ej (g2 (rB 7) (dQ aF .list) (lP false))) (cC (rS 5)) (fun ρ=>.ok (.nx ρ))) (aN (eZ 8 (g2 (rB 7) (dJ 3 br (ac (rS 0) (ac (g2 (rB 1) (rB 6) dN) (ac (cb (ac (rB 7) aF) (i8 k8)) aF)))) bc)) (aN (m9 5 (g2 (rB 8) (kI 0) bc)) (eZ 3 (dJ 2 dC (ac (rS 8) (ac (rS 3) aF))))))))) (cC (rS 5))))
def mq:List D->R D:=eJ 9 pM
def lE:au->R Fl:=(aN (e8 3 (yd (dE 1 [] (jf (g2 (rB 0) (kI 1) bc)) kT (dQ (ac (g2 (rB 0) (kI 0) bc) (ac (rS 0) aF)) .tuple)))) (aN (e8 4 (dQ (ac (rS 1) aF) .list)) (aN (m7 (JA (ac (rS 2) aF)) (kJ 2 (cq (bB 5) (cq (bB 6) lr))) (aN (eZ 7 (dJ 2 dC (ac (g2 (rB 3) (rB 6) bc) (ac (g2 (rB 4) (EM (kI 1)) bc) aF)))) (aN (e7 (ej (g2 (rB 7) kN (yX false))) (cC (rS 5)) (fun ρ=>.ok (.nx ρ))) (m9 4 (rS 7))))) (cC (rS 4)))))
def g6:List D->R D:=eJ 8 lE
def pO:au->R Fl:=(aN (eZ 4 (dJ 3 g6 (ac (rS 0) (ac (rS 1) (ac (rS 3) aF))))) (cC (tf (yU (xI (rB 4) "int")) (dJ 2 gz (ac (g2 (rB 4) (EM (kI 1)) bc) (ac (rS 2) aF))))))
def mr:List D->R D:=eJ 5 pO
def pP:au->R Fl:=(aN (e7 (ej (g2 (rB 3) (rB 1) (wq false))) (cC (kB false)) (fun ρ=>.ok (.nx ρ))) (aN (e8 4 (Pw (rS 1) (kB true))) (aN (e8 5 (dQ (ac (rS 1) aF) .list)) (aN (gy (ej (g2 (rB 5) (dQ aF .list) (lP true))) (aN (HF 6 5) (m7 (jf (g2 (rB 0) (kI 1) bc)) (bB 7) (aN (eZ 8 (dJ 2 dC (ac (rS 7) (ac (rS 6) aF)))) (e7 (wo (ej (g2 (rB 8) kN (yX true))) (wo (ej (g2 (rB 3) (rB 8) (wq true))) (ej (g2 (rB 8) (rB 4) (inT true))))) (aN (qu 4 (rS 8) (kB true)) (m9 5 (rS 8))) (fun ρ=>.ok (.nx ρ)))))) 100000) (R8 4 (cC (cb (ac (dE 1 [2] (F6 (rB 4)) kT (dJ 2 gz (ac (rS 0) (ac (rS 1) aF)))) aF) (i8 (eG fun bs=>bs.any id)))))))))
def ms:List D->R D:=eJ 9 pP
def JJ:au->R Fl:=(aN (y_ (dJ 3 mn (ac (rS 0) (ac (kI 5) (ac (kI 6) aF)))) (kJ 3 (cq (bB 1) (cq (bB 2) (cq (bB 3) lr))))) (aN (eZ 4 (dJ 3 (zr R9 gU) (ac (rS 1) (ac (rS 2) (ac (rS 3) aF))))) (aN (e7 (ej (g2 (dJ 3 lR (ac (rS 1) (ac (rS 2) (ac (rS 3) aF)))) kN (yX false))) (cC (g2 (rB 4) (dQ (ac (fun _=>.ok (.str "refused")) (ac (kI 5) aF)) .tuple) (lP false))) (fun ρ=>.ok (.nx ρ))) (aN (e7 (ej (g2 (rB 4) (dE 1 [1,2,3] (jf (g2 (rB 1) (kI 0) bc)) (jP (ej (dJ 4 ms (ac (rS 1) (ac (rS 2) (ac (rS 3) (ac (rS 0) aF))))))) (rS 0)) (lP true))) (cC (kB false)) (fun ρ=>.ok (.nx ρ))) (aN (e7 (jP (ej (cb (ac (dE 1 [4] (jf (g2 (rB 2) (g2 (rB 3) (kI 0) bc) dN)) kT (g2 (rB 0) (rB 1) (wq false))) aF) (i8 (eG fun bs=>bs.all id))))) (cC (kB false)) (fun ρ=>.ok (.nx ρ))) (aN (e8 5 (dQ (ac (dJ 3 mh (ac (rS 1) (ac (rS 2) (ac (rS 3) aF)))) aF) .list)) (aN (m7 (vd (ac (kI 2) aF)) (bB 6) (m9 5 (dJ 5 mq (ac (rS 0) (ac (g2 (kI 300) (g2 (kI 40) (rB 6) vb) dN) (ac (rS 1) (ac (rS 2) (ac (dJ 3 br (ac (rS 0) (ac (rS 6) (ac (kI 8) aF)))) aF)))))))) (aN (qq 5 (bB 7) (e7 (ej (dJ 4 mr (ac (rS 1) (ac (rS 2) (ac (rS 3) (ac (rS 7) aF)))))) (aN (eZ 8 (dJ 3 g6 (ac (rS 1) (ac (rS 2) (ac (rS 7) aF))))) (e7 (jP (ej (cb (ac (dE 1 [8] (jf (rB 4)) kT (cb (ac (dE 1 [0] (jf (rB 1)) kT (g2 (rB 1) (rB 0) (wq false))) aF) (i8 (eG fun bs=>bs.any id)))) aF) (i8 (eG fun bs=>bs.all id))))) (cC (kB false)) (fun ρ=>.ok (.nx ρ)))) (fun ρ=>.ok (.nx ρ)))) (cC (kB true))))))))))
def F_law:List D->R D:=eJ 9 JJ
end
end Z
section
set_option hygiene false
namespace Z
open PySem L2 J
local macro_rules | `(tactic| walk_at "zz") => `(tactic| simp only [Wu, Uu, Wv, Ww, Wx, w_, vj, EO, W3, NB, NC, Sr, W4, Jh, EQ, Ji, ES, ET, EU, ND, NE, NF, Jj, NG, Jk, W6, Su, Sv, NI, Sw, NJ, Sx, W9, NK, Sy, NL, Jl, NM, SB, Jm, NN, SC, NO, Jn, NP, NQ, NR, NU, EV, EW, SD, NV, Jo, NW, Wf, SF, SG, NX, SH, NY, N_, SJ, SK, O0, Wk, O1, O3, SL, SM, O4, Ud, O5, SO, SQ, O6, Jp, Jq, SW, BF, BG, BH, O8, Wm, Oa, Ob, Oc, Od, Oe, Of, BJ, zo, W2, dN, vb, KU, Nj, Ho, AL, Se, V1, KW, k8, aI, eX, aU, bO, al, Ps, lO, Km, Kn, vN, vO, Nat.reduceSub, Nat.reduceAdd, PZ, P_, Nat.sub_self, if_true, if_false, ite_true, ite_false, c7, decide_true, decide_false, cond_true, cond_false, oW, iQ, ar, c_, GQ, Int.reduceLE, Int.reduceAdd, Int.reduceMul, Nat.reduceLT, Int.reduceNeg, reduceIte])
local macro_rules | `(tactic| walk_at "yy") => `(tactic| simp only [Wu, Uu, Wv, Ww, Wx, w_, vj, EO, Sr, W4, Jh, EQ, Ji, ES, ET, EU, ND, NE, NF, Jj, NG, Jk, W6, Su, Sv, NI, Sw, NJ, Sx, W9, NK, Sy, NL, Jl, NM, SB, Jm, NN, SC, NO, Jn, NP, NQ, NR, NU, EV, EW, SD, NV, Jo, NW, Wf, SF, SG, NX, SH, NY, N_, SJ, SK, O0, Wk, O1, O3, SL, SM, O4, Ud, O5, SO, SQ, O6, Jp, Jq, SW, BF, BG, BH, O8, Wm, Oa, Ob, Oc, Od, Oe, Of, BJ, zo, W2, dN, k8, aI, eX, aU, bO, al, Ps, lO, Km, Kn, vN, vO, Nat.reduceSub, Nat.reduceAdd, PZ, P_, Nat.sub_self, if_true, if_false, ite_true, ite_false, c7, decide_true, decide_false, cond_true, cond_false, oW, iQ, ar, c_, GQ, Int.reduceLE, Int.reduceAdd, Int.reduceMul, Nat.reduceLT, Int.reduceNeg, reduceIte])
theorem cE {n:Nat}{g:au->R Fl}{ds:List D}{d:D} (h:g (bz n ds)=.ok (.rt d)):eJ n g ds=.ok d:=by unfold eJ;rw [h]
theorem Ov {n:Nat}{g:au->R Fl}{ds:List D}{c:Str}{m:Option D} (h:g (bz n ds)=.ex c m):eJ n g ds=.ex c m:=by unfold eJ;rw [h]
def JK (ns:List Int) (k:Int):Int:=if k<ns.length then ns.getD k.toNat 0 else if ns=[] then 0 else ns.getD (k % ns.length).toNat 0 * 31 + k
theorem Ow (ns:List Int):bS (ns.map .int)=true:=by
 induction ns with
 | nil=>rfl
 | cons x r ih=>simp [bS,ed,ih]
theorem Ra (ns:List Int):bf (.list (ns.map .int)) (.list [])=decide (ns=[]):=by
 cases ns with
 | nil=>rfl
 | cons x r=>simp [bf,eU]
theorem Uv (ns:List Int):lP false (.list (ns.map .int)) (.list [])=.ok (.bool (decide (ns=[]))):=by
 unfold lP
 have h1:(fH (ns.map .int)).canLay0=true:=by simp only [ed];exact Ow ns
 have h2:(fH []).canLay0=true:=rfl
 have h3:min (fH (ns.map .int)).depth (fH []).depth<=60:=bR (qw _ _) (by decide)
 rw [h1,h2,decide_eq_true h3,Ra]
 rfl
theorem Uw (ns:List Int) (k:Int) (h0:0<=k) (h1:k<ns.length):Eb (ns.map cm) k=some (.int (ns.getD k.toNat 0)):=by
 have hk:k.toNat<ns.length:=by omega
 have:=uR (xs:=ns.map cm) (j:=k.toNat) (v:=.int (ns.getD k.toNat 0)) (by rw [aP,aR hk];simp [hk])
 rwa [fG h0] at this
theorem Ox (ns:List Int) (k:Int) (h0:0<=k) (h1:k<ns.length):bc (.list (ns.map .int)) (.int k)=.ok (.int (ns.getD k.toNat 0)):=by
 have e:∀ xs k,bc (.list xs) k=ED (.list xs) k:=fun _ _=>rfl
 rw [e]
 unfold ED
 simp only [Uw ns k h0 h1]
theorem JL {i j:Int} (h1:-(2 ^ 64)<j) (h2:j<2 ^ 64):BC i j=true:=by
 unfold BC
 simp only [js,aT,decide_eq_true_eq]
 exact .inr ⟨h1,h2⟩
theorem pQ {i j:Int} (h1:-(2 ^ 64)<i) (h2:i<2 ^ 64):BC i j=true:=by
 unfold BC
 simp only [js,aT,decide_eq_true_eq]
 exact .inl ⟨h1,h2⟩
theorem Rb (ns:List Int) (k:Int) (hk:0<=k):kA [.list (ns.map .int),.int k]=.ok (.int (JK ns k)):=by
 unfold kA
 refine cE ?_
 unfold kz bz JK
 walk_at "zz"
 by_cases h:k<ns.length
 ·simp only [h,decide_true,cond_true,if_true,Ox ns k hk h,bind_ok]
  walk_at "zz"
 ·simp only [h,decide_false,cond_false,if_false]
  walk_at "zz"
  rw [Uv]
  walk_at "zz"
  by_cases h2:ns=[]
  ·simp only [h2,decide_true,cond_true,if_true]
   walk_at "zz"
  ·have hl:(0:Int)<ns.length:=by have:0<ns.length:=List.length_pos_iff.mpr h2;omega
   simp only [h2,decide_false,cond_false,if_false,hl,decide_true]
   walk_at "zz"
   simp only [h2,decide_false,cond_false,if_false,hl,decide_true,if_true]
   walk_at "zz"
   rw [Ox ns _ (rO _ (by omega)) (n_ _ hl)]
   walk_at "zz"
   rw [JL (by decide) (by decide)]
   walk_at "zz"
def zB (ns:List Int) (k:Int):Int:=(JK ns k + 7919 * k + 1) * 48271 % 2147483647
def fq (ns:List Int) (k m:Int):Int:=(zB ns k * zB ns k + 7 * zB ns k + k) % 2147483629 % m
theorem ft (ns:List Int) (k m:Int) (h:0<m):0<=fq ns k m:=rO _ (by omega)
theorem g9 (ns:List Int) (k m:Int) (h:0<m):fq ns k m<m:=n_ _ h
theorem fu (ns:List Int) (k m:Int) (hk:0<=k) (hm:0<m):br [.list (ns.map .int),.int k,.int m]=.ok (.int (fq ns k m)):=by
 have d0:0<=zB ns k:=rO _ (by decide)
 have d1:zB ns k<2147483647:=n_ _ (by decide)
 unfold br
 refine cE ?_
 unfold nF bz
 walk_at "zz"
 rw [Rb ns k hk]
 walk_at "zz"
 rw [pQ (by decide) (by decide)]
 walk_at "zz"
 rw [JL (by decide) (by decide)]
 walk_at "zz"
 rw [show (JK ns k + 7919 * k + 1) * 48271 % 2147483647=zB ns k from rfl,pQ (i:=zB ns k) (by omega) (by omega)]
 walk_at "zz"
 rw [pQ (i:=7) (by decide) (by decide)]
 walk_at "zz"
 rw [decide_eq_true hm]
 walk_at "zz"
 rfl
theorem oM {α β:Type}{kt:D->au->R au}{gb:au->R Fl} (c:α->D) (f:β->α->β) (P:List α->β->au->Prop) (h:∀ x bX b ρ,P (x::bX) b ρ->∃ ρ1 ρ',kt (c x) ρ=.ok ρ1/\gb ρ1=.ok (.nx ρ')/\P bX (f b x) ρ') :
  ∀ (xs:List α) (b:β) (ρ:au),P xs b ρ->∃ ρ',iw kt gb (xs.map c) ρ=.ok (.nx ρ')/\P [] (xs.foldl f b) ρ'
 | [],b,ρ,p=>⟨ρ,rfl,p⟩
 | x::r,b,ρ,p=>by
  obtain ⟨ρ1,ρ2,h1,h2,h3⟩:=h x r b ρ p
  obtain ⟨ρ3,h4,h5⟩:=oM c f P h r (f b x) ρ2 h3
  refine ⟨ρ3,?_,h5⟩
  rw [aI]
  unfold iw
  rw [h1]
  simp only [h2]
  exact h4
theorem JM {α β:Type}{kt:D->au->R au}{gb hh:au->R Fl}{r:R Fl} (c:α->D) (f:β->α->β) (P:List α->β->au->Prop) {xs:List α} (b:β) {ρ:au}
  (h:∀ x bX b ρ,P (x::bX) b ρ->∃ ρ1 ρ',kt (c x) ρ=.ok ρ1/\gb ρ1=.ok (.nx ρ')/\P bX (f b x) ρ') (p0:P xs b ρ) (k:∀ ρ',P [] (xs.foldl f b) ρ'->hh ρ'=r):(iw kt gb (xs.map c) ρ).bind (L8 hh)=r:=by
 obtain ⟨ρ',e,p⟩:=oM c f P h xs b ρ p0
 rw [e,bind_ok,vj]
 exact k ρ' p
theorem vp (n:Nat) (h:n<=1000):Hu [.int (n:Int)]=.ok ((bv n).map fun (i:Nat)=>cm (i:Int)):=by
 have e:Hu [.int (n:Int)]=.ok (r9 0 (n:Int).toNat):=QT (by omega) (by omega)
 rw [e]
 unfold r9
 rw [jX]
 exact congrArg R.ok (uA fun a _=>congrArg cm (Int.zero_add _))
def AU (x:Str):Bool:=decide (1<=x.cps.size) && decide (x.cps.size<=6/\x.cps.size≠5) && x.cps.toList.all fun c=>decide (97<=c) && decide (c<=122)
def tq (ns:List Int) (k:Int):Nat:=[1,2,3,6,1,4].getD (fq ns k 6).toNat 0
def Db (ns:List Int) (k:Int) (i:Nat):Nat:=97 + (fq ns (k + 1 + i) 26).toNat
def kQ (ns:List Int) (k:Int):Str:=⟨((bv (tq ns k)).map (Db ns k)).toArray⟩
theorem JP (ns:List Int) (k:Int):1<=tq ns k/\(tq ns k<=6/\tq ns k≠5):=by
 have h0:=ft ns k 6 (by decide)
 have h1:=g9 ns k 6 (by decide)
 unfold tq
 have:∀ j:_root_.Fin 6,1<=[1,2,3,6,1,4].getD j.val 0/\([1,2,3,6,1,4].getD j.val 0<=6/\[1,2,3,6,1,4].getD j.val 0≠5):=by decide
 exact this ⟨(fq ns k 6).toNat,by omega⟩
theorem Rc (ns:List Int) (k:Int) (i:Nat):97<=Db ns k i/\Db ns k i<=122:=by
 have h0:=ft ns (k + 1 + i) 26 (by decide)
 have h1:=g9 ns (k + 1 + i) 26 (by decide)
 unfold Db
 omega
theorem Fa (ns:List Int) (k:Int):AU (kQ ns k)=true:=by
 have ⟨h1,h2⟩:=JP ns k
 unfold AU kQ
 simp only [aJ,al,fi,aT,decide_eq_true_eq,b_]
 refine ⟨⟨h1,h2⟩,fun c hc=>?_⟩
 obtain ⟨i,_,rfl⟩:=List.mem_map.mp hc
 exact Rc ns k i
theorem Oy (j:Int) (h0:0<=j) (h1:j<26):bc (.str "abcdefghijklmnopqrstuvwxyz") (.int j)=.ok (.str ⟨#[97 + j.toNat]⟩):=by
 have e:∀ x k,bc (.str x) k=ED (.str x) k:=fun _ _=>rfl
 rw [e]
 unfold ED
 have hc:("abcdefghijklmnopqrstuvwxyz" : Str).cps.toList=(bv 26).map (97 + ·):=by decide +kernel
 have hl:("abcdefghijklmnopqrstuvwxyz" : Str).length<=1000:=by decide +kernel
 have hj:j.toNat<26:=by omega
 have hx:=uR (xs:=(bv 26).map (97 + ·)) (j:=j.toNat) (v:=97 + j.toNat) (by rw [aP,Kj hj];rfl)
 rw [fG h0] at hx
 simp only [hl,if_true,hc,hx]
theorem Re (j:Int) (h0:0<=j) (h1:j<6):bc (.list [.int 1,.int 2,.int 3,.int 6,.int 1,.int 4]) (.int j)=.ok (.int (([1,2,3,6,1,4].getD j.toNat 0:Nat):Int)):=by
 obtain ⟨n,rfl⟩:=qx h0
 have hn:n<6:=by omega
 match n,hn with
 | 0,_=>rfl
 | 1,_=>rfl
 | 2,_=>rfl
 | 3,_=>rfl
 | 4,_=>rfl
 | 5,_=>rfl
theorem Dc (l:List Nat):∀ (acc:Str),l.foldl (fun (a:Str) c=>a++⟨#[c]⟩) acc=⟨(acc.cps.toList++l).toArray⟩:=by
 induction l with
 | nil=>intro acc;simp
 | cons c r ih =>
  intro acc
  rw [dU,ih]
  show (⟨((acc.cps++#[c]).toList++r).toArray⟩:Str)=_
  simp
theorem Lf:("" : Str).cps.toList=[]:=by decide +kernel
theorem JQ (ns:List Int) (k:Int) (hk:0<=k):k9 [.list (ns.map .int),.int k]=.ok (.str (kQ ns k)):=by
 have h0:=ft ns k 6 (by decide)
 have h1:=g9 ns k 6 (by decide)
 have ⟨w1,w2⟩:=JP ns k
 unfold k9
 refine cE ?_
 unfold pE bz
 walk_at "zz"
 rw [qr (ds:=(bv (tq ns k)).map fun (i:Nat)=>cm i)]
 ·refine JM (fun (i:Nat)=>cm i) (fun (a:Str) i=>a++⟨#[Db ns k i]⟩) (fun bX a ρ=>a.length + bX.length<=900/\∃ z,ρ=[.shr (.list (ns.map .int)),.shr (.int k),.shr (.str a),z]) "" ?_ ⟨by rw [fi,show ("" : Str).length=0 by decide];omega,_,rfl⟩ ?_
  ·rintro i bX a ρ ⟨hl,z,rfl⟩
   simp only [aU] at hl
   refine ⟨_,[.shr (.list (ns.map .int)),.shr (.int k),.shr (.str (a++⟨#[Db ns k i]⟩)),.shr (.int i)],rfl,?_,?_,_,rfl⟩
   ·walk_at "zz"
    rw [fu ns _ 26 (by omega) (by decide)]
    walk_at "zz"
    rw [Oy _ (ft _ _ _ (by decide)) (g9 _ _ _ (by decide))]
    walk_at "zz"
    have hz:a.length + (⟨#[97 + (fq ns (k + 1 + i) 26).toNat]⟩:Str).length<=1000:=by
     show a.length + 1<=1000
     omega
    rw [if_pos hz]
    walk_at "zz"
    rw [show 97 + (fq ns (k + 1 + i) 26).toNat=Db ns k i from rfl]
   ·show (a.cps++#[_]).size + bX.length<=900
    rw [Array.size_append]
    show a.cps.size + 1 + bX.length<=900
    have:a.length=a.cps.size:=rfl
    omega
  ·rintro ρ' ⟨_,z,rfl⟩
   walk_at "zz"
   have:(bv (tq ns k)).foldl (fun (a:Str) i=>a++⟨#[Db ns k i]⟩) ""=kQ ns k:=by
    have:=Dc ((bv (tq ns k)).map (Db ns k)) ""
    rw [sZ] at this
    rw [this,Lf]
    unfold kQ
    rw [lO]
   rw [this]
 ·walk_at "zz"
  rw [fu ns k 6 hk (by decide)]
  walk_at "zz"
  have et:=Re (fq ns k 6) h0 h1
  have ew:[1,2,3,6,1,4].getD (fq ns k 6).toNat 0=tq ns k:=rfl
  rw [ew] at et
  rw [et]
  walk_at "zz"
  rw [vp (tq ns k) (by omega)]
def i9 (l:List (Str×D)):List (D×D):=l.map fun p=>(.str p.1,p.2)
def sS (l:List (Str×D)) (x:Str) (d:D):List (Str×D):=if l.any (fun p=>decide (p.1=x)) then l.map (fun p=>if p.1=x then (p.1,d) else p) else l++[(x,d)]
theorem sx (x y:Str):bf (.str x) (.str y)=decide (x=y):=by
 show (x == y)=_
 rw [rN]
theorem JR (l:List (Str×D)) (x:Str) (d:D):sR (i9 l) (.str x) d=i9 (sS l x d):=by
 unfold sR sS i9
 rw [jS]
 have e:((fun kv:D×D=>bf kv.1 (.str x))∘fun p:Str×D=>(aQ p.1,p.2))=fun p=>decide (p.1=x):=by
  funext p
  exact sx p.1 x
 rw [e]
 split
 ·rw [cL,cL]
  apply uA
  intro p _
  simp only [Function.comp,sx]
  by_cases h:p.1=x
  ·simp [h]
  ·simp [h]
 ·simp
theorem zC (l:List (Str×D)):hX (i9 l)=true:=by
 unfold hX i9
 rw [jT,b_]
 intro p _
 rfl
theorem Fb (l:List (Str×D)) (x:Str) (d:D):(sS l x d).length<=l.length + 1:=by
 unfold sS
 split<;>simp
theorem BS (l:List (Str×D)) (x:Str) (d:D):(sS l x d).map (·.1)=if x∈l.map (·.1) then l.map (·.1) else l.map (·.1)++[x]:=by
 unfold sS
 have e:(l.any fun p=>decide (p.1=x))=decide (x∈l.map (·.1)):=by
  rw [eA]
  simp only [gR,decide_eq_true_eq,List.mem_map]
 rw [e]
 by_cases h:x∈l.map (·.1)
 ·rw [decide_eq_true h,if_pos rfl,if_pos h,cL]
  apply uA
  intro p _
  by_cases hp:p.1=x<;>simp [hp]
 ·rw [decide_eq_false h,if_neg aY,if_neg h,aX]
  rfl
theorem Oz {Q:Str->D->Prop}{l:List (Str×D)}{x:Str}{d:D} (h:∀ p∈l,Q p.1 p.2) (hx:Q x d):∀ p∈sS l x d,Q p.1 p.2:=by
 unfold sS
 split
 ·intro p hp
  obtain ⟨p',hp',rfl⟩:=List.mem_map.mp hp
  by_cases e:p'.1=x
  ·rw [if_pos e];rw [e];exact hx
  ·rw [if_neg e];exact h p' hp'
 ·intro p hp
  rcases List.mem_append.mp hp with hp | hp
  ·exact h p hp
  ·rw [List.mem_singleton.mp hp];exact hx
theorem Lg {l:List Str}{x:Str} (h:l.Nodup):(if x∈l then l else l++[x]).Nodup:=by
 by_cases hx:x∈l
 ·rw [if_pos hx];exact h
 ·rw [if_neg hx];exact uW h hx
theorem SZ {i:Nat}{gk g:au->R D}{ρ:au}{l:List (Str×D)}{x:Str}{d:D} (hi:ρ[i]?=some (Sl.own (.dict (i9 l)))) (hg:g ρ=.ok d) (hk:gk ρ=.ok (.str x)) (hl:l.length<1000):C_ i gk g ρ=.ok (.nx (ρ.set i (.own (.dict (i9 (sS l x d)))))):=by
 have hl':(i9 l).length<1000:=by unfold i9;rw [al];exact hl
 have e:C_ i gk g ρ=(g ρ).bind fun d=>(gk ρ).bind fun k=>match oI k with
  | some _=>if (i9 l).length<1000/\hX (i9 l)=true then .ok (.nx (ρ.set i (.own (.dict (sR (i9 l) k d))))) else .no
  | none=>.no:=by
  unfold C_
  simp only [hi]
  try rfl
 rw [e,hg,zo,hk,zo]
 simp only [oI,if_pos (uz hl' (zC l)),JR]
theorem Fc (l:List (Str×D)):kq (.dict (i9 l))=.ok (.list ((l.map (·.1)).map .str)):=by
 have e:∀ kvs,kq (.dict kvs)=if hX kvs=true then .ok (.list (kvs.map (·.1))) else .no:=fun _=>rfl
 rw [e,if_pos (zC l)]
 unfold i9
 rw [cL,cL]
 rfl
theorem sorted_strs (ss:List Str) (h:ss.length<64):rY (.list (ss.map .str))=.ok (.list ((jC ss).map .str)):=by
 have e:∀ ds,rY (.list ds)=match gx ds with
  | some ss=>if ss.length<64 then .ok (.list ((jC ss).map .str)) else .no
  | none=>.no:=fun _=>rfl
 rw [e,strsOf_map]
 simp only [if_pos h]
theorem fN (ds:List D):hJ (.list ds)=.ok (.tuple ds):=id rfl
def Dd (ns:List Int) (k:Int) (n:Nat):List Str:=(bv n).map fun (i:Nat)=>kQ ns (k + 1 + 8 * (i:Int))
def De (ns:List Int) (k m:Int):List Str:=jC (dz [] (Dd ns k (fq ns k (m + 1)).toNat))
structure OA (fs:List Str) (n:Nat):Prop where
 ok:∀ x∈fs,AU x=true
 up:fs.Pairwise fun a b=>qp a b=true
 len:fs.length<=n
theorem OB {α:Type}{a b:List α} (h:a.Perm b):a.length=b.length:=h.length_eq
theorem HG (ns:List Int) (k m:Int) (hm:0<=m):OA (De ns k m) m.toNat:=by
 have h0:=ft ns k (m + 1) (by omega)
 have h1:=g9 ns k (m + 1) (by omega)
 have hp:=hG (dz [] (Dd ns k (fq ns k (m + 1)).toNat))
 refine ⟨fun x hx=>?_,?_,?_⟩
 ·have hx:=hp.mem_iff.mp hx
  rw [iF] at hx
  rcases hx with hx | hx
  ·cases hx
  ·obtain ⟨i,_,rfl⟩:=List.mem_map.mp hx
   exact Fa _ _
 ·exact wl (qV _) (hp.nodup_iff.mpr (ip _ [] gP))
 ·unfold De
  rw [OB hp]
  have:=f_ (Dd ns k (fq ns k (m + 1)).toNat) []
  unfold Dd at this ⊢
  simp at this
  omega
theorem Lh (f:Nat->Str) (l:List Nat):∀ acc:List (Str×D),((l.foldl (fun (a:List (Str×D)) i=>sS a (f i) (.bool true)) acc).map (·.1))=dz (acc.map (·.1)) (l.map f):=by
 induction l with
 | nil=>intro acc;rfl
 | cons i r ih =>
  intro acc
  rw [dU,ih,aI,BS]
  rfl
theorem OC (ns:List Int) (k m:Int) (hk:0<=k) (hm:0<=m) (hm2:m<=20):nI [.list (ns.map .int),.int k,.int m]=.ok (.tuple ((De ns k m).map .str)):=by
 have h0:=ft ns k (m + 1) (by omega)
 have h1:=g9 ns k (m + 1) (by omega)
 unfold nI
 refine cE ?_
 unfold nG bz
 walk_at "zz"
 rw [qr (ds:=(bv (fq ns k (m + 1)).toNat).map fun (i:Nat)=>cm i)]
 ·refine JM (fun (i:Nat)=>cm i) (fun (a:List (Str×D)) i=>sS a (kQ ns (k + 1 + 8 * (i:Int))) (.bool true)) (fun bX a ρ=>a.length + bX.length<=60/\∃ z,ρ=[.shr (.list (ns.map .int)),.shr (.int k),.shr (.int m),.own (.dict (i9 a)),z]) [] ?_ ⟨by simp;omega,_,rfl⟩ ?_
  ·rintro i bX a ρ ⟨hl,z,rfl⟩
   simp only [aU] at hl
   refine ⟨_,[.shr (.list (ns.map .int)),.shr (.int k),.shr (.int m),.own (.dict (i9 (sS a (kQ ns (k + 1 + 8 * (i:Int))) (.bool true)))),.shr (.int i)],rfl,?_,?_,_,rfl⟩
   ·refine (SZ (l:=a) (x:=kQ ns (k + 1 + 8 * (i:Int))) (d:=.bool true) rfl rfl ?_ (by omega)).trans rfl
    walk_at "zz"
    rw [pQ (by decide) (by decide)]
    walk_at "zz"
    rw [JQ ns _ (by omega)]
   ·have:=Fb a (kQ ns (k + 1 + 8 * (i:Int))) (.bool true)
    omega
  ·rintro ρ' ⟨hl,z,rfl⟩
   simp only [bO] at hl
   walk_at "zz"
   rw [Fc]
   walk_at "zz"
   have ek:=Lh (fun i=>kQ ns (k + 1 + 8 * (i:Int))) (bv (fq ns k (m + 1)).toNat) []
   rw [ek,sorted_strs]
   ·walk_at "zz"
    rw [fN]
    walk_at "zz"
    rfl
   ·rw [<- ek,al];omega
 ·walk_at "zz"
  rw [fu ns k (m + 1) hk (by omega)]
  walk_at "zz"
  have:=vp (fq ns k (m + 1)).toNat (by omega)
  rw [fG h0] at this
  exact this
structure cW where
 name:Str
 needs:List Str
 bars:List Str
 makes:List Str
 ends:List Str
 price:Int
abbrev ay (xs:List Str):D:=.tuple (xs.map .str)
def cK (e:cW):D:=.tuple [.str e.name,ay e.needs,ay e.bars,ay e.makes,ay e.ends,.int e.price]
structure mS (fs xs:List Str):Prop where
 up:xs.Pairwise fun a b=>qp a b=true
 mem:∀ x∈xs,x∈fs
structure rf (fs:List Str) (e:cW):Prop where
 name:AU e.name=true
 needs:mS fs e.needs
 bars:mS fs e.bars
 makes:mS fs e.makes
 ends:mS fs e.ends
 nb:∀ x∈e.needs,x∉e.bars
 me:∀ x∈e.makes,x∉e.ends
 p0:0<=e.price
 p9:e.price<=9
def DW (xs:List Str):List Str:=jC (dz [] xs)
theorem nJ {xs:List Str}{x:Str}:x∈DW xs↔x∈xs:=by
 unfold DW
 rw [(hG _).mem_iff,iF]
 simp
theorem HH (xs:List Str):(DW xs).Pairwise fun a b=>qp a b=true:=wl (qV _) ((hG _).nodup_iff.mpr (ip _ [] gP))
theorem yg {fs xs:List Str} (h:∀ x∈xs,x∈fs):mS fs (DW xs):=⟨HH xs,fun x hx=>h x (nJ.mp hx)⟩
theorem Df (fs:List Str) (j:Int) (h0:0<=j) (h1:j<fs.length):∃ x,x∈fs/\bc (ay fs) (.int j)=.ok (.str x):=by
 have hj:j.toNat<fs.length:=by omega
 refine ⟨fs[j.toNat],gQ hj,?_⟩
 have e:∀ xs k,bc (.tuple xs) k=ED (.tuple xs) k:=fun _ _=>rfl
 rw [e]
 have hx:=uR (xs:=fs.map aQ) (j:=j.toNat) (v:=.str fs[j.toNat]) (by rw [aP,aR hj];rfl)
 rw [fG h0] at hx
 unfold ED
 simp only [hx]
theorem zD (x:Str):∀ ys:List Str,((ys.map aQ).any fun y=>bf y (.str x))=decide (x∈ys)
 | []=>rfl
 | y::r=>by
  rw [aI,ef,zD x r,sx]
  by_cases h:y=x
  ·subst h;simp
  ·simp [h,de h]
theorem zE (ys:List Str):(ys.map aQ).all le=true:=by
 rw [jT,b_];intro _ _;rfl
theorem JU (neg:Bool) (x:Str) (ys:List Str):wq neg (.str x) (.list (ys.map .str))=.ok (.bool (if neg then !decide (x∈ys) else decide (x∈ys))):=by
 have e:wq neg (.str x) (.list (ys.map .str))=if le (.str x) && (ys.map aQ).all le then .ok (.bool (if neg then !((ys.map aQ).any fun y=>bf y (.str x)) else (ys.map aQ).any fun y=>bf y (.str x))) else .no:=rfl
 rw [e,zE,zD]
 rfl
theorem ka (neg:Bool) (x:Str) (ys:List Str):wq neg (.str x) (ay ys)=.ok (.bool (if neg then !decide (x∈ys) else decide (x∈ys))):=by
 have e:wq neg (.str x) (ay ys)=if le (.str x) && (ys.map aQ).all le then .ok (.bool (if neg then !((ys.map aQ).any fun y=>bf y (.str x)) else (ys.map aQ).any fun y=>bf y (.str x))) else .no:=rfl
 rw [e,zE,zD]
 rfl
theorem mx (neg:Bool) (a b:Int):lP neg (.int a) (.int b)=.ok (.bool (if neg then !decide (a=b) else decide (a=b))):=by
 have e:lP neg (.int a) (.int b)=.ok (.bool (if neg then !(a == b) else (a == b))):=rfl
 rw [e,rN]
theorem yh {x:Str} (h:AU x=true):(aQ x).canLay0=true:=by
 unfold AU at h
 simp only [aT,b_,decide_eq_true_eq] at h
 show PyData.strOk x=true
 unfold PyData.strOk
 rw [<- Array.all_toList,b_]
 intro c hc
 have:=h.2 c hc
 exact decide_eq_true (by omega)
theorem Rf (neg:Bool) {x y:Str} (hx:AU x=true) (hy:AU y=true):lP neg (.str x) (.str y)=.ok (.bool (if neg then !decide (x=y) else decide (x=y))):=by
 unfold lP
 rw [yh hx,yh hy,sx]
 rfl
theorem zF (ss:List Str) (h:ss.length<60):tW (.list (ss.map .str))=.ok (dz [] ss):=by
 have e:∀ ds,tW (.list ds)=match gx ds with
  | some ss=>if ss.length<60 then .ok (dz [] ss) else .no
  | none=>.no:=fun _=>rfl
 rw [e,strsOf_map]
 simp only [if_pos h]
theorem JV (g:au->R D) (s:Sl) (ρ:au):pw g (s::ρ)=(g (s::ρ)).bind tW:=id rfl
def S_:List Str->R D:=fun ss=>if ss.length<64 then .ok (.list ((jC ss).map .str)) else .no
theorem wy (g:au->R (List Str)) (s:Sl) (ρ:au):kK g (s::ρ)=(g (s::ρ)).bind S_:=id rfl
theorem zG (ss:List Str) (h:ss.length<64):S_ ss=.ok (.list ((jC ss).map .str)):=if_pos h
theorem Li (ss:List Str) (h:ss.length<60) (ρ:au):(cb (J.ac (kK (pw (rB 0))) J.aF) (i8 hJ)) (.shr (.list (ss.map .str))::ρ)=.ok (ay (DW ss)):=by
 walk_at "zz"
 rw [wy,JV]
 walk_at "zz"
 rw [zF ss h]
 walk_at "zz"
 rw [zG _ (by have:=f_ ss [];simp at this;omega)]
 walk_at "zz"
 rw [fN]
 rfl
theorem Fd {ρ:au}{gt:au->R Bool}{x:Str}{b:Bool}{s:Sl}{r:au} (hρ:ρ=s::r) (h:gt (.shr (.str x)::r)=.ok b):gT (iu 1 ρ gt (rS 0)) [.str x]=.ok ((if b then [x] else []).map .str):=by
 subst hρ
 have e:=jG (ρ:=s::r) (gt:=gt) (ge:=(rS 0)) (d:=.str x) (y:=.str x) (b:=b) h fun _=>rfl
 unfold gT
 rw [e,zo]
 unfold gT
 rw [zo]
 cases b<;>rfl
theorem Ux (p q r t:List Str) (hp:p.length<60) (hq:q.length<60) (hr:r.length<60) (ht:t.length<60):gT (iu 1 [Sl.no] kT (cb (J.ac (kK (pw (rB 0))) J.aF) (i8 hJ))) [.list (p.map .str),.list (q.map .str),.list (r.map .str),.list (t.map .str)]=.ok [ay (DW p),ay (DW q),ay (DW r),ay (DW t)] :=
 dA _ (fun ss:List Str=>fH (ss.map .str)) (fun ss=>ay (DW ss)) [p,q,r,t] fun ss hs=>fc rfl (Li ss (by simp at hs;rcases hs with h | h | h | h<;>(rw [h];assumption)) _)
theorem T2 (a b c d:D):bc (.list [a,b,c,d]) (.int 0)=.ok a:=id rfl
theorem T3 (a b c d:D):bc (.list [a,b,c,d]) (.int 1)=.ok b:=id rfl
theorem T4 (a b c d:D):bc (.list [a,b,c,d]) (.int 2)=.ok c:=id rfl
theorem T5 (a b c d:D):bc (.list [a,b,c,d]) (.int 3)=.ok d:=id rfl
theorem Rg (ns:List Int) (k:Int) (hk:0<=k) (fs:List Str) (hf:∀ x∈fs,AU x=true) (h0:0<fs.length) (nm:Str) (hn:AU nm=true) :
  ∃ e,pI [.list (ns.map .int),.int k,ay fs,.str nm]=.ok (cK e)/\rf fs e/\e.name=nm:=by
 have hl:(0:Int)<(fs.length:Int):=by omega
 obtain ⟨a,ha,ea⟩:=Df fs (fq ns (k + 10) fs.length) (ft _ _ _ hl) (g9 _ _ _ hl)
 obtain ⟨b,hb,eb⟩:=Df fs (fq ns (k + 11) fs.length) (ft _ _ _ hl) (g9 _ _ _ hl)
 obtain ⟨c,hc,ec⟩:=Df fs (fq ns (k + 12) fs.length) (ft _ _ _ hl) (g9 _ _ _ hl)
 have m13a:=ft ns (k + 13) 3 (by decide)
 have m13b:=g9 ns (k + 13) 3 (by decide)
 obtain ⟨nd,hnd,hnl,end_⟩:∃ nd:List Str,(∀ x∈nd,x∈fs)/\nd.length<60/\J8 (.list [.str a,.str b]) none (some (1 + fq ns (k + 13) 3 / 2))=.ok (.list (nd.map .str)):=by
  by_cases h2:fq ns (k + 13) 3=2
  ·exact ⟨[a,b],by simp [ha,hb],by simp,by rw [h2];rfl⟩
  ·have:fq ns (k + 13) 3 / 2=0:=by omega
   exact ⟨[a],by simp [ha],by simp,by rw [this];rfl⟩
 let bb:Bool:=!decide (c∈nd) && decide (fq ns (k + 14) 4=0)
 let be:Bool:=!decide (a=c) && decide (fq ns (k + 15) 3=0)
 have p0:=ft ns k 5 (by decide)
 have p1:=g9 ns k 5 (by decide)
 refine ⟨⟨nm,DW nd,DW (if bb then [c] else []),DW [c],DW (if be then [a] else []),fq ns k 5⟩,?_,⟨hn,yg hnd,yg ?_,yg (by simp [hc]),yg ?_,fun x h1 h2=>?_,fun x h1 h2=>?_,p0,by show fq ns k 5<=9;omega⟩,rfl⟩
 ·unfold pI
  refine cE ?_
  unfold pH bz
  walk_at "zz"
  rw [fu ns _ _ (by omega) hl]
  walk_at "zz"
  rw [ea]
  walk_at "zz"
  rw [fu ns (k + 11) _ (by omega) hl]
  walk_at "zz"
  rw [eb]
  walk_at "zz"
  rw [fu ns (k + 12) _ (by omega) hl]
  walk_at "zz"
  rw [ec]
  walk_at "zz"
  rw [fu ns (k + 13) 3 (by omega) (by decide)]
  walk_at "zz"
  simp only [GQ,decide_true,l5,if_true]
  walk_at "zz"
  rw [end_]
  walk_at "zz"
  rw [Fd (b:=bb) rfl]
  ·walk_at "zz"
   rw [Fd (b:=be) rfl]
   ·walk_at "zz"
    simp only [Sq]
    rw [D2 rfl,D2 rfl]
    walk_at "zz"
    have pk:=Ux nd (if bb then [c] else []) [c] (if be then [a] else []) hnl (by cases bb<;>simp) (by simp) (by cases be<;>simp)
    rw [show ([c].map aQ)=[aQ c] from rfl] at pk
    rw [pk]
    walk_at "zz"
    rw [T2]
    walk_at "zz"
    rw [T3]
    walk_at "zz"
    rw [T4]
    walk_at "zz"
    rw [T5]
    walk_at "zz"
    rw [fu ns k 5 hk (by decide)]
    walk_at "zz"
    rfl
   ·walk_at "zz"
    rw [Rf true (hf a ha) (hf c hc)]
    walk_at "zz"
    by_cases hac:a=c
    ·simp only [be,hac,decide_true,oW,Bb,if_true,cond_false]
    ·simp only [be,hac,decide_false,iQ,uL,if_true,cond_true]
     rw [fu ns (k + 15) 3 (by omega) (by decide)]
     walk_at "zz"
     rw [mx]
     walk_at "zz"
  ·walk_at "zz"
   rw [JU]
   walk_at "zz"
   by_cases hcn:c∈nd
   ·simp only [bb,hcn,decide_true,oW,Bb,if_true,cond_false]
   ·simp only [bb,hcn,decide_false,iQ,uL,if_true,cond_true]
    rw [fu ns (k + 14) 4 (by omega) (by decide)]
    walk_at "zz"
    rw [mx]
    walk_at "zz"
 ·intro x hx
  cases hbb:bb
  ·simp [hbb] at hx
  ·simp [hbb] at hx;rw [hx];exact hc
 ·intro x hx
  cases hbe:be
  ·simp [hbe] at hx
  ·simp [hbe] at hx;rw [hx];exact ha
 ·have h2:x∈(if bb then [c] else []):=nJ.mp h2
  cases hbb:bb
  ·simp [hbb] at h2
  ·simp [hbb] at h2
   subst h2
   have:(!decide (x∈nd))=true:=by
    have:(!decide (x∈nd) && decide (fq ns (k + 14) 4=0))=true:=hbb
    simp only [aT] at this
    exact this.1
   simp at this
   exact this (nJ.mp h1)
 ·cases hbe:be
  ·have h2:x∈(if be then [a] else []):=nJ.mp h2
   simp [hbe] at h2
  ·skip
   have h4:x∈[c]:=nJ.mp h1
   have h5:x∈(if be then [a] else []):=nJ.mp h2
   simp only [dY] at h4
   simp only [hbe,if_true,dY] at h5
   have:(!decide (a=c) && decide (fq ns (k + 15) 3=0))=true:=hbe
   simp only [aT] at this
   have h3:=this.1
   simp at h3
   exact h3 (h5.symm.trans h4)
theorem Dg {i:Nat}{gi g:au->R D}{ρ:au}{dss:List (List D)}{ds:List D}{d:D}{j:Int} (hi:ρ[i]?=some (Sl.ow2 dss)) (hj:gi ρ=.ok (.int j)) (h0:0<=j) (hd:dss[j.toNat]?=some ds) (hg:g ρ=.ok d) (hl:ds.length<1000):oJ i gi g ρ=.ok (.nx (ρ.set i (.ow2 (dss.set j.toNat (ds++[d]))))):=by
 unfold oJ
 simp only [hi,hj,bind_ok,if_pos h0,hd,hg,if_pos hl]
def nK (n:Nat):List Str->List (Nat×Str)
 | []=>[]
 | x::r=>(n,x)::nK (n + 1) r
abbrev cI (p:Nat×Str):D:=.tuple [.int (p.1:Nat),.str p.2]
theorem yi:∀ (xs:List Str) (n:Nat),iZ n (xs.map .str)=(nK n xs).map cI
 | [],_=>rfl
 | x::r,n=>by
  show cG [.int n,.str x]::iZ (n + 1) (r.map .str)=cI (n,x)::(nK (n + 1) r).map cI
  rw [yi r (n + 1)]
theorem sy:∀ (xs:List Str) (n:Nat),(nK n xs).map (·.2)=xs
 | [],_=>rfl
 | x::r,n=>by
  show x::(nK (n + 1) r).map (·.2)=x::r
  rw [sy r]
theorem vq:∀ (fs:List Str),(∀ x∈fs,AU x=true)->bS (fs.map .str)=true
 | [],_=>rfl
 | x::r,h=>by
  have h1:=yh (h x ao)
  have h2:=vq r fun y hy=>h y (am _ hy)
  simp only [aI,bS,h1,h2,l5]
theorem JX (fs:List Str) (hf:∀ x∈fs,AU x=true):lP true (ay fs) (.tuple [])=.ok (.bool (!decide (fs=[]))):=by
 unfold lP
 have h1:(ay fs).canLay0=true:=by simp only [ed];exact vq fs hf
 have h2:(cG []).canLay0=true:=rfl
 have h3:min (ay fs).depth (cG []).depth<=60:=bR (qw _ _) (by decide)
 have h4:bf (ay fs) (.tuple [])=decide (fs=[]):=by
  cases fs with
  | nil=>rfl
  | cons x r=>simp [bf,eU]
 rw [h1,h2,decide_eq_true h3,h4]
 rfl
structure og (pre p q:List Str):Prop where
 sp:p.Sublist pre
 sq:q.Sublist pre
 d:∀ x∈p,x∉q
theorem og.skip {pre p q:List Str} (h:og pre p q) (x:Str):og (pre++[x]) p q:=⟨h.sp.trans (ja _ _),h.sq.trans (ja _ _),h.d⟩
theorem og.left {pre p q:List Str} (h:og pre p q) (x:Str) (hx:x∉pre):og (pre++[x]) (p++[x]) q:=⟨h.sp.append (eQ _),h.sq.trans (ja _ _),fun y hy hq=>by
 rcases List.mem_append.mp hy with h1 | h1
 ·exact h.d y h1 hq
 ·rw [List.mem_singleton.mp h1] at hq
  exact hx (h.sq.subset hq)⟩
theorem og.right {pre p q:List Str} (h:og pre p q) (x:Str) (hx:x∉pre):og (pre++[x]) p (q++[x]):=⟨h.sp.trans (ja _ _),h.sq.append (eQ _),fun y hy hq=>by
 rcases List.mem_append.mp hq with h1 | h1
 ·exact h.d y hy h1
 ·rw [List.mem_singleton.mp h1] at hy
  exact hx (h.sp.subset hy)⟩
abbrev o4 (p q r t:List Str):Sl:=.ow2 [p.map .str,q.map .str,r.map .str,t.map .str]
theorem Wz (j:Int) (h0:0<=j) (h1:j<3):∃ b:Bool,bc (.list [.int 0,.int 0,.int 1]) (.int j)=.ok (.int (if b then 0 else 1)):=by
 have:j=0\/j=1\/j=2:=by omega
 rcases this with h | h | h<;>subst h
 ·exact ⟨true,rfl⟩
 ·exact ⟨true,rfl⟩
 ·exact ⟨false,rfl⟩
theorem WA (j:Int) (h0:0<=j) (h1:j<4):∃ b:Bool,bc (.list [.int 2,.int 2,.int 3,.int 3]) (.int j)=.ok (.int (if b then 2 else 3)):=by
 have:j=0\/j=1\/j=2\/j=3:=by omega
 rcases this with h | h | h | h<;>subst h
 ·exact ⟨true,rfl⟩
 ·exact ⟨true,rfl⟩
 ·exact ⟨false,rfl⟩
 ·exact ⟨false,rfl⟩
theorem vt (p:List Str) (x:Str):(p++[x]).map aQ=p.map .str++[.str x]:=by simp
theorem OD {a b c d e f:Sl}{pre p q r t:List Str}{x:Str}{j:Int} (hp:og pre p q) (hx:x∉pre) (hl:pre.length<900) (h0:0<=j) :
  ∃ p' q',og (pre++[x]) p' q'/\e7 (ej (g2 (rB 7) (kI 3) AL)) (oJ 4 (g2 (dQ (J.ac (kI 0) (J.ac (kI 0) (J.ac (kI 1) J.aF))) .list) (rB 7) bc) (rS 6)) (fun ρ=>.ok (.nx ρ)) [a,b,c,d,o4 p q r t,e,.shr (.str x),.shr (.int j),f]=.ok (.nx [a,b,c,d,o4 p' q' r t,e,.shr (.str x),.shr (.int j),f]):=by
 by_cases h3:j<3
 ·obtain ⟨bo,e3⟩:=Wz j h0 h3
  have lp:p.length<1000:=by have:=hp.sp.length_le;omega
  have lq:q.length<1000:=by have:=hp.sq.length_le;omega
  cases bo
  ·refine ⟨p,q++[x],hp.right x hx,?_⟩
   walk_at "zz"
   rw [decide_eq_true h3]
   walk_at "zz"
   simp only [o4,vt]
   refine (Dg (j:=1) (ds:=q.map .str) (d:=.str x) rfl ?_ (by decide) rfl rfl (by rw [al];exact lq)).trans rfl
   walk_at "zz"
   rw [e3]
   rfl
  ·refine ⟨p++[x],q,hp.left x hx,?_⟩
   walk_at "zz"
   rw [decide_eq_true h3]
   walk_at "zz"
   simp only [o4,vt]
   refine (Dg (j:=0) (ds:=p.map .str) (d:=.str x) rfl ?_ (by decide) rfl rfl (by rw [al];exact lp)).trans rfl
   walk_at "zz"
   rw [e3]
   rfl
 ·refine ⟨p,q,hp.skip x,?_⟩
  walk_at "zz"
  rw [decide_eq_false h3]
  walk_at "zz"
theorem OE {a b c d e f:Sl}{pre p q r t:List Str}{x:Str}{j:Int} (hp:og pre r t) (hx:x∉pre) (hl:pre.length<900) (h0:0<=j) :
  ∃ r' t',og (pre++[x]) r' t'/\e7 (ej (g2 (rB 7) (kI 4) AL)) (oJ 4 (g2 (dQ (J.ac (kI 2) (J.ac (kI 2) (J.ac (kI 3) (J.ac (kI 3) J.aF)))) .list) (rB 7) bc) (rS 6)) (fun ρ=>.ok (.nx ρ)) [a,b,c,d,o4 p q r t,e,.shr (.str x),.shr (.int j),f]=.ok (.nx [a,b,c,d,o4 p q r' t',e,.shr (.str x),.shr (.int j),f]):=by
 by_cases h3:j<4
 ·obtain ⟨bo,e3⟩:=WA j h0 h3
  have lp:r.length<1000:=by have:=hp.sp.length_le;omega
  have lq:t.length<1000:=by have:=hp.sq.length_le;omega
  cases bo
  ·refine ⟨r,t++[x],hp.right x hx,?_⟩
   walk_at "zz"
   rw [decide_eq_true h3]
   walk_at "zz"
   simp only [o4,vt]
   refine (Dg (j:=3) (ds:=t.map .str) (d:=.str x) rfl ?_ (by decide) rfl rfl (by rw [al];exact lq)).trans rfl
   walk_at "zz"
   rw [e3]
   rfl
  ·refine ⟨r++[x],t,hp.left x hx,?_⟩
   walk_at "zz"
   rw [decide_eq_true h3]
   walk_at "zz"
   simp only [o4,vt]
   refine (Dg (j:=2) (ds:=r.map .str) (d:=.str x) rfl ?_ (by decide) rfl rfl (by rw [al];exact lp)).trans rfl
   walk_at "zz"
   rw [e3]
   rfl
 ·refine ⟨r,t,hp.skip x,?_⟩
  walk_at "zz"
  rw [decide_eq_false h3]
  walk_at "zz"
theorem WB (i:Nat) (ρ:au):QO i ρ=.ok (.nx ((clear2 ρ).set i (.ow2 [[],[],[],[]]))):=id rfl
theorem og.sub {fs p q:List Str} (up:fs.Pairwise fun a b=>qp a b=true) (h:og fs p q):mS fs p/\mS fs q:=⟨⟨up.sublist h.sp,fun x hx=>h.sp.subset hx⟩,⟨up.sublist h.sq,fun x hx=>h.sq.subset hx⟩⟩
theorem OF (p:List Str) (ρ:au):(cb (J.ac (rB 0) J.aF) (i8 hJ)) (.shr (.list (p.map .str))::ρ)=.ok (ay p):=by
 walk_at "zz"
 rw [fN]
theorem WC (p q r t:List Str):gT (iu 1 [Sl.no] kT (cb (J.ac (rB 0) J.aF) (i8 hJ))) [.list (p.map .str),.list (q.map .str),.list (r.map .str),.list (t.map .str)]=.ok [ay p,ay q,ay r,ay t] :=
 dA _ (fun ss:List Str=>fH (ss.map .str)) (fun ss=>ay ss) [p,q,r,t] fun ss hs=>fc rfl (OF ss _)
theorem Lj (ns:List Int) (k:Int) (hk:0<=k) (fs:List Str) (hf:∀ x∈fs,AU x=true) (up:fs.Pairwise fun a b=>qp a b=true) (nd:fs.Nodup) (hl:fs.length<=6) (nm:Str) (hn:AU nm=true) :
  ∃ e,iI [.list (ns.map .int),.int k,ay fs,.str nm]=.ok (cK e)/\rf fs e/\e.name=nm:=by
 have p0:=ft ns k 5 (by decide)
 have p1:=g9 ns k 5 (by decide)
 have go:∀ ρ:au,ρ=[.shr (.list (ns.map .int)),.shr (.int k),.shr (ay fs),.shr (.str nm),.no,.no,.no,.no,.no]->(!decide (fs=[]) && decide (fq ns 97 2=0))=false->∃ e,iH ρ=.ok (.rt (cK e))/\rf fs e/\e.name=nm:=by
  rintro ρ rfl hc
  obtain ⟨ρ',h1,p,q,r,t,h2,h3,h4⟩:∃ ρ',(m7 (Hv (J.ac (rS 2) J.aF)) (kJ 2 (cq (bB 5) (cq (bB 6) lr))) (aN (eZ 7 (dJ 3 br (J.ac (rS 0) (J.ac (g2 (g2 (rB 1) (kI 10) dN) (rB 5) dN) (J.ac (kI 8) J.aF))))) (aN (e7 (ej (g2 (rB 7) (kI 3) AL)) (oJ 4 (g2 (dQ (J.ac (kI 0) (J.ac (kI 0) (J.ac (kI 1) J.aF))) .list) (rB 7) bc) (rS 6)) (fun ρ=>.ok (.nx ρ))) (aN (eZ 7 (dJ 3 br (J.ac (rS 0) (J.ac (g2 (g2 (rB 1) (kI 20) dN) (rB 5) dN) (J.ac (kI 8) J.aF))))) (e7 (ej (g2 (rB 7) (kI 4) AL)) (oJ 4 (g2 (dQ (J.ac (kI 2) (J.ac (kI 2) (J.ac (kI 3) (J.ac (kI 3) J.aF)))) .list) (rB 7) bc) (rS 6)) (fun ρ=>.ok (.nx ρ))))))) [.shr (.list (ns.map .int)),.shr (.int k),.shr (ay fs),.shr (.str nm),o4 [] [] [] [],.no,.no,.no,.no]=.ok (.nx ρ')/\∃ p q r t,og fs p q/\og fs r t/\∃ z5 z6 z7,ρ'=[.shr (.list (ns.map .int)),.shr (.int k),.shr (ay fs),.shr (.str nm),o4 p q r t,z5,z6,z7,.no]:=by
   rw [qr (ds:=(nK 0 fs).map cI)]
   ·have H:=oM cI (fun (a:Unit) (_:Nat×Str)=>a) (fun bX _ ρ=>∃ pre,pre++bX.map (·.2)=fs/\∃ p q r t,og pre p q/\og pre r t/\∃ z5 z6 z7,ρ=[.shr (.list (ns.map .int)),.shr (.int k),.shr (ay fs),.shr (.str nm),o4 p q r t,z5,z6,z7,.no]) (kt:=kJ 2 (cq (bB 5) (cq (bB 6) lr))) (gb:=(aN (eZ 7 (dJ 3 br (J.ac (rS 0) (J.ac (g2 (g2 (rB 1) (kI 10) dN) (rB 5) dN) (J.ac (kI 8) J.aF))))) (aN (e7 (ej (g2 (rB 7) (kI 3) AL)) (oJ 4 (g2 (dQ (J.ac (kI 0) (J.ac (kI 0) (J.ac (kI 1) J.aF))) .list) (rB 7) bc) (rS 6)) (fun ρ=>.ok (.nx ρ))) (aN (eZ 7 (dJ 3 br (J.ac (rS 0) (J.ac (g2 (g2 (rB 1) (kI 20) dN) (rB 5) dN) (J.ac (kI 8) J.aF))))) (e7 (ej (g2 (rB 7) (kI 4) AL)) (oJ 4 (g2 (dQ (J.ac (kI 2) (J.ac (kI 2) (J.ac (kI 3) (J.ac (kI 3) J.aF)))) .list) (rB 7) bc) (rS 6)) (fun ρ=>.ok (.nx ρ)))))))
    obtain ⟨ρ',h1,pre,h2,p,q,r,t,h3,h4,h5⟩:=H (by
     rintro ⟨i,x⟩ bX _ ρ ⟨pre,h2,p,q,r,t,h3,h4,z5,z6,z7,rfl⟩
     have hx:x∉pre:=by
      rw [<- h2,aI] at nd
      have:=(List.nodup_append.mp nd).2.2
      intro hx
      exact this x hx x ao rfl
     have hpl:pre.length<900:=by
      have:=congrArg sX h2
      rw [aB] at this
      omega
     obtain ⟨p',q',k1,k2⟩:=OD (a:=.shr (.list (ns.map .int))) (b:=.shr (.int k)) (c:=.shr (ay fs)) (d:=.shr (.str nm)) (e:=.shr (.int (i:Nat))) (f:=.no) (r:=r) (t:=t) (j:=fq ns (k + 10 + i) 8) h3 hx hpl (ft _ _ _ (by decide))
     obtain ⟨r',t',k3,k4⟩:=OE (a:=.shr (.list (ns.map .int))) (b:=.shr (.int k)) (c:=.shr (ay fs)) (d:=.shr (.str nm)) (e:=.shr (.int (i:Nat))) (f:=.no) (p:=p') (q:=q') (j:=fq ns (k + 20 + i) 8) h4 hx hpl (ft _ _ _ (by decide))
     refine ⟨[.shr (.list (ns.map .int)),.shr (.int k),.shr (ay fs),.shr (.str nm),o4 p q r t,.shr (.int (i:Nat)),.shr (.str x),z7,.no],[.shr (.list (ns.map .int)),.shr (.int k),.shr (ay fs),.shr (.str nm),o4 p' q' r' t',.shr (.int (i:Nat)),.shr (.str x),.shr (.int (fq ns (k + 20 + i) 8)),.no],rfl,?_,pre++[x],?_,p',q',r',t',k1,k3,_,_,_,rfl⟩
     ·rw [w_,ND]
      walk_at "yy"
      rw [fu ns _ 8 (by omega) (by decide)]
      walk_at "yy"
      rw [k2]
      walk_at "yy"
      rw [fu ns _ 8 (by omega) (by decide)]
      walk_at "yy"
      rw [k4]
     ·rw [<- h2];simp) (nK 0 fs) () [.shr (.list (ns.map .int)),.shr (.int k),.shr (ay fs),.shr (.str nm),o4 [] [] [] [],.no,.no,.no,.no] ⟨[],by rw [sy];rfl,[],[],[],[],⟨eQ _,eQ _,fun _ h=>nomatch h⟩,⟨eQ _,eQ _,fun _ h=>nomatch h⟩,_,_,_,rfl⟩
    refine ⟨ρ',h1,p,q,r,t,?_,?_,h5⟩
    ·simp only [eX,bV] at h2
     rw [<- h2];exact h3
    ·simp only [eX,bV] at h2
     rw [<- h2];exact h4
   ·walk_at "zz"
    rw [yi]
  obtain ⟨s1,s2⟩:=h2.sub up
  obtain ⟨s3,s4⟩:=h3.sub up
  obtain ⟨z5,z6,z7,rfl⟩:=h4
  refine ⟨⟨nm,p,q,r,t,fq ns k 5⟩,?_,⟨hn,s1,s2,s3,s4,h2.d,h3.d,p0,by show fq ns k 5<=9;omega⟩,rfl⟩
  unfold iH
  have hand:wo (ej (g2 (rB 2) (dQ J.aF .tuple) (lP true))) (ej (g2 (dJ 3 br (J.ac (rS 0) (J.ac (kI 97) (J.ac (kI 2) J.aF)))) (kI 0) (lP false))) [.shr (.list (ns.map .int)),.shr (.int k),.shr (ay fs),.shr (.str nm),.no,.no,.no,.no,.no]=.ok false:=by
   walk_at "zz"
   rw [JX fs hf]
   walk_at "zz"
   by_cases h:fs=[]
   ·simp only [h,decide_true,oW,cond_false]
   ·simp only [h,decide_false,iQ,cond_true,uL] at hc ⊢
    rw [fu ns 97 2 (by decide) (by decide)]
    walk_at "zz"
    rw [mx]
    walk_at "zz"
    rw [hc]
  rw [w_,W3,hand]
  simp only [zo,NB,WB,clear2,aI,eX,vO,vN,zo,vj,w_]
  rw [show Sl.ow2 [[],[],[],[]]=o4 [] [] [] [] from rfl,h1]
  walk_at "zz"
  rw [WC]
  walk_at "zz"
  rw [T2]
  walk_at "zz"
  rw [T3]
  walk_at "zz"
  rw [T4]
  walk_at "zz"
  rw [T5]
  walk_at "zz"
  rw [fu ns k 5 hk (by decide)]
  walk_at "zz"
  rfl
 by_cases hc:(!decide (fs=[]) && decide (fq ns 97 2=0))=true
 ·have h0:0<fs.length:=by
   rcases fs with _ | ⟨x,r⟩
   ·simp at hc
   ·simp
  obtain ⟨e,h1,h2⟩:=Rg ns k hk fs hf h0 nm hn
  refine ⟨e,?_,h2⟩
  unfold iI
  refine cE ?_
  unfold iH bz
  walk_at "zz"
  rw [JX fs hf]
  walk_at "zz"
  simp only [aT] at hc
  rw [hc.1]
  walk_at "zz"
  rw [fu ns 97 2 (by decide) (by decide)]
  walk_at "zz"
  rw [mx]
  walk_at "zz"
  rw [hc.2]
  walk_at "zz"
  rw [h1]
  walk_at "zz"
 ·obtain ⟨e,h1,h2⟩:=go _ rfl (Bool.eq_false_iff.mpr hc)
  exact ⟨e,by unfold iI;exact cE h1,h2⟩
theorem OG (ds:List D) (t:Nat) (h:t<=ds.length):AM ds (some (t:Int)) none=ds.drop t:=by
 unfold AM
 rw [HT.IS,HT.E9,Nat.min_eq_left h,List.take_of_length_le (by rw [xU];exact ar _)]
theorem Uy (ds:List D) (t:Nat) (h:t<=ds.length):AM ds none (some (t:Int))=ds.take t:=by
 unfold AM
 rw [HT.IS,HT.E9,Nat.min_eq_left h,List.drop_zero,Nat.sub_zero]
theorem WD (ds:List D) (t:Nat) (h:t<=ds.length):J8 (.list ds) (some (t:Int)) none=.ok (.list (ds.drop t)):=by
 rw [<- OG ds t h];rfl
theorem WE (ds:List D) (t:Nat) (h:t<=ds.length):J8 (.list ds) none (some (t:Int))=.ok (.list (ds.take t)):=by
 rw [<- Uy ds t h];rfl
theorem OH {l:List (Str×D)} (nd:(l.map (·.1)).Nodup) {p:Str×D} (hp:p∈l):bc (.dict (i9 l)) (.str p.1)=.ok p.2:=by
 have e:∀ kvs x,bc (.dict kvs) (.str x)=if hX kvs=true then (match li kvs (.str x) with
   | some d=>.ok d
   | none=>.no) else .no:=fun _ _=>rfl
 rw [e,if_pos (zC l)]
 have:li (i9 l) (.str p.1)=some p.2:=by
  unfold li i9
  clear e
  induction l with
  | nil=>cases hp
  | cons q r ih =>
   rw [aI] at nd
   obtain ⟨n1,n2⟩:=List.nodup_cons.mp nd
   rw [aI,cc,sx]
   rcases List.mem_cons.mp hp with h | h
   ·subst h;simp
   ·have:q.1≠p.1:=fun z=>n1 (z ▸ bN h)
    rw [decide_eq_false this]
    exact ih n2 h
 rw [this]
structure cQ (fs:List Str) (es:List cW):Prop where
 rise:OA fs 6
 len:es.length<=6
 nd:(es.map (·.name)).Nodup
 ok:∀ e∈es,rf fs e
def ck (fs:List Str) (es:List cW):D:=.tuple [ay fs,.tuple (es.map cK)]
theorem WF (fs:List Str):∀ (l:List (Str×D)),(∀ p∈l,∃ e,p.2=cK e/\rf fs e/\e.name=p.1)->∃ es:List cW,l.map (·.2)=es.map cK/\es.map (·.name)=l.map (·.1)/\∀ e∈es,rf fs e
 | [],_=>⟨[],rfl,rfl,fun _ h=>nomatch h⟩
 | p::r,h=>by
  obtain ⟨e,h1,h2,h3⟩:=h p ao
  obtain ⟨es,k1,k2,k3⟩:=WF fs r fun q hq=>h q (am _ hq)
  refine ⟨e::es,by rw [aI,aI,h1,k1],by rw [aI,aI,h3,k2],fun x hx=>?_⟩
  rcases List.mem_cons.mp hx with z | z
  ·rw [z];exact h2
  ·exact k3 x z
theorem Lk {α:Type} (l:List α) (t:Nat):(l.drop t++l.take t).Perm l:=by
 refine List.perm_append_comm.trans ?_
 rw [List.take_append_drop]
theorem kR {l:List Str} (h:l.Pairwise fun a b=>qp a b=true):l.Nodup:=h.imp fun hab z=>by
 rw [z,tR] at hab
 cases hab
theorem Rh (ns:List Int) (k:Int) (hk:0<=k) (m n:Int) (hm0:0<=m) (hm:m<=6) (hn0:0<=n) (hn:n<=6):∃ fs es,mj [.list (ns.map .int),.int k,.int m,.int n]=.ok (ck fs es)/\cQ fs es:=by
 have hr:=HG ns k m hm0
 generalize hfs:De ns k m=fs at hr
 have hr:OA fs 6:=⟨hr.ok,hr.up,by have:=hr.len;omega⟩
 have nd:=kR hr.up
 have m0:=ft ns (k + 60) (n + 1) (by omega)
 have m1:=g9 ns (k + 60) (n + 1) (by omega)
 suffices H:∃ es,mj [.list (ns.map .int),.int k,.int m,.int n]=.ok (ck fs es)/\cQ fs es from H.elim fun es h=>⟨fs,es,h⟩
 unfold mj
 suffices H:∃ es,mi (bz 10 [.list (ns.map .int),.int k,.int m,.int n])=.ok (.rt (ck fs es))/\cQ fs es from H.elim fun es h=>⟨es,cE h.1,h.2⟩
 have H:=oM (fun (i:Nat)=>cm i) (fun (a:Unit) (_:Nat)=>a) (fun bX _ ρ=>∃ l,l.length + bX.length<=6/\(l.map (·.1)).Nodup/\(∀ p∈l,∃ e,p.2=cK e/\rf fs e/\e.name=p.1)/\∃ z6 z7,ρ=[.shr (.list (ns.map .int)),.shr (.int k),.shr (.int m),.shr (.int n),.shr (ay fs),.own (.dict (i9 l)),z6,z7,.no,.no]) (kt:=bB 6) (gb:=aN (eZ 7 (dJ 2 k9 (J.ac (rS 0) (J.ac (g2 (g2 (rB 1) (kI 70) dN) (g2 (kI 40) (rB 6) vb) dN) J.aF)))) (C_ 5 (rS 7) (dJ 4 iI (J.ac (rS 0) (J.ac (g2 (g2 (rB 1) (kI 80) dN) (g2 (kI 40) (rB 6) vb) dN) (J.ac (rS 4) (J.ac (rS 7) J.aF)))))))
 obtain ⟨ρ',h1,l,h2,h3,h4,z6,z7,h5⟩:=H (by
  rintro i bX _ ρ ⟨l,h2,h3,h4,z6,z7,rfl⟩
  simp only [aU] at h2
  have hw:=Fa ns (k + 70 + 40 * (i:Int))
  obtain ⟨e,e1,e2,e3⟩:=Lj ns (k + 80 + 40 * (i:Int)) (by omega) fs hr.ok hr.up nd hr.len (kQ ns (k + 70 + 40 * (i:Int))) hw
  have pl:=Fb l (kQ ns (k + 70 + 40 * (i:Int))) (cK e)
  refine ⟨[.shr (.list (ns.map .int)),.shr (.int k),.shr (.int m),.shr (.int n),.shr (ay fs),.own (.dict (i9 l)),.shr (.int i),z7,.no,.no],[.shr (.list (ns.map .int)),.shr (.int k),.shr (.int m),.shr (.int n),.shr (ay fs),.own (.dict (i9 (sS l (kQ ns (k + 70 + 40 * (i:Int))) (cK e)))),.shr (.int i),.shr (.str (kQ ns (k + 70 + 40 * (i:Int)))),.no,.no],rfl,?_,sS l (kQ ns (k + 70 + 40 * (i:Int))) (cK e),by omega,?_,?_,_,_,rfl⟩
  ·walk_at "zz"
   rw [pQ (by decide) (by decide)]
   walk_at "zz"
   rw [JQ ns _ (by omega)]
   walk_at "zz"
   refine (SZ (l:=l) (x:=kQ ns (k + 70 + 40 * (i:Int))) (d:=cK e) rfl ?_ rfl (by omega)).trans rfl
   walk_at "zz"
   rw [pQ (by decide) (by decide)]
   walk_at "zz"
   exact e1
  ·rw [BS];exact Lg h3
  ·exact Oz (Q:=fun x d=>∃ e,d=cK e/\rf fs e/\e.name=x) h4 ⟨e,rfl,e2,e3⟩) (bv (fq ns (k + 60) (n + 1)).toNat) () [.shr (.list (ns.map .int)),.shr (.int k),.shr (.int m),.shr (.int n),.shr (ay fs),.own (.dict (i9 [])),.no,.no,.no,.no] ⟨[],by rw [fi];simp only [bO];omega,gP,fun _ h=>(nomatch h),_,_,rfl⟩
 simp only [bO,xz] at h2
 have t0:=ft ns (k + 61) ((l.length:Int) + 1) (by omega)
 have t1:=g9 ns (k + 61) ((l.length:Int) + 1) (by omega)
 obtain ⟨t,ht⟩:∃ t:Nat,fq ns (k + 61) ((l.length:Int) + 1)=t:=⟨_,(fG t0).symm⟩
 have tl:t<=l.length:=by omega
 have pm:=Lk l t
 obtain ⟨es,k1,k2,k3⟩:=WF fs (l.drop t++l.take t) fun p hp=>h4 p (pm.mem_iff.mp hp)
 have kl:es.length=l.length:=by
  have:=congrArg sX k1
  rw [al,al,pm.length_eq] at this
  exact this.symm
 refine ⟨es,?_,hr,by omega,?_,k3⟩
 ·unfold mi bz
  walk_at "yy"
  rw [OC ns k m hk hm0 (by omega),hfs]
  walk_at "yy"
  rw [qr (ds:=(bv (fq ns (k + 60) (n + 1)).toNat).map fun (i:Nat)=>cm i)]
  ·rw [show Gj []=Gj (i9 []) from rfl,h1,h5]
   walk_at "yy"
   rw [Fc]
   walk_at "yy"
   rw [fu ns _ _ (by omega) (by omega),ht]
   walk_at "yy"
   clear H h1
   rw [WD _ t (by simpa using tl)]
   walk_at "yy"
   rw [WE _ t (by simpa using tl)]
   walk_at "yy"
   have e1:(List.drop t (lc aQ (lc (fun x=>x.fst) l))++List.take t (lc aQ (lc (fun x=>x.fst) l)))=(l.drop t++l.take t).map fun p=>aQ p.1:=by
    rw [aX,List.map_drop,List.map_take,cL];rfl
   rw [e1,if_pos (by rw [<- aB,e1,al,pm.length_eq];omega)]
   have pl:=pm.length_eq
   have px:∀ p∈l.drop t++l.take t,p∈l:=fun p hp=>pm.mem_iff.mp hp
   clear e1 pm k2
   generalize l.drop t++l.take t=L at pl px k1 ⊢
   walk_at "yy"
   rw [if_pos (by omega)]
   rw [dA _ (fun p:Str×D=>aQ p.1) (fun p=>p.2) L fun p hp=>fc rfl (by
    walk_at "yy"
    exact OH h3 (px p hp))]
   walk_at "yy"
   rw [fN]
   walk_at "yy"
   rw [k1]
   rfl
  ·walk_at "yy"
   rw [fu ns (k + 60) (n + 1) (by omega) (by omega)]
   walk_at "yy"
   have:=vp (fq ns (k + 60) (n + 1)).toNat (by omega)
   rw [fG m0] at this
   exact this
 ·rw [k2]
  exact ((pm.map _).nodup_iff).mpr h3
theorem BU {α:Type} (b:α->Bool):∀ xs:List α,nj (xs.map fun x=>cu (b x))=some (xs.map b)
 | []=>rfl
 | x::r=>by
  show (nj (r.map fun x=>cu (b x))).map (b x::·)=_
  rw [BU b r]
  rfl
theorem hV {α:Type} (k:List Bool->Bool) (b:α->Bool) (xs:List α):eG k (.list (xs.map fun x=>cu (b x)))=.ok (.bool (k (xs.map b))):=by
 have e:∀ ds,eG k (.list ds)=match nj ds with
  | some bs=>.ok (.bool (k bs))
  | none=>.no:=fun _=>rfl
 rw [e,BU]
theorem OI {s s':Sl}{ρ:au}{gt:au->R Bool}{ge:au->R D}{d d' y:D} (h1:gt (.shr d::.shr d'::ρ)=.ok true) (h2:ge (.shr d::.shr d'::ρ)=.ok y):iu 2 (s::s'::ρ) gt ge (.tuple [d,d'])=.ok (some y):=by
 have e:iu 2 (s::s'::ρ) gt ge (.tuple [d,d'])=K_ ((gt (.shr d::.shr d'::ρ)).bind fun b=>if b then (ge (.shr d::.shr d'::ρ)).bind fun y=>.ok (some y) else .ok none):=id rfl
 rw [e,h1,bind_ok,if_pos rfl,h2];rfl
theorem Uz (x:Str):qI (.str x)=true:=id rfl
theorem OJ (i:Int):qI (.int i)=true:=id rfl
theorem yj {α:Type} (c:α->D) (h:∀ x,qI (c x)=true):∀ xs:List α,noDs (xs.map c)=true
 | []=>rfl
 | x::r=>by
  show (qI (c x) && noDs (r.map c))=true
  rw [h x,yj c h r];rfl
theorem OK (xs:List D):qI (.tuple xs)=noDs xs:=id rfl
theorem lF (xs:List Str):qI (ay xs)=true:=by
 rw [OK]
 exact yj _ (fun _=>rfl) xs
theorem JY (e:cW):qI (cK e)=true:=by
 have:qI (cK e)=(true && (qI (ay e.needs) && (qI (ay e.bars) && (qI (ay e.makes) && (qI (ay e.ends) && (true && true)))))):=rfl
 rw [this,lF,lF,lF,lF];rfl
theorem T6 (es:List cW):qI (.tuple (es.map cK))=true:=by
 rw [OK]
 exact yj _ JY es
theorem Ri (fs:List Str) (es:List cW):qI (ck fs es)=true:=by
 have:qI (ck fs es)=(qI (ay fs) && (qI (.tuple (es.map cK)) && true)):=rfl
 rw [this,lF,T6];rfl
theorem UA (x:Str):AN "str" (.str x)=true:=id rfl
theorem zH (x:List D):AN "tuple" (.tuple x)=true:=id rfl
theorem UB (x:Int):AN "int" (.int x)=true:=id rfl
theorem UC (x:Int):AN "bool" (.int x)=false:=id rfl
theorem Rj:∀ c:_root_.Fin 123,97<=c.val->(!qp ⟨#[c.val]⟩ "a")=true/\(!qp "z" ⟨#[c.val]⟩)=true:=by decide +kernel
theorem BV {x:Str} (h:AU x=true):oK [.str x]=.ok (.bool true):=by
 have hw:=h
 unfold AU at h
 simp only [aT,decide_eq_true_eq,b_] at h
 obtain ⟨⟨h1,h2⟩,h3⟩:=h
 have hl:x.length=x.cps.size:=rfl
 unfold oK
 refine cE ?_
 unfold sd bz
 walk_at "zz"
 rw [Uz,UA]
 walk_at "zz"
 rw [if_pos (by omega)]
 walk_at "zz"
 rw [decide_eq_true (by omega)]
 walk_at "zz"
 rw [decide_eq_true (by omega)]
 walk_at "zz"
 unfold o9
 walk_at "zz"
 rw [if_pos (by rw [av];omega)]
 rw [dA _ (fun c:Nat=>aQ ⟨#[c]⟩) (fun _=>cu true) x.cps.toList fun c hc=>fc rfl (by
  obtain ⟨a1,a2⟩:=h3 c hc
  obtain ⟨b1,b2⟩:=Rj ⟨c,by omega⟩ a1
  walk_at "zz"
  simp only at b1 b2
  rw [b1]
  walk_at "zz"
  rw [b2])]
 walk_at "zz"
 rw [hV _ (fun _=>true)]
 walk_at "zz"
 simp
theorem Fe:∀ (xs ys:List Str),xJ (xs.map .str) (ys.map .str)=(xs.zip ys).map fun p=>cG [.str p.1,.str p.2]
 | [],_=>rfl
 | _::_,[]=>rfl
 | x::r,y::r'=>by
  show cG [.str x,.str y]::xJ (r.map .str) (r'.map .str)=_
  rw [Fe r r']
  rfl
theorem OL:∀ {l:List Str},(l.Pairwise fun a b=>qp a b=true)->∀ p∈l.zip (l.drop 1),qp p.1 p.2=true
 | [],_,p,hp=>by cases hp
 | [_],_,p,hp=>by cases hp
 | a::b::r,h,p,hp=>by
  obtain ⟨h1,h2⟩:=List.pairwise_cons.mp h
  rcases List.mem_cons.mp hp with z | z
  ·rw [z];exact h1 b ao
  ·exact OL h2 p z
theorem Rk (xs:List Str):J8 (ay xs) (some 1) none=.ok (ay (xs.drop 1)):=by
 have e:J8 (ay xs) (some 1) none=.ok (.tuple (AM (xs.map .str) (some 1) none)):=rfl
 rw [e]
 cases xs with
 | nil=>rfl
 | cons x r =>
  rw [show (1:Int)=((1:Nat):Int) from rfl,OG _ 1 (by simp)]
  rfl
theorem xa {xs:List Str} (hw:∀ x∈xs,AU x=true) (up:xs.Pairwise fun a b=>qp a b=true) (hl:xs.length<=6):fM [ay xs]=.ok (.bool true):=by
 unfold fM
 refine cE ?_
 unfold hU bz
 walk_at "zz"
 rw [lF,zH]
 walk_at "zz"
 rw [if_pos (by omega)]
 rw [dA _ (fun x:Str=>aQ x) (fun _=>cu true) xs fun x hx=>fc rfl (by
  walk_at "zz"
  rw [BV (hw x hx)])]
 walk_at "zz"
 rw [hV _ (fun _=>true)]
 walk_at "zz"
 rw [show ((xs.map fun _=>true).all id)=true by simp]
 walk_at "zz"
 rw [Rk]
 walk_at "zz"
 rw [Fe]
 walk_at "zz"
 rw [if_pos (by simp;omega)]
 rw [dA _ (fun p:Str×Str=>cG [.str p.1,.str p.2]) (fun _=>cu true) (xs.zip (xs.drop 1)) fun p hp=>OI rfl (by
  walk_at "zz"
  rw [OL up p hp])]
 walk_at "zz"
 rw [hV _ (fun _=>true)]
 walk_at "zz"
 simp
theorem j7 {fs xs:List Str} (hw:∀ x∈fs,AU x=true) (h:mS fs xs) (hl:xs.length<=6):fD [ay fs,ay xs]=.ok (.bool true):=by
 unfold fD
 refine cE ?_
 unfold nr bz
 walk_at "zz"
 rw [xa (fun x hx=>hw x (h.mem x hx)) h.up hl]
 walk_at "zz"
 rw [if_pos (by omega)]
 rw [dA _ (fun x:Str=>aQ x) (fun _=>cu true) xs fun x hx=>fc rfl (by
  walk_at "zz"
  rw [ka,decide_eq_true (h.mem x hx)]
  rfl)]
 walk_at "zz"
 rw [hV _ (fun _=>true)]
 walk_at "zz"
 simp
theorem wz {xs ys:List Str} (h:∀ x∈xs,x∉ys) (hl:xs.length<=6):eR [ay xs,ay ys]=.ok (.bool true):=by
 unfold eR
 refine cE ?_
 unfold jI bz
 walk_at "zz"
 rw [if_pos (by omega)]
 rw [dA _ (fun x:Str=>aQ x) (fun _=>cu false) xs fun x hx=>fc rfl (by
  walk_at "zz"
  rw [ka,decide_eq_false (h x hx)]
  rfl)]
 walk_at "zz"
 rw [hV _ (fun _=>false)]
 walk_at "zz"
 simp
theorem HI {l i m:Int} (h0:l<=i) (h1:i<=m):pB [.int i,.int l,.int m]=.ok (.bool true):=by
 unfold pB
 refine cE ?_
 unfold pA bz
 walk_at "zz"
 rw [OJ,UB]
 walk_at "zz"
 rw [OJ,UC]
 walk_at "zz"
 rw [decide_eq_true h0]
 walk_at "zz"
 rw [decide_eq_true h1]
theorem Dh:∀ (xs fs:List Str),xs.Nodup->(∀ x∈xs,x∈fs)->xs.length<=fs.length
 | [],_,_,_=>c_ _
 | x::r,fs,nd,h=>by
  obtain ⟨n1,n2⟩:=List.nodup_cons.mp nd
  have hx:=h x ao
  have:=Dh r (fs.erase x) n2 fun y hy=>(IJ fun (z:y=x)=>n1 (z ▸ hy)).mpr (h y (am _ hy))
  rw [DU hx] at this
  have:0<fs.length:=Gk hx
  rw [aU]
  omega
theorem df {fs xs:List Str} (h:mS fs xs) (hl:fs.length<=6):xs.length<=6:=by
 exact bR (Dh xs fs (kR h.up) h.mem) hl
theorem Ye (a b c d e f g:D):O7 (kJ 6 (cq (bB 2) (cq (bB 3) (cq (bB 4) (cq (bB 5) (cq (bB 6) (cq (bB 7) lr))))))) [Sl.shr a,Sl.shr (.tuple [b,c,d,e,f,g]),.no,.no,.no,.no,.no,.no] (.tuple [b,c,d,e,f,g])=.ok (.nx [Sl.shr a,Sl.shr (.tuple [b,c,d,e,f,g]),.shr b,.shr c,.shr d,.shr e,.shr f,.shr g]):=id rfl
theorem Ff {fs:List Str} (hr:OA fs 6) {e:cW} (g:rf fs e):nw [ay fs,cK e]=.ok (.bool true):=by
 have l1:=df g.needs hr.len
 have l2:=df g.bars hr.len
 have l3:=df g.makes hr.len
 have l4:=df g.ends hr.len
 unfold nw
 refine cE ?_
 unfold nu bz
 walk_at "zz"
 rw [JY]
 unfold cK
 walk_at "zz"
 rw [zH]
 walk_at "zz"
 rw [mx]
 walk_at "zz"
 rw [show decide (((6:Nat):Int)=6)=true from rfl]
 walk_at "zz"
 rw [Ye]
 ·walk_at "zz"
  rw [BV g.name]
  walk_at "zz"
  rw [HI g.p0 g.p9]
  walk_at "zz"
  have pk:=dA (iu 1 [Sl.no,Sl.shr (ay fs)] kT (dJ 2 fD (J.ac (rS 1) (J.ac (rS 0) J.aF)))) (fun x:List Str=>ay x) (fun _=>cu true) [e.needs,e.bars,e.makes,e.ends] fun x hx=>fc rfl (by
   walk_at "zz"
   simp only [bh,aV,or_false] at hx
   rcases hx with z | z | z | z<;>rw [z]
   ·rw [j7 hr.ok g.needs l1]
   ·rw [j7 hr.ok g.bars l2]
   ·rw [j7 hr.ok g.makes l3]
   ·rw [j7 hr.ok g.ends l4])
  simp only [aI,eX] at pk
  rw [pk]
  walk_at "zz"
  rw [show eG (fun bs=>bs.all id) (.list [.bool true,.bool true,.bool true,.bool true])=.ok (.bool true) from rfl]
  walk_at "zz"
  rw [wz g.nb l1]
  walk_at "zz"
  rw [wz g.me l3]
  walk_at "zz"
theorem OM (l:List Str) (nd:l.Nodup):(dz [] l).length=l.length:=by
 have h1:=Dh (dz [] l) l (ip l [] gP) fun x hx=>((iF l [] x).mp hx).elim (fun h=>nomatch h) id
 have h2:=Dh l (dz [] l) nd fun x hx=>(iF l [] x).mpr (.inr hx)
 omega
theorem Ll (es:List cW) (hl:es.length<=6) (nd:(es.map (·.name)).Nodup) (s:Sl) (ρ:au) (h:(s::ρ)[2]?=some (.shr (.tuple (es.map cK)))):vh (wv 1 [] (jf (rB 2)) kT (g2 (rB 0) (kI 0) bc)) (s::ρ)=.ok (.int (es.length:Nat)):=by
 have hr:Gn (s::ρ) 2=.ok (.tuple (es.map cK)):=by unfold Gn;rw [h]
 unfold vh wv
 rw [Ud,Uu,hr]
 walk_at "zz"
 rw [if_pos (by omega)]
 rw [dA _ cK (fun e=>aQ e.name) es fun e he=>fc rfl (by
  walk_at "zz"
  rfl)]
 walk_at "zz"
 have:(es.map fun e=>aQ e.name)=(es.map (·.name)).map .str:=by rw [cL];rfl
 rw [this,strsOf_map]
 simp only [zo,OM _ nd,al]
theorem Yf (b c:D):O7 (kJ 2 (cq (bB 1) (cq (bB 2) lr))) [Sl.shr (.tuple [b,c]),.no,.no] (.tuple [b,c])=.ok (.nx [Sl.shr (.tuple [b,c]),.shr b,.shr c]):=id rfl
theorem Lm {fs:List Str}{es:List cW} (g:cQ fs es):sf [ck fs es]=.ok (.bool true):=by
 have l1:=g.rise.len
 have l2:=g.len
 unfold sf
 refine cE ?_
 unfold se bz
 walk_at "zz"
 rw [Ri]
 unfold ck
 walk_at "zz"
 rw [zH]
 walk_at "zz"
 rw [mx]
 walk_at "zz"
 rw [show decide (((2:Nat):Int)=2)=true from rfl]
 walk_at "zz"
 rw [Yf]
 walk_at "zz"
 rw [xa g.rise.ok g.rise.up l1]
 walk_at "zz"
 rw [decide_eq_false (by omega)]
 walk_at "zz"
 rw [T6,zH]
 walk_at "zz"
 rw [decide_eq_false (by omega)]
 walk_at "zz"
 rw [if_pos (by omega)]
 rw [dA _ cK (fun _=>cu true) es fun e he=>fc rfl (by
  walk_at "zz"
  rw [Ff g.rise (g.ok e he)])]
 walk_at "zz"
 rw [hV _ (fun _=>true)]
 walk_at "zz"
 rw [show ((es.map fun _=>true).all id)=true by simp]
 walk_at "zz"
 rw [Ll es l2 g.nd _ _ rfl]
 walk_at "zz"
 rw [mx,decide_eq_true rfl]
 rfl
theorem HJ {fs:List Str}{es:List cW} (g:cQ fs es):sr [ck fs es]=.ok (ck fs es):=by
 unfold sr
 refine cE ?_
 unfold sk bz
 walk_at "zz"
 rw [Lm g]
 walk_at "zz"
theorem BW {α:Type} (c:α->D) (h:∀ x,bf (c x) (c x)=true):∀ xs:List α,eU (xs.map c) (xs.map c)=true
 | []=>by simp [eU]
 | x::r=>by simp [eU,h x,BW c h r]
theorem ON (xs:List Str):bf (ay xs) (ay xs)=true:=by
 simp only [bf]
 exact BW _ (fun x=>by rw [sx];simp) xs
theorem vv {α:Type} (c:α->D):∀ xs:List α,(∀ x∈xs,(c x).canLay0=true)->bS (xs.map c)=true
 | [],_=>rfl
 | x::r,h=>by
  have h1:=h x ao
  have h2:=vv c r fun y hy=>h y (am _ hy)
  simp only [aI,bS,h1,h2,l5]
theorem BX {α:Type} (c:α->D) (n:Nat) (h:∀ x,(c x).depth<=n):∀ xs:List α,xX (xs.map c)<=n
 | []=>by simp [xX]
 | x::r=>by
  simp only [aI,xX]
  exact Nat.max_le.mpr ⟨h x,BX c n h r⟩
theorem rg {fs xs:List Str} (hf:∀ x∈fs,AU x=true) (h:mS fs xs):bS (xs.map .str)=true:=vq xs fun x hx=>hf x (h.mem x hx)
theorem OO {fs:List Str} (hf:∀ x∈fs,AU x=true) {e:cW} (g:rf fs e):(cK e).canLay0=true:=by
 unfold cK
 simp only [ed,bS]
 have:=yh g.name
 simp only [ed] at this
 rw [rg hf g.needs,rg hf g.bars,rg hf g.makes,rg hf g.ends,this]
 rfl
theorem xb {i:Nat}{g:au->R D}{ρ:au}{ds:List D}{d:D} (hi:ρ[i]?=some (Sl.own (.list ds))) (hg:g ρ=.ok d) (hl:ds.length<1000):m9 i g ρ=.ok (.nx (ρ.set i (.own (.list (ds++[d]))))):=by
 unfold m9
 simp only [hi,hg,bind_ok,if_pos hl]
theorem OP {s s':Sl}{ρ:au}{gt:au->R Bool}{ge:au->R D}{d d' y:D}{b:Bool} (h1:gt (.shr d::.shr d'::ρ)=.ok b) (h2:b=true->ge (.shr d::.shr d'::ρ)=.ok y):iu 2 (s::s'::ρ) gt ge (.tuple [d,d'])=.ok (if b then some y else none):=by
 have e:iu 2 (s::s'::ρ) gt ge (.tuple [d,d'])=K_ ((gt (.shr d::.shr d'::ρ)).bind fun b=>if b then (ge (.shr d::.shr d'::ρ)).bind fun y=>.ok (some y) else .ok none):=id rfl
 rw [e,h1,bind_ok]
 cases b with
 | true=>rw [if_pos rfl,h2 rfl];rfl
 | false=>rfl
theorem BY:∀ (xs:List Str) (n:Nat),(nK n xs).length=xs.length
 | [],_=>rfl
 | x::r,n=>by
  show (nK (n + 1) r).length + 1=r.length + 1
  rw [BY r]
theorem Rl (ns:List Int) (k:Int) (hk:0<=k) (fs:List Str) (hl:fs.length<=6) (m:Int):∃ ss:List Str,pG [.list (ns.map .int),.int k,ay fs,.int m]=.ok (ay ss)/\ss.Sublist fs:=by
 refine ⟨((nK 0 fs).filter fun q=>decide (fq ns (k + (q.1:Int)) 12<m)).map (·.2),?_,?_⟩
 ·unfold pG
  refine cE ?_
  unfold pF bz
  walk_at "zz"
  rw [yi]
  walk_at "zz"
  rw [if_pos (by rw [BY];omega)]
  rw [dP _ cI (fun q=>aQ q.2) (fun q=>decide (fq ns (k + (q.1:Int)) 12<m)) (nK 0 fs) fun q hq=>OP (by
   walk_at "zz"
   rw [fu ns _ 12 (by omega) (by decide)]
   walk_at "zz") fun _=>rfl]
  walk_at "zz"
  rw [fN]
  walk_at "zz"
  unfold ay
  rw [cL]
  rfl
 ·have:=(uB (l:=nK 0 fs) (p:=fun q=>decide (fq ns (k + (q.1:Int)) 12<m))).map (·.2)
  rw [sy] at this
  exact this
theorem HK {fs xs:List Str} (up:fs.Pairwise fun a b=>qp a b=true) (h:xs.Sublist fs):mS fs xs:=⟨up.sublist h,fun x hx=>h.subset hx⟩
structure jU (fs m b:List Str):Prop where
 must:mS fs m
 bars:mS fs b
 mb:∀ x∈m,x∉b
abbrev fQ (m b:List Str):D:=.tuple [ay m,ay b]
theorem JZ (p:List Str) (x:Str):p.map aQ++[aQ x]=(p++[x]).map .str:=by simp
theorem Rm (ns:List Int) (k:Int) (hk:0<=k) (fs:List Str) (up:fs.Pairwise fun a b=>qp a b=true) (hl:fs.length<=6):∃ m b,t_ [.list (ns.map .int),.int k,ay fs]=.ok (fQ m b)/\jU fs m b:=by
 have nd:=kR up
 suffices H:∃ p q,ml (bz 8 [.list (ns.map .int),.int k,ay fs])=.ok (.rt (fQ p q))/\og fs p q by
  obtain ⟨p,q,h1,h2⟩:=H
  exact ⟨p,q,cE h1,HK up h2.sp,HK up h2.sq,h2.d⟩
 unfold ml bz
 walk_at "yy"
 rw [qr (ds:=(nK 0 fs).map cI)]
 ·have H:=oM cI (fun (a:Unit) (_:Nat×Str)=>a) (fun bX _ ρ=>∃ pre,pre++bX.map (·.2)=fs/\∃ p q,og pre p q/\∃ z5 z6 z7,ρ=[.shr (.list (ns.map .int)),.shr (.int k),.shr (ay fs),.own (.list (p.map .str)),.own (.list (q.map .str)),z5,z6,z7]) (kt:=kJ 2 (cq (bB 5) (cq (bB 6) lr))) (gb:=aN (eZ 7 (dJ 3 br (J.ac (rS 0) (J.ac (g2 (rB 1) (rB 5) dN) (J.ac (kI 8) J.aF))))) (e7 (ej (g2 (rB 7) (kI 2) AL)) (m9 3 (rS 6)) (e7 (ej (g2 (rB 7) (kI 2) (lP false))) (m9 4 (rS 6)) (fun ρ=>.ok (.nx ρ)))))
  obtain ⟨ρ',h1,pre,h2,p,q,h3,z5,z6,z7,h4⟩:=H (by
   rintro ⟨i,x⟩ bX _ ρ ⟨pre,h2,p,q,h3,z5,z6,z7,rfl⟩
   have hx:x∉pre:=by
    rw [<- h2,aI] at nd
    have:=(List.nodup_append.mp nd).2.2
    intro hx
    exact this x hx x ao rfl
   have hpl:pre.length<900:=by
    have:=congrArg sX h2
    rw [aB] at this
    omega
   have lp:=h3.sp.length_le
   have lq:=h3.sq.length_le
   refine ⟨[.shr (.list (ns.map .int)),.shr (.int k),.shr (ay fs),.own (.list (p.map .str)),.own (.list (q.map .str)),.shr (.int (i:Nat)),.shr (.str x),z7],?_⟩
   by_cases c1:fq ns (k + (i:Nat)) 8<2
   ·refine ⟨[.shr (.list (ns.map .int)),.shr (.int k),.shr (ay fs),.own (.list ((p++[x]).map .str)),.own (.list (q.map .str)),.shr (.int (i:Nat)),.shr (.str x),.shr (.int (fq ns (k + (i:Nat)) 8))],rfl,?_,pre++[x],by rw [<- h2];simp,_,_,h3.left x hx,_,_,_,rfl⟩
    walk_at "zz"
    rw [fu ns _ 8 (by omega) (by decide)]
    walk_at "zz"
    rw [decide_eq_true c1]
    walk_at "zz"
    rw [<- JZ]
    exact xb (ds:=p.map .str) rfl rfl (by rw [al];omega)
   ·by_cases c2:fq ns (k + (i:Nat)) 8=2
    ·refine ⟨[.shr (.list (ns.map .int)),.shr (.int k),.shr (ay fs),.own (.list (p.map .str)),.own (.list ((q++[x]).map .str)),.shr (.int (i:Nat)),.shr (.str x),.shr (.int (fq ns (k + (i:Nat)) 8))],rfl,?_,pre++[x],by rw [<- h2];simp,_,_,h3.right x hx,_,_,_,rfl⟩
     walk_at "zz"
     rw [fu ns _ 8 (by omega) (by decide)]
     walk_at "zz"
     rw [decide_eq_false c1]
     walk_at "zz"
     rw [mx]
     walk_at "zz"
     rw [decide_eq_true c2]
     walk_at "zz"
     rw [<- JZ]
     exact xb (ds:=q.map .str) rfl rfl (by rw [al];omega)
    ·refine ⟨[.shr (.list (ns.map .int)),.shr (.int k),.shr (ay fs),.own (.list (p.map .str)),.own (.list (q.map .str)),.shr (.int (i:Nat)),.shr (.str x),.shr (.int (fq ns (k + (i:Nat)) 8))],rfl,?_,pre++[x],by rw [<- h2];simp,_,_,h3.skip x,_,_,_,rfl⟩
     walk_at "zz"
     rw [fu ns _ 8 (by omega) (by decide)]
     walk_at "zz"
     rw [decide_eq_false c1]
     walk_at "zz"
     rw [mx]
     walk_at "zz"
     rw [decide_eq_false c2]
     walk_at "zz") (nK 0 fs) () [.shr (.list (ns.map .int)),.shr (.int k),.shr (ay fs),.own (.list []),.own (.list []),.no,.no,.no] ⟨[],by rw [sy];rfl,[],[],⟨eQ _,eQ _,fun _ h=>nomatch h⟩,_,_,_,rfl⟩
  refine ⟨p,q,?_,?_⟩
  ·rw [h1,h4]
   walk_at "zz"
   rw [fN]
   walk_at "zz"
   rw [fN]
   walk_at "zz"
  ·simp only [eX,bV] at h2
   rw [<- h2];exact h3
 ·walk_at "zz"
  rw [yi]
theorem UD (j:Int) (h0:0<=j) (h1:j<2):∃ m:Int,bc (.list [.int 2,.int 4]) (.int j)=.ok (.int m):=by
 have:j=0\/j=1:=by omega
 rcases this with h | h<;>subst h
 ·exact ⟨2,rfl⟩
 ·exact ⟨4,rfl⟩
theorem Fg (fs:List Str) (es:List cW):bc (ck fs es) (.int 0)=.ok (ay fs):=id rfl
theorem Ln (fs:List Str) (es:List cW):bc (ck fs es) (.int 1)=.ok (.tuple (es.map cK)):=id rfl
theorem Rn (ns:List Int) (m n:Int) (hm0:0<=m) (hm:m<=6) (hn0:0<=n) (hn:n<=6):∃ fs es ss wm wb,mn [.list (ns.map .int),.int m,.int n]=.ok (.tuple [ck fs es,ay ss,fQ wm wb])/\cQ fs es/\mS fs ss/\jU fs wm wb:=by
 obtain ⟨fs,es,hb,gb⟩:=Rh ns 100 (by decide) m n hm0 hm hn0 hn
 obtain ⟨pt,hp⟩:=UD (fq ns 97 2) (ft _ _ _ (by decide)) (g9 _ _ _ (by decide))
 obtain ⟨ss,hs,gs⟩:=Rl ns 20 (by decide) fs gb.rise.len pt
 obtain ⟨wm,wb,hw,gw⟩:=Rm ns 30 (by decide) fs gb.rise.up gb.rise.len
 refine ⟨fs,es,ss,wm,wb,?_,gb,HK gb.rise.up gs,gw⟩
 unfold mn
 refine cE ?_
 unfold pJ bz
 walk_at "zz"
 rw [hb]
 walk_at "zz"
 rw [Fg]
 walk_at "zz"
 rw [fu ns 97 2 (by decide) (by decide)]
 walk_at "zz"
 rw [hp]
 walk_at "zz"
 rw [hs]
 walk_at "zz"
 rw [Fg]
 walk_at "zz"
 rw [hw]
 walk_at "zz"
theorem OQ {xs ys:List Str} (hl:xs.length<=60):eR [ay xs,ay ys]=.ok (.bool (!xs.any fun x=>decide (x∈ys))):=by
 unfold eR
 refine cE ?_
 unfold jI bz
 walk_at "zz"
 rw [if_pos (by omega)]
 rw [dA _ (fun x:Str=>aQ x) (fun x=>cu (decide (x∈ys))) xs fun x hx=>fc rfl (by
  walk_at "zz"
  rw [ka]
  rfl)]
 walk_at "zz"
 rw [hV _ (fun x=>decide (x∈ys))]
 walk_at "zz"
 rw [jS]
 rfl
theorem OR (neg:Bool) (xs:List Str):yX neg (ay xs) .none=.ok (.bool neg):=by cases neg<;>rfl
theorem J_ (neg:Bool):yX neg .none .none=.ok (.bool (!neg)):=by cases neg<;>rfl
theorem UE (e:cW):bc (cK e) (.int 0)=.ok (.str e.name):=id rfl
theorem WG (e:cW):bc (cK e) (.int 3)=.ok (ay e.makes):=id rfl
theorem Yg (e:cW):bc (cK e) (.int 4)=.ok (ay e.ends):=id rfl
theorem WH (e:cW):J8 (cK e) (some 1) (some 3)=.ok (fQ e.needs e.bars):=id rfl
theorem Ro (x:Str) (gs:au->R (List D)) (s:Sl) (ρ:au) {ds:List D} (h:gs (s::ρ)=.ok ds) (hl:ds.length<=1000):pz x gs (s::ρ)=.ex x none:=by unfold pz;rw [h,bind_ok,if_pos hl]
theorem OS (wh:Str->Option Nat) (F:List D->R D) (ds:List D):zr wh F ds=BK wh (F ds):=id rfl
theorem Rp (wh:Str->Option Nat) (d:D):BK wh (.ok d)=.ok d:=id rfl
theorem Rq {wh:Str->Option Nat}{y:Str}{j:Nat} (h:wh y=some j):BK wh (.ex y none)=.ok (.tuple [.str "refused",.int (j:Nat)]):=by simp only [BK,h]
theorem oZ {xs:List D}{j:Nat}{v:D} (h:xs[j]?=some v):bc (.list xs) (.int (j:Nat))=.ok v:=by
 have e:bc (.list xs) (.int (j:Nat))=ED (.list xs) (.int (j:Nat)):=rfl
 rw [e]
 unfold ED
 simp only [uR h]
def WI:R D->Bool
 | .ok (.bool b)=>b
 | _=>false
theorem Rr {r:R D} (h:WI r=true):r=.ok (.bool true):=by
 unfold WI at h
 split at h
 ·rw [h]
 ·cases h
theorem Yh (a x y z:D) (r:au):O7 (kJ 3 (cq (bB 1) (cq (bB 2) (cq (bB 3) lr)))) (Sl.shr a::.no::.no::.no::r) (.tuple [x,y,z])=.ok (.nx (.shr a::.shr x::.shr y::.shr z::r)):=id rfl
def bP (st a b:List Str):Bool:=(a.all fun x=>decide (x∈st)) && !b.any fun x=>decide (x∈st)
theorem WJ (m b:List Str):bc (fQ m b) (.int 0)=.ok (ay m):=id rfl
theorem Yi (m b:List Str):bc (fQ m b) (.int 1)=.ok (ay b):=id rfl
theorem yk {st a b:List Str} (ha:a.length<=60) (hb:b.length<=60):gz [ay st,fQ a b]=.ok (.bool (bP st a b)):=by
 unfold gz
 refine cE ?_
 unfold pK bz
 walk_at "zz"
 rw [WJ]
 walk_at "zz"
 rw [if_pos (by omega)]
 rw [dA _ (fun x:Str=>aQ x) (fun x=>cu (decide (x∈st))) a fun x hx=>fc rfl (by
  walk_at "zz"
  rw [ka]
  rfl)]
 walk_at "zz"
 rw [hV _ (fun x=>decide (x∈st))]
 walk_at "zz"
 rw [Yi]
 walk_at "zz"
 rw [if_pos (by omega)]
 rw [dA _ (fun x:Str=>aQ x) (fun x=>cu (decide (x∈st))) b fun x hx=>fc rfl (by
  walk_at "zz"
  rw [ka]
  rfl)]
 walk_at "zz"
 rw [hV _ (fun x=>decide (x∈st))]
 walk_at "zz"
 unfold bP
 rw [jT,jS]
 have e:(id∘fun x=>decide (x∈st))=fun x=>decide (x∈st):=rfl
 rw [e]
 cases (a.all fun x=>decide (x∈st))<;>rfl
theorem zI {n:Nat}{g:au->R Fl}{ds:List D}{ρ:au} (h:g (bz n ds)=.ok (.nx ρ)):eJ n g ds=.ok .none:=by unfold eJ;rw [h]
theorem WK (a x y:D):O7 (kJ 2 (cq (bB 2) (cq (bB 3) lr))) [Sl.shr a,.shr (.tuple [x,y]),.no,.no] (.tuple [x,y])=.ok (.nx [.shr a,.shr (.tuple [x,y]),.shr x,.shr y]):=id rfl
theorem u0 {st a b:List Str} (ha:a.length<=60) (hb:b.length<=60):lQ [ay st,fQ a b]=.ok (.bool (bP st a b)):=by
 unfold lQ
 refine cE ?_
 unfold sj bz fQ
 walk_at "zz"
 rw [WK]
 walk_at "zz"
 rw [if_pos (by omega)]
 rw [dA _ (fun x:Str=>aQ x) (fun x=>cu (decide (x∈st))) a fun x hx=>fc rfl (by
  walk_at "zz"
  rw [ka]
  rfl)]
 walk_at "zz"
 rw [hV _ (fun x=>decide (x∈st))]
 walk_at "zz"
 rw [OQ (by omega)]
 unfold bP
 rw [jT]
 have e:(id∘fun x=>decide (x∈st))=fun x=>decide (x∈st):=rfl
 rw [e]
 cases (a.all fun x=>decide (x∈st))<;>rfl
theorem Lo {fs ss:List Str}{es:List cW} (g:cQ fs es) (h:mS fs ss):ku [ck fs es,ay ss]=.ok .none:=by
 unfold ku
 refine zI (ρ:=[.shr (ck fs es),.shr (ay ss)]) ?_
 unfold kr bz
 walk_at "zz"
 rw [Fg]
 walk_at "zz"
 rw [j7 g.rise.ok h (df h g.rise.len)]
 walk_at "zz"
theorem OT {fs ss:List Str}{es:List cW} (g:cQ fs es) (h:mS fs ss):kx [ck fs es,ay ss]=.ok .none:=by
 unfold kx
 refine zI (ρ:=[.shr (ck fs es),.shr (ay ss)]) ?_
 unfold kw bz
 walk_at "zz"
 rw [HJ g]
 walk_at "zz"
 rw [Lo g h]
 walk_at "zz"
theorem OU {fs:List Str}{es:List cW}{x y:D}{p q r:Bool} (n:qI (.tuple [x,y])=true) (hx:fD [ay fs,x]=.ok (.bool p)) (hy:p=true->fD [ay fs,y]=.ok (.bool q)) (hs:p=true->q=true->eR [x,y]=.ok (.bool r)):si [ck fs es,.tuple [x,y]]=.ok (.bool (p && (q && r))):=by
 unfold si
 refine cE ?_
 unfold sg bz
 walk_at "zz"
 rw [n,zH]
 walk_at "zz"
 rw [mx]
 walk_at "zz"
 rw [show decide (((2:Nat):Int)=2)=true from rfl]
 walk_at "zz"
 rw [WK]
 walk_at "zz"
 rw [Fg]
 walk_at "zz"
 rw [hx]
 cases p with
 | false=>rfl
 | true =>
  walk_at "zz"
  rw [Fg]
  walk_at "zz"
  rw [hy rfl]
  cases q with
  | false=>rfl
  | true =>
   walk_at "zz"
   rw [hs rfl rfl]
   cases r<;>rfl
theorem OV {fs m b:List Str}{es:List cW} (g:cQ fs es) (h:jU fs m b):lw [ck fs es,fQ m b]=.ok .none:=by
 have n:qI (fQ m b)=true:=by
  have:qI (fQ m b)=(qI (ay m) && (qI (ay b) && true)):=rfl
  rw [this,lF,lF];rfl
 have l1:=df h.must g.rise.len
 have l2:=df h.bars g.rise.len
 unfold lw
 refine zI (ρ:=[.shr (ck fs es),.shr (fQ m b)]) ?_
 unfold lv bz
 walk_at "zz"
 rw [OU n (j7 g.rise.ok h.must l1) (fun _=>j7 g.rise.ok h.bars l2) (fun _ _=>wz h.mb l1)]
 walk_at "zz"
 rfl
theorem HL {fs ss m b:List Str}{es:List cW} (g:cQ fs es) (h:mS fs ss) (w:jU fs m b):kM [ck fs es,ay ss,fQ m b]=.ok .none:=by
 unfold kM
 refine zI (ρ:=[.shr (ck fs es),.shr (ay ss),.shr (fQ m b)]) ?_
 unfold nA bz
 walk_at "zz"
 rw [OT g h]
 walk_at "zz"
 rw [OV g w]
 walk_at "zz"
theorem OW (xs:List D):kq (.tuple xs)=.ok (.list xs):=id rfl
structure K0 (e:cW):Prop where
 needs:e.needs.length<=6
 bars:e.bars.length<=6
 makes:e.makes.length<=6
 ends:e.ends.length<=6
theorem my {fs:List Str}{es:List cW} (g:cQ fs es) {e:cW} (he:e∈es):K0 e :=
 ⟨df (g.ok e he).needs g.rise.len,df (g.ok e he).bars g.rise.len,df (g.ok e he).makes g.rise.len,df (g.ok e he).ends g.rise.len⟩
theorem Yj (e:cW):bc (cK e) (.int 1)=.ok (ay e.needs):=id rfl
theorem Yk (e:cW):bc (cK e) (.int 2)=.ok (ay e.bars):=id rfl
def zJ (e:cW) (st:List Str):Option (List Str):=if bP st e.needs e.bars then some (DW ((st.filter fun x=>!decide (x∈e.ends))++e.makes)) else none
def Lp:Option (List Str)->D
 | none=>.none
 | some s=>ay s
theorem sA {e:cW} (he:K0 e) {st:List Str} (hs:st.length<=30):dC [cK e,ay st]=.ok (Lp (zJ e st)):=by
 have:=he.needs
 have:=he.bars
 have:=he.makes
 unfold dC
 refine cE ?_
 unfold pL bz
 walk_at "zz"
 rw [WH]
 walk_at "zz"
 rw [yk (by omega) (by omega)]
 walk_at "zz"
 unfold zJ
 cases hg:bP st e.needs e.bars with
 | false =>
  walk_at "zz"
  rfl
 | true =>
  walk_at "zz"
  rw [if_pos (by omega)]
  rw [dP _ (fun x:Str=>aQ x) (fun x=>aQ x) (fun x=>!decide (x∈e.ends)) st fun x hx=>jG (by
   walk_at "zz"
   rw [Yg]
   walk_at "zz"
   rw [ka]
   rfl) fun _=>rfl]
  have hf:(st.filter fun x=>!decide (x∈e.ends)).length<=st.length:=fW _ _
  walk_at "zz"
  rw [wy,JV]
  walk_at "zz"
  rw [WG]
  walk_at "zz"
  rw [OW]
  walk_at "zz"
  rw [if_pos (by omega)]
  walk_at "zz"
  rw [<- aX,zF _ (by rw [aB];omega)]
  walk_at "zz"
  rw [zG _ (by have:=f_ ((st.filter fun x=>!decide (x∈e.ends))++e.makes) [];simp only [bO,aB] at this;omega)]
  walk_at "zz"
  rw [fN]
  rfl
theorem OX:∀ {a b:List Str},(a.Pairwise fun x y=>qp x y=true)->(b.Pairwise fun x y=>qp x y=true)->(∀ x,x∈a↔x∈b)->a=b:=by
 intro a b ha hb h
 have na:=kR ha
 have nb:=kR hb
 have p:a.Perm b:=(nc na nb).mpr h
 exact p.eq_of_pairwise (fun x y _ _ h1 h2=>by
  have:=rV h1 h2
  rw [tR] at this
  cases this) ha hb
def b9 (e:cW) (st:List Str):List Str:=DW ((st.filter fun x=>!decide (x∈e.ends))++e.makes)
theorem mz {e:cW}{st:List Str}{x:Str}:x∈b9 e st↔(x∈st/\x∉e.ends)\/x∈e.makes:=by
 unfold b9
 rw [nJ]
 simp [Q0]
theorem oN (e:cW) (st:List Str):zJ e st=if bP st e.needs e.bars then some (b9 e st) else none:=rfl
theorem wA (s:List Str):Lp (some s)=ay s:=rfl
theorem wB:Lp none=.none:=rfl
theorem WL (ga gb:au->R (List Str)) (s:Sl) (ρ:au) {xs ys:List Str} (h1:ga (s::ρ)=.ok xs) (h2:gb (s::ρ)=.ok ys) (hl:xs.length + ys.length<=15):Om ga gb (s::ρ)=.ok (dz xs ys):=by
 unfold Om J.Uh
 rw [h1,bind_ok,h2,bind_ok,if_pos hl]
theorem BZ (ss:List Str) (h:ss.length<60):tW (ay ss)=.ok (dz [] ss):=by
 have e:∀ ds,tW (.tuple ds)=match gx ds with
  | some ss=>if ss.length<60 then .ok (dz [] ss) else .no
  | none=>.no:=fun _=>rfl
 rw [e,strsOf_map]
 simp only [if_pos h]
theorem UF (xs ys:List Str):jC (dz (dz [] xs) (dz [] ys))=DW (xs++ys):=by
 refine OX (wl (qV _) ((hG _).nodup_iff.mpr (ip _ _ (ip _ [] gP)))) (HH _) fun x=>?_
 rw [(hG _).mem_iff,iF,iF,iF,nJ,Am]
 simp
theorem Lq {xs ys:List Str} (h:xs.length + ys.length<=12):vo [ay xs,ay ys]=.ok (ay (DW (xs++ys))):=by
 have l1:=f_ xs []
 have l2:=f_ ys []
 simp only [bO] at l1 l2
 have l3:=f_ (dz [] ys) (dz [] xs)
 unfold vo
 refine cE ?_
 unfold vn bz
 walk_at "zz"
 rw [wy,WL _ _ _ _ (BZ xs (by omega)) (BZ ys (by omega)) (by omega)]
 walk_at "zz"
 rw [zG _ (by omega),UF]
 walk_at "zz"
 rw [fN]
 walk_at "zz"
theorem HM {xs ys:List Str} (h:xs.length<=60):s9 [ay xs,ay ys]=.ok (ay (xs.filter fun x=>!decide (x∈ys))):=by
 unfold s9
 refine cE ?_
 unfold r_ bz
 walk_at "zz"
 rw [if_pos (by omega)]
 rw [dP _ (fun x:Str=>aQ x) (fun x=>aQ x) (fun x=>!decide (x∈ys)) xs fun x hx=>jG (by
  walk_at "zz"
  rw [ka]
  rfl) fun _=>rfl]
 walk_at "zz"
 rw [fN]
 walk_at "zz"
theorem WM {i j:Nat}{gs:au->R (List D)}{s:Sl}{ρ:au}{d e:D} (h:gs (s::ρ)=.ok [d,e]):On i j gs (s::ρ)=.ok (.nx (((s::ρ).set i (.shr d)).set j (.shr e))):=by
 unfold On
 rw [h]
 rfl
theorem Lr {e:cW} (he:K0 e) {st:List Str} (hs:st.length<=6):jK [cK e,ay st]=.ok (ay (b9 e st)):=by
 have:=he.makes
 have hf:(st.filter fun x=>!decide (x∈e.ends)).length<=st.length:=fW _ _
 unfold jK
 refine cE ?_
 unfold jJ bz
 walk_at "zz"
 rw [WM (d:=ay e.makes) (e:=ay e.ends) rfl]
 walk_at "zz"
 rw [HM (by omega)]
 walk_at "zz"
 rw [Lq (by omega)]
 rfl
theorem Ls {e:cW} (he:K0 e) {st:List Str}:nz [cK e,ay st]=.ok (.bool (bP st e.needs e.bars)):=by
 have:=he.needs
 have:=he.bars
 unfold nz
 refine cE ?_
 unfold ny bz
 walk_at "zz"
 rw [Yj]
 walk_at "zz"
 rw [Yk]
 walk_at "zz"
 rw [u0 (by omega) (by omega)]
 walk_at "zz"
structure T7 (es rs:List cW):Prop where
 mem:∀ e∈rs,e∈es
 len:rs.length<=80
abbrev gO (rs:List cW):D:=.list (rs.map fun e=>aQ e.name)
theorem Di:U6 (.int 1)=.ok (.int (-1)):=rfl
theorem OY (g:au->R D) (s:Sl) (ρ:au):EM g (s::ρ)=(g (s::ρ)).bind U6:=id rfl
theorem pR {kt:D->au->R au}{gb:au->R Fl}{d:D}{r:List D}{ρ ρ1 ρ2:au} (h1:kt d ρ=.ok ρ1) (h2:gb ρ1=.ok (.nx ρ2)):iw kt gb (d::r) ρ=iw kt gb r ρ2:=by
 rw [iw,h1]
 simp only [h2]
theorem K1 {kt:D->au->R au}{gb:au->R Fl}{d x:D}{r:List D}{ρ ρ1:au} (h1:kt d ρ=.ok ρ1) (h2:gb ρ1=.ok (.rt x)):iw kt gb (d::r) ρ=.ok (.rt x):=by
 rw [iw,h1]
 simp only [h2]
theorem Lu {st a b:List Str}:bP st a b=true↔(∀ x∈a,x∈st)/\∀ x∈b,x∉st:=by
 unfold bP
 simp only [aT,b_,decide_eq_true_eq,jR,wS]
def UG (fs:List Str):List (List Str):=fs.foldl (fun acc f=>acc++acc.map (·++[f])) [[]]
theorem UH {i:Nat}{kt:D->au->R au}{gb:au->R Fl}{ρ:au}{d:D} (h:ρ[i]?=some (Sl.shr d)):qq i kt gb ρ=m7 (jf fun ρ=>Gm ρ i) kt gb ρ:=by
 unfold qq
 rw [h]
theorem Dj {xs:List Str} (h:∀ x∈xs,AU x=true) (neg:Bool):lP neg (.list (xs.map .str)) (.list (xs.map .str))=.ok (.bool (!neg)):=by
 have e:∀ ds es:List D,bf (.list ds) (.list es)=bf (.tuple ds) (.tuple es):=fun _ _=>rfl
 have h1:(fH (xs.map .str)).canLay0=true:=by simp only [ed];exact vq xs h
 have h2:(fH (xs.map .str)).depth<=60:=by
  have:=BX aQ 0 (fun x=>by simp [PyData.depth]) xs
  simp only [PyData.depth]
  omega
 unfold lP
 rw [h1,e,ON,decide_eq_true (bR (Nat.min_le_left _ _) h2)]
 cases neg<;>rfl
theorem Dk:∀ (fs:List Str) (acc:List (List Str)) (t u:List Str),t∈acc->u.Sublist fs->t++u∈fs.foldl (fun acc f=>acc++acc.map (·++[f])) acc
 | [],acc,t,u,ht,hu=>by
  cases hu
  rw [bV]
  exact ht
 | f::r,acc,t,u,ht,hu=>by
  rw [dU]
  cases hu with
  | cons _ h=>exact Dk r _ t u (ba _ ht) h
  | cons_cons _ h =>
   rename_i u'
   have:=Dk r (acc++acc.map (·++[f])) (t++[f]) u' (aE _ (bN ht)) h
   rwa [gE] at this
theorem OZ {fs xs:List Str} (hf:fs.Pairwise fun a b=>qp a b=true) (h:mS fs xs):xs.Sublist fs:=by
 have e:xs=fs.filter fun x=>decide (x∈xs):=OX h.up (hf.sublist uB) fun x=>by
  rw [Q0,decide_eq_true_eq]
  exact ⟨fun z=>⟨h.mem x z,z⟩,fun z=>z.2⟩
 rw [e]
 exact uB
theorem O_ {fs xs:List Str} (hf:fs.Pairwise fun a b=>qp a b=true) (h:mS fs xs):xs∈UG fs:=Dk fs [[]] [] xs (List.mem_singleton.mpr rfl) (OZ hf h)
def mW:List cW->List Str->Option (List Str)
 | [],st=>some st
 | e::r,st=>if bP st e.needs e.bars then mW r (b9 e st) else none
def fY:List cW->List Str->List (List Str)
 | [],st=>[st]
 | e::r,st=>if bP st e.needs e.bars then st::fY r (b9 e st) else [st]
def nL (st m b:List Str) (rs:List cW):Bool:=match mW rs st with
 | some s=>bP s m b
 | none=>false
theorem mB {fs st:List Str}{e:cW} (hf:fs.Pairwise fun a b=>qp a b=true) (g:rf fs e) (h:mS fs st):mS fs (b9 e st):=by
 refine ⟨HH _,fun x hx=>?_⟩
 rcases mz.mp hx with z | z
 ·exact h.mem x z.1
 ·exact g.makes.mem x z
theorem B_:∀ (rs:List cW) (st:List Str),(fY rs st).length<=rs.length + 1
 | [],_=>ar _
 | e::r,st=>by
  unfold fY
  split
  ·have:=B_ r (b9 e st)
   simp only [aU]
   omega
  ·simp
theorem zK:∀ (rs:List cW) (st s:List Str),mW rs st=some s->∃ pre,fY rs st=pre++[s]
 | [],st,s,h=>by cases h;exact ⟨[],rfl⟩
 | e::r,st,s,h=>by
  unfold mW at h
  unfold fY
  cases hg:bP st e.needs e.bars with
  | true =>
   rw [hg,if_pos rfl] at h
   rw [if_pos rfl]
   obtain ⟨pre,hp⟩:=zK r _ _ h
   exact ⟨st::pre,by rw [hp];rfl⟩
  | false=>rw [hg] at h;cases h
theorem K2 (xs:List D) (x:D):bc (.list (xs++[x])) (.int (-1))=.ok x:=by
 have e:bc (.list (xs++[x])) (.int (-1))=ED (.list (xs++[x])) (.int (-1)):=rfl
 rw [e]
 unfold ED
 have:Eb (xs++[x]) (-1)=some x:=by
  unfold Eb RW
  rw [if_neg (by decide),if_pos (by simp only [aB,aU,bO];omega)]
  have hj:(-1 + ((xs++[x]).length:Int)).toNat=xs.length:=by simp only [aB,aU,bO];omega
  simp only [oV,hj]
  rw [bq (ar _)]
  simp
 simp only [this]
theorem K3 (neg:Bool) (ds:List D) (h:bS ds=true):lP neg (.list ds) (.list [])=.ok (.bool (neg != decide (ds=[]))):=by
 unfold lP
 have h1:(fH ds).canLay0=true:=by simp only [ed];exact h
 have h3:min (fH ds).depth (fH []).depth<=60:=bR (qw _ _) (by decide)
 have h4:bf (.list ds) (.list [])=decide (ds=[]):=by
  cases ds with
  | nil=>rfl
  | cons x r=>simp [bf,eU]
 rw [h1,show (fH []).canLay0=true from rfl,decide_eq_true h3,h4]
 cases neg<;>cases decide (ds=[])<;>rfl
theorem Dl (ds:List D) (h:bS ds=true):lP false (.list ds) (.list [])=.ok (.bool (decide (ds=[]))):=by rw [K3 false ds h,Bool.false_bne]
theorem Rt (ds:List D) (h:bS ds=true):lP true (.list ds) (.list [])=.ok (.bool (!decide (ds=[]))):=by rw [K3 true ds h,Bool.true_bne]
theorem P0 (neg:Bool) (o:Option (List Str)):yX neg (Lp o) .none=.ok (.bool (neg == o.isSome)):=by cases o<;>cases neg<;>rfl
theorem Ru {L:List cW}{j:Int} (h0:0<=j) (h1:j<(L.length:Nat)):∃ e∈L,bc (.list (L.map cK)) (.int j)=.ok (cK e):=by
 obtain ⟨n,rfl⟩:=qx h0
 have hn:n<L.length:=by omega
 refine ⟨L[n],gQ hn,oZ ?_⟩
 rw [aP,aR hn]
 rfl
theorem HN (e:cW) (st:List Str):(zJ e st).isSome=bP st e.needs e.bars:=by
 unfold zJ
 cases bP st e.needs e.bars<;>rfl
theorem C0 {fs:List Str}{es:List cW} (g:cQ fs es) (ns:List Int) (at0:Int) (h0:0<=at0) (M:D):∀ (ks:List Nat) (rs:List cW) (st:List Str) (z7 z8 z9:Sl),(∀ e∈rs,e∈es)->mS fs st->rs.length + ks.length<=20 ->
  ∃ rs',T7 es rs'/\(iw (bB 6) (aN (e8 7 (dE 1 [3] (jf (g2 (rB 2) (kI 1) bc)) (ej (g2 (dJ 2 dC (J.ac (rS 0) (J.ac (rS 1) J.aF))) kN (yX true))) (rS 0))) (aN (e7 (ej (g2 (rB 7) (dQ J.aF .list) (lP false))) (cC (rS 5)) (fun ρ=>.ok (.nx ρ))) (aN (eZ 8 (g2 (rB 7) (dJ 3 br (J.ac (rS 0) (J.ac (g2 (rB 1) (rB 6) dN) (J.ac (cb (J.ac (rB 7) J.aF) (i8 k8)) J.aF)))) bc)) (aN (m9 5 (g2 (rB 8) (kI 0) bc)) (eZ 3 (dJ 2 dC (J.ac (rS 8) (J.ac (rS 3) J.aF)))))))) (ks.map fun (i:Nat)=>cm (i:Int)) [.shr (.list (ns.map .int)),.shr (.int at0),.shr (ck fs es),.shr (ay st),.shr M,.own (gO rs),z7,z8,z9]).bind (L8 (cC (rS 5)))=.ok (.rt (gO rs'))
 | [],rs,st,z7,z8,z9,hm,hs,hl=>by
  refine ⟨rs,⟨hm,by simp only [bO] at hl;omega⟩,?_⟩
  rw [eX,iw]
  walk_at "zz"
 | k::ks,rs,st,z7,z8,z9,hm,hs,hl=>by
  have ls:=df hs g.rise.len
  have lg:=g.len
  simp only [aU] at hl
  let L:=es.filter fun e=>bP st e.needs e.bars
  have hL:∀ e∈L,e∈es/\bP st e.needs e.bars=true:=fun e he=>List.mem_filter.mp he
  have hc:∀ (z:Sl),dE 1 [3] (jf (g2 (rB 2) (kI 1) bc)) (ej (g2 (dJ 2 dC (J.ac (rS 0) (J.ac (rS 1) J.aF))) kN (yX true))) (rS 0) [.shr (.list (ns.map .int)),.shr (.int at0),.shr (ck fs es),.shr (ay st),.shr M,.own (gO rs),.shr (.int (k:Int)),z8,z]=.ok (.list (L.map cK)):=by
   intro z
   walk_at "zz"
   rw [Ln]
   walk_at "zz"
   rw [if_pos (by omega)]
   rw [dP _ cK cK (fun e=>bP st e.needs e.bars) es fun e he=>jG (by
    walk_at "zz"
    rw [sA (my g he) (by omega)]
    walk_at "zz"
    rw [P0,HN]
    walk_at "zz"
    rw [Bool.true_beq]) fun _=>rfl]
   walk_at "zz"
   rfl
  have lay:bS (L.map cK)=true:=vv cK L fun e he=>OO g.rise.ok (g.ok e (hL e he).1)
  rw [aI]
  by_cases hn:L=[]
  ·refine ⟨rs,⟨hm,by omega⟩,?_⟩
   rw [K1 (x:=gO rs) (ρ1:=[.shr (.list (ns.map .int)),.shr (.int at0),.shr (ck fs es),.shr (ay st),.shr M,.own (gO rs),.shr (.int (k:Int)),z8,z9]) rfl ?_]
   ·walk_at "zz"
   ·rw [w_]
    unfold e8
    rw [hc]
    walk_at "zz"
    rw [Dl _ lay,hn]
    walk_at "zz"
  ·have hp:0<L.length:=List.length_pos_iff.mpr hn
   have hk:((L.length:Nat):Int) > 0:=by omega
   obtain ⟨e,he,hix⟩:=Ru (L:=L) (ft ns (at0 + k) (L.length:Nat) (by omega)) (g9 ns (at0 + k) (L.length:Nat) (by omega))
   obtain ⟨he1,he2⟩:=hL e he
   obtain ⟨rs',r1,r2⟩:=C0 g ns at0 h0 M ks (rs++[e]) (b9 e st) (.shr (.int (k:Int))) (.own (.list (L.map cK))) (.shr (cK e)) (fun x hx=>by
    rcases List.mem_append.mp hx with h | h
    ·exact hm x h
    ·rw [List.mem_singleton.mp h];exact he1) (mB g.rise.up (g.ok e he1) hs) (by rw [aB,cH];omega)
   refine ⟨rs',r1,?_⟩
   rw [pR (ρ1:=[.shr (.list (ns.map .int)),.shr (.int at0),.shr (ck fs es),.shr (ay st),.shr M,.own (gO rs),.shr (.int (k:Int)),z8,z9]) (ρ2:=[.shr (.list (ns.map .int)),.shr (.int at0),.shr (ck fs es),.shr (ay (b9 e st)),.shr M,.own (gO (rs++[e])),.shr (.int (k:Int)),.own (.list (L.map cK)),.shr (cK e)]) rfl ?_]
   ·exact r2
   ·rw [w_]
    unfold e8
    rw [hc]
    walk_at "zz"
    rw [Dl _ lay,decide_eq_false (by simpa using hn)]
    walk_at "zz"
    rw [fu ns (at0 + k) (L.length:Nat) (by omega) (by omega)]
    walk_at "zz"
    rw [hix]
    walk_at "zz"
    rw [xb (ds:=rs.map fun e=>aQ e.name) (d:=.str e.name) rfl (by
     walk_at "zz"
     rw [UE]) (by rw [al];omega)]
    walk_at "zz"
    rw [sA (my g he1) (by omega),oN,he2]
    walk_at "zz"
    simp only [gO,aX]
    rfl
theorem Rv {fs st:List Str}{es:List cW} (g:cQ fs es) (ns:List Int) (k n:Int) (h0:0<=k) (hn:0<=n) (h20:n<=20) (hs:mS fs st):∃ rs,T7 es rs/\mq [.list (ns.map .int),.int k,ck fs es,ay st,.int n]=.ok (gO rs):=by
 obtain ⟨j,rfl⟩:=qx hn
 obtain ⟨rs,h1,h2⟩:=C0 g ns k h0 (.int (j:Int)) (bv j) [] st .no .no .no (fun _ h=>nomatch h) hs (by simp;omega)
 refine ⟨rs,h1,?_⟩
 unfold mq
 refine cE ?_
 unfold pM bz
 walk_at "zz"
 rw [qr (ds:=(bv j).map fun (i:Nat)=>cm (i:Int))]
 ·exact h2
 ·walk_at "zz"
  exact vp j (by omega)
def HP (es:List cW):List (Str×D):=es.map fun e=>(e.name,cK e)
theorem Fh:∀ es:List cW,J.nl (es.map fun e=>cG [.str e.name,cK e])=some (es.map fun e=>(l9 e.name,cK e))
 | []=>rfl
 | e::r=>by
  show (oI (.str e.name)).bind (fun y=>(J.nl (r.map fun e=>cG [.str e.name,cK e])).map ((y,cK e)::·))=_
  rw [Fh r]
  rfl
theorem Fi:∀ (l acc:List (Str×D)),((acc++l).map (·.1)).Nodup->l.foldl (fun a p=>sR a (.str p.1) p.2) (i9 acc)=i9 (acc++l)
 | [],acc,_=>by rw [bV];rfl
 | p::r,acc,nd=>by
  have hx:p.1∉acc.map (·.1):=by
   rw [aX,aI] at nd
   intro h
   exact (List.nodup_append.mp nd).2.2 _ h _ ao rfl
  have hp:sS acc p.1 p.2=acc++[p]:=by
   unfold sS
   rw [if_neg]
   rw [gR]
   rintro ⟨q,hq,e⟩
   exact hx (List.mem_map.mpr ⟨q,hq,of_decide_eq_true e⟩)
  rw [dU,JR,hp]
  have:=Fi r (acc++[p]) (by rwa [gE])
  rwa [gE] at this
theorem Rw {es:List cW} (nd:(es.map (·.name)).Nodup) (hl:es.length<=6):J.vk (.list (es.map fun e=>cG [.str e.name,cK e]))=.ok (.dict (i9 (HP es))):=by
 have e:J.vk (.list (es.map fun e=>cG [.str e.name,cK e]))=if (es.map fun e=>cG [.str e.name,cK e]).length<=1000 then (match J.nl (es.map fun e=>cG [.str e.name,cK e]) with
  | some ps=>.ok (.dict (ps.foldl (fun a p=>sR a (kD p.1) p.2) []))
  | none=>.no) else .no:=rfl
 rw [e,if_pos (by rw [al];omega),Fh]
 have:=Fi (HP es) [] (by rw [lO];unfold HP;rw [cL];exact nd)
 rw [lO] at this
 rw [<- this]
 unfold HP
 simp only [sZ]
 rfl
theorem UI {es:List cW} (nd:(es.map (·.name)).Nodup) {e:cW} (he:e∈es):bc (.dict (i9 (HP es))) (.str e.name)=.ok (cK e) :=
 OH (l:=HP es) (by unfold HP;rw [cL];exact nd) (p:=(e.name,cK e)) (bN (f:=fun e=>(e.name,cK e)) he)
theorem vw {fs:List Str}{es:List cW} (g:cQ fs es) (A B C:D):∀ (rs:List cW) (n:Nat) (pre:List (List Str)) (st:List Str) (x y z:Sl),(∀ e∈rs,e∈es)->mS fs st->pre.length + rs.length<=100 ->
  match mW rs st with
  | some _=>∃ x' y' z',iw (kJ 2 (cq (bB 5) (cq (bB 6) lr))) (aN (eZ 7 (dJ 2 dC (J.ac (g2 (rB 3) (rB 6) bc) (J.ac (g2 (rB 4) (EM (kI 1)) bc) J.aF)))) (aN (e7 (ej (g2 (rB 7) kN (yX false))) (cC (rS 5)) (fun ρ=>.ok (.nx ρ))) (m9 4 (rS 7)))) (iZ n (rs.map fun e=>aQ e.name)) [.shr A,.shr B,.shr C,.own (.dict (i9 (HP es))),.own (.list ((pre++[st]).map ay)),x,y,z]=.ok (.nx [.shr A,.shr B,.shr C,.own (.dict (i9 (HP es))),.own (.list ((pre++fY rs st).map ay)),x',y',z'])
  | none=>∃ k,iw (kJ 2 (cq (bB 5) (cq (bB 6) lr))) (aN (eZ 7 (dJ 2 dC (J.ac (g2 (rB 3) (rB 6) bc) (J.ac (g2 (rB 4) (EM (kI 1)) bc) J.aF)))) (aN (e7 (ej (g2 (rB 7) kN (yX false))) (cC (rS 5)) (fun ρ=>.ok (.nx ρ))) (m9 4 (rS 7)))) (iZ n (rs.map fun e=>aQ e.name)) [.shr A,.shr B,.shr C,.own (.dict (i9 (HP es))),.own (.list ((pre++[st]).map ay)),x,y,z]=.ok (.rt (.int k))
 | [],n,pre,st,x,y,z,_,_,_=>⟨x,y,z,rfl⟩
 | e::r,n,pre,st,x,y,z,hm,hs,hl=>by
  have he:=hm e ao
  have sh:=my g he
  have ls:=df hs g.rise.len
  simp only [aU] at hl
  have hix:bc (.list ((pre++[st]).map ay)) (.int (-1))=.ok (ay st):=by
   rw [aX]
   exact K2 _ _
  have hk:bc (.dict (i9 (HP es))) (.str e.name)=.ok (cK e):=UI g.nd he
  have en:iZ n ((e::r).map fun e=>aQ e.name)=.tuple [.int (n:Nat),.str e.name]::iZ (n + 1) (r.map fun e=>aQ e.name):=rfl
  rw [en]
  unfold fY mW
  cases hg:bP st e.needs e.bars with
  | true =>
   rw [if_pos rfl,if_pos rfl]
   have e2:pre++st::fY r (b9 e st)=(pre++[st])++fY r (b9 e st):=by simp
   rw [e2]
   have ih:=vw g A B C r (n + 1) (pre++[st]) (b9 e st) (.shr (.int (n:Nat))) (.shr (.str e.name)) (.shr (ay (b9 e st))) (fun x hx=>hm x (am _ hx)) (mB g.rise.up (g.ok e he) hs) (by rw [aB];simp only [aU,bO];omega)
   rw [pR (ρ1:=[.shr A,.shr B,.shr C,.own (.dict (i9 (HP es))),.own (.list ((pre++[st]).map ay)),.shr (.int (n:Nat)),.shr (.str e.name),z]) (ρ2:=[.shr A,.shr B,.shr C,.own (.dict (i9 (HP es))),.own (.list ((pre++[st]++[b9 e st]).map ay)),.shr (.int (n:Nat)),.shr (.str e.name),.shr (ay (b9 e st))]) rfl ?_]
   ·exact ih
   ·walk_at "zz"
    rw [hk]
    walk_at "zz"
    rw [OY]
    walk_at "zz"
    rw [Di]
    walk_at "zz"
    rw [hix]
    walk_at "zz"
    rw [sA sh (by omega),oN,hg]
    walk_at "zz"
    rw [wA,OR]
    walk_at "zz"
    rw [aX (l₁:=pre++[st])]
    exact xb (ds:=(pre++[st]).map ay) (d:=ay (b9 e st)) rfl (by rfl) (by rw [al,aB];simp only [aU,bO];omega)
  | false =>
   rw [if_neg aY]
   refine ⟨(n:Int),?_⟩
   rw [K1 (x:=.int (n:Nat)) (ρ1:=[.shr A,.shr B,.shr C,.own (.dict (i9 (HP es))),.own (.list ((pre++[st]).map ay)),.shr (.int (n:Nat)),.shr (.str e.name),z]) rfl ?_]
   walk_at "zz"
   rw [hk]
   walk_at "zz"
   rw [OY]
   walk_at "zz"
   rw [Di]
   walk_at "zz"
   rw [hix]
   walk_at "zz"
   rw [sA sh (by omega),oN,hg]
   walk_at "zz"
   rw [wB,J_]
   walk_at "zz"
theorem UJ (gs:au->R (List D)) (s:Sl) (ρ:au):J.JA gs (s::ρ)=(gs (s::ρ)).bind J.Q_:=id rfl
theorem P1 (g:au->R D) (s:Sl) (ρ:au):J.yd g (s::ρ)=(g (s::ρ)).bind J.vk:=id rfl
theorem Rx (ds:List D):J.Q_ [.list ds]=.ok (iZ 0 ds):=rfl
theorem zL {fs st:List Str}{es rs:List cW} (g:cQ fs es) (h:T7 es rs) (hs:mS fs st):match mW rs st with
  | some _=>g6 [ck fs es,ay st,gO rs]=.ok (.list ((fY rs st).map ay))
  | none=>∃ k,g6 [ck fs es,ay st,gO rs]=.ok (.int k):=by
 have hl:=h.len
 have lg:=g.len
 have L:=vw g (ck fs es) (ay st) (gO rs) rs 0 [] st .no .no .no h.mem hs (by simp only [bO];omega)
 have K:∀ {x:D},(iw (kJ 2 (cq (bB 5) (cq (bB 6) lr))) (aN (eZ 7 (dJ 2 dC (J.ac (g2 (rB 3) (rB 6) bc) (J.ac (g2 (rB 4) (EM (kI 1)) bc) J.aF)))) (aN (e7 (ej (g2 (rB 7) kN (yX false))) (cC (rS 5)) (fun ρ=>.ok (.nx ρ))) (m9 4 (rS 7)))) (iZ 0 (rs.map fun e=>aQ e.name)) [.shr (ck fs es),.shr (ay st),.shr (gO rs),.own (.dict (i9 (HP es))),.own (.list (([]++[st]).map ay)),.no,.no,.no]).bind (L8 (cC (rS 4)))=.ok (.rt x)->g6 [ck fs es,ay st,gO rs]=.ok x:=by
  intro x hx
  unfold g6
  refine cE ?_
  unfold lE bz
  walk_at "zz"
  rw [P1]
  walk_at "zz"
  rw [Ln]
  walk_at "zz"
  rw [if_pos (by omega)]
  rw [dA _ cK (fun e=>cG [.str e.name,cK e]) es fun e he=>fc rfl (by
   walk_at "zz"
   rw [UE]
   walk_at "zz")]
  walk_at "zz"
  rw [Rw g.nd lg]
  walk_at "zz"
  rw [qr (ds:=iZ 0 (rs.map fun e=>aQ e.name))]
  ·exact hx
  ·rw [UJ]
   walk_at "zz"
   rw [Rx]
 cases hr:mW rs st with
 | none =>
  rw [hr] at L
  obtain ⟨k,L⟩:=L
  refine ⟨k,K ?_⟩
  rw [L]
  walk_at "zz"
 | some s =>
  rw [hr] at L
  obtain ⟨x,y,z,L⟩:=L
  refine K ?_
  rw [L]
  walk_at "zz"
theorem Ry {fs st m b:List Str}{es rs:List cW} (g:cQ fs es) (h:T7 es rs) (hs:mS fs st) (hw:jU fs m b):mr [ck fs es,ay st,fQ m b,gO rs]=.ok (.bool (nL st m b rs)):=by
 have l1:=df hw.must g.rise.len
 have l2:=df hw.bars g.rise.len
 have L:=zL g h hs
 unfold mr
 refine cE ?_
 unfold pO bz
 walk_at "zz"
 unfold nL
 cases hr:mW rs st with
 | none =>
  rw [hr] at L
  obtain ⟨k,L⟩:=L
  rw [L]
  walk_at "zz"
  rw [show qI (.int k)=true from rfl,show AN "int" (.int k)=true from rfl]
  walk_at "zz"
 | some s =>
  rw [hr] at L
  simp only at L
  rw [L]
  obtain ⟨pre,hp⟩:=zK rs st s hr
  rw [hp]
  walk_at "zz"
  rw [show qI (.list ((pre++[s]).map ay))=true from yj _ lF _,show AN "int" (.list ((pre++[s]).map ay))=false from rfl]
  walk_at "zz"
  rw [OY]
  walk_at "zz"
  rw [Di]
  walk_at "zz"
  rw [aX,show lc ay [s]=[ay s] from rfl]
  rw [K2]
  walk_at "zz"
  rw [yk (by omega) (by omega)]
  walk_at "zz"
def cP (l:List (List Str×D)):List (D×D):=l.map fun p=>(ay p.1,p.2)
abbrev jV (l:List (List Str×D)):List (List Str):=l.map (·.1)
theorem HQ (x:List Str):ay x=tD (x.map l9):=by
 unfold ay tD
 rw [cL]
 rfl
theorem mC (x:List Str):qt (ay x)=some (x.map l9):=by rw [HQ,Os]
theorem Rz {a b:List Str} (h:a.map (l9:Str->cR)=b.map l9):a=b:=by
 induction a generalizing b with
 | nil=>cases b with | nil=>rfl | cons _ _=>cases h
 | cons x r ih =>
  cases b with
  | nil=>cases h
  | cons y t =>
   simp only [aI,List.cons.injEq] at h
   rw [ih h.2,Sum.inr.inj h.1]
theorem P2 (x y:List Str):bf (ay x) (ay y)=decide (x=y):=by
 rw [HQ,HQ,D7]
 by_cases h:x=y
 ·rw [h];simp
 ·rw [decide_eq_false h,decide_eq_false fun z=>h (Rz z)]
theorem Fj (l:List (List Str×D)):JF (cP l)=cP l:=by cases l<;>rfl
theorem pS {l:List (List Str×D)} (h:l≠[]):jH (cP l)=true:=by
 have h2:((cP l).all fun kv=>(qt kv.1).isSome)=true:=by
  unfold cP
  rw [jT,b_]
  intro p _
  show (qt (ay p.1)).isSome=true
  rw [mC]
  rfl
 unfold jH
 rw [h2]
 cases l with
 | nil=>exact (h rfl).elim
 | cons _ _=>rfl
theorem wC (x:List Str):∀ l:List (List Str×D),li (cP l) (ay x)=(l.find? fun p=>decide (p.1=x)).map (·.2)
 | []=>rfl
 | p::r=>by
  have ih:=wC x r
  unfold li cP at ih ⊢
  rw [aI,cc,cc,P2]
  by_cases h:p.1=x
  ·rw [decide_eq_true h];rfl
  ·rw [decide_eq_false h];exact ih
theorem P3 {l:List (List Str×D)} (nd:(jV l).Nodup) {p:List Str×D} (hp:p∈l):(l.find? fun q=>decide (q.1=p.1))=some p:=by
 induction l with
 | nil=>cases hp
 | cons q r ih =>
  obtain ⟨n1,n2⟩:=List.nodup_cons.mp nd
  rw [cc]
  rcases List.mem_cons.mp hp with h | h
  ·subst h;simp
  ·have:q.1≠p.1:=fun z=>n1 (by show q.1∈_;rw [z];exact bN h)
   rw [decide_eq_false this]
   exact ih n2 h
theorem Lv {α:Type}{l:List α}{x:α} (h:x∈l):l≠[]:=fun z=>by rw [z] at h;cases h
theorem P4 {l:List (List Str×D)}{ds:List (D×D)} (hu:JF ds=cP l) (nd:(jV l).Nodup) {p:List Str×D} (hp:p∈l):D8 (.dict ds) (ay p.1)=.ok p.2:=by
 unfold D8
 simp only [mC,hu]
 rw [if_pos (pS (Lv hp)),wC,P3 nd hp]
 rfl
theorem K4 {l:List (List Str×D)} (nd:(jV l).Nodup) {p:List Str×D} (hp:p∈l):D8 (.dict (cP l)) (ay p.1)=.ok p.2:=P4 (Fj l) nd hp
theorem P5 {l:List (List Str×D)} (nd:(jV l).Nodup) {p:List Str×D} (hp:p∈l):D8 (.dict ((.none,.none)::cP l)) (ay p.1)=.ok p.2:=P4 rfl nd hp
theorem C1 (x:List Str):∀ l:List (List Str×D),((l.find? fun p=>decide (p.1=x)).map (·.2)).isSome=decide (x∈jV l)
 | []=>by simp
 | p::r=>by
  rw [cc]
  by_cases h:p.1=x
  ·rw [decide_eq_true h]
   simp [h]
  ·rw [decide_eq_false h]
   simp only
   rw [C1 x r]
   simp [de h]
theorem Dm {l:List (List Str×D)} (h:l≠[]) (x:List Str):inT true (ay x) (.dict (cP l))=.ok (.bool (!decide (x∈jV l))):=by
 unfold inT
 simp only [mC,Fj]
 rw [if_pos (pS h),wC,C1]
 rfl
theorem vx (l:List (List Str×D)):D9 (.dict ((.none,.none)::cP l))=.ok ((jV l).map ay):=by
 show R.ok ((cP l).map (·.1))=_
 unfold cP jV
 rw [cL,cL]
 rfl
theorem RA {l:List (List Str×D)}{x:List Str} (h:x∉jV l) (d:D):sR (cP l) (ay x) d=cP (l++[(x,d)]):=by
 have e:((cP l).any fun kv=>bf kv.1 (ay x))=false:=by
  unfold cP
  rw [jS,wS]
  intro p hp
  show ¬bf (ay p.1) (ay x)=true
  rw [P2,decide_eq_true_eq]
  exact fun z=>h (by rw [<- z];exact bN hp)
 unfold sR
 rw [e,if_neg aY]
 unfold cP
 rw [aX]
 rfl
theorem HR {i:Nat}{gk g:au->R D}{ρ:au}{l:List (List Str×D)}{x:List Str}{d:D} (hi:ρ[i]?=some (Sl.own (.dict (cP l)))) (hg:g ρ=.ok d) (hk:gk ρ=.ok (ay x)) (hn:l≠[]) (hl:l.length<1000) (hx:x∉jV l):qu i gk g ρ=.ok (.nx (ρ.set i (.own (.dict (cP (l++[(x,d)])))))):=by
 have hl':(cP l).length<1000:=by unfold cP;rw [al];exact hl
 have e:qu i gk g ρ=(g ρ).bind fun d=>(gk ρ).bind fun k=>match qt k with
  | some _=>if (cP l).length<1000/\jH (cP l)=true then .ok (.nx (ρ.set i (.own (.dict (sR (cP l) k d))))) else .no
  | none=>.no:=by
  unfold qu
  simp only [hi]
  try rfl
 rw [e,hg,zo,hk,zo]
 simp only [mC,if_pos (uz hl' (pS hn)),RA hx]
theorem UK {i:Nat}{g:au->R Fl}{ρ:au}{l:List (List Str×D)} (hn:l≠[]) (h:ρ[i]?=some (Sl.own (.dict (cP l)))):R8 i g ρ=g (ρ.set i (.own (.dict ((.none,.none)::cP l)))):=by
 unfold R8
 congr 1
 unfold kL
 rw [h]
 cases l with
 | nil=>exact (hn rfl).elim
 | cons p r=>rfl
theorem UL {gk gv:au->R D}{s:Sl}{ρ:au}{x:List Str}{d:D} (h1:gk (s::ρ)=.ok (ay x)) (h2:gv (s::ρ)=.ok d):Pw gk gv (s::ρ)=.ok (.dict (cP [(x,d)])):=by
 unfold Pw
 rw [h1,bind_ok,h2,bind_ok]
 simp only [mC]
 rfl
theorem T8 {g:au->R D}{s:Sl}{ρ:au}{ds:List D} (h:g (s::ρ)=.ok (.list ds)):AS g (s::ρ)=.ok (!ds.isEmpty):=by
 unfold AS
 rw [h,bind_ok]
theorem K5 (g:au->R D) (s:Sl) (ρ:au):F6 g (s::ρ)=(g (s::ρ)).bind D9:=id rfl
theorem Fk {α:Type} [DecidableEq α] : ∀ {l m:List α},l.Nodup->(∀ x∈l,x∈m)->l.length<=m.length
 | [],_,_,_=>c_ _
 | x::r,m,nd,h=>by
  obtain ⟨n1,n2⟩:=List.nodup_cons.mp nd
  have hx:=h x ao
  have:=Fk (l:=r) (m:=m.erase x) n2 fun y hy=>(IJ fun z=>n1 (by rw [<- z];exact hy)).mpr (h y (am _ hy))
  rw [DU hx] at this
  have:=Gk hx
  simp only [aU]
  omega
theorem Fm:∀ (fs:List Str) (acc:List (List Str)),(fs.foldl (fun acc f=>acc++acc.map (·++[f])) acc).length=acc.length * 2 ^ fs.length
 | [],acc=>by simp
 | f::r,acc=>by
  rw [dU,Fm r,aB,al,aU,Nat.pow_succ,<- Nat.two_mul,GL 2,Nat.mul_assoc,GL 2]
theorem RC {fs:List Str} (h:fs.length<=6):(UG fs).length<=64:=by
 unfold UG
 rw [Fm]
 have:2 ^ fs.length<=2 ^ 6:=Nat.pow_le_pow_right (by decide) h
 simp only [aU,bO]
 omega
theorem zM {fs:List Str} (hf:OA fs 6) {l:List (List Str×D)} (nd:(jV l).Nodup) (h:∀ x∈jV l,mS fs x):l.length<=64:=by
 have:=Fk nd fun x hx=>O_ hf.up (h x hx)
 rw [al] at this
 exact bR this (RC hf.len)
def UM (es:List cW) (st x:List Str):Prop:=∃ rs:List cW,(∀ e∈rs,e∈es)/\mW rs st=some x
theorem vy (e:cW):∀ (rs:List cW) (st x:List Str),mW rs st=some x->bP x e.needs e.bars=true->mW (rs++[e]) st=some (b9 e x)
 | [],st,x,h,g=>by cases h;show (if bP st e.needs e.bars then mW [] (b9 e st) else none)=_;rw [g];rfl
 | a::r,st,x,h,g=>by
  show (if bP st a.needs a.bars then mW (r++[e]) (b9 a st) else none)=_
  have h':(if bP st a.needs a.bars then mW r (b9 a st) else none)=some x:=h
  split at h'
  ·rename_i hg
   rw [if_pos hg]
   exact vy e r _ _ h' g
  ·cases h'
theorem mD {es:List cW}{M:List Str->Prop} (hc:∀ x,M x->∀ e∈es,bP x e.needs e.bars=true->M (b9 e x)):∀ (rs:List cW) (st x:List Str),M st->(∀ e∈rs,e∈es)->mW rs st=some x->M x
 | [],st,x,hm,_,h=>by cases h;exact hm
 | a::r,st,x,hm,he,h=>by
  have h':(if bP st a.needs a.bars then mW r (b9 a st) else none)=some x:=h
  split at h'
  ·rename_i hg
   exact mD hc r _ _ (hc st hm a (he a ao) hg) (fun e h=>he e (am _ h)) h'
  ·cases h'
theorem P6 {fs st:List Str}{es:List cW} (g:cQ fs es) (hs:mS fs st):jL [ck fs es,ay st]=.ok (.list ((es.filter fun e=>bP st e.needs e.bars).map fun e=>cG [cK e,ay (b9 e st)])):=by
 have ls:=df hs g.rise.len
 have lg:=g.len
 unfold jL
 refine cE ?_
 unfold lz bz
 walk_at "zz"
 rw [Ln]
 walk_at "zz"
 rw [if_pos (by omega)]
 rw [dP _ cK (fun e=>cG [cK e,ay (b9 e st)]) (fun e=>bP st e.needs e.bars) es fun e he=>jG (by
  walk_at "zz"
  rw [Ls (my g he)]
  walk_at "zz") fun _=>(by
  walk_at "zz"
  rw [Lr (my g he) ls]
  walk_at "zz")]
 walk_at "zz"
abbrev LZ:=List (List Str×List cW)
def iz (l:LZ):List (List Str×D):=l.map fun p=>(p.1,gO p.2)
structure pT (fs st:List Str) (es:List cW) (l:LZ):Prop where
 nd:(l.map (·.1)).Nodup
 beg:(st,[])∈l
 sub:∀ p∈l,mS fs p.1
 row:∀ p∈l,(∀ e∈p.2,e∈es)/\mW p.2 st=some p.1/\p.2.length<l.length
theorem ji (l:LZ):jV (iz l)=l.map (·.1):=by
 unfold jV iz
 rw [cL]
 rfl
theorem pT.ne {fs st:List Str}{es:List cW}{l:LZ} (h:pT fs st es l):iz l≠[]:=by
 intro z
 have:=List.map_eq_nil_iff.mp z
 have h1:=h.beg
 rw [this] at h1
 cases h1
theorem pT.few {fs st:List Str}{es:List cW}{l:LZ} (g:cQ fs es) (h:pT fs st es l):l.length<=64:=by
 have:=zM g.rise (l:=iz l) (by rw [ji];exact h.nd) fun x hx=>by
  rw [ji] at hx
  obtain ⟨p,hp,rfl⟩:=List.mem_map.mp hx
  exact h.sub p hp
 unfold iz at this
 rw [al] at this
 exact this
def i_ (at0:List Str) (row:List cW) (b:LZ×List (List Str)) (e:cW):LZ×List (List Str) :=
 if b9 e at0∈b.1.map (·.1) then b else (b.1++[(b9 e at0,row++[e])],b.2++[b9 e at0])
theorem UN {fs st at0:List Str}{es:List cW}{row:List cW}{b:LZ×List (List Str)}{e:cW} (g:cQ fs es) (h:pT fs st es b.1) (hr:(at0,row)∈b.1) (he:e∈es) (hg:bP at0 e.needs e.bars=true):pT fs st es (i_ at0 row b e).1:=by
 unfold i_
 split
 ·exact h
 ·rename_i hn
  obtain ⟨r1,r2,r3⟩:=h.row _ hr
  refine ⟨?_,ba _ h.beg,fun p hp=>?_,fun p hp=>?_⟩
  ·rw [aX]
   exact uW h.nd hn
  ·rcases List.mem_append.mp hp with z | z
   ·exact h.sub p z
   ·rw [List.mem_singleton.mp z]
    exact mB g.rise.up (g.ok e he) (h.sub _ hr)
  ·rw [aB,cH]
   rcases List.mem_append.mp hp with z | z
   ·obtain ⟨k1,k2,k3⟩:=h.row p z
    exact ⟨k1,k2,by omega⟩
   ·rw [List.mem_singleton.mp z]
    refine ⟨fun x hx=>?_,vy e _ _ _ r2 hg,?_⟩
    ·rcases List.mem_append.mp hx with y | y
     ·exact r1 x y
     ·rw [List.mem_singleton.mp y];exact he
    ·show (row++[e]).length<b.1.length + 1
     rw [aB,cH]
     have:row.length<b.1.length:=r3
     omega
theorem Fo (at0:List Str) (row:List cW) (b:LZ×List (List Str)) (e:cW):(∀ p∈b.1,p∈(i_ at0 row b e).1)/\b9 e at0∈(i_ at0 row b e).1.map (·.1)/\(∀ x∈(i_ at0 row b e).1.map (·.1),x∈b.1.map (·.1)\/x∈(i_ at0 row b e).2)/\(∀ x∈b.2,x∈(i_ at0 row b e).2)/\(∀ x∈(i_ at0 row b e).2,x∈b.2\/x∈(i_ at0 row b e).1.map (·.1))/\b.1.length + (i_ at0 row b e).2.length=(i_ at0 row b e).1.length + b.2.length:=by
 unfold i_
 split
 ·rename_i h
  exact ⟨fun _ h=>h,h,fun _ h=>.inl h,fun _ h=>h,fun _ h=>.inl h,rfl⟩
 ·refine ⟨fun p hp=>ba _ hp,?_,fun x hx=>?_,fun x hx=>ba _ hx,fun x hx=>?_,?_⟩
  ·rw [aX];exact aE _ ao
  ·rw [aX] at hx
   rcases List.mem_append.mp hx with z | z
   ·exact .inl z
   ·exact .inr (aE _ z)
  ·rcases List.mem_append.mp hx with z | z
   ·exact .inl z
   ·rw [aX];exact .inr (aE _ z)
  ·simp only [aB,cH]
   omega
def Xa:au->R Fl:=(e7 (ej (g2 (rB 7) (rB 2) (inT true))) (aN (qu 2 (rS 7) (g2 (g2 (rB 2) (rB 5) D8) (dQ (J.ac (g2 (rB 6) (kI 0) bc) J.aF) .list) dN)) (m9 4 (rS 7))) (fun ρ=>.ok (.nx ρ)))
def Lw:au->R Fl:=m7 (jf (dJ 2 jL (J.ac (rS 0) (J.ac (rS 5) J.aF)))) (kJ 2 (cq (bB 6) (cq (bB 7) lr))) Xa
def WN:au->R Fl:=aN (e8 4 (dQ J.aF .list)) (aN (qq 3 (bB 5) Lw) (Sq 4 (eZ 3 (rS 4))))
theorem P7:lA=aN (e8 2 (Pw (rS 1) (dQ J.aF .list))) (aN (e8 3 (dQ (J.ac (rS 1) J.aF) .list)) (aN (gy (AS (rB 3)) WN 100000) (R8 2 (cC (rS 2))))):=rfl
theorem Fp {l:LZ}{p:List Str×List cW} (h:p∈l):(p.1,gO p.2)∈iz l:=bN (f:=fun p:List Str×List cW=>(p.1,gO p.2)) h
theorem UO {fs st:List Str}{es:List cW}{l:LZ} (h:pT fs st es l) {at0:List Str}{row:List cW} (hr:(at0,row)∈l):D8 (.dict (cP (iz l))) (ay at0)=.ok (gO row):=by
 have:=K4 (l:=iz l) (by rw [ji];exact h.nd) (Fp hr)
 exact this
theorem P8 (l:LZ) (x:List Str) (r:List cW):iz (l++[(x,r)])=iz l++[(x,gO r)]:=by
 unfold iz
 rw [aX]
 rfl
theorem RE {fs st at0:List Str}{es:List cW}{row:List cW} (g:cQ fs es) (B S:D) (o3 z6 z7:Sl) {b:LZ×List (List Str)}{e:cW} (h:pT fs st es b.1) (hr:(at0,row)∈b.1) (hl:b.2.length<=b.1.length) :
  Xa [.shr B,.shr S,.own (.dict (cP (iz b.1))),o3,.own (.list (b.2.map ay)),.shr (ay at0),.shr (cK e),.shr (ay (b9 e at0))]=.ok (.nx [.shr B,.shr S,.own (.dict (cP (iz (i_ at0 row b e).1))),o3,.own (.list ((i_ at0 row b e).2.map ay)),.shr (ay at0),.shr (cK e),.shr (ay (b9 e at0))]):=by
 have few:=h.few g
 have rl:=(h.row _ hr).2.2
 have k64:row.length<b.1.length:=rl
 unfold Xa
 walk_at "zz"
 rw [Dm h.ne,ji]
 unfold i_
 by_cases hm:b9 e at0∈b.1.map (·.1)
 ·rw [if_pos hm,decide_eq_true hm]
  walk_at "zz"
 ·rw [if_neg hm,decide_eq_false hm]
  walk_at "zz"
  rw [HR (l:=iz b.1) (x:=b9 e at0) (d:=gO (row++[e])) rfl ?_ rfl h.ne (by unfold iz;rw [al];omega) (by rw [ji];exact hm)]
  ·walk_at "zz"
   rw [xb (ds:=b.2.map ay) (d:=ay (b9 e at0)) rfl rfl (by rw [al];omega),P8,aX]
   rfl
  ·walk_at "zz"
   rw [UO h hr]
   walk_at "zz"
   rw [UE]
   walk_at "zz"
   rw [if_pos (by omega)]
   simp only [gO,aX]
   rfl
theorem Fq {fs st at0:List Str}{es:List cW}{row:List cW}:∀ (xs:List cW) (b:LZ×List (List Str)),(∀ p∈b.1,p∈(xs.foldl (i_ at0 row) b).1)/\(∀ e∈xs,b9 e at0∈(xs.foldl (i_ at0 row) b).1.map (·.1))/\(∀ x∈(xs.foldl (i_ at0 row) b).1.map (·.1),x∈b.1.map (·.1)\/x∈(xs.foldl (i_ at0 row) b).2)/\(∀ x∈b.2,x∈(xs.foldl (i_ at0 row) b).2)/\(∀ x∈(xs.foldl (i_ at0 row) b).2,x∈b.2\/x∈(xs.foldl (i_ at0 row) b).1.map (·.1))/\b.1.length + (xs.foldl (i_ at0 row) b).2.length=(xs.foldl (i_ at0 row) b).1.length + b.2.length
 | [],b=>⟨fun _ h=>h,fun _ h=>(nomatch h),fun _ h=>.inl h,fun _ h=>h,fun _ h=>.inl h,rfl⟩
 | e::r,b=>by
  obtain ⟨a1,a2,a3,a4,a5,a6⟩:=Fo at0 row b e
  obtain ⟨b1,b2,b3,b4,b5,b6⟩:=Fq (fs:=fs) (st:=st) (es:=es) r (i_ at0 row b e)
  rw [dU]
  have km:∀ x∈(i_ at0 row b e).1.map (·.1),x∈(r.foldl (i_ at0 row) (i_ at0 row b e)).1.map (·.1):=fun x hx=>by
   obtain ⟨p,hp,rfl⟩:=List.mem_map.mp hx
   exact bN (b1 p hp)
  refine ⟨fun p hp=>b1 p (a1 p hp),fun x hx=>?_,fun x hx=>?_,fun x hx=>b4 x (a4 x hx),fun x hx=>?_,by omega⟩
  ·rcases List.mem_cons.mp hx with z | z
   ·rw [z];exact km _ a2
   ·exact b2 x z
  ·rcases b3 x hx with z | z
   ·rcases a3 x z with y | y
    ·exact .inl y
    ·exact .inr (b4 x y)
   ·exact .inr z
  ·rcases b5 x hx with z | z
   ·rcases a5 x z with y | y
    ·exact .inl y
    ·exact .inr (km x y)
   ·exact .inr z
theorem UP {fs st at0:List Str}{es:List cW}{row:List cW} (g:cQ fs es) (B S:D) (o3 z6 z7:Sl) {b:LZ×List (List Str)} (h:pT fs st es b.1) (hr:(at0,row)∈b.1) (hl:b.2.length<=b.1.length) (xs:List cW) (hx:∀ e∈xs,e∈es/\bP at0 e.needs e.bars=true) :
  pT fs st es (xs.foldl (i_ at0 row) b).1/\∃ y6 y7,iw (kJ 2 (cq (bB 6) (cq (bB 7) lr))) Xa (xs.map fun e=>cG [cK e,ay (b9 e at0)]) [.shr B,.shr S,.own (.dict (cP (iz b.1))),o3,.own (.list (b.2.map ay)),.shr (ay at0),z6,z7]=.ok (.nx [.shr B,.shr S,.own (.dict (cP (iz (xs.foldl (i_ at0 row) b).1))),o3,.own (.list ((xs.foldl (i_ at0 row) b).2.map ay)),.shr (ay at0),y6,y7]):=by
 induction xs generalizing b z6 z7 with
 | nil=>exact ⟨h,z6,z7,rfl⟩
 | cons e r ih =>
  obtain ⟨he,hg⟩:=hx e ao
  obtain ⟨a1,a2,a3,a4,a5,a6⟩:=Fo at0 row b e
  have h':=UN g h hr he hg
  obtain ⟨q1,y6,y7,q2⟩:=ih (.shr (cK e)) (.shr (ay (b9 e at0))) h' (a1 _ hr) (by omega) fun x z=>hx x (am _ z)
  refine ⟨q1,y6,y7,?_⟩
  rw [aI,pR (ρ1:=[.shr B,.shr S,.own (.dict (cP (iz b.1))),o3,.own (.list (b.2.map ay)),.shr (ay at0),.shr (cK e),.shr (ay (b9 e at0))]) rfl (RE g B S o3 z6 z7 h hr hl)]
  exact q2
def xL (l:LZ) (x:List Str):List cW:=((l.find? fun p=>decide (p.1=x)).map (·.2)).getD []
theorem zN {l:LZ}{x:List Str} (h:x∈l.map (·.1)):(x,xL l x)∈l:=by
 unfold xL
 induction l with
 | nil=>cases h
 | cons p r ih =>
  rw [cc]
  by_cases hp:p.1=x
  ·rw [decide_eq_true hp]
   subst hp
   exact ao
  ·rw [decide_eq_false hp]
   rcases List.mem_cons.mp h with z | z
   ·exact (hp z.symm).elim
   ·exact am _ (ih z)
def pU (es:List cW) (b:LZ×List (List Str)) (x:List Str):LZ×List (List Str):=(es.filter fun e=>bP x e.needs e.bars).foldl (i_ x (xL b.1 x)) b
theorem P9 {fs st at0:List Str}{es:List cW} (g:cQ fs es) (S:D) (o3 z6 z7:Sl) {b:LZ×List (List Str)} (h:pT fs st es b.1) (hr:at0∈b.1.map (·.1)) (hl:b.2.length<=b.1.length) :
  pT fs st es (pU es b at0).1/\∃ y6 y7,Lw [.shr (ck fs es),.shr S,.own (.dict (cP (iz b.1))),o3,.own (.list (b.2.map ay)),.shr (ay at0),z6,z7]=.ok (.nx [.shr (ck fs es),.shr S,.own (.dict (cP (iz (pU es b at0).1))),o3,.own (.list ((pU es b at0).2.map ay)),.shr (ay at0),y6,y7]):=by
 have hm:=zN hr
 obtain ⟨q1,y6,y7,q2⟩:=UP g (ck fs es) S o3 z6 z7 h hm hl (es.filter fun e=>bP at0 e.needs e.bars) fun e he=>List.mem_filter.mp he
 refine ⟨q1,y6,y7,?_⟩
 unfold Lw
 rw [qr (ds:=(es.filter fun e=>bP at0 e.needs e.bars).map fun e=>cG [cK e,ay (b9 e at0)])]
 ·exact q2
 ·walk_at "zz"
  rw [P6 g (h.sub _ hm)]
  walk_at "zz"
theorem K6 (es:List cW) (b:LZ×List (List Str)) (x:List Str):(∀ p∈b.1,p∈(pU es b x).1)/\(∀ e∈es,bP x e.needs e.bars=true->b9 e x∈(pU es b x).1.map (·.1))/\(∀ y∈(pU es b x).1.map (·.1),y∈b.1.map (·.1)\/y∈(pU es b x).2)/\(∀ y∈b.2,y∈(pU es b x).2)/\(∀ y∈(pU es b x).2,y∈b.2\/y∈(pU es b x).1.map (·.1))/\b.1.length + (pU es b x).2.length=(pU es b x).1.length + b.2.length:=by
 obtain ⟨b1,b2,b3,b4,b5,b6⟩:=Fq (fs:=[]) (st:=[]) (es:=es) (at0:=x) (row:=xL b.1 x) (es.filter fun e=>bP x e.needs e.bars) b
 exact ⟨b1,fun e he hg=>b2 e (List.mem_filter.mpr ⟨he,hg⟩),b3,b4,b5,b6⟩
theorem C2 (es:List cW):∀ (ring:List (List Str)) (b:LZ×List (List Str)),(∀ p∈b.1,p∈(ring.foldl (pU es) b).1)/\(∀ x∈ring,∀ e∈es,bP x e.needs e.bars=true->b9 e x∈(ring.foldl (pU es) b).1.map (·.1))/\(∀ y∈(ring.foldl (pU es) b).1.map (·.1),y∈b.1.map (·.1)\/y∈(ring.foldl (pU es) b).2)/\(∀ y∈b.2,y∈(ring.foldl (pU es) b).2)/\(∀ y∈(ring.foldl (pU es) b).2,y∈b.2\/y∈(ring.foldl (pU es) b).1.map (·.1))/\b.1.length + (ring.foldl (pU es) b).2.length=(ring.foldl (pU es) b).1.length + b.2.length
 | [],b=>⟨fun _ h=>h,fun _ h=>(nomatch h),fun _ h=>.inl h,fun _ h=>h,fun _ h=>.inl h,rfl⟩
 | x::r,b=>by
  obtain ⟨a1,a2,a3,a4,a5,a6⟩:=K6 es b x
  obtain ⟨b1,b2,b3,b4,b5,b6⟩:=C2 es r (pU es b x)
  rw [dU]
  have km:∀ y∈(pU es b x).1.map (·.1),y∈(r.foldl (pU es) (pU es b x)).1.map (·.1):=fun y hy=>by
   obtain ⟨p,hp,rfl⟩:=List.mem_map.mp hy
   exact bN (b1 p hp)
  refine ⟨fun p hp=>b1 p (a1 p hp),fun y hy e he hg=>?_,fun y hy=>?_,fun y hy=>b4 y (a4 y hy),fun y hy=>?_,by omega⟩
  ·rcases List.mem_cons.mp hy with z | z
   ·subst z;exact km _ (a2 e he hg)
   ·exact b2 y z e he hg
  ·rcases b3 y hy with z | z
   ·rcases a3 y z with w | w
    ·exact .inl w
    ·exact .inr (b4 y w)
   ·exact .inr z
  ·rcases b5 y hy with z | z
   ·rcases a5 y z with w | w
    ·exact .inl w
    ·exact .inr (km y w)
   ·exact .inr z
theorem Pa {fs st:List Str}{es:List cW} (g:cQ fs es) (S:D) (o3 z5 z6 z7:Sl) {b:LZ×List (List Str)} (h:pT fs st es b.1) (hl:b.2.length<=b.1.length) (ring:List (List Str)) (hx:∀ x∈ring,x∈b.1.map (·.1)) :
  pT fs st es (ring.foldl (pU es) b).1/\∃ y5 y6 y7,iw (bB 5) Lw (ring.map ay) [.shr (ck fs es),.shr S,.own (.dict (cP (iz b.1))),o3,.own (.list (b.2.map ay)),z5,z6,z7]=.ok (.nx [.shr (ck fs es),.shr S,.own (.dict (cP (iz (ring.foldl (pU es) b).1))),o3,.own (.list ((ring.foldl (pU es) b).2.map ay)),y5,y6,y7]):=by
 induction ring generalizing b z5 z6 z7 with
 | nil=>exact ⟨h,z5,z6,z7,rfl⟩
 | cons x r ih =>
  obtain ⟨a1,a2,a3,a4,a5,a6⟩:=K6 es b x
  obtain ⟨h',y6,y7,q⟩:=P9 g S o3 z6 z7 h (hx x ao) hl
  obtain ⟨q1,w5,w6,w7,q2⟩:=ih (.shr (ay x)) y6 y7 h' (by omega) fun y hy=>by
   obtain ⟨p,hp,e⟩:=List.mem_map.mp (hx y (am _ hy))
   rw [<- e]
   exact bN (a1 p hp)
  refine ⟨q1,w5,w6,w7,?_⟩
  rw [aI,pR (ρ1:=[.shr (ck fs es),.shr S,.own (.dict (cP (iz b.1))),o3,.own (.list (b.2.map ay)),.shr (ay x),z6,z7]) rfl q]
  exact q2
theorem RF {fs st:List Str}{es:List cW} (g:cQ fs es) (S:D) (o3 z4 z5 z6 z7:Sl) {l:LZ} (h:pT fs st es l) (ring:List (List Str)) (hx:∀ x∈ring,x∈l.map (·.1)) (ho:o3=.own (.list (ring.map ay))\/o3=.shr (.list (ring.map ay))) :
  pT fs st es (ring.foldl (pU es) (l,[])).1/\∃ y4 y5 y6 y7,WN [.shr (ck fs es),.shr S,.own (.dict (cP (iz l))),o3,z4,z5,z6,z7]=.ok (.nx [.shr (ck fs es),.shr S,.own (.dict (cP (iz (ring.foldl (pU es) (l,[])).1))),.shr (.list ((ring.foldl (pU es) (l,[])).2.map ay)),y4,y5,y6,y7]):=by
 have L:=fun o=>Pa g S o z5 z6 z7 (b:=(l,[])) h (c_ _) ring hx
 unfold WN
 walk_at "zz"
 rcases ho with ho | ho
 ·subst ho
  obtain ⟨q1,y5,y6,y7,q2⟩:=L (.lck (.list (ring.map ay)))
  refine ⟨q1,.shr (.list ((ring.foldl (pU es) (l,[])).2.map ay)),y5,y6,y7,?_⟩
  have e:qq 3 (bB 5) Lw [.shr (ck fs es),.shr S,.own (.dict (cP (iz l))),.own (.list (ring.map ay)),.own (.list []),z5,z6,z7]=.ok (.nx [.shr (ck fs es),.shr S,.own (.dict (cP (iz (ring.foldl (pU es) (l,[])).1))),.own (.list (ring.map ay)),.own (.list ((ring.foldl (pU es) (l,[])).2.map ay)),y5,y6,y7]):=by
   show Y9 3 _ (iw (bB 5) Lw (ring.map ay) [.shr (ck fs es),.shr S,.own (.dict (cP (iz l))),.lck (.list (ring.map ay)),.own (.list []),z5,z6,z7])=_
   have q2':=q2
   rw [eX] at q2'
   rw [q2']
   rfl
  rw [e]
  walk_at "zz"
  simp only [Sq]
  rw [D2 rfl]
  walk_at "zz"
 ·subst ho
  obtain ⟨q1,y5,y6,y7,q2⟩:=L (.shr (.list (ring.map ay)))
  refine ⟨q1,.shr (.list ((ring.foldl (pU es) (l,[])).2.map ay)),y5,y6,y7,?_⟩
  rw [UH (d:=.list (ring.map ay)) rfl,qr (ds:=ring.map ay)]
  ·have q2':=q2
   rw [eX] at q2'
   rw [q2']
   walk_at "zz"
   simp only [Sq]
   rw [D2 rfl]
   walk_at "zz"
  ·walk_at "zz"
structure RG (fs st:List Str) (es:List cW) (l:LZ):Prop where
 ok:pT fs st es l
 all:∀ x∈l.map (·.1),∀ e∈es,bP x e.needs e.bars=true->b9 e x∈l.map (·.1)
theorem Fs {fs st:List Str}{es:List cW} (g:cQ fs es) (S:D):∀ (k fuel:Nat) (o3 z4 z5 z6 z7:Sl) (l:LZ) (ring:List (List Str)),pT fs st es l->(∀ x∈ring,x∈l.map (·.1))->(∀ x∈l.map (·.1),x∉ring->∀ e∈es,bP x e.needs e.bars=true->b9 e x∈l.map (·.1)) ->
  (o3=.own (.list (ring.map ay))\/o3=.shr (.list (ring.map ay)))->65 - l.length + (if ring=[] then 0 else 1)<=k->k<fuel ->
  ∃ l' y3 y4 y5 y6 y7,RG fs st es l'/\gy (AS (rB 3)) WN fuel [.shr (ck fs es),.shr S,.own (.dict (cP (iz l))),o3,z4,z5,z6,z7]=.ok (.nx [.shr (ck fs es),.shr S,.own (.dict (cP (iz l'))),y3,y4,y5,y6,y7])
 | _,0,_,_,_,_,_,_,_,_,_,_,_,_,hf=>absurd hf (lW _)
 | k,fuel + 1,o3,z4,z5,z6,z7,l,ring,h,hx,hc,ho,hk,hf=>by
  have ht:AS (rB 3) [.shr (ck fs es),.shr S,.own (.dict (cP (iz l))),o3,z4,z5,z6,z7]=.ok (!(ring.map ay).isEmpty):=T8 (by rcases ho with z | z<;>subst z<;>rfl)
  rw [gy,ht]
  cases ring with
  | nil=>exact ⟨l,o3,z4,z5,z6,z7,⟨h,fun x hx=>hc x hx (fun z=>nomatch z)⟩,rfl⟩
  | cons x r =>
   obtain ⟨h',y4,y5,y6,y7,q⟩:=RF g S o3 z4 z5 z6 z7 h (x::r) hx ho
   obtain ⟨a1,a2,a3,a4,a5,a6⟩:=C2 es (x::r) (l,[])
   have few:=h'.few g
   have few0:=h.few g
   simp only [bO,xz] at a6
   rw [if_neg (by simp)] at hk
   have hk':65 - ((x::r).foldl (pU es) (l,[])).1.length + (if ((x::r).foldl (pU es) (l,[])).2=[] then 0 else 1)<=k - 1:=by
    by_cases hz:((x::r).foldl (pU es) (l,[])).2=[]
    ·rw [if_pos hz]
     rw [hz] at a6
     simp only [bO,xz] at a6
     omega
    ·rw [if_neg hz]
     have:=List.length_pos_iff.mpr hz
     omega
   obtain ⟨l',w3,w4,w5,w6,w7,e1,e2⟩:=Fs g S (k - 1) fuel (.shr (.list (((x::r).foldl (pU es) (l,[])).2.map ay))) y4 y5 y6 y7 _ _ h' (fun y hy=>by
    rcases a5 y hy with z | z
    ·cases z
    ·exact z) (fun y hy hn e he hg=>by
    rcases a3 y hy with z | z
    ·by_cases hm:y∈x::r
     ·exact a2 y hm e he hg
     ·obtain ⟨p,hp,e'⟩:=List.mem_map.mp (hc y z hm e he hg)
      rw [<- e']
      exact bN (a1 p hp)
    ·exact (hn z).elim) (.inr rfl) hk' (by omega)
   refine ⟨l',w3,w4,w5,w6,w7,e1,?_⟩
   simp only [aI,Md,iQ]
   rw [q]
   exact e2
theorem Ft {fs st:List Str}{es:List cW} (g:cQ fs es) (hs:mS fs st):∃ l,RG fs st es l/\jM [ck fs es,ay st]=.ok (.dict ((.none,.none)::cP (iz l))):=by
 have h0:pT fs st es [(st,[])]:=⟨by simp,List.mem_singleton.mpr rfl,fun p hp=>by rw [List.mem_singleton.mp hp];exact hs,fun p hp=>by rw [List.mem_singleton.mp hp];exact ⟨fun _ h=>(nomatch h),rfl,by simp⟩⟩
 obtain ⟨l,y3,y4,y5,y6,y7,e1,e2⟩:=Fs g (ay st) 65 100000 (.own (.list ([st].map ay))) .no .no .no .no [(st,[])] [st] h0 (fun x hx=>hx) (fun x hx hn=>(hn hx).elim) (.inl rfl) (by simp) (by decide)
 refine ⟨l,e1,?_⟩
 unfold jM
 refine cE ?_
 rw [P7]
 unfold bz
 walk_at "zz"
 rw [UL (x:=st) (d:=.list []) rfl rfl]
 walk_at "zz"
 have e2':gy (AS (rB 3)) WN 100000 [.shr (ck fs es),.shr (ay st),.own (.dict (cP [(st,.list [])])),.own (.list [ay st]),.no,.no,.no,.no]=_:=e2
 rw [e2']
 walk_at "zz"
 rw [UK e1.ok.ne rfl]
 walk_at "zz"
def YS (es:List cW) (st m b:List Str):Prop:=∃ x,UM es st x/\bP x m b=true
noncomputable def oh (es:List cW) (st m b:List Str):Bool:=@decide (YS es st m b) (An _)
theorem zO {es:List cW}{st m b:List Str}:oh es st m b=true↔YS es st m b:=by
 unfold oh
 exact @decide_eq_true_iff _ (An _)
theorem RG.keys {fs st:List Str}{es:List cW}{l:LZ} (h:RG fs st es l) (x:List Str):x∈l.map (·.1)↔UM es st x:=by
 constructor
 ·intro hx
  obtain ⟨p,hp,rfl⟩:=List.mem_map.mp hx
  obtain ⟨r1,r2,_⟩:=h.ok.row p hp
  exact ⟨p.2,r1,r2⟩
 ·rintro ⟨rs,r1,r2⟩
  exact mD (M:=fun x=>x∈l.map (·.1)) h.all rs st x (bN (f:=(·.1)) h.ok.beg) r1 r2
theorem ym {fs st m b:List Str}{es:List cW}{ks:List (List Str)} (h:∀ x,x∈ks↔UM es st x):(ks.any fun x=>bP x m b)=oh es st m b:=by
 rw [eA,zO,gR]
 constructor
 ·rintro ⟨x,h1,h2⟩;exact ⟨x,(h x).mp h1,h2⟩
 ·rintro ⟨x,h1,h2⟩;exact ⟨x,(h x).mpr h1,h2⟩
theorem wD {fs st m b:List Str}{es:List cW} (g:cQ fs es) (hs:mS fs st) (hw:jU fs m b):kO [ck fs es,ay st,fQ m b]=.ok (.bool (oh es st m b)):=by
 have l1:=df hw.must g.rise.len
 have l2:=df hw.bars g.rise.len
 obtain ⟨l,hb,e⟩:=Ft g hs
 have few:=hb.ok.few g
 unfold kO
 refine cE ?_
 unfold nC bz
 walk_at "zz"
 rw [K5]
 walk_at "zz"
 rw [e]
 walk_at "zz"
 rw [vx,ji]
 walk_at "zz"
 rw [if_pos (by omega)]
 rw [dA _ (fun x:List Str=>ay x) (fun x=>cu (bP x m b)) (l.map (·.1)) fun x hx=>fc rfl (by
  walk_at "zz"
  rw [u0 (by omega) (by omega)])]
 walk_at "zz"
 rw [hV _ (fun x=>bP x m b)]
 walk_at "zz"
 rw [jS,show (id∘fun x=>bP x m b)=fun x=>bP x m b from rfl,ym (fs:=fs) hb.keys]
theorem Fv {fs:List Str}{es:List cW} (g:cQ fs es) (p:cW->Bool):cQ fs (es.filter p) :=
 ⟨g.rise,bR (fW _ _) g.len,(List.filter_sublist.map _).nodup g.nd,fun e he=>g.ok e (List.mem_filter.mp he).1⟩
theorem HS {fs st m b:List Str}{es:List cW} (g:cQ fs es) (hs:mS fs st) (hw:jU fs m b) (h:oh es st m b=true):gJ [ck fs es,ay st,fQ m b]=.ok .none:=by
 unfold gJ
 refine zI (ρ:=[.shr (ck fs es),.shr (ay st),.shr (fQ m b)]) ?_
 unfold iy bz
 walk_at "zz"
 rw [HL g hs hw]
 walk_at "zz"
 rw [wD g hs hw,h]
 walk_at "zz"
theorem HU {fs st m b:List Str}{es:List cW} (g:cQ fs es) (hs:mS fs st) (hw:jU fs m b) (h:oh es st m b=false):gJ [ck fs es,ay st,fQ m b]=.ex "NoWay" none:=by
 unfold gJ
 refine Ov ?_
 unfold iy bz
 walk_at "zz"
 rw [HL g hs hw]
 walk_at "zz"
 rw [wD g hs hw,h]
 walk_at "zz"
 rw [Ro (ds:=[.str "no row serves the want"]) _ _ _ _ rfl (by decide)]
theorem Pb {fs st m b:List Str}{es:List cW} (g:cQ fs es) (hs:mS fs st) (hw:jU fs m b) (h:oh es st m b=true):∃ rs,T7 es rs/\nL st m b rs=true/\mh [ck fs es,ay st,fQ m b]=.ok (gO rs):=by
 have l1:=df hw.must g.rise.len
 have l2:=df hw.bars g.rise.len
 obtain ⟨l,hb,e⟩:=Ft g hs
 have few:=hb.ok.few g
 have hf:((l.map (·.1)).any fun x=>bP x m b)=true:=by rw [ym (fs:=fs) hb.keys];exact h
 have lf:=fW (fun x=>bP x m b) (l.map (·.1))
 rw [al] at lf
 cases hF:(l.map (·.1)).filter (fun x=>bP x m b) with
 | nil =>
  obtain ⟨x,h1,h2⟩:=List.any_eq_true.mp hf
  have:x∈(l.map (·.1)).filter (fun x=>bP x m b):=List.mem_filter.mpr ⟨h1,h2⟩
  rw [hF] at this
  cases this
 | cons x0 r0 =>
  have hx0:x0∈(l.map (·.1)).filter (fun x=>bP x m b):=by rw [hF];exact ao
  obtain ⟨k1,k2⟩:=List.mem_filter.mp hx0
  have km:=zN k1
  obtain ⟨r1,r2,r3⟩:=hb.ok.row _ km
  refine ⟨xL l x0,⟨r1,by have:(xL l x0).length<l.length:=r3;omega⟩,by unfold nL;rw [show mW (xL l x0) st=some x0 from r2];exact k2,?_⟩
  have ixr:∀ x∈l.map (·.1),D8 (.dict ((.none,.none)::cP (iz l))) (ay x)=.ok (gO (xL l x)):=fun x hx=>by
   have:=P5 (l:=iz l) (by rw [ji];exact hb.ok.nd) (Fp (zN hx))
   exact this
  have ix0:bc (.list ((x0::r0).map ay)) (.int 0)=.ok (ay x0):=oZ (j:=0) rfl
  have near:∃ r1,sv [.dict ((.none,.none)::cP (iz l)),fQ m b]=.ok (.list ((x0::r1).map ay)):=by
   refine ⟨r0.filter fun x=>decide (((xL l x).length:Int)=(xL l x0).length),?_⟩
   unfold sv
   refine cE ?_
   unfold su bz
   walk_at "zz"
   rw [K5]
   walk_at "zz"
   rw [vx,ji]
   walk_at "zz"
   rw [if_pos (by omega)]
   rw [dP _ (fun x:List Str=>ay x) (fun x=>ay x) (fun x=>bP x m b) (l.map (·.1)) fun x hx=>jG (by
    walk_at "zz"
    rw [u0 (by omega) (by omega)]
    walk_at "zz") fun _=>rfl]
   rw [hF] at lf ⊢
   walk_at "zz"
   simp only [aU] at lf
   rw [if_pos (by omega)]
   rw [show (ay x0::lc (fun x=>ay x) r0)=(x0::r0).map (fun x=>ay x) from rfl]
   rw [dP _ (fun x:List Str=>ay x) (fun x=>ay x) (fun x=>decide (((xL l x).length:Int)=(xL l x0).length)) (x0::r0) fun x hx=>jG (by
    have hx':x∈l.map (·.1):=(List.mem_filter.mp (by rw [hF];exact hx)).1
    walk_at "zz"
    rw [ixr x hx']
    walk_at "zz"
    rw [show (ay x0::lc (fun x=>ay x) r0)=(x0::r0).map ay from rfl,ix0]
    walk_at "zz"
    rw [ixr x0 k1]
    walk_at "zz"
    rw [mx]
    walk_at "zz") fun _=>rfl]
   rw [List.filter_cons_of_pos (by simp)]
   walk_at "zz"
  obtain ⟨r1',hn⟩:=near
  have ix1:bc (.list ((x0::r1').map ay)) (.int 0)=.ok (ay x0):=oZ (j:=0) rfl
  unfold mh
  refine cE ?_
  unfold pC bz
  walk_at "zz"
  rw [HL g hs hw]
  walk_at "zz"
  rw [e]
  walk_at "zz"
  rw [hn]
  walk_at "zz"
  rw [T8 (ds:=(x0::r1').map ay) rfl]
  walk_at "zz"
  rw [Md]
  walk_at "zz"
  rw [show (ay x0::lc ay r1')=(x0::r1').map ay from rfl,ix1]
  walk_at "zz"
  rw [ixr x0 k1]
  walk_at "zz"
def Xb:au->R Fl:=(aN (eZ 6 (dJ 2 dC (J.ac (rS 5) (J.ac (g2 (rB 3) (rB 4) bc) J.aF)))) (e7 (wo (ej (g2 (rB 6) kN (yX true))) (ej (g2 (rB 6) (rB 2) (inT true)))) (aN (qu 2 (rS 6) (g2 (g2 (rB 2) (g2 (rB 3) (rB 4) bc) D8) (kI 1) dN)) (m9 3 (rS 6))) (fun ρ=>.ok (.nx ρ))))
def WO:au->R Fl:=aN (m7 (jf (g2 (rB 0) (kI 1) bc)) (bB 5) Xb) (eZ 4 (g2 (rB 4) (kI 1) dN))
theorem Pc:lB=aN (e8 2 (Pw (rS 1) (kI 0))) (aN (e8 3 (dQ (J.ac (rS 1) J.aF) .list)) (aN (eZ 4 (kI 0)) (aN (gy (ej (g2 (rB 4) (cb (J.ac (rB 3) J.aF) (i8 k8)) AL)) WO 100000) (R8 2 (cC (rS 2)))))):=rfl
abbrev NZ:=List (List Str×Int)
def lG (l:NZ):List (List Str×D):=l.map fun p=>(p.1,.int p.2)
theorem kc (l:NZ):jV (lG l)=l.map (·.1):=by
 unfold jV lG
 rw [cL]
 rfl
structure M1 (fs st:List Str) (es:List cW) (l:NZ):Prop where
 nd:(l.map (·.1)).Nodup
 beg:st∈l.map (·.1)
 sub:∀ x∈l.map (·.1),mS fs x
 rch:∀ x∈l.map (·.1),UM es st x
theorem M1.ne {fs st:List Str}{es:List cW}{l:NZ} (h:M1 fs st es l):lG l≠[]:=by
 intro z
 have:=List.map_eq_nil_iff.mp z
 have h1:=h.beg
 rw [this] at h1
 cases h1
theorem M1.few {fs st:List Str}{es:List cW}{l:NZ} (g:cQ fs es) (h:M1 fs st es l):l.length<=64:=by
 have:=zM g.rise (l:=lG l) (by rw [kc];exact h.nd) fun x hx=>by
  rw [kc] at hx
  exact h.sub x hx
 unfold lG at this
 rw [al] at this
 exact this
def sU (x:List Str) (n:Int) (l:NZ) (e:cW):NZ :=
 if bP x e.needs e.bars=true/\b9 e x∉l.map (·.1) then l++[(b9 e x,n + 1)] else l
theorem RH {fs st x:List Str}{es:List cW}{n:Int}{l:NZ}{e:cW} (g:cQ fs es) (h:M1 fs st es l) (hx:x∈l.map (·.1)) (he:e∈es):M1 fs st es (sU x n l e)/\(∀ p∈l,p∈sU x n l e)/\(∃ t,sU x n l e=l++t)/\(bP x e.needs e.bars=true->b9 e x∈(sU x n l e).map (·.1)):=by
 unfold sU
 by_cases hc:bP x e.needs e.bars=true/\b9 e x∉l.map (·.1)
 ·rw [if_pos hc]
  obtain ⟨rs,r1,r2⟩:=h.rch x hx
  refine ⟨⟨?_,?_,fun y hy=>?_,fun y hy=>?_⟩,fun p hp=>ba _ hp,⟨_,rfl⟩,fun _=>?_⟩
  ·rw [aX];exact uW h.nd hc.2
  ·rw [aX];exact ba _ h.beg
  ·rw [aX] at hy
   rcases List.mem_append.mp hy with z | z
   ·exact h.sub y z
   ·rw [List.mem_singleton.mp z];exact mB g.rise.up (g.ok e he) (h.sub x hx)
  ·rw [aX] at hy
   rcases List.mem_append.mp hy with z | z
   ·exact h.rch y z
   ·rw [List.mem_singleton.mp z]
    refine ⟨rs++[e],fun a ha=>?_,vy e _ _ _ r2 hc.1⟩
    rcases List.mem_append.mp ha with w | w
    ·exact r1 a w
    ·rw [List.mem_singleton.mp w];exact he
  ·rw [aX];exact aE _ ao
 ·rw [if_neg hc]
  exact ⟨h,fun _ h=>h,⟨[],(bV _).symm⟩,fun hg=>lX fun z=>hc ⟨hg,z⟩⟩
theorem UQ {l:NZ}{j:Nat}{x:List Str} (h:(l.map (·.1))[j]?=some x):bc (.list ((l.map (·.1)).map ay)) (.int (j:Nat))=.ok (ay x):=oZ (by rw [aP,h];rfl)
theorem WP {fs st x:List Str}{es:List cW}{n:Int} (g:cQ fs es) (B S:D) (j:Nat) (z6:Sl) {l:NZ}{e:cW} (h:M1 fs st es l) (hj:(l.map (·.1))[j]?=some x) (hn:(x,n)∈l) (he:e∈es) :
  ∃ y6,Xb [.shr B,.shr S,.own (.dict (cP (lG l))),.own (.list ((l.map (·.1)).map ay)),.shr (.int (j:Nat)),.shr (cK e),z6]=.ok (.nx [.shr B,.shr S,.own (.dict (cP (lG (sU x n l e)))),.own (.list (((sU x n l e).map (·.1)).map ay)),.shr (.int (j:Nat)),.shr (cK e),y6]):=by
 have few:=h.few g
 have hx:x∈l.map (·.1):=cO hj
 have ls:=df (h.sub x hx) g.rise.len
 have ixk:=UQ hj
 have ixn:D8 (.dict (cP (lG l))) (ay x)=.ok (.int n):=K4 (l:=lG l) (by rw [kc];exact h.nd) (bN (f:=fun p:List Str×Int=>(p.1,cm p.2)) hn)
 refine ⟨.shr (Lp (zJ e x)),?_⟩
 unfold Xb
 walk_at "zz"
 rw [ixk]
 walk_at "zz"
 rw [sA (my g he) (by omega)]
 walk_at "zz"
 rw [oN]
 unfold sU
 by_cases hg:bP x e.needs e.bars=true
 ·rw [if_pos hg,wA]
  rw [OR]
  walk_at "zz"
  rw [Dm h.ne,kc]
  by_cases hm:b9 e x∈l.map (·.1)
  ·rw [decide_eq_true hm,if_neg (fun z=>z.2 hm)]
   walk_at "zz"
  ·rw [decide_eq_false hm,if_pos ⟨hg,hm⟩]
   walk_at "zz"
   rw [HR (l:=lG l) (x:=b9 e x) (d:=.int (n + 1)) rfl ?_ rfl h.ne (by unfold lG;rw [al];omega) (by rw [kc];exact hm)]
   ·walk_at "zz"
    rw [xb (ds:=(l.map (·.1)).map ay) (d:=ay (b9 e x)) rfl rfl (by rw [al,al];omega)]
    unfold lG
    simp only [aX]
    rfl
   ·walk_at "zz"
    rw [ixk]
    walk_at "zz"
    rw [ixn]
    walk_at "zz"
 ·rw [if_neg hg,wB,if_neg (fun z=>hg z.1)]
  rw [J_]
  walk_at "zz"
theorem UR {fs st x:List Str}{es:List cW}{n:Int} (g:cQ fs es) (B S:D) (j:Nat) (z5 z6:Sl) {l:NZ} (h:M1 fs st es l) (hj:(l.map (·.1))[j]?=some x) (hn:(x,n)∈l) (xs:List cW) (hx:∀ e∈xs,e∈es) :
  M1 fs st es (xs.foldl (sU x n) l)/\(∃ t,xs.foldl (sU x n) l=l++t)/\(∀ e∈xs,bP x e.needs e.bars=true->b9 e x∈(xs.foldl (sU x n) l).map (·.1))/\∃ y5 y6,iw (bB 5) Xb (xs.map cK) [.shr B,.shr S,.own (.dict (cP (lG l))),.own (.list ((l.map (·.1)).map ay)),.shr (.int (j:Nat)),z5,z6]=.ok (.nx [.shr B,.shr S,.own (.dict (cP (lG (xs.foldl (sU x n) l)))),.own (.list (((xs.foldl (sU x n) l).map (·.1)).map ay)),.shr (.int (j:Nat)),y5,y6]):=by
 induction xs generalizing l z5 z6 with
 | nil=>exact ⟨h,⟨[],(bV _).symm⟩,fun _ h=>(nomatch h),z5,z6,rfl⟩
 | cons e r ih =>
  have he:=hx e ao
  have hxm:x∈l.map (·.1):=cO hj
  obtain ⟨a1,a2,⟨t,a3⟩,a4⟩:=RH (n:=n) g h hxm he
  obtain ⟨y6,q⟩:=WP g B S j z6 h hj hn he
  have hj':((sU x n l e).map (·.1))[j]?=some x:=by
   rw [a3,aX,bw (List.getElem?_eq_some_iff.mp hj).1]
   exact hj
  obtain ⟨b1,⟨t2,b2⟩,b3,w5,w6,b4⟩:=ih (.shr (cK e)) y6 a1 hj' (a2 _ hn) fun a ha=>hx a (am _ ha)
  rw [dU]
  refine ⟨b1,⟨t++t2,by rw [b2,a3,gE]⟩,fun a ha hg=>?_,w5,w6,?_⟩
  ·rcases List.mem_cons.mp ha with z | z
   ·subst z
    have:=a4 hg
    rw [b2,aX]
    exact ba _ this
   ·exact b3 a z hg
  ·rw [aI,pR (ρ1:=[.shr B,.shr S,.own (.dict (cP (lG l))),.own (.list ((l.map (·.1)).map ay)),.shr (.int (j:Nat)),.shr (cK e),z6]) rfl q]
   exact b4
theorem Fx {fs st:List Str}{es:List cW} (g:cQ fs es) (S:D):∀ (k fuel j:Nat) (z5 z6:Sl) (l:NZ),M1 fs st es l->j<=l.length->(∀ i x,i<j->(l.map (·.1))[i]?=some x->∀ e∈es,bP x e.needs e.bars=true->b9 e x∈l.map (·.1))->65 - j<=k->k<fuel ->
  ∃ (l':NZ) (y3 y4 y5 y6:Sl),M1 fs st es l'/\(∀ x∈l'.map (·.1),∀ e∈es,bP x e.needs e.bars=true->b9 e x∈l'.map (·.1))/\gy (ej (g2 (rB 4) (cb (J.ac (rB 3) J.aF) (i8 k8)) AL)) WO fuel [.shr (ck fs es),.shr S,.own (.dict (cP (lG l))),.own (.list ((l.map (·.1)).map ay)),.shr (.int (j:Nat)),z5,z6]=.ok (.nx [.shr (ck fs es),.shr S,.own (.dict (cP (lG l'))),y3,y4,y5,y6])
 | _,0,_,_,_,_,_,_,_,_,hf=>absurd hf (lW _)
 | k,fuel + 1,j,z5,z6,l,h,hj,hc,hk,hf=>by
  have few:=h.few g
  have ht:ej (g2 (rB 4) (cb (J.ac (rB 3) J.aF) (i8 k8)) AL) [.shr (ck fs es),.shr S,.own (.dict (cP (lG l))),.own (.list ((l.map (·.1)).map ay)),.shr (.int (j:Nat)),z5,z6]=.ok (decide (j<l.length)):=by
   walk_at "zz"
   simp only [Int.ofNat_lt]
  rw [gy,ht]
  by_cases hl:j<l.length
  ·rw [decide_eq_true hl]
   simp only
   have hlm:j<(l.map (·.1)).length:=by rw [al];exact hl
   have hx:(l.map (·.1))[j]?=some (l.map (·.1))[j]:=aR hlm
   have hn:((l.map (·.1))[j],l[j].2)∈l:=by
    have:((l.map (·.1))[j],l[j].2)=l[j]:=by rw [qm]
    rw [this]
    exact gQ hl
   obtain ⟨b1,⟨t,b2⟩,b3,y5,y6,b4⟩:=UR g (ck fs es) S j z5 z6 h hx hn es fun _ h=>h
   have hb:WO [.shr (ck fs es),.shr S,.own (.dict (cP (lG l))),.own (.list ((l.map (·.1)).map ay)),.shr (.int (j:Nat)),z5,z6]=.ok (.nx [.shr (ck fs es),.shr S,.own (.dict (cP (lG (es.foldl (sU (l.map (·.1))[j] l[j].2) l)))),.own (.list (((es.foldl (sU (l.map (·.1))[j] l[j].2) l).map (·.1)).map ay)),.shr (.int ((j + 1:Nat):Int)),y5,y6]):=by
    unfold WO
    walk_at "zz"
    rw [qr (ds:=es.map cK)]
    ·rw [b4]
     walk_at "zz"
     rfl
    ·walk_at "zz"
     rw [Ln]
     walk_at "zz"
   rw [hb]
   obtain ⟨l',w3,w4,w5,w6,e1,e2,e3⟩:=Fx g S (k - 1) fuel (j + 1) y5 y6 _ b1 (by rw [b2,aB];omega) (fun i x hi hix e he hg=>by
    rw [b2,aX] at hix
    have hi':i<(l.map (·.1)).length:=by rw [al];omega
    rw [bw hi'] at hix
    by_cases hij:i=j
    ·subst hij
     rw [hx] at hix
     cases hix
     exact b3 e he hg
    ·have:=hc i x (by omega) hix e he hg
     rw [b2,aX]
     exact ba _ this) (by omega) (by omega)
   exact ⟨l',w3,w4,w5,w6,e1,e2,e3⟩
  ·rw [decide_eq_false hl]
   simp only
   refine ⟨l,_,_,z5,z6,h,fun x hx=>?_,rfl⟩
   obtain ⟨i,hi,e⟩:=fz hx
   rw [al] at hi
   exact hc i x (by omega) (by rw [aR (by rw [al];exact hi),e])
theorem Lx {fs st:List Str}{es:List cW} (g:cQ fs es) (hs:mS fs st):∃ l:NZ,(l.map (·.1)).Nodup/\l.length<=64/\(∀ x,x∈l.map (·.1)↔UM es st x)/\lC [ck fs es,ay st]=.ok (.dict ((.none,.none)::cP (lG l))):=by
 have h0:M1 fs st es [(st,0)]:=⟨by simp,List.mem_singleton.mpr rfl,fun p hp=>by rw [List.mem_singleton.mp hp];exact hs,fun p hp=>by rw [List.mem_singleton.mp hp];exact ⟨[],fun _ h=>(nomatch h),rfl⟩⟩
 obtain ⟨l,y3,y4,y5,y6,e1,e2,e3⟩:=Fx g (ay st) 65 100000 0 .no .no [(st,0)] h0 (c_ _) (fun i x hi=>absurd hi (lW _)) (by simp) (by decide)
 refine ⟨l,e1.nd,e1.few g,fun x=>⟨e1.rch x,?_⟩,?_⟩
 ·rintro ⟨rs,r1,r2⟩
  exact mD (M:=fun x=>x∈l.map (·.1)) e2 rs st x e1.beg r1 r2
 ·unfold lC
  refine cE ?_
  rw [Pc]
  unfold bz
  walk_at "zz"
  rw [UL (x:=st) (d:=.int 0) rfl rfl]
  walk_at "zz"
  have e3':gy (ej (g2 (rB 4) (cb (J.ac (rB 3) J.aF) (i8 k8)) AL)) WO 100000 [.shr (ck fs es),.shr (ay st),.own (.dict (cP [(st,.int 0)])),.own (.list [ay st]),.shr (.int 0),.no,.no]=_:=e3
  unfold AL at e3'
  rw [e3']
  walk_at "zz"
  rw [UK e1.ne rfl]
  walk_at "zz"
theorem US {fs st m b:List Str}{es:List cW} (g:cQ fs es) (hs:mS fs st) (hw:jU fs m b):∃ d,lR [ck fs es,ay st,fQ m b]=.ok d/\yX false d .none=.ok (.bool (!oh es st m b)):=by
 have l1:=df hw.must g.rise.len
 have l2:=df hw.bars g.rise.len
 obtain ⟨l,nd,few,hk,e⟩:=Lx g hs
 let ls:=(l.filter fun p=>bP p.1 m b).map (·.2)
 have hl:ls.length<=l.length:=by
  show ((l.filter fun p=>bP p.1 m b).map (·.2)).length<=_
  rw [al]
  exact fW _ _
 have hsv:oh es st m b=!decide (ls=[]):=by
  rw [<- ym (fs:=fs) hk,eA,gR]
  simp only [jR,decide_eq_false_iff_not]
  constructor
  ·rintro ⟨x,h1,h2⟩ hz
   obtain ⟨p,hp,rfl⟩:=List.mem_map.mp h1
   have:p∈l.filter fun p=>bP p.1 m b:=List.mem_filter.mpr ⟨hp,h2⟩
   rw [List.map_eq_nil_iff.mp hz] at this
   cases this
  ·intro hz
   obtain ⟨p,hp⟩:=List.exists_mem_of_ne_nil _ (fun z=>hz (by show lc _ _=[];rw [z];rfl):(l.filter fun p=>bP p.1 m b)≠[])
   obtain ⟨h1,h2⟩:=List.mem_filter.mp hp
   exact ⟨p.1,bN (f:=(·.1)) h1,h2⟩
 have hm:gT (iu 1 [.no,.shr (fQ m b),.shr (.dict ((.none,.none)::cP (lG l)))] (ej (dJ 2 gz (J.ac (rS 0) (J.ac (rS 1) J.aF)))) (g2 (rB 2) (rB 0) D8)) ((l.map (·.1)).map ay)=.ok (ls.map .int):=by
  rw [cL]
  have:=dP (iu 1 [.no,.shr (fQ m b),.shr (.dict ((.none,.none)::cP (lG l)))] (ej (dJ 2 gz (J.ac (rS 0) (J.ac (rS 1) J.aF)))) (g2 (rB 2) (rB 0) D8)) (fun p:List Str×Int=>ay p.1) (fun p=>cm p.2) (fun p=>bP p.1 m b) l fun p hp=>jG (by
   walk_at "zz"
   rw [yk (by omega) (by omega)]
   walk_at "zz") fun _=>(by
   walk_at "zz"
   exact P5 (l:=lG l) (by rw [kc];exact nd) (bN (f:=fun p:List Str×Int=>(p.1,cm p.2)) hp))
  refine Eq.trans this ?_
  show _=R.ok (((l.filter fun p=>bP p.1 m b).map (·.2)).map cm)
  rw [cL]
  rfl
 have lay:bS (ls.map .int)=true:=vv _ ls fun _ _=>rfl
 have key:∀ {d:D},(bif decide (ls=[]) then R.ok (Fl.rt .none) else (HD (.list (ls.map .int))).bind Yb)=.ok (.rt d)->lR [ck fs es,ay st,fQ m b]=.ok d:=fun {d} h=>by
  unfold lR
  refine cE ?_
  unfold sw bz
  walk_at "zz"
  rw [e]
  walk_at "zz"
  rw [K5]
  walk_at "zz"
  rw [vx,kc]
  walk_at "zz"
  rw [if_pos (by omega),hm]
  walk_at "zz"
  rw [Dl _ lay]
  have e0:decide (ls.map cm=[])=decide (ls=[]):=by
   rw [eA]
   simp
  rw [e0]
  cases hz:decide (ls=[]) with
  | true =>
   rw [hz] at h
   walk_at "zz"
   exact h
  | false =>
   rw [hz] at h
   walk_at "zz"
   exact h
 rw [hsv]
 by_cases hz:ls=[]
 ·exact ⟨.none,key (by rw [decide_eq_true hz];rfl),by rw [decide_eq_true hz,J_];rfl⟩
 ·refine ⟨.int (R7 ls),key ?_,by rw [decide_eq_false hz];rfl⟩
  rw [decide_eq_false hz]
  have hp:0<ls.length:=List.length_pos_iff.mpr hz
  have hmin:HD (.list (ls.map .int))=.ok (.int (R7 ls)):=by
   unfold HD
   simp only [zA,if_pos hp]
  rw [hmin]
  rfl
theorem Pd {fs st m b:List Str}{es:List cW} (g:cQ fs es) (hs:mS fs st) (hw:jU fs m b) (f:Str):nE [ck fs es,ay st,fQ m b,.str f]=.ok (.bool (decide (f∈st) || !oh (es.filter fun e=>!decide (f∈e.makes)) st m b)):=by
 have lg:=g.len
 unfold nE
 refine cE ?_
 unfold nD bz
 walk_at "zz"
 rw [Ln]
 walk_at "zz"
 rw [if_pos (by omega)]
 rw [dP _ cK cK (fun e=>!decide (f∈e.makes)) es fun e he=>jG (by
  walk_at "zz"
  rw [WG]
  walk_at "zz"
  rw [ka]
  rfl) fun _=>rfl]
 walk_at "zz"
 rw [fN]
 walk_at "zz"
 rw [ka]
 cases decide (f∈st) with
 | true =>
  walk_at "zz"
  rfl
 | false =>
  walk_at "zz"
  rw [Fg]
  walk_at "zz"
  have e:=wD (Fv g fun e=>!decide (f∈e.makes)) hs hw
  unfold ck at e
  rw [e]
  walk_at "zz"
  rfl
noncomputable def gW (fs:List Str) (es:List cW) (st m b:List Str):List Str:=fs.filter fun f=>decide (f∈st) || !oh (es.filter fun e=>!decide (f∈e.makes)) st m b
theorem RI {fs st m b:List Str}{es:List cW} (g:cQ fs es) (hs:mS fs st) (hw:jU fs m b) (h:oh es st m b=true):gU [ck fs es,ay st,fQ m b]=.ok (.list ((gW fs es st m b).map .str)):=by
 have lg:=g.rise.len
 unfold gU
 refine cE ?_
 unfold kP bz
 walk_at "zz"
 rw [HS g hs hw h]
 walk_at "zz"
 rw [Fg]
 walk_at "zz"
 rw [if_pos (by omega)]
 rw [dP _ (fun x:Str=>aQ x) (fun x=>aQ x) (fun f=>decide (f∈st) || !oh (es.filter fun e=>!decide (f∈e.makes)) st m b) fs fun f hf=>jG (by
  walk_at "zz"
  rw [Pd g hs hw f]
  walk_at "zz") fun _=>rfl]
 walk_at "zz"
 rfl
theorem RJ {fs st m b:List Str}{es:List cW} (g:cQ fs es) (hs:mS fs st) (hw:jU fs m b) (h:oh es st m b=false):gU [ck fs es,ay st,fQ m b]=.ex "NoWay" none:=by
 unfold gU
 refine Ov ?_
 unfold kP bz
 walk_at "zz"
 rw [HU g hs hw h]
 walk_at "zz"
theorem WQ {i j:Nat}{ρ:au}{ds:List D}{d:D} (h:ρ[j]?=some (Sl.own (.list (ds++[d])))):HF i j ρ=.ok (.nx ((ρ.set j (.own (.list ds))).set i (.shr d))):=by
 unfold HF
 rw [h]
 simp
def qB (ks:List (List Str)):List (List Str×D):=ks.map fun x=>(x,.bool true)
theorem oO (l:List (List Str)):jV (qB l)=l:=by
 unfold jV qB
 rw [cL]
 exact List.map_id _
structure M2 (fs st:List Str) (es:List cW) (f:Str) (ks:List (List Str)):Prop where
 nd:ks.Nodup
 beg:st∈ks
 sub:∀ x∈ks,mS fs x
 rch:∀ x∈ks,UM (es.filter fun e=>!decide (f∈e.makes)) st x
theorem M2.ne {fs st:List Str}{es:List cW}{f:Str}{l:List (List Str)} (h:M2 fs st es f l):qB l≠[]:=by
 intro z
 have:=List.map_eq_nil_iff.mp z
 have h1:=h.beg
 rw [this] at h1
 cases h1
theorem M2.few {fs st:List Str}{es:List cW}{f:Str}{l:List (List Str)} (g:cQ fs es) (h:M2 fs st es f l):l.length<=64:=by
 have:=zM g.rise (l:=qB l) (by rw [oO];exact h.nd) fun x hx=>by
  rw [oO] at hx
  exact h.sub x hx
 unfold qB at this
 rw [al] at this
 exact this
def xM (f:Str) (x:List Str) (b:List (List Str)×List (List Str)) (e:cW):List (List Str)×List (List Str) :=
 if bP x e.needs e.bars=true/\f∉b9 e x/\b9 e x∉b.1 then (b.1++[b9 e x],b.2++[b9 e x]) else b
theorem RK {fs st x:List Str}{es:List cW}{f:Str}{b:List (List Str)×List (List Str)}{e:cW} (g:cQ fs es) (h:M2 fs st es f b.1) (hx:x∈b.1) (hf:f∉x) (he:e∈es):M2 fs st es f (xM f x b e).1/\(∃ t,xM f x b e=(b.1++t,b.2++t))/\(bP x e.needs e.bars=true->f∉e.makes->b9 e x∈(xM f x b e).1):=by
 unfold xM
 by_cases hc:bP x e.needs e.bars=true/\f∉b9 e x/\b9 e x∉b.1
 ·rw [if_pos hc]
  obtain ⟨rs,r1,r2⟩:=h.rch x hx
  refine ⟨⟨uW h.nd hc.2.2,ba _ h.beg,fun y hy=>?_,fun y hy=>?_⟩,⟨_,rfl⟩,fun _ _=>aE _ ao⟩
  ·rcases List.mem_append.mp hy with z | z
   ·exact h.sub y z
   ·rw [List.mem_singleton.mp z];exact mB g.rise.up (g.ok e he) (h.sub x hx)
  ·rcases List.mem_append.mp hy with z | z
   ·exact h.rch y z
   ·rw [List.mem_singleton.mp z]
    refine ⟨rs++[e],fun a ha=>?_,vy e _ _ _ r2 hc.1⟩
    rcases List.mem_append.mp ha with w | w
    ·exact r1 a w
    ·rw [List.mem_singleton.mp w]
     refine List.mem_filter.mpr ⟨he,?_⟩
     rw [decide_eq_false fun q=>hc.2.1 (mz.mpr (.inr q))]
     rfl
 ·rw [if_neg hc]
  refine ⟨h,⟨[],by simp⟩,fun hg hm=>lX fun z=>hc ⟨hg,fun q=>?_,z⟩⟩
  rcases mz.mp q with w | w
  ·exact hf w.1
  ·exact hm w
def Xc:au->R Fl:=(aN (eZ 8 (dJ 2 dC (J.ac (rS 7) (J.ac (rS 6) J.aF)))) (e7 (wo (ej (g2 (rB 8) kN (yX true))) (wo (ej (g2 (rB 3) (rB 8) (wq true))) (ej (g2 (rB 8) (rB 4) (inT true))))) (aN (qu 4 (rS 8) (kB true)) (m9 5 (rS 8))) (fun ρ=>.ok (.nx ρ))))
def WR:au->R Fl:=aN (HF 6 5) (m7 (jf (g2 (rB 0) (kI 1) bc)) (bB 7) Xc)
theorem Pe:pP=aN (e7 (ej (g2 (rB 3) (rB 1) (wq false))) (cC (kB false)) (fun ρ=>.ok (.nx ρ))) (aN (e8 4 (Pw (rS 1) (kB true))) (aN (e8 5 (dQ (J.ac (rS 1) J.aF) .list)) (aN (gy (ej (g2 (rB 5) (dQ J.aF .list) (lP true))) WR 100000) (R8 4 (cC (cb (J.ac (dE 1 [2] (F6 (rB 4)) kT (dJ 2 gz (J.ac (rS 0) (J.ac (rS 1) J.aF)))) J.aF) (i8 (eG fun bs=>bs.any id)))))))):=rfl
theorem WS {fs st x:List Str}{es:List cW}{f:Str} (g:cQ fs es) (B S W:D) (z8:Sl) {b:List (List Str)×List (List Str)}{e:cW} (h:M2 fs st es f b.1) (hx:x∈b.1) (hl:b.2.length<=b.1.length) (he:e∈es) :
  ∃ y8,Xc [.shr B,.shr S,.shr W,.shr (.str f),.own (.dict (cP (qB b.1))),.own (.list (b.2.map ay)),.shr (ay x),.shr (cK e),z8]=.ok (.nx [.shr B,.shr S,.shr W,.shr (.str f),.own (.dict (cP (qB (xM f x b e).1))),.own (.list ((xM f x b e).2.map ay)),.shr (ay x),.shr (cK e),y8]):=by
 have few:=h.few g
 have ls:=df (h.sub x hx) g.rise.len
 refine ⟨.shr (Lp (zJ e x)),?_⟩
 unfold Xc
 walk_at "zz"
 rw [sA (my g he) (by omega)]
 walk_at "zz"
 rw [oN]
 unfold xM
 by_cases hg:bP x e.needs e.bars=true
 ·rw [if_pos hg,wA]
  rw [OR]
  walk_at "zz"
  rw [ka]
  by_cases hm:f∈b9 e x
  ·have hno:¬(bP x e.needs e.bars=true/\f∉b9 e x/\b9 e x∉b.1):=fun z=>z.2.1 hm
   rw [if_neg hno,decide_eq_true hm]
   walk_at "zz"
  ·rw [decide_eq_false hm]
   walk_at "zz"
   rw [Dm h.ne,oO]
   by_cases hk:b9 e x∈b.1
   ·rw [decide_eq_true hk,if_neg (fun z=>z.2.2 hk)]
    walk_at "zz"
   ·rw [decide_eq_false hk,if_pos ⟨hg,hm,hk⟩]
    walk_at "zz"
    rw [HR (l:=qB b.1) (x:=b9 e x) (d:=.bool true) rfl rfl rfl h.ne (by unfold qB;rw [al];omega) (by rw [oO];exact hk)]
    walk_at "zz"
    rw [xb (ds:=b.2.map ay) (d:=ay (b9 e x)) rfl rfl (by rw [al];omega)]
    unfold qB
    simp only [aX]
    rfl
 ·rw [if_neg hg,wB,if_neg (fun z=>hg z.1)]
  rw [J_]
  walk_at "zz"
theorem Ct {fs st x:List Str}{es:List cW}{f:Str} (g:cQ fs es) (B S W:D) (z7 z8:Sl) {b:List (List Str)×List (List Str)} (h:M2 fs st es f b.1) (hx:x∈b.1) (hf:f∉x) (hl:b.2.length<=b.1.length) (xs:List cW) (hxs:∀ e∈xs,e∈es) :
  M2 fs st es f (xs.foldl (xM f x) b).1/\(∃ t,xs.foldl (xM f x) b=(b.1++t,b.2++t))/\(∀ e∈xs,bP x e.needs e.bars=true->f∉e.makes->b9 e x∈(xs.foldl (xM f x) b).1)/\∃ y7 y8,iw (bB 7) Xc (xs.map cK) [.shr B,.shr S,.shr W,.shr (.str f),.own (.dict (cP (qB b.1))),.own (.list (b.2.map ay)),.shr (ay x),z7,z8]=.ok (.nx [.shr B,.shr S,.shr W,.shr (.str f),.own (.dict (cP (qB (xs.foldl (xM f x) b).1))),.own (.list ((xs.foldl (xM f x) b).2.map ay)),.shr (ay x),y7,y8]):=by
 induction xs generalizing b z7 z8 with
 | nil=>exact ⟨h,⟨[],by simp⟩,fun _ h=>(nomatch h),z7,z8,rfl⟩
 | cons e r ih =>
  have he:=hxs e ao
  obtain ⟨a1,⟨t,a3⟩,a4⟩:=RK g h hx hf he
  obtain ⟨y8,q⟩:=WS g B S W z8 h hx hl he
  obtain ⟨b1,⟨t2,b2⟩,b3,w7,w8,b4⟩:=ih (.shr (cK e)) y8 a1 (by rw [a3];exact ba _ hx) (by rw [a3];simp only [aB];omega) fun a ha=>hxs a (am _ ha)
  rw [dU]
  refine ⟨b1,⟨t++t2,by rw [b2,a3];simp only [gE]⟩,fun a ha hg hm=>?_,w7,w8,?_⟩
  ·rcases List.mem_cons.mp ha with z | z
   ·subst z
    have:=a4 hg hm
    rw [b2]
    exact ba _ this
   ·exact b3 a z hg hm
  ·rw [aI,pR (ρ1:=[.shr B,.shr S,.shr W,.shr (.str f),.own (.dict (cP (qB b.1))),.own (.list (b.2.map ay)),.shr (ay x),.shr (cK e),z8]) rfl q]
   exact b4
theorem K7 {es:List cW}{f:Str}{st x:List Str} (hf:f∉st) (h:UM (es.filter fun e=>!decide (f∈e.makes)) st x):f∉x:=by
 obtain ⟨rs,r1,r2⟩:=h
 refine mD (M:=fun x=>f∉x) (fun y hy e he _ hm=>?_) rs st x hf r1 r2
 rcases mz.mp hm with z | z
 ·exact hy z.1
 ·have:=(List.mem_filter.mp he).2
  rw [decide_eq_true z] at this
  cases this
theorem uO {fs st:List Str}{es:List cW}{f:Str} (g:cQ fs es) (hf:f∉st) (S W:D):∀ (k fuel:Nat) (z6 z7 z8:Sl) (ks stk:List (List Str)),M2 fs st es f ks->(∀ x∈stk,x∈ks)->stk.length<=ks.length->(∀ x∈ks,x∉stk->∀ e∈es,bP x e.needs e.bars=true->f∉e.makes->b9 e x∈ks)->2 * (65 - ks.length) + stk.length<=k->k<fuel ->
  ∃ (ks':List (List Str)) (y5 y6 y7 y8:Sl),M2 fs st es f ks'/\(∀ x∈ks',∀ e∈es,bP x e.needs e.bars=true->f∉e.makes->b9 e x∈ks')/\gy (ej (g2 (rB 5) (dQ J.aF .list) (lP true))) WR fuel [.shr (ck fs es),.shr S,.shr W,.shr (.str f),.own (.dict (cP (qB ks))),.own (.list (stk.map ay)),z6,z7,z8]=.ok (.nx [.shr (ck fs es),.shr S,.shr W,.shr (.str f),.own (.dict (cP (qB ks'))),y5,y6,y7,y8])
 | _,0,_,_,_,_,_,_,_,_,_,_,hfu=>absurd hfu (lW _)
 | k,fuel + 1,z6,z7,z8,ks,stk,h,hm,hl,hc,hk,hfu=>by
  have few:=h.few g
  have lay:bS (stk.map ay)=true:=vv ay stk fun x hx=>by simp only [ed];exact rg g.rise.ok (h.sub x (hm x hx))
  have ht:ej (g2 (rB 5) (dQ J.aF .list) (lP true)) [.shr (ck fs es),.shr S,.shr W,.shr (.str f),.own (.dict (cP (qB ks))),.own (.list (stk.map ay)),z6,z7,z8]=.ok (!decide (stk.map ay=[])):=by
   walk_at "zz"
   rw [Rt _ lay]
   walk_at "zz"
  rw [gy,ht]
  rcases List.eq_nil_or_concat stk with hn | ⟨pre,x,hn⟩
  ·subst hn
   exact ⟨ks,_,z6,z7,z8,h,fun x hx=>hc x hx (fun z=>nomatch z),rfl⟩
  ·have hn:stk=pre++[x]:=by rw [hn];simp
   subst hn
   rw [aB,cH] at hl hk
   have hx:x∈ks:=hm x (aE _ ao)
   obtain ⟨b1,⟨t,b2⟩,b3,y7,y8,b4⟩:=Ct g (ck fs es) S W z7 z8 (b:=(ks,pre)) h hx (K7 hf (h.rch x hx)) (by show pre.length<=ks.length;omega) es fun _ h=>h
   have few':=b1.few g
   rw [b2] at b1 b3 b4 few'
   simp only [aB] at few'
   rw [decide_eq_false (by simp)]
   simp only [iQ]
   have hb:WR [.shr (ck fs es),.shr S,.shr W,.shr (.str f),.own (.dict (cP (qB ks))),.own (.list ((pre++[x]).map ay)),z6,z7,z8]=.ok (.nx [.shr (ck fs es),.shr S,.shr W,.shr (.str f),.own (.dict (cP (qB (ks++t)))),.own (.list ((pre++t).map ay)),.shr (ay x),y7,y8]):=by
    unfold WR
    rw [w_,WQ (ds:=pre.map ay) (d:=ay x) (by rw [aX];rfl)]
    walk_at "zz"
    rw [qr (ds:=es.map cK)]
    ·exact b4
    ·walk_at "zz"
     rw [Ln]
     walk_at "zz"
   rw [hb]
   refine uO g hf S W (k - 1) fuel (.shr (ay x)) y7 y8 (ks++t) (pre++t) b1 (fun y hy=>?_) (by simp only [aB];omega) (fun y hy hn e he hg hmk=>?_) (by simp only [aB];omega) (by omega)
   ·rcases List.mem_append.mp hy with z | z
    ·exact ba _ (hm y (ba _ z))
    ·exact aE _ z
   ·rcases List.mem_append.mp hy with z | z
    ·by_cases hyx:y=x
     ·subst hyx;exact b3 e he hg hmk
     ·refine ba _ (hc y z (fun w=>?_) e he hg hmk)
      rcases List.mem_append.mp w with w | w
      ·exact hn (ba _ w)
      ·exact hyx (List.mem_singleton.mp w)
    ·exact (hn (aE _ z)).elim
theorem RL {fs st m b:List Str}{es:List cW} (g:cQ fs es) (hs:mS fs st) (hw:jU fs m b) (f:Str):ms [ck fs es,ay st,fQ m b,.str f]=.ok (.bool (!decide (f∈st) && oh (es.filter fun e=>!decide (f∈e.makes)) st m b)):=by
 have l1:=df hw.must g.rise.len
 have l2:=df hw.bars g.rise.len
 unfold ms
 refine cE ?_
 rw [Pe]
 unfold bz
 walk_at "zz"
 rw [ka]
 by_cases hf:f∈st
 ·rw [decide_eq_true hf]
  walk_at "zz"
  rfl
 ·rw [decide_eq_false hf]
  walk_at "zz"
  have h0:M2 fs st es f [st]:=⟨by simp,List.mem_singleton.mpr rfl,fun p hp=>by rw [List.mem_singleton.mp hp];exact hs,fun p hp=>by rw [List.mem_singleton.mp hp];exact ⟨[],fun _ h=>(nomatch h),rfl⟩⟩
  obtain ⟨ks,y5,y6,y7,y8,e1,e2,e3⟩:=uO g hf (ay st) (fQ m b) 200 100000 .no .no .no [st] [st] h0 (fun _ h=>h) (ar _) (fun x hx hn=>(hn hx).elim) (by simp) (by decide)
  have few:=e1.few g
  rw [UL (x:=st) (d:=.bool true) rfl rfl]
  walk_at "zz"
  have e3':gy (ej (g2 (rB 5) (dQ J.aF .list) (lP true))) WR 100000 [.shr (ck fs es),.shr (ay st),.shr (fQ m b),.shr (.str f),.own (.dict (cP [(st,.bool true)])),.own (.list [ay st]),.no,.no,.no]=_:=e3
  rw [e3']
  walk_at "zz"
  rw [UK e1.ne rfl]
  walk_at "zz"
  rw [K5]
  walk_at "zz"
  rw [vx,oO]
  walk_at "zz"
  rw [if_pos (by omega)]
  rw [dA _ (fun x:List Str=>ay x) (fun x=>cu (bP x m b)) ks fun x hx=>fc rfl (by
   walk_at "zz"
   rw [yk (by omega) (by omega)])]
  walk_at "zz"
  rw [hV _ (fun x=>bP x m b)]
  walk_at "zz"
  rw [jS,show (id∘fun x=>bP x m b)=fun x=>bP x m b from rfl,ym (fs:=fs) (es:=es.filter fun e=>!decide (f∈e.makes)) (st:=st) fun x=>⟨e1.rch x,?_⟩]
  ·rfl
  ·rintro ⟨rs,r1,r2⟩
   refine mD (M:=fun x=>x∈ks) (fun y hy e he hg=>?_) rs st x e1.beg r1 r2
   obtain ⟨q1,q2⟩:=List.mem_filter.mp he
   exact e2 y hy e q1 hg (by simpa using q2)
theorem zP (rs:List cW) (st:List Str):st∈fY rs st:=by
 cases rs with
 | nil=>exact ao
 | cons e r =>
  unfold fY
  split<;>exact ao
theorem zQ {f:Str}:∀ (rs:List cW) (st s:List Str),mW rs st=some s->(∀ x∈fY rs st,f∉x)->∀ e∈rs,f∉e.makes
 | [],_,_,_,_,_,he=>nomatch he
 | a::r,st,s,h,hf,e,he=>by
  have h':(if bP st a.needs a.bars then mW r (b9 a st) else none)=some s:=h
  unfold fY at hf
  split at h'
  ·rename_i hg
   rw [if_pos hg] at hf
   rcases List.mem_cons.mp he with z | z
   ·subst z
    exact fun q=>hf _ (am _ (zP r (b9 e st))) (mz.mpr (.inr q))
   ·exact zQ r _ _ h' (fun x hx=>hf x (am _ hx)) e z
  ·cases h'
theorem RM {fs:List Str}{es rs:List cW}{st m b:List Str} (hr:∀ e∈rs,e∈es) (hs:nL st m b rs=true) {f:Str} (hf:f∈gW fs es st m b):((fY rs st).any fun x=>decide (f∈x))=true:=by
 obtain ⟨h1,h2⟩:=List.mem_filter.mp hf
 refine lX fun hn=>?_
 have hn:∀ x∈fY rs st,f∉x:=fun x hx q=>hn (List.any_eq_true.mpr ⟨x,hx,decide_eq_true q⟩)
 rw [decide_eq_false (hn st (zP rs st)),oS] at h2
 have:oh (es.filter fun e=>!decide (f∈e.makes)) st m b=true:=by
  rw [zO]
  unfold nL at hs
  split at hs
  ·rename_i s hrun
   refine ⟨s,⟨rs,fun x hx=>List.mem_filter.mpr ⟨hr x hx,?_⟩,hrun⟩,hs⟩
   rw [decide_eq_false (zQ rs st s hrun hn x hx)]
   rfl
  ·cases hs
 rw [this] at h2
 cases h2
theorem Pf {fs:List Str}{es:List cW}{st m b:List Str} (hs:mS fs st) (hw:jU fs m b):∀ f∈st++m,f∈gW fs es st m b:=by
 intro f hf
 by_cases h:f∈st
 ·exact List.mem_filter.mpr ⟨hs.mem f h,by rw [decide_eq_true h];rfl⟩
 ·have hm:f∈m:=(List.mem_append.mp hf).elim (fun z=>(h z).elim) id
  refine List.mem_filter.mpr ⟨hw.must.mem f hm,?_⟩
  rw [decide_eq_false h,oS,jR]
  refine Bool.eq_false_iff.mpr fun z=>?_
  obtain ⟨x,r,g⟩:=zO.mp z
  exact K7 h r ((Lu.mp g).1 f hm)
def UT:au->R Fl:=(e7 (ej (dJ 4 mr (J.ac (rS 1) (J.ac (rS 2) (J.ac (rS 3) (J.ac (rS 7) J.aF)))))) (aN (eZ 8 (dJ 3 g6 (J.ac (rS 1) (J.ac (rS 2) (J.ac (rS 7) J.aF))))) (e7 (jP (ej (cb (J.ac (dE 1 [8] (jf (rB 4)) kT (cb (J.ac (dE 1 [0] (jf (rB 1)) kT (g2 (rB 1) (rB 0) (wq false))) J.aF) (i8 (eG fun bs=>bs.any id)))) J.aF) (i8 (eG fun bs=>bs.all id))))) (cC (kB false)) (fun ρ=>.ok (.nx ρ)))) (fun ρ=>.ok (.nx ρ)))
def Yl:au->R Fl:=(m9 5 (dJ 5 mq (J.ac (rS 0) (J.ac (g2 (kI 300) (g2 (kI 40) (rB 6) vb) dN) (J.ac (rS 1) (J.ac (rS 2) (J.ac (dJ 3 br (J.ac (rS 0) (J.ac (rS 6) (J.ac (kI 8) J.aF)))) J.aF)))))))
def Ym:au->R Fl:=aN (e8 5 (dQ (J.ac (dJ 3 mh (J.ac (rS 1) (J.ac (rS 2) (J.ac (rS 3) J.aF)))) J.aF) .list)) (aN (m7 (vd (J.ac (kI 2) J.aF)) (bB 6) Yl) (aN (qq 5 (bB 7) UT) (cC (kB true))))
def Yn:au->R Fl:=aN (e7 (ej (g2 (rB 4) (dE 1 [1,2,3] (jf (g2 (rB 1) (kI 0) bc)) (jP (ej (dJ 4 ms (J.ac (rS 1) (J.ac (rS 2) (J.ac (rS 3) (J.ac (rS 0) J.aF))))))) (rS 0)) (lP true))) (cC (kB false)) (fun ρ=>.ok (.nx ρ))) (aN (e7 (jP (ej (cb (J.ac (dE 1 [4] (jf (g2 (rB 2) (g2 (rB 3) (kI 0) bc) dN)) kT (g2 (rB 0) (rB 1) (wq false))) J.aF) (i8 (eG fun bs=>bs.all id))))) (cC (kB false)) (fun ρ=>.ok (.nx ρ))) Ym)
theorem Pg:JJ=aN (y_ (dJ 3 mn (J.ac (rS 0) (J.ac (kI 5) (J.ac (kI 6) J.aF)))) (kJ 3 (cq (bB 1) (cq (bB 2) (cq (bB 3) lr))))) (aN (eZ 4 (dJ 3 (zr R9 gU) (J.ac (rS 1) (J.ac (rS 2) (J.ac (rS 3) J.aF))))) (aN (e7 (ej (g2 (dJ 3 lR (J.ac (rS 1) (J.ac (rS 2) (J.ac (rS 3) J.aF)))) kN (yX false))) (cC (g2 (rB 4) (dQ (J.ac (fun _=>.ok (.str "refused")) (J.ac (kI 5) J.aF)) .tuple) (lP false))) (fun ρ=>.ok (.nx ρ))) Yn)):=rfl
theorem UU {fs st m b:List Str}{es rs:List cW} (g:cQ fs es) (hs:mS fs st) (hw:jU fs m b) (hr:T7 es rs) (S:D) (o5 z6 z8:Sl):∃ y8,UT [.shr S,.shr (ck fs es),.shr (ay st),.shr (fQ m b),.shr (.list ((gW fs es st m b).map .str)),o5,z6,.shr (gO rs),z8]=.ok (.nx [.shr S,.shr (ck fs es),.shr (ay st),.shr (fQ m b),.shr (.list ((gW fs es st m b).map .str)),o5,z6,.shr (gO rs),y8]):=by
 have lg:=g.rise.len
 have lh:(gW fs es st m b).length<=fs.length:=fW _ _
 have L:=zL g hr hs
 have D:=Ry g hr hs hw
 unfold UT
 walk_at "zz"
 rw [D]
 cases hv:nL st m b rs with
 | false=>exact ⟨z8,by walk_at "zz"⟩
 | true =>
  have hv0:=hv
  unfold nL at hv0
  cases hrun:mW rs st with
  | none=>rw [hrun] at hv0;cases hv0
  | some s =>
   rw [hrun] at L
   simp only at L
   have lt:(fY rs st).length<=100:=by
    have:=hr.len
    have:=B_ rs st
    omega
   refine ⟨.shr (.list ((fY rs st).map ay)),?_⟩
   walk_at "zz"
   rw [L]
   walk_at "zz"
   rw [if_pos (by omega)]
   rw [dA _ (fun x:Str=>aQ x) (fun f=>cu ((fY rs st).any fun x=>decide (f∈x))) (gW fs es st m b) fun f hf=>fc rfl (by
    walk_at "zz"
    rw [if_pos (by omega)]
    rw [dA _ (fun x:List Str=>ay x) (fun x=>cu (decide (f∈x))) (fY rs st) fun x hx=>fc rfl (by
     walk_at "zz"
     rw [ka]
     rfl)]
    walk_at "zz"
    rw [hV _ (fun x:List Str=>decide (f∈x)),jS]
    rfl)]
   walk_at "zz"
   rw [hV _ (fun f:Str=>(fY rs st).any fun x=>decide (f∈x))]
   rw [show ((gW fs es st m b).map fun f=>(fY rs st).any fun x=>decide (f∈x)).all id=true from by
    rw [jT,b_]
    exact fun f hf=>RM hr.mem hv hf]
   walk_at "zz"
theorem UV {fs st m b:List Str}{es:List cW} (g:cQ fs es) (hs:mS fs st) (hw:jU fs m b) (hv:oh es st m b=true) (ns:List Int):Ym [.shr (.list (ns.map .int)),.shr (ck fs es),.shr (ay st),.shr (fQ m b),.shr (.list ((gW fs es st m b).map .str)),.no,.no,.no,.no]=.ok (.rt (.bool true)):=by
 obtain ⟨rs,r1,r2,r3⟩:=Pb g hs hw hv
 unfold Ym
 walk_at "zz"
 rw [r3]
 walk_at "zz"
 rw [qr (ds:=(bv 2).map fun (i:Nat)=>cm (i:Int))]
 ·have H:=oM (fun (i:Nat)=>cm (i:Int)) (fun (a:Unit) _=>a) (fun bX _ ρ=>∃ Rs:List (List cW),(∀ r∈Rs,T7 es r)/\Rs.length + bX.length<=10/\∃ z6,ρ=[.shr (.list (ns.map .int)),.shr (ck fs es),.shr (ay st),.shr (fQ m b),.shr (.list ((gW fs es st m b).map .str)),.own (.list (Rs.map gO)),z6,.no,.no]) (kt:=bB 6) (gb:=Yl) (by
   rintro k bX _ ρ ⟨Rs,h1,h2,z6,rfl⟩
   simp only [aU] at h2
   have m0:=ft ns (k:Nat) 8 (by decide)
   have m1:=g9 ns (k:Nat) 8 (by decide)
   obtain ⟨rs',w1,w2⟩:=Rv g ns (300 + 40 * (k:Nat)) (fq ns (k:Nat) 8) (by omega) m0 (by omega) hs
   refine ⟨_,_,rfl,?_,Rs++[rs'],fun r hr=>?_,by rw [aB,cH];omega,.shr (.int (k:Nat)),rfl⟩
   ·unfold Yl
    rw [xb (ds:=Rs.map gO) (d:=gO rs') rfl (by
     walk_at "zz"
     rw [pQ (by decide) (by decide)]
     walk_at "zz"
     rw [fu ns (k:Nat) 8 (by omega) (by decide)]
     walk_at "zz"
     rw [w2]) (by rw [al];omega)]
    rw [aX]
    rfl
   ·rcases List.mem_append.mp hr with z | z
    ·exact h1 r z
    ·rw [List.mem_singleton.mp z];exact w1) (bv 2) () [.shr (.list (ns.map .int)),.shr (ck fs es),.shr (ay st),.shr (fQ m b),.shr (.list ((gW fs es st m b).map .str)),.own (.list [gO rs]),.no,.no,.no] ⟨[rs],fun r hr=>by rw [List.mem_singleton.mp hr];exact r1,by simp,_,rfl⟩
  obtain ⟨ρ',h1,Rs,h2,_,z6,h4⟩:=H
  rw [h1,h4]
  walk_at "zz"
  have L:∀ z7 z8,∃ y7 y8,iw (bB 7) UT (Rs.map gO) [.shr (.list (ns.map .int)),.shr (ck fs es),.shr (ay st),.shr (fQ m b),.shr (.list ((gW fs es st m b).map .str)),.lck (.list (Rs.map gO)),z6,z7,z8]=.ok (.nx [.shr (.list (ns.map .int)),.shr (ck fs es),.shr (ay st),.shr (fQ m b),.shr (.list ((gW fs es st m b).map .str)),.lck (.list (Rs.map gO)),z6,y7,y8]):=by
   have key:∀ (L0:D) (Xs:List (List cW)) (z7 z8:Sl),(∀ r∈Xs,T7 es r)->∃ y7 y8,iw (bB 7) UT (Xs.map gO) [.shr (.list (ns.map .int)),.shr (ck fs es),.shr (ay st),.shr (fQ m b),.shr (.list ((gW fs es st m b).map .str)),.lck L0,z6,z7,z8]=.ok (.nx [.shr (.list (ns.map .int)),.shr (ck fs es),.shr (ay st),.shr (fQ m b),.shr (.list ((gW fs es st m b).map .str)),.lck L0,z6,y7,y8]):=by
    intro L0 Xs
    induction Xs with
    | nil=>exact fun z7 z8 _=>⟨z7,z8,rfl⟩
    | cons r t ih =>
     intro z7 z8 hx
     obtain ⟨y8,q⟩:=UU g hs hw (hx r ao) (.list (ns.map .int)) (.lck L0) z6 z8
     obtain ⟨w7,w8,q2⟩:=ih (.shr (gO r)) y8 fun a ha=>hx a (am _ ha)
     refine ⟨w7,w8,?_⟩
     rw [aI,pR (ρ1:=[.shr (.list (ns.map .int)),.shr (ck fs es),.shr (ay st),.shr (fQ m b),.shr (.list ((gW fs es st m b).map .str)),.lck L0,z6,.shr (gO r),z8]) rfl q]
     exact q2
   exact fun z7 z8=>key _ Rs z7 z8 h2
  obtain ⟨y7,y8,q⟩:=L .no .no
  have e:qq 5 (bB 7) UT [.shr (.list (ns.map .int)),.shr (ck fs es),.shr (ay st),.shr (fQ m b),.shr (.list ((gW fs es st m b).map .str)),.own (.list (Rs.map gO)),z6,.no,.no]=.ok (.nx [.shr (.list (ns.map .int)),.shr (ck fs es),.shr (ay st),.shr (fQ m b),.shr (.list ((gW fs es st m b).map .str)),.own (.list (Rs.map gO)),z6,y7,y8]):=by
   show Y9 5 _ (iw (bB 7) UT (Rs.map gO) [.shr (.list (ns.map .int)),.shr (ck fs es),.shr (ay st),.shr (fQ m b),.shr (.list ((gW fs es st m b).map .str)),.lck (.list (Rs.map gO)),z6,.no,.no])=_
   rw [q]
   rfl
  rw [e]
  walk_at "zz"
 ·walk_at "zz"
  exact vp 2 (by decide)
theorem UW {fs st m b:List Str}{es:List cW} (g:cQ fs es) (hs:mS fs st) (hw:jU fs m b) (hv:oh es st m b=true) (ns:List Int):Yn [.shr (.list (ns.map .int)),.shr (ck fs es),.shr (ay st),.shr (fQ m b),.shr (.list ((gW fs es st m b).map .str)),.no,.no,.no,.no]=.ok (.rt (.bool true)):=by
 have lg:=g.rise.len
 have ls:=df hs g.rise.len
 have lm:=df hw.must g.rise.len
 have eqs:lP true (.list ((gW fs es st m b).map .str)) (.list ((gW fs es st m b).map .str))=.ok (.bool false) :=
  Dj (fun x hx=>g.rise.ok x (List.mem_filter.mp hx).1) true
 unfold Yn
 walk_at "zz"
 rw [Fg]
 walk_at "zz"
 rw [if_pos (by omega)]
 rw [dP _ (fun x:Str=>aQ x) (fun x=>aQ x) (fun f=>decide (f∈st) || !oh (es.filter fun e=>!decide (f∈e.makes)) st m b) fs fun f hf=>jG (by
  walk_at "zz"
  rw [RL g hs hw f]
  walk_at "zz"
  rw [Bool.not_and,Bool.not_not]) fun _=>rfl]
 walk_at "zz"
 rw [show lc (fun x:Str=>aQ x) (fs.filter fun f=>decide (f∈st) || !oh (es.filter fun e=>!decide (f∈e.makes)) st m b)=(gW fs es st m b).map .str from rfl,eqs]
 walk_at "zz"
 rw [WJ]
 walk_at "zz"
 rw [if_pos (by omega)]
 walk_at "zz"
 rw [<- aX,al,aB,if_pos (by omega)]
 rw [dA _ (fun x:Str=>aQ x) (fun f=>cu (decide (f∈gW fs es st m b))) (st++m) fun f hf=>fc rfl (by
  walk_at "zz"
  rw [JU]
  rfl)]
 walk_at "zz"
 rw [hV _ (fun f:Str=>decide (f∈gW fs es st m b))]
 rw [show ((st++m).map fun f=>decide (f∈gW fs es st m b)).all id=true from by
  rw [jT,b_]
  exact fun f hf=>decide_eq_true (Pf hs hw f hf)]
 walk_at "zz"
 exact UV g hs hw hv ns
theorem Z5:R9 "NoWay"=some 5:=by decide +kernel
theorem WT:lP false (.tuple [.str "refused",.int 5]) (.tuple [.str "refused",.int 5])=.ok (.bool true):=Rr (by decide +kernel)
theorem law_true (ns:List Int):F_law [.list (ns.map .int)]=.ok (.bool true):=by
 obtain ⟨fs,es,ss,wm,wb,hc,gb,gs,gw⟩:=Rn ns 5 6 (by decide) (by decide) (by decide) (by decide)
 obtain ⟨d,f1,f2⟩:=US gb gs gw
 unfold F_law
 refine cE ?_
 rw [Pg]
 unfold bz
 walk_at "zz"
 rw [hc]
 walk_at "zz"
 rw [Yh]
 walk_at "zz"
 cases hv:oh es ss wm wb with
 | false =>
  rw [hv] at f2
  rw [OS,RJ gb gs gw hv,Rq Z5]
  walk_at "zz"
  rw [f1]
  walk_at "zz"
  rw [f2]
  walk_at "zz"
  rw [show ((5:Nat):Int)=5 from rfl,WT]
  walk_at "zz"
 | true =>
  rw [hv] at f2
  rw [OS,RI gb gs gw hv,Rp]
  walk_at "zz"
  rw [f1]
  walk_at "zz"
  rw [f2]
  walk_at "zz"
  exact UW gb gs gw hv ns
end Z
end
namespace Z
open PySem L2 J
section
def mE (i:Nat):cp:=PySem.Challenge.pw_errands_k18_whole_must_hold.main.body.getD i (.Pass ⟨0,0,0,0⟩)
section
variable {e:En}
abbrev rh:cp:=mE 64
def Fz:List Str:=["NoBook","NoState","NoWant","NoErrand","NoRow","NoWay","NoPaper","NoFacts","NoNumber","Nothing","NoText"]
theorem vz:bu ["_law_e","_law_own"] ["_law_e"] (ax rh):=dk (by decide +kernel)
theorem AV {f:ah}{fd:dL} (F:Ee e.K "_law_which" "_law_which" rh f fd) (B:Bi e.mg) (mv:e.mg "ValueError"=none) (mc:∀ n∈Fz,e.mg n=some (.ref (e.cls n))):Ey e.P e.w e.K e.mg e.base 1 f fd ["_law_e"] (U8 e.K e.base e.cls Fz):=by
 refine F.okH vz (fun vs H Q E h=>?_) (fun cdv A outer s H vs Q E hr h=>?_)
 ·obtain ⟨_,_,_,rfl,_⟩:=h;rfl
 obtain ⟨ea,C,j,rfl,hH,x,q⟩:=h
 refine ⟨_,jz (yz (i:=1) vz.nd rfl (fv rfl) (o0 (cf (mf (names:=Fz) (cls:=e.cls) (base:=e.base) (pv 0) rfl B.isinstance rfl (mc "NoBook" (by decide +kernel))) (cf (mf (names:=Fz) (cls:=e.cls) (base:=e.base) (pv 0) rfl B.isinstance rfl (mc "NoState" (by decide +kernel))) (cf (mf (names:=Fz) (cls:=e.cls) (base:=e.base) (pv 0) rfl B.isinstance rfl (mc "NoWant" (by decide +kernel))) (cf (mf (names:=Fz) (cls:=e.cls) (base:=e.base) (pv 0) rfl B.isinstance rfl (mc "NoErrand" (by decide +kernel))) fe))))))
  (jz (uN (Br dX Az AA Bt (pv 1) (cf (o0 (cf (mf (names:=Fz) (cls:=e.cls) (base:=e.base) (pv 0) rfl B.isinstance rfl (mc "NoRow" (by decide +kernel))) (cf (mf (names:=Fz) (cls:=e.cls) (base:=e.base) (pv 0) rfl B.isinstance rfl (mc "NoWay" (by decide +kernel))) (cf (mf (names:=Fz) (cls:=e.cls) (base:=e.base) (pv 0) rfl B.isinstance rfl (mc "NoPaper" (by decide +kernel))) (cf (mf (names:=Fz) (cls:=e.cls) (base:=e.base) (pv 0) rfl B.isinstance rfl (mc "NoFacts" (by decide +kernel))) fe))))) fe)))
  (jz (uN (Br dX Az AA Bt (pv 1) (cf (o0 (cf (mf (names:=Fz) (cls:=e.cls) (base:=e.base) (pv 0) rfl B.isinstance rfl (mc "NoNumber" (by decide +kernel))) (cf (mf (names:=Fz) (cls:=e.cls) (base:=e.base) (pv 0) rfl B.isinstance rfl (mc "Nothing" (by decide +kernel))) (cf (mf (names:=Fz) (cls:=e.cls) (base:=e.base) (pv 0) rfl B.isinstance rfl (mc "NoText" (by decide +kernel))) fe)))) fe)))
  (jz (RP (PW.pt (RO (IN Vh (Br dX Bg PySem.F.type_list_count KP (pv 1) (cf Mh fe)) Mg (GU _)) (Ml (Mm (Mk (QQ (names:=Fz) (cls:=e.cls) (base:=e.base) (pv 0) rfl B.isinstance rfl mv)))))) oB IL)
  (uM (Cq (My (cf Mi (cf (Br dX Bh PySem.F.type_list_index KQ (pv 1) (cf Mh fe)) fe)))))))),?_⟩
 refine ⟨ea,C,j,0,rfl,hH,x,rfl,ea,C,j,1,rfl,hH,x,rfl,ea,C,j,2,rfl,hH,x,rfl,ea,C,j,3,rfl,hH,x,rfl,bC (cA (show 4<=1000 by decide)),fun p hp=>?_⟩
 have np:ea≠p:=bj hH hp
 have hH1:∀ o,upd H p o ea=some (yN ea C):=fun o=>by rw [aS np];exact hH
 refine ⟨_,rfl,.inl ⟨rfl,_,.of aW⟩,?_⟩
 refine ⟨ea,C,j,4,rfl,hH1 _,x,rfl,ea,C,j,5,rfl,hH1 _,x,rfl,ea,C,j,6,rfl,hH1 _,x,rfl,ea,C,j,7,rfl,hH1 _,x,rfl,bC (cA (show 4<=1000 by decide)),fun p2 hp2=>?_⟩
 have np2:p≠p2:=bj aW hp2
 have ne2:ea≠p2:=bj (hH1 _) hp2
 refine ⟨p,p2,([decide (0=j),decide (1=j),decide (2=j),decide (3=j)].map V.bl),_,rfl,rfl,by rw [aS np2];exact aW,aW,bC (cA (show 8<=1000 by decide)),?_⟩
 have hH2:∀ o u,upd (upd (upd H p o) p2 u) p (.lst (([decide (0=j),decide (1=j),decide (2=j),decide (3=j)]++[decide (4=j),decide (5=j),decide (6=j),decide (7=j)]).map V.bl)) ea=some (yN ea C):=fun o u=>by rw [aS np,aS ne2];exact hH1 _
 refine ⟨_,rfl,.inl ⟨rfl,_,.of aW⟩,?_⟩
 refine ⟨ea,C,j,8,rfl,hH2 _ _,x,rfl,ea,C,j,9,rfl,hH2 _ _,x,rfl,ea,C,j,10,rfl,hH2 _ _,x,rfl,bC (cA (show 3<=1000 by decide)),fun p3 hp3=>?_⟩
 have np3:p≠p3:=bj aW hp3
 have ne3:ea≠p3:=bj (hH2 _ _) hp3
 refine ⟨p,p3,(([decide (0=j),decide (1=j),decide (2=j),decide (3=j)]++[decide (4=j),decide (5=j),decide (6=j),decide (7=j)]).map V.bl),_,rfl,rfl,by rw [aS np3];exact aW,aW,bC (cA (show 11<=1000 by decide)),?_⟩
 refine ⟨_,rfl,.inl ⟨rfl,_,.of aW⟩,p,bits j,rfl,rfl,.of aW,?_⟩
 rw [Hx j x.lt]
 refine ⟨rfl,_,rfl,xD ⟨ea,C,j,rfl,?_,x,_,rfl,xD ?_⟩⟩
 ·rw [aS np,aS ne3];exact hH2 _ _
 obtain ⟨b1,b2⟩:=QP j x.lt
 refine ⟨_,rfl,.inl ⟨rfl,_,.of aW⟩,p,bits j,j,rfl,rfl,.of aW,b1,b2,bC (aH x.lt (by decide)),bC (cA (show 2<=1000 by decide)),fun t ht=>?_⟩
 have s1:dB H _:=iY (o:=.lst ([decide (0=j),decide (1=j),decide (2=j),decide (3=j)].map V.bl)) hp
 have hpn:∀ b o,H b=some o->b≠p:=fun b o e=>bj e hp
 have hp2n:∀ b o,H b=some o->b≠p2:=fun b o e=>bj (s1 b o e) hp2
 have hp3n:∀ b o,H b=some o->b≠p3:=fun b o e=>bj (by rw [aS (hpn b o e),aS (hp2n b o e)];exact s1 b o e) hp3
 have old:∀ b o,H b=some o->b≠t:=fun b o e=>bj (by rw [aS (hpn b o e),aS (hp3n b o e),aS (hpn b o e),aS (hp2n b o e)];exact s1 b o e) ht
 refine q t _ (fun b o e=>?_) ?_ aW
 ·rw [aS (old b o e),aS (hpn b o e),aS (hp3n b o e),aS (hpn b o e),aS (hp2n b o e)];exact s1 b o e
 ·cases z:H t with
  | none=>rfl
  | some o=>exact (old t o z rfl).elim
abbrev gK:cp:=mE 65
abbrev kd:List Str:=["_law_ask","_law_one","_law_other","_law_third","_law_e"]
theorem nM:bu kd ["_law_ask","_law_one","_law_other","_law_third"] (ax gK):=dk (by decide +kernel)
theorem vA {y:Str}{kf k:Nat}{Fy:List D->R D} (D:fP e.K e.mg "_law_told_three" gK) (W:Wh e.P e.w e.K e.mg e.base e.cls "_law_which" Fz R9) (G:FN e y kf 3 Fy) (hk:kf<=k) (h1:1<=k):FT e "_law_told_three" y (k + 1) 3 (zr R9 Fy):=by
 obtain ⟨f,fd,F,hm⟩:=D.ex
 obtain ⟨a,fda,psa,hf,hma,hka,hba⟩:=G.ex
 refine QW (k:=k) (g:=L7 R9 (cC (dJ 3 Fy (ac (rS 1) (ac (rS 2) (ac (rS 3) aF)))))) F nM hm (b4 F) hma rfl (fun cdv A outer s H E hr ρ=>?_) fun ds hl=>?_
 ·exact uM (Uf (c:=⟨j4 (mR e.P e.w) e.P e.w e.K e.mg e.base kd "_law_told_three" (ax gK) f cdv A outer s H E,e.cls,E⟩) 4 0 W (fun E1 xe1 pn1 hp=>uM (Ue (c:=⟨S8 (j4 (mR e.P e.w) e.P e.w e.K e.mg e.base kd "_law_told_three" (ax gK) f cdv A outer s H E) xe1 pn1,e.cls,E1⟩) hf hka hba (hr.mono hk) hp (aa (ai 1) (aa (ai 2) (aa (ai 3) aD))) (ρ:=ρ))) (hr.h.mono1 h1) rfl rfl nM.nd)
 ·match ds,hl with
  | [_,_,_],_=>exact Oh rfl rfl
abbrev lH:cp:=mE 18
abbrev vB:List Str:=["one","other"]
theorem AW:bu vB ["one","other"] (ax lH):=dk (by decide +kernel)
abbrev lI (e:En):=FN e "share_none" 1 2 eR
theorem AX (D:fP e.K e.mg "share_none" lH) (B:Bi e.mg):lI e:=nq (k:=0) (g:=jI) D AW b2 fun _ _ _ _ _ _ _ hr=>by unfold jI;exact (aK (bD (CO (bZ (yZ rfl) rfl B.any gS (bx (JE.bor (JN.je (dO (N':=["fact","other"]) (ix:=[1]) 1 (by decide) rfl (bK (so:=ax lH) (N:=vB) (by decide +kernel)) (eI (aj 0)) (fun cl A0 s0 H0 ex pn=>⟨cj (i:=0) (by show (["fact","other"] : List Str).Nodup;decide +kernel) rfl (.inl rfl),f9,(m5 (vc) (aj 0) (aj 1))⟩)))) bY)))))
abbrev sB:cp:=mE 19
abbrev C3:List Str:=["facts","others"]
theorem HV:bu C3 ["facts","others"] (ax sB):=dk (by decide +kernel)
abbrev C4 (e:En):=FN e "without" 1 2 s9
theorem HW (D:fP e.K e.mg "without" sB) (B:Bi e.mg):C4 e:=nq (k:=0) (g:=r_) D HV b2 fun _ _ _ _ _ _ _ hr=>by unfold r_;exact (aK (bD (f6 (ir rfl) rfl B.tuple bi (bx (JE.bor (JN.je (dO (N':=["fact","others"]) (ix:=[1]) 1 (by decide) rfl (bK (so:=ax sB) (N:=C3) (by decide +kernel)) (eI (aj 0)) (fun cl A0 s0 H0 ex pn=>⟨cj (i:=0) (by show (["fact","others"] : List Str).Nodup;decide +kernel) rfl (.inl rfl),(iG (cU (qZ) (aj 0) (aj 1))),(ai 0)⟩)))) bY))))
abbrev zR:cp:=mE 20
abbrev Ph:List Str:=["one","other"]
theorem Ly:bu Ph ["one","other"] (ax zR):=dk (by decide +kernel)
abbrev FA (e:En):=FN e "joined" 1 2 vo
theorem Lz (D:fP e.K e.mg "joined" zR) (B:Bi e.mg):FA e:=nq (k:=0) (g:=vn) D Ly b2 fun _ _ _ _ _ _ _ hr=>by unfold vn;exact (aK (bD (f6 (ir rfl) rfl B.tuple bi (bx (JE.bor (tX rfl (Ui (D1 rfl (aj 0) rfl B.set) (D1 rfl (aj 1) rfl B.set)) rfl B.sorted)) bY))))
abbrev sC:cp:=mE 21
abbrev C5:List Str:=["thing"]
theorem HX:bu C5 ["thing"] (ax sC):=dk (by decide +kernel)
abbrev wE (e:En):=FN e "is_word" 1 1 oK
theorem HY (D:fP e.K e.mg "is_word" sC) (B:Bi e.mg) (mF:Cn e.mg "MOST_LETTERS" 6):wE e:=nq (k:=0) (g:=sd) D HX b1 fun _ _ _ _ _ _ _ hr=>by unfold sd;exact (aw (eV (JW.t (v9 (fX (eF (pi (aj 0) rfl B.isinstance rfl B.str PyProof.Rows.boot_str (by decide)))) (pf (fX (Nx (BD) (BD) (JE.bor aG) (JE.bor (bZ iq rfl B.len c9 (bx (aj 0) bY))) (JE.bor (v7 rfl mF))))))) (aK (bD jD)) cB) (aK (bD (bZ (o8 rfl) rfl B.all cz (bx (JE.bor (JN.je (dO (N':=["sign"]) (ix:=[]) 1 (by decide) rfl (bK (so:=ax sC) (N:=C5) (by decide +kernel)) (eI (aj 0)) (fun cl A0 s0 H0 ex pn=>⟨cj (i:=0) (by show (["sign"] : List Str).Nodup;decide +kernel) rfl (.inl rfl),f9,(EL (BD) (BD) (JE.bor pd) (aj 0) (JE.bor pd))⟩)))) bY)))))
abbrev fO:cp:=mE 22
abbrev j8:List Str:=["thing"]
theorem sV:bu j8 ["thing"] (ax fO):=dk (by decide +kernel)
abbrev j9 (e:En):=FN e "are_rising_words" 2 1 fM
theorem sW (D:fP e.K e.mg "are_rising_words" fO) (B:Bi e.mg) (lS:wE e):j9 e:=nq (k:=1) (g:=hU) D sV b1 fun _ _ _ _ _ _ _ hr=>by unfold hU;exact (aw (eV (JW.t (v9 (fX (eF (pi (aj 0) rfl B.isinstance rfl B.tuple bi (by decide)))) (pf (fX (eF (bZ (o8 rfl) rfl B.all cz (bx (JE.bor (JN.je (dO (N':=["word"]) (ix:=[]) 1 (by decide) rfl (bK (so:=ax fO) (N:=j8) (by decide +kernel)) (eI (aj 0)) (fun cl A0 s0 H0 ex pn=>⟨cj (i:=0) (by show (["word"] : List Str).Nodup;decide +kernel) rfl (.inl rfl),f9,(jc lS hr dh (aa (ai 0) aD))⟩)))) bY))))))) (aK (bD jD)) cB) (aK (bD (bZ (o8 rfl) rfl B.all cz (bx (JE.bor (JN.je (dO (N':=["low","high"]) (ix:=[]) 2 (by decide) rfl (bK (so:=ax fO) (N:=j8) (by decide +kernel)) (LY.i (QK rfl B.zip (aa (ai 0) (aa (q_ (aj 0) (rX aG) y9) aD)))) (fun cl A0 s0 H0 ex pn=>⟨GR rfl (qR (cj (i:=0) (by show (["low","high"] : List Str).Nodup;decide +kernel) rfl (.inl rfl)) (qR (cj (i:=1) (by show (["low","high"] : List Str).Nodup;decide +kernel) rfl (.inl rfl)) Cr)),f9,(m5 (yW) (aj 0) (aj 1))⟩)))) bY)))))
abbrev nN:cp:=mE 23
abbrev xc:List Str:=["book_facts","thing"]
theorem Dn:bu xc ["book_facts","thing"] (ax nN):=dk (by decide +kernel)
abbrev nO (e:En):=FN e "are_facts" 3 2 fD
theorem Do (D:fP e.K e.mg "are_facts" nN) (B:Bi e.mg) (eK:j9 e):nO e:=nq (k:=2) (g:=nr) D Dn b2 fun _ _ _ _ _ _ _ hr=>by unfold nr;exact (aK (bD (tU (jc eK hr px (aa (ai 1) aD)) (tT (bZ (o8 rfl) rfl B.all cz (bx (JE.bor (JN.je (dO (N':=["fact","book_facts"]) (ix:=[0]) 1 (by decide) rfl (bK (so:=ax nN) (N:=xc) (by decide +kernel)) (eI (aj 1)) (fun cl A0 s0 H0 ex pn=>⟨cj (i:=0) (by show (["fact","book_facts"] : List Str).Nodup;decide +kernel) rfl (.inl rfl),f9,(m5 (vc) (aj 0) (aj 1))⟩)))) bY))))))
abbrev u3:cp:=mE 24
abbrev HZ:List Str:=["thing","least","most"]
theorem FC:bu HZ ["thing","least","most"] (ax u3):=dk (by decide +kernel)
abbrev zS (e:En):=FN e "is_whole" 1 3 pB
theorem FD (D:fP e.K e.mg "is_whole" u3) (B:Bi e.mg):zS e:=nq (k:=0) (g:=pA) D FC b3 fun _ _ _ _ _ _ _ hr=>by unfold pA;exact (aw (eV (JW.t (v9 (fX (eF (pi (aj 0) rfl B.isinstance rfl B.int yw (by decide)))) (pf (eF (pi (aj 0) rfl B.isinstance rfl B.bool PyProof.Rows.boot_bool (by decide)))))) (aK (bD jD)) cB) (aK (bD (EL (BD) (BD) (aj 1) (aj 0) (aj 2)))))
abbrev nP:cp:=mE 25
abbrev xg:List Str:=["book_facts","thing","name","needs","bars","makes","ends","price"]
theorem hW:bu xg ["book_facts","thing"] (ax nP):=dk (by decide +kernel)
abbrev xh (e:En):=FN e "is_errand" 4 2 nw
theorem Dp (D:fP e.K e.mg "is_errand" nP) (B:Bi e.mg) (lS:wE e) (u4:zS e) (fE:nO e) (eS:lI e) (pV:Cn e.mg "MOST_PRICE" 9):xh e:=nq (k:=3) (g:=nu) D hW b2 fun _ _ _ _ _ _ _ hr=>by have hu64:=hr.units;unfold nu;exact (aw (eV (JW.t (v9 (fX (eF (pi (aj 1) rfl B.isinstance rfl B.tuple bi (by decide)))) (pf (cU (yV hu64) (JE.bor (bZ iq rfl B.len c9 (bx (aj 1) bY))) (JE.bor aG))))) (aK (bD jD)) cB) (aw (z0 (ai 1) (pp rfl (dg (cM 2 hW.nd) (dg (cM 3 hW.nd) (dg (cM 4 hW.nd) (dg (cM 5 hW.nd) (dg (cM 6 hW.nd) (dg (cM 7 hW.nd) lu)))))))) (aw (eV (JW.t (v9 (fX (eF (jc lS hr px (aa (ai 2) aD)))) (pf (fX (eF (jc u4 hr px (aa (ai 7) (aa aG (aa (v7 rfl pV) aD))))))))) (aK (bD jD)) cB) (aw (eV (fX (eF (bZ (o8 rfl) rfl B.all cz (bx (JE.bor (JN.je (dO (N':=["facts","book_facts"]) (ix:=[0]) 1 (by decide) rfl (bK (so:=ax nP) (N:=xg) (by decide +kernel)) (eI (JE.bor (k7 (aa (ai 3) (aa (ai 4) (aa (ai 5) (aa (ai 6) aD))))))) (fun cl A0 s0 H0 ex pn=>⟨cj (i:=0) (by show (["facts","book_facts"] : List Str).Nodup;decide +kernel) rfl (.inl rfl),f9,(jc fE hr dh (aa (ai 1) (aa (ai 0) aD)))⟩)))) bY)))) (aK (bD jD)) cB) (aK (bD (tU (jc eS hr px (aa (ai 3) (aa (ai 4) aD))) (tT (jc eS hr px (aa (ai 5) (aa (ai 6) aD)))))))))))
abbrev oP:cp:=mE 26
abbrev wF:List Str:=["thing","facts","errands"]
theorem u5:bu wF ["thing"] (ax oP):=dk (by decide +kernel)
abbrev C6 (e:En):=FN e "is_book" 5 1 sf
theorem H_ (D:fP e.K e.mg "is_book" oP) (B:Bi e.mg) (eK:j9 e) (rj:xh e) (pW:Cn e.mg "MOST_FACTS" 6) (mG:Cn e.mg "MOST_ERRANDS" 6):C6 e:=nq (k:=4) (g:=se) D u5 b1 fun _ _ _ _ _ _ _ hr=>by have hu1:=gI hr;have hu64:=hr.units;unfold se;exact (aw (eV (JW.t (v9 (fX (eF (pi (aj 0) rfl B.isinstance rfl B.tuple bi (by decide)))) (pf (cU (yV hu64) (JE.bor (bZ iq rfl B.len c9 (bx (aj 0) bY))) (JE.bor aG))))) (aK (bD jD)) cB) (aw (z0 (ai 0) (pp rfl (dg (cM 1 u5.nd) (dg (cM 2 u5.nd) lu)))) (aw (eV (JW.t (v9 (fX (eF (jc eK hr px (aa (ai 1) aD)))) (pf (cU (Sf) (JE.bor (bZ iq rfl B.len c9 (bx (aj 1) bY))) (JE.bor (v7 rfl pW)))))) (aK (bD jD)) cB) (aw (eV (JW.t (v9 (fX (eF (pi (aj 2) rfl B.isinstance rfl B.tuple bi (by decide)))) (pf (cU (Sf) (JE.bor (bZ iq rfl B.len c9 (bx (aj 2) bY))) (JE.bor (v7 rfl mG)))))) (aK (bD jD)) cB) (aw (eV (fX (eF (bZ (o8 rfl) rfl B.all cz (bx (JE.bor (JN.je (dO (N':=["errand","facts"]) (ix:=[1]) 1 (by decide) rfl (bK (so:=ax oP) (N:=wF) (by decide +kernel)) (eI (aj 2)) (fun cl A0 s0 H0 ex pn=>⟨cj (i:=0) (by show (["errand","facts"] : List Str).Nodup;decide +kernel) rfl (.inl rfl),f9,(jc rj hr dh (aa (ai 1) (aa (ai 0) aD)))⟩)))) bY)))) (aK (bD jD)) cB) (aK (bD (m5 (tj hu64) (JE.bor (L5 (Nz (N':=["errand"]) (ix:=[]) 1 (by decide) rfl (bK (so:=ax oP) (N:=wF) (by decide +kernel)) (eI (aj 2)) (fun cl A0 s0 H0 ex pn=>⟨cj (i:=0) (by show (["errand"] : List Str).Nodup;decide +kernel) rfl (.inl rfl),f9,(bT hu1 (aj 0) (JE.bor aG))⟩)) rfl B.len)) (JE.bor (bZ iq rfl B.len c9 (bx (aj 2) bY)))))))))))
abbrev wG:cp:=mE 27
abbrev LA:List Str:=["book","thing","must","bars"]
theorem u6:bu LA ["book","thing"] (ax wG):=dk (by decide +kernel)
abbrev C7 (e:En):=FN e "is_want" 4 2 si
theorem Ic (D:fP e.K e.mg "is_want" wG) (B:Bi e.mg) (fE:nO e) (eS:lI e):C7 e:=nq (k:=3) (g:=sg) D u6 b2 fun _ _ _ _ _ _ _ hr=>by have hu1:=gI hr;have hu64:=hr.units;unfold sg;exact (aw (eV (JW.t (v9 (fX (eF (pi (aj 1) rfl B.isinstance rfl B.tuple bi (by decide)))) (pf (cU (yV hu64) (JE.bor (bZ iq rfl B.len c9 (bx (aj 1) bY))) (JE.bor aG))))) (aK (bD jD)) cB) (aw (z0 (ai 1) (pp rfl (dg (cM 2 u6.nd) (dg (cM 3 u6.nd) lu)))) (aK (bD (tU (jc fE hr px (aa (bT hu1 (aj 0) (JE.bor aG)) (aa (ai 2) aD))) (tU (jc fE hr px (aa (bT hu1 (aj 0) (JE.bor aG)) (aa (ai 3) aD))) (tT (jc eS hr px (aa (ai 2) (aa (ai 3) aD))))))))))
abbrev oj:cp:=mE 28
abbrev AY:List Str:=["book","state"]
theorem zT:bu AY ["book","state"] (ax oj):=dk (by decide +kernel)
abbrev tu (e:En):=FN e "check_state" 4 2 ku
theorem zU (D:fP e.K e.mg "check_state" oj) (fE:nO e) (wH:ER e "NoState"):tu e:=nq (k:=3) (g:=kr) D zT b2 fun _ _ _ _ _ _ _ hr=>by have hu1:=gI hr;unfold kr;exact (aK (eV (fX (eF (jc fE hr px (aa (bT hu1 (aj 0) (JE.bor aG)) (aa (ai 1) aD))))) (aK (vi wH rfl (aa pd aD))) cB))
abbrev pX:cp:=mE 29
abbrev Dq:List Str:=["book","want"]
theorem AZ:bu Dq ["book","want"] (ax pX):=dk (by decide +kernel)
abbrev vC (e:En):=FN e "check_want" 5 2 lw
theorem A_ (D:fP e.K e.mg "check_want" pX) (wI:C7 e) (zV:ER e "NoWant"):vC e:=nq (k:=4) (g:=lv) D AZ b2 fun _ _ _ _ _ _ _ hr=>by unfold lv;exact (aK (eV (fX (eF (jc wI hr px (aa (ai 0) (aa (ai 1) aD))))) (aK (vi zV rfl (aa pd aD))) cB))
abbrev sD:cp:=mE 30
abbrev C8:List Str:=["state","want","must","bars"]
theorem u7:bu C8 ["state","want"] (ax sD):=dk (by decide +kernel)
abbrev sF (e:En):=FN e "fulfils" 2 2 lQ
theorem Ie (D:fP e.K e.mg "fulfils" sD) (B:Bi e.mg) (eS:lI e):sF e:=nq (k:=1) (g:=sj) D u7 b2 fun _ _ _ _ _ _ _ hr=>by unfold sj;exact (aw (z0 (ai 1) (pp rfl (dg (cM 2 u7.nd) (dg (cM 3 u7.nd) lu)))) (aK (bD (tU (bZ (o8 rfl) rfl B.all cz (bx (JE.bor (JN.je (dO (N':=["fact","state"]) (ix:=[0]) 1 (by decide) rfl (bK (so:=ax sD) (N:=C8) (by decide +kernel)) (eI (aj 2)) (fun cl A0 s0 H0 ex pn=>⟨cj (i:=0) (by show (["fact","state"] : List Str).Nodup;decide +kernel) rfl (.inl rfl),f9,(m5 (vc) (aj 0) (aj 1))⟩)))) bY)) (tT (jc eS hr px (aa (ai 3) (aa (ai 0) aD))))))))
abbrev rm:cp:=mE 31
abbrev FE:List Str:=["errand","state"]
theorem Dr:bu FE ["errand","state"] (ax rm):=dk (by decide +kernel)
abbrev xi (e:En):=FN e "is_doable" 3 2 nz
theorem Ds (D:fP e.K e.mg "is_doable" rm) (iJ:sF e):xi e:=nq (k:=2) (g:=ny) D Dr b2 fun _ _ _ _ _ _ _ hr=>by have hu1:=gI hr;unfold ny;exact (aK (bD (jc iJ hr px (aa (ai 1) (aa (k7 (aa (bT hu1 (aj 0) (JE.bor aG)) (aa (bT hu1 (aj 0) (JE.bor aG)) aD))) aD)))))
abbrev mH:cp:=mE 32
abbrev zW:List Str:=["errand","state","makes","ends"]
theorem qv:bu zW ["errand","state"] (ax mH):=dk (by decide +kernel)
abbrev rn (e:En):=FN e "state_behind" 2 2 jK
theorem xN (D:fP e.K e.mg "state_behind" mH) (wJ:C4 e) (zX:FA e):rn e:=nq (k:=1) (g:=jJ) D qv b2 fun _ _ _ _ _ _ _ hr=>by have hu1:=gI hr;unfold jJ;exact (aw (Uj 2 3 rfl qv.nd (aa (bT hu1 (aj 0) (JE.bor aG)) (aa (bT hu1 (aj 0) (JE.bor aG)) aD))) (aK (bD (jc zX hr px (aa (jc wJ hr px (aa (ai 1) (aa (ai 3) aD))) (aa (ai 2) aD))))))
abbrev wK:cp:=mE 33
abbrev LB:List Str:=["book"]
theorem Ig:bu LB ["book"] (ax wK):=dk (by decide +kernel)
abbrev C9 (e:En):=FN e "checked" 6 1 sr
theorem Ih (D:fP e.K e.mg "checked" wK) (wL:C6 e) (zY:ER e "NoBook"):C9 e:=nq (k:=5) (g:=sk) D Ig b1 fun _ _ _ _ _ _ _ hr=>by unfold sk;exact (aw (eV (fX (eF (jc wL hr px (aa (ai 0) aD)))) (aK (vi zY rfl (aa pd aD))) cB) (aK (bD (ai 0))))
abbrev om:cp:=mE 34
abbrev B0:List Str:=["book","state"]
theorem zZ:bu B0 ["book","state"] (ax om):=dk (by decide +kernel)
abbrev tw (e:En):=FN e "check_place" 7 2 kx
theorem z_ (D:fP e.K e.mg "check_place" om) (wM:C9 e) (oo:tu e):tw e:=nq (k:=6) (g:=kw) D zZ b2 fun _ _ _ _ _ _ _ hr=>by unfold kw;exact (aw (pj (jc wM hr px (aa (ai 0) aD))) (aK (pj (jc oo hr px (aa (ai 0) (aa (ai 1) aD))))))
abbrev ro:cp:=mE 35
abbrev FF:List Str:=["book","state","want"]
theorem Dt:bu FF ["book","state","want"] (ax ro):=dk (by decide +kernel)
abbrev rq (e:En):=FN e "check_aim" 8 3 kM
theorem Du (D:fP e.K e.mg "check_aim" ro) (oq:tw e) (pY:vC e):rq e:=nq (k:=7) (g:=nA) D Dt b3 fun _ _ _ _ _ _ _ hr=>by unfold nA;exact (aw (pj (jc oq hr px (aa (ai 0) (aa (ai 1) aD)))) (aK (pj (jc pY hr px (aa (ai 0) (aa (ai 2) aD))))))
abbrev lJ:cp:=mE 37
abbrev vD:List Str:=["book","state"]
theorem B1:bu vD ["book","state"] (ax lJ):=dk (by decide +kernel)
abbrev vE (e:En):=FN e "steps_from" 4 2 jL
theorem B2 (D:fP e.K e.mg "steps_from" lJ) (rz:xi e) (mI:rn e):vE e:=nq (k:=3) (g:=lz) D B1 b2 fun _ _ _ _ _ _ _ hr=>by have hu1:=gI hr;unfold lz;exact (aK (bD (JN.je (dO (N':=["errand","state"]) (ix:=[1]) 1 (by decide) rfl (bK (so:=ax lJ) (N:=vD) (by decide +kernel)) (eI (JE.bor (bT hu1 (aj 0) (JE.bor aG)))) (fun cl A0 s0 H0 ex pn=>⟨cj (i:=0) (by show (["errand","state"] : List Str).Nodup;decide +kernel) rfl (.inl rfl),(iG (eF (jc rz hr dh (aa (ai 0) (aa (ai 1) aD))))),(k7 (aa (ai 0) (aa (jc mI hr dh (aa (ai 0) (aa (ai 1) aD))) aD)))⟩)))))
abbrev pZ:cp:=mE 38
abbrev Dv:List Str:=["book","state","rows","ring","next_ring","at","errand","behind"]
theorem fF:bu Dv ["book","state"] (ax pZ):=dk (by decide +kernel)
abbrev p_ (e:En):=FN e "first_rows" 5 2 jM
theorem B3 (D:fP e.K e.mg "first_rows" pZ) (q0:vE e):p_ e:=nq (k:=4) (g:=lA) D fF b2 fun _ _ _ _ _ _ _ hr=>by have hu1:=gI hr;unfold lA;exact (aw (gG 2 (zz hu1 (ai 1) (jE aD)) fF.nd) (aw (gG 3 (pq (aa (ai 1) aD)) fF.nd) (aw (zg 100000 (Ou (aj 3)) (aw (gG 4 (pq aD) fF.nd) (aw (Je 3 rfl (cM 5 fF.nd) (aK (l8 rfl (yb (jc q0 hr dh (aa (ai 0) (aa (ai 5) aD)))) (pp rfl (dg (cM 6 fF.nd) (dg (cM 7 fF.nd) lu))) (aK (eV (cU (wx hu1) (aj 7) (aj 2)) (aw (zy 2 (bU cN (JE.bor (ww hu1 (aj 2) (aj 5))) (JE.bor (jE (aa (bT hu1 (aj 6) (JE.bor aG)) aD)))) (ai 7) hu1) (aK (jh 4 (ai 7)))) cB))))) (aK (Hz 4 (dR 3 (ai 4) fF.nd)))))) (aK (HE 2 (bD (ai 2)))))))
abbrev oQ:cp:=mE 39
abbrev wN:List Str:=["rows","want","fitting"]
theorem A1:bu wN ["rows","want"] (ax oQ):=dk (by decide +kernel)
abbrev Ca (e:En):=FN e "nearest" 3 2 sv
theorem Ii (D:fP e.K e.mg "nearest" oQ) (B:Bi e.mg) (iJ:sF e):Ca e:=nq (k:=2) (g:=su) D A1 b2 fun _ _ _ _ _ _ _ hr=>by have hu1:=gI hr;have hu64:=hr.units;unfold su;exact (aw (gG 2 (dO (N':=["at","want"]) (ix:=[1]) 1 (by decide) rfl (bK (so:=ax oQ) (N:=wN) (by decide +kernel)) (yf (aj 0)) (fun cl A0 s0 H0 ex pn=>⟨cj (i:=0) (by show (["at","want"] : List Str).Nodup;decide +kernel) rfl (.inl rfl),(iG (eF (jc iJ hr dh (aa (ai 0) (aa (ai 1) aD))))),(ai 0)⟩)) A1.nd) (aK (bD (JN.je (dO (N':=["at","rows","fitting"]) (ix:=[0,2]) 1 (by decide) rfl (bK (so:=ax oQ) (N:=wN) (by decide +kernel)) (eI (aj 2)) (fun cl A0 s0 H0 ex pn=>⟨cj (i:=0) (by show (["at","rows","fitting"] : List Str).Nodup;decide +kernel) rfl (.inl rfl),(iG (cU (tj hu64) (JE.bor (bZ iq rfl B.len c9 (bx (JE.bor (ww hu1 (aj 1) (aj 0))) bY))) (JE.bor (bZ iq rfl B.len c9 (bx (JE.bor (ww hu1 (aj 1) (JE.bor (bT hu1 (aj 2) (JE.bor aG))))) bY))))),(ai 0)⟩))))))
abbrev u9:cp:=mE 40
abbrev Ij:List Str:=["book","state","want","rows","goals"]
theorem rA:bu Ij ["book","state","want"] (ax u9):=dk (by decide +kernel)
abbrev A2 (e:En):=FN e "shortest" 9 3 mh
theorem FG (D:fP e.K e.mg "shortest" u9) (jj:rq e) (iK:p_ e) (wO:Ca e):A2 e:=nq (k:=8) (g:=pC) D rA b3 fun _ _ _ _ _ _ _ hr=>by have hu1:=gI hr;unfold pC;exact (aw (pj (jc jj hr px (aa (ai 0) (aa (ai 1) (aa (ai 2) aD))))) (aw (dR 3 (jc iK hr px (aa (ai 0) (aa (ai 1) aD))) rA.nd) (aw (dR 4 (jc wO hr px (aa (ai 3) (aa (ai 2) aD))) rA.nd) (aK (bD (VJ (Ou (aj 4)) (ww hu1 (aj 3) (JE.bor (bT hu1 (aj 4) (JE.bor aG)))) qX))))))
abbrev nQ:cp:=mE 42
abbrev xj:List Str:=["book","state","want"]
theorem Dw:bu xj ["book","state","want"] (ax nQ):=dk (by decide +kernel)
abbrev rE (e:En):=FN e "is_served" 6 3 kO
theorem Dx (D:fP e.K e.mg "is_served" nQ) (B:Bi e.mg) (iK:p_ e) (iJ:sF e):rE e:=nq (k:=5) (g:=nC) D Dw b3 fun _ _ _ _ _ _ _ hr=>by unfold nC;exact (aK (bD (bZ (yZ rfl) rfl B.any gS (bx (JE.bor (JN.je (dO (N':=["at","want"]) (ix:=[2]) 1 (by decide) rfl (bK (so:=ax nQ) (N:=xj) (by decide +kernel)) (yf (JE.bor (jc iK hr px (aa (ai 0) (aa (ai 1) aD))))) (fun cl A0 s0 H0 ex pn=>⟨cj (i:=0) (by show (["at","want"] : List Str).Nodup;decide +kernel) rfl (.inl rfl),f9,(jc iJ hr dh (aa (ai 0) (aa (ai 1) aD)))⟩)))) bY))))
abbrev mJ:cp:=mE 43
abbrev A3:List Str:=["book","state","want"]
theorem xO:bu A3 ["book","state","want"] (ax mJ):=dk (by decide +kernel)
abbrev rF (e:En):=FN e "check_served" 9 3 gJ
theorem xP (D:fP e.K e.mg "check_served" mJ) (jj:rq e) (jk:rE e) (Dy:ER e "NoWay"):rF e:=nq (k:=8) (g:=iy) D xO b3 fun _ _ _ _ _ _ _ hr=>by unfold iy;exact (aw (pj (jc jj hr px (aa (ai 0) (aa (ai 1) (aa (ai 2) aD))))) (aK (eV (fX (eF (jc jk hr px (aa (ai 0) (aa (ai 1) (aa (ai 2) aD)))))) (aK (vi Dy rfl (aa pd aD))) cB)))
abbrev nR:cp:=mE 44
abbrev xk:List Str:=["book","state","want","fact","others"]
theorem vF:bu xk ["book","state","want","fact"] (ax nR):=dk (by decide +kernel)
abbrev xl (e:En):=FN e "must_come" 7 4 nE
theorem Dz (D:fP e.K e.mg "must_come" nR) (B:Bi e.mg) (jk:rE e):xl e:=nq (k:=6) (g:=nD) D vF b4 fun _ _ _ _ _ _ _ hr=>by have hu1:=gI hr;unfold nD;exact (aw (dR 4 (f6 (ir rfl) rfl B.tuple bi (bx (JE.bor (JN.je (dO (N':=["errand","fact"]) (ix:=[3]) 1 (by decide) rfl (bK (so:=ax nR) (N:=xk) (by decide +kernel)) (eI (JE.bor (bT hu1 (aj 0) (JE.bor aG)))) (fun cl A0 s0 H0 ex pn=>⟨cj (i:=0) (by show (["errand","fact"] : List Str).Nodup;decide +kernel) rfl (.inl rfl),(iG (cU (qZ) (aj 1) (JE.bor (bT hu1 (aj 0) (JE.bor aG))))),(ai 0)⟩)))) bY)) vF.nd) (aK (bD (VI (m5 (vc) (aj 3) (aj 1)) (tT (CO (jc jk hr px (aa (k7 (aa (bT hu1 (aj 0) (JE.bor aG)) (aa (ai 4) aD))) (aa (ai 1) (aa (ai 2) aD))))))))))
abbrev nT:cp:=mE 45
abbrev xm:List Str:=["book","state","want"]
theorem DA:bu xm ["book","state","want"] (ax nT):=dk (by decide +kernel)
abbrev FH (e:En):=FN e "must_hold" 10 3 gU
theorem DB (D:fP e.K e.mg "must_hold" nT) (mK:rF e) (rG:xl e):FH e:=nq (k:=9) (g:=kP) D DA b3 fun _ _ _ _ _ _ _ hr=>by have hu1:=gI hr;unfold kP;exact (aw (pj (jc mK hr px (aa (ai 0) (aa (ai 1) (aa (ai 2) aD))))) (aK (bD (JN.je (dO (N':=["fact","book","state","want"]) (ix:=[0,1,2]) 1 (by decide) rfl (bK (so:=ax nT) (N:=xm) (by decide +kernel)) (eI (JE.bor (bT hu1 (aj 0) (JE.bor aG)))) (fun cl A0 s0 H0 ex pn=>⟨cj (i:=0) (by show (["fact","book","state","want"] : List Str).Nodup;decide +kernel) rfl (.inl rfl),(iG (eF (jc rG hr dh (aa (ai 1) (aa (ai 2) (aa (ai 3) (aa (ai 0) aD))))))),(ai 0)⟩))))))
abbrev ou:cp:=mE 47
abbrev B4:List Str:=["_law_script","_law_k"]
theorem A4:bu B4 ["_law_script","_law_k"] (ax ou):=dk (by decide +kernel)
abbrev tE (e:En):=FN e "_law_cell_at" 1 2 kA
theorem A5 (D:fP e.K e.mg "_law_cell_at" ou) (B:Bi e.mg):tE e:=nq (k:=0) (g:=kz) D A4 b2 fun _ _ _ _ _ _ _ hr=>by have hu1:=gI hr;have hu64:=hr.units;unfold kz;exact (aw (eV (cU (yW) (aj 1) (JE.bor (bZ iq rfl B.len c9 (bx (aj 0) bY)))) (aK (bD (bT hu1 (aj 0) (aj 1)))) cB) (aw (eV (cU (tj hu64) (aj 0) (JE.bor (jE aD))) (aK (bD aG)) cB) (aK (bD (bU cN (JE.bor (bU ph (JE.bor (bT hu1 (aj 0) (JE.bor (bU CQ (aj 1) (JE.bor (bZ iq rfl B.len c9 (bx (aj 0) bY))))))) (JE.bor aG))) (aj 1))))))
abbrev rH:cp:=mE 48
abbrev FI:List Str:=["_law_script","_law_k","_law_many","_law_drawn"]
theorem vG:bu FI ["_law_script","_law_k","_law_many"] (ax rH):=dk (by decide +kernel)
abbrev eW (e:En):=FN e "_law_mixed" 2 3 br
theorem DC (D:fP e.K e.mg "_law_mixed" rH) (oy:tE e):eW e:=nq (k:=1) (g:=nF) D vG b3 fun _ _ _ _ _ _ _ hr=>by unfold nF;exact (aw (dR 3 (bU CQ (JE.bor (bU ph (JE.bor (bU cN (JE.bor (bU cN (JE.bor (jc oy hr px (aa (ai 0) (aa (ai 1) aD)))) (JE.bor (bU ph (JE.bor aG) (aj 1))))) (JE.bor aG))) (JE.bor aG))) (JE.bor aG)) vG.nd) (aK (bD (bU CQ (JE.bor (bU CQ (JE.bor (bU cN (JE.bor (bU cN (JE.bor (bU ph (aj 3) (aj 3))) (JE.bor (bU ph (JE.bor aG) (aj 3))))) (aj 1))) (JE.bor aG))) (aj 2)))))
abbrev ua:cp:=mE 49
abbrev Ik:List Str:=["_law_script","_law_at","_law_made","_law_k"]
theorem nU:bu Ik ["_law_script","_law_at"] (ax ua):=dk (by decide +kernel)
abbrev ub (e:En):=FN e "_law_word" 3 2 k9
theorem FJ (D:fP e.K e.mg "_law_word" ua) (B:Bi e.mg) (aZ:eW e):ub e:=nq (k:=2) (g:=pE) D nU b2 fun _ _ _ _ _ _ _ hr=>by have hu1:=gI hr;unfold pE;exact (aw (dR 2 pd nU.nd) (aw (l8 rfl (m6 rfl B.range (bx (JE.bor (bT hu1 (JE.bor (jE (aa aG (aa aG (aa aG (aa aG (aa aG (aa aG aD)))))))) (JE.bor (jc aZ hr dh (aa (ai 0) (aa (ai 1) (aa aG aD))))))) bY)) (cM 3 nU.nd) (aK (dR 2 (bU cN (aj 2) (JE.bor (bT hu1 (JE.bor pd) (JE.bor (jc aZ hr dh (aa (ai 0) (aa (bU cN (JE.bor (bU cN (aj 1) (JE.bor aG))) (aj 3)) (aa aG aD)))))))) nU.nd))) (aK (bD (ai 2)))))
abbrev rJ:cp:=mE 50
abbrev FK:List Str:=["_law_script","_law_at","_law_most","_law_found","_law_k"]
theorem q8:bu FK ["_law_script","_law_at","_law_most"] (ax rJ):=dk (by decide +kernel)
abbrev xn (e:En):=FN e "_law_facts" 4 3 nI
theorem DD (D:fP e.K e.mg "_law_facts" rJ) (B:Bi e.mg) (ke:ub e) (aZ:eW e):xn e:=nq (k:=3) (g:=nG) D q8 b3 fun _ _ _ _ _ _ _ hr=>by have hu1:=gI hr;unfold nG;exact (aw (gG 3 Jb q8.nd) (aw (l8 rfl (m6 rfl B.range (bx (JE.bor (jc aZ hr dh (aa (ai 0) (aa (ai 1) (aa (bU cN (aj 2) (JE.bor aG)) aD))))) bY)) (cM 4 q8.nd) (aK (Jf 3 jD (jc ke hr dh (aa (ai 0) (aa (bU cN (JE.bor (bU cN (aj 1) (JE.bor aG))) (JE.bor (bU ph (JE.bor aG) (aj 4)))) aD))) hu1))) (aK (bD (f6 (ir rfl) rfl B.tuple bi (bx (JE.bor (bZ KZ rfl B.sorted wV (bx (JE.bor (f6 (zh rfl) rfl B.list ng (bx (aj 3) bY))) bY))) bY))))))
abbrev q9:cp:=mE 51
abbrev A6:List Str:=["_law_script","_law_at","_law_facts_here","_law_part"]
theorem FL:bu A6 ["_law_script","_law_at","_law_facts_here","_law_part"] (ax q9):=dk (by decide +kernel)
abbrev A7 (e:En):=FN e "_law_some" 3 4 pG
theorem FM (D:fP e.K e.mg "_law_some" q9) (B:Bi e.mg) (aZ:eW e):A7 e:=nq (k:=2) (g:=pF) D FL b4 fun _ _ _ _ _ _ _ hr=>by unfold pF;exact (aK (bD (f6 (ir rfl) rfl B.tuple bi (bx (JE.bor (JN.je (dO (N':=["_law_k","_law_fact","_law_script","_law_at","_law_part"]) (ix:=[0,1,3]) 2 (by decide) rfl (bK (so:=ax q9) (N:=A6) (by decide +kernel)) (LY.i (zb rfl B.enumerate (aa (ai 2) aD))) (fun cl A0 s0 H0 ex pn=>⟨GR rfl (qR (cj (i:=0) (by show (["_law_k","_law_fact","_law_script","_law_at","_law_part"] : List Str).Nodup;decide +kernel) rfl (.inl rfl)) (qR (cj (i:=1) (by show (["_law_k","_law_fact","_law_script","_law_at","_law_part"] : List Str).Nodup;decide +kernel) rfl (.inl rfl)) Cr)),(iG (cU (yW) (JE.bor (jc aZ hr dh (aa (ai 2) (aa (bU cN (aj 3) (aj 0)) (aa aG aD))))) (aj 4))),(ai 1)⟩)))) bY))))
abbrev kg:cp:=mE 52
abbrev qc:List Str:=["_law_script","_law_at","_law_facts_here","_law_name","_law_one","_law_two","_law_goal","_law_needs","_law_bars","_law_ends","_law_parts"]
theorem gX:bu qc ["_law_script","_law_at","_law_facts_here","_law_name"] (ax kg):=dk (by decide +kernel)
abbrev A8 (e:En):=FN e "_law_thin" 3 4 pI
theorem FO (D:fP e.K e.mg "_law_thin" kg) (B:Bi e.mg) (aZ:eW e):A8 e:=nq (k:=2) (g:=pH) D gX b4 fun _ _ _ _ _ _ _ hr=>by have hu1:=gI hr;have hu64:=hr.units;unfold pH;exact (aw (dR 4 (bT hu1 (aj 2) (JE.bor (jc aZ hr px (aa (ai 0) (aa (bU cN (aj 1) (JE.bor aG)) (aa (bZ iq rfl B.len c9 (bx (aj 2) bY)) aD)))))) gX.nd) (aw (dR 5 (bT hu1 (aj 2) (JE.bor (jc aZ hr px (aa (ai 0) (aa (bU cN (aj 1) (JE.bor aG)) (aa (bZ iq rfl B.len c9 (bx (aj 2) bY)) aD)))))) gX.nd) (aw (dR 6 (bT hu1 (aj 2) (JE.bor (jc aZ hr px (aa (ai 0) (aa (bU cN (aj 1) (JE.bor aG)) (aa (bZ iq rfl B.len c9 (bx (aj 2) bY)) aD)))))) gX.nd) (aw (dR 7 (q_ (JE.bor (jE (aa (ai 4) (aa (ai 5) aD)))) y9 (rX (bU cN (JE.bor aG) (JE.bor (bU QD (JE.bor (jc aZ hr px (aa (ai 0) (aa (bU cN (aj 1) (JE.bor aG)) (aa aG aD))))) (JE.bor aG)))))) gX.nd) (aw (j6 8 (N':=["_law_fact","_law_needs","_law_script","_law_at"]) (ix:=[7,0,1]) 1 (by decide) gX.nd rfl (bK (so:=ax kg) (N:=qc) (by decide +kernel)) (eI (JE.bor (jE (aa (ai 6) aD)))) (fun cl A0 s0 H0 ex pn=>⟨cj (i:=0) (by show (["_law_fact","_law_needs","_law_script","_law_at"] : List Str).Nodup;decide +kernel) rfl (.inl rfl),(iG (JW.t (wp (cU (qZ) (aj 0) (aj 1)) (v8 (cU (tj hu64) (JE.bor (jc aZ hr dh (aa (ai 2) (aa (bU cN (aj 3) (JE.bor aG)) (aa aG aD))))) (JE.bor aG)))))),(ai 0)⟩)) (aw (j6 9 (N':=["_law_fact","_law_goal","_law_script","_law_at"]) (ix:=[6,0,1]) 1 (by decide) gX.nd rfl (bK (so:=ax kg) (N:=qc) (by decide +kernel)) (eI (JE.bor (jE (aa (ai 4) aD)))) (fun cl A0 s0 H0 ex pn=>⟨cj (i:=0) (by show (["_law_fact","_law_goal","_law_script","_law_at"] : List Str).Nodup;decide +kernel) rfl (.inl rfl),(iG (JW.t (wp (cU (yV hu64) (aj 0) (aj 1)) (v8 (cU (tj hu64) (JE.bor (jc aZ hr dh (aa (ai 2) (aa (bU cN (aj 3) (JE.bor aG)) (aa aG aD))))) (JE.bor aG)))))),(ai 0)⟩)) (aw (Hz 8 (Hz 9 (j6 10 (N':=["_law_part"]) (ix:=[]) 1 (by decide) gX.nd rfl (bK (so:=ax kg) (N:=qc) (by decide +kernel)) (eI (JE.bor (k7 (aa (ai 7) (aa (ai 8) (aa (jE (aa (ai 6) aD)) (aa (ai 9) aD))))))) (fun cl A0 s0 H0 ex pn=>⟨cj (i:=0) (by show (["_law_part"] : List Str).Nodup;decide +kernel) rfl (.inl rfl),f9,(f6 (ir rfl) rfl B.tuple bi (bx (JE.bor (tX rfl (D1 rfl (aj 0) rfl B.set) rfl B.sorted)) bY))⟩)))) (aK (bD (k7 (aa (ai 3) (aa (bT hu1 (aj 10) (JE.bor aG)) (aa (bT hu1 (aj 10) (JE.bor aG)) (aa (bT hu1 (aj 10) (JE.bor aG)) (aa (bT hu1 (aj 10) (JE.bor aG)) (aa (jc aZ hr px (aa (ai 0) (aa (ai 1) (aa aG aD)))) aD))))))))))))))))
abbrev lK:cp:=mE 53
abbrev vH:List Str:=["_law_script","_law_at","_law_facts_here","_law_name","_law_parts","_law_k","_law_fact","_law_way","_law_some_here"]
theorem gC:bu vH ["_law_script","_law_at","_law_facts_here","_law_name"] (ax lK):=dk (by decide +kernel)
abbrev vI (e:En):=FN e "_law_errand" 4 4 iI
theorem B5 (D:fP e.K e.mg "_law_errand" lK) (B:Bi e.mg) (aZ:eW e) (uc:A8 e):vI e:=nq (k:=3) (g:=iH) D gC b4 fun _ _ _ _ _ _ _ hr=>by have hu1:=gI hr;have hu64:=hr.units;unfold iH;exact (aw (eV (JW.t (wp (cU (yV hu64) (aj 2) (JE.bor (k7 aD))) (v8 (cU (tj hu64) (JE.bor (jc aZ hr px (aa (ai 0) (aa aG (aa aG aD))))) (JE.bor aG))))) (aK (bD (jc uc hr px (aa (ai 0) (aa (ai 1) (aa (ai 2) (aa (ai 3) aD))))))) cB) (aw (U7 4 gC.nd) (aw (l8 rfl (zb rfl B.enumerate (aa (ai 2) aD)) (pp rfl (dg (cM 5 gC.nd) (dg (cM 6 gC.nd) lu))) (aw (dR 7 (jc aZ hr dh (aa (ai 0) (aa (bU cN (JE.bor (bU cN (aj 1) (JE.bor aG))) (aj 5)) (aa aG aD)))) gC.nd) (aw (eV (cU (yW) (aj 7) (JE.bor aG)) (aK (zm 4 (bT hu1 (JE.bor (jE (aa aG (aa aG (aa aG aD))))) (aj 7)) (ai 6))) cB) (aw (dR 7 (jc aZ hr dh (aa (ai 0) (aa (bU cN (JE.bor (bU cN (aj 1) (JE.bor aG))) (aj 5)) (aa aG aD)))) gC.nd) (aK (eV (cU (yW) (aj 7) (JE.bor aG)) (aK (zm 4 (bT hu1 (JE.bor (jE (aa aG (aa aG (aa aG (aa aG aD)))))) (aj 7)) (ai 6))) cB)))))) (aw (NA (j6 8 (N':=["_law_part"]) (ix:=[]) 1 (by decide) gC.nd rfl (bK (so:=ax lK) (N:=vH) (by decide +kernel)) (eI (aj 4)) (fun cl A0 s0 H0 ex pn=>⟨cj (i:=0) (by show (["_law_part"] : List Str).Nodup;decide +kernel) rfl (.inl rfl),f9,(f6 (ir rfl) rfl B.tuple bi (bx (aj 0) bY))⟩))) (aK (bD (k7 (aa (ai 3) (aa (bT hu1 (aj 8) (JE.bor aG)) (aa (bT hu1 (aj 8) (JE.bor aG)) (aa (bT hu1 (aj 8) (JE.bor aG)) (aa (bT hu1 (aj 8) (JE.bor aG)) (aa (jc aZ hr px (aa (ai 0) (aa (ai 1) (aa aG aD)))) aD)))))))))))))
abbrev qd:cp:=mE 54
abbrev A9:List Str:=["_law_script","_law_at","_law_most","_law_many","_law_facts_here","_law_made","_law_k","_law_name","_law_names","_law_turn"]
theorem iA:bu A9 ["_law_script","_law_at","_law_most","_law_many"] (ax qd):=dk (by decide +kernel)
abbrev Aa (e:En):=FN e "_law_book" 5 4 mj
theorem FP (D:fP e.K e.mg "_law_book" qd) (B:Bi e.mg) (rK:xn e) (ke:ub e) (qe:vI e) (aZ:eW e):Aa e:=nq (k:=4) (g:=mi) D iA b4 fun _ _ _ _ _ _ _ hr=>by have hu1:=gI hr;unfold mi;exact (aw (dR 4 (jc rK hr px (aa (ai 0) (aa (ai 1) (aa (ai 2) aD)))) iA.nd) (aw (gG 5 Jb iA.nd) (aw (l8 rfl (m6 rfl B.range (bx (JE.bor (jc aZ hr dh (aa (ai 0) (aa (bU cN (aj 1) (JE.bor aG)) (aa (bU cN (aj 3) (JE.bor aG)) aD))))) bY)) (cM 6 iA.nd) (aw (dR 7 (jc ke hr dh (aa (ai 0) (aa (bU cN (JE.bor (bU cN (aj 1) (JE.bor aG))) (JE.bor (bU ph (JE.bor aG) (aj 6)))) aD))) iA.nd) (aK (Jf 5 (jc qe hr dh (aa (ai 0) (aa (bU cN (JE.bor (bU cN (aj 1) (JE.bor aG))) (JE.bor (bU ph (JE.bor aG) (aj 6)))) (aa (ai 4) (aa (ai 7) aD))))) (ai 7) hu1)))) (aw (dR 8 (f6 (zh rfl) rfl B.list ng (bx (aj 5) bY)) iA.nd) (aw (dR 9 (jc aZ hr px (aa (ai 0) (aa (bU cN (aj 1) (JE.bor aG)) (aa (bU cN (JE.bor (bZ iq rfl B.len c9 (bx (aj 8) bY))) (JE.bor aG)) aD)))) iA.nd) (aK (bD (k7 (aa (ai 4) (aa (f6 (ir rfl) rfl B.tuple bi (bx (JE.bor (JN.je (dO (N':=["_law_name","_law_made"]) (ix:=[5]) 1 (by decide) rfl (bK (so:=ax qd) (N:=A9) (by decide +kernel)) (eI (JE.bor (bU cN (JE.bor (q_ (aj 8) (rX (ai 9)) y9)) (JE.bor (q_ (aj 8) y9 (rX (ai 9))))))) (fun cl A0 s0 H0 ex pn=>⟨cj (i:=0) (by show (["_law_name","_law_made"] : List Str).Nodup;decide +kernel) rfl (.inl rfl),f9,(bT hu1 (aj 1) (aj 0))⟩)))) bY)) aD))))))))))
abbrev ud:cp:=mE 55
abbrev Il:List Str:=["_law_script","_law_at","_law_facts_here","_law_must","_law_bars","_law_k","_law_fact","_law_way"]
theorem jl:bu Il ["_law_script","_law_at","_law_facts_here"] (ax ud):=dk (by decide +kernel)
abbrev Ab (e:En):=FN e "_law_want" 3 3 t_
theorem FQ (D:fP e.K e.mg "_law_want" ud) (B:Bi e.mg) (aZ:eW e):Ab e:=nq (k:=2) (g:=ml) D jl b3 fun _ _ _ _ _ _ _ hr=>by have hu64:=hr.units;unfold ml;exact (aw (gG 3 (pq aD) jl.nd) (aw (gG 4 (pq aD) jl.nd) (aw (l8 rfl (zb rfl B.enumerate (aa (ai 2) aD)) (pp rfl (dg (cM 5 jl.nd) (dg (cM 6 jl.nd) lu))) (aw (dR 7 (jc aZ hr dh (aa (ai 0) (aa (bU cN (aj 1) (aj 5)) (aa aG aD)))) jl.nd) (aK (eV (cU (yW) (aj 7) (JE.bor aG)) (aK (jh 3 (ai 6))) (aK (eV (cU (tj hu64) (aj 7) (JE.bor aG)) (aK (jh 4 (ai 6))) cB)))))) (aK (bD (k7 (aa (f6 (ir rfl) rfl B.tuple bi (bx (aj 3) bY)) (aa (f6 (ir rfl) rfl B.tuple bi (bx (aj 4) bY)) aD))))))))
abbrev ue:cp:=mE 56
abbrev Im:List Str:=["_law_script","_law_most","_law_many","_law_book_here","_law_state"]
theorem rL:bu Im ["_law_script","_law_most","_law_many"] (ax ue):=dk (by decide +kernel)
abbrev Ac (e:En):=FN e "_law_case" 6 3 mn
theorem FR (D:fP e.K e.mg "_law_case" ue) (uf:Aa e) (aZ:eW e) (ug:A7 e) (uh:Ab e):Ac e:=nq (k:=5) (g:=pJ) D rL b3 fun _ _ _ _ _ _ _ hr=>by have hu1:=gI hr;unfold pJ;exact (aw (dR 3 (jc uf hr px (aa (ai 0) (aa aG (aa (ai 1) (aa (ai 2) aD))))) rL.nd) (aw (dR 4 (jc ug hr px (aa (ai 0) (aa aG (aa (bT hu1 (aj 3) (JE.bor aG)) (aa (bT hu1 (JE.bor (jE (aa aG (aa aG aD)))) (JE.bor (jc aZ hr px (aa (ai 0) (aa aG (aa aG aD)))))) aD))))) rL.nd) (aK (bD (k7 (aa (ai 3) (aa (ai 4) (aa (jc uh hr px (aa (ai 0) (aa aG (aa (bT hu1 (aj 3) (JE.bor aG)) aD)))) aD))))))))
abbrev mL:cp:=mE 57
abbrev ui:List Str:=["_law_state","_law_want_here"]
theorem FS:bu ui ["_law_state","_law_want_here"] (ax mL):=dk (by decide +kernel)
abbrev mM (e:En):=FN e "_law_good" 1 2 gz
theorem FU (D:fP e.K e.mg "_law_good" mL) (B:Bi e.mg):mM e:=nq (k:=0) (g:=pK) D FS b2 fun _ _ _ _ _ _ _ hr=>by have hu1:=gI hr;unfold pK;exact (aK (bD (tU (bZ (o8 rfl) rfl B.all cz (bx (JE.bor (JN.je (dO (N':=["_law_fact","_law_state"]) (ix:=[0]) 1 (by decide) rfl (bK (so:=ax mL) (N:=ui) (by decide +kernel)) (eI (JE.bor (bT hu1 (aj 1) (JE.bor aG)))) (fun cl A0 s0 H0 ex pn=>⟨cj (i:=0) (by show (["_law_fact","_law_state"] : List Str).Nodup;decide +kernel) rfl (.inl rfl),f9,(m5 (vc) (aj 0) (aj 1))⟩)))) bY)) (tT (CO (bZ (yZ rfl) rfl B.any gS (bx (JE.bor (JN.je (dO (N':=["_law_fact","_law_state"]) (ix:=[0]) 1 (by decide) rfl (bK (so:=ax mL) (N:=ui) (by decide +kernel)) (eI (JE.bor (bT hu1 (aj 1) (JE.bor aG)))) (fun cl A0 s0 H0 ex pn=>⟨cj (i:=0) (by show (["_law_fact","_law_state"] : List Str).Nodup;decide +kernel) rfl (.inl rfl),f9,(m5 (vc) (aj 0) (aj 1))⟩)))) bY)))))))
abbrev qf:cp:=mE 58
abbrev Ad:List Str:=["_law_errand_here","_law_state","_law_left"]
theorem xo:bu Ad ["_law_errand_here","_law_state"] (ax qf):=dk (by decide +kernel)
abbrev mO (e:En):=FN e "_law_step" 2 2 dC
theorem FV (D:fP e.K e.mg "_law_step" qf) (B:Bi e.mg) (fg:mM e):mO e:=nq (k:=1) (g:=pL) D xo b2 fun _ _ _ _ _ _ _ hr=>by have hu1:=gI hr;unfold pL;exact (aw (eV (fX (eF (jc fg hr px (aa (ai 1) (aa (q_ (aj 0) (rX aG) (rX aG)) aD))))) (aK (bD qX)) cB) (aw (j6 2 (N':=["_law_fact","_law_errand_here"]) (ix:=[0]) 1 (by decide) xo.nd rfl (bK (so:=ax qf) (N:=Ad) (by decide +kernel)) (eI (aj 1)) (fun cl A0 s0 H0 ex pn=>⟨cj (i:=0) (by show (["_law_fact","_law_errand_here"] : List Str).Nodup;decide +kernel) rfl (.inl rfl),(iG (cU (qZ) (aj 0) (JE.bor (bT hu1 (aj 1) (JE.bor aG))))),(ai 0)⟩)) (aK (bD (f6 (ir rfl) rfl B.tuple bi (bx (JE.bor (tX rfl (D1 rfl (JE.bor (bU cN (aj 2) (JE.bor (f6 (zh rfl) rfl B.list ng (bx (JE.bor (bT hu1 (aj 0) (JE.bor aG))) bY))))) rfl B.set) rfl B.sorted)) bY))))))
abbrev qg:cp:=mE 59
abbrev DE:List Str:=["_law_book_here","_law_state","_law_met","_law_row","_law_at","_law_errand_here","_law_other"]
theorem gD:bu DE ["_law_book_here","_law_state"] (ax qg):=dk (by decide +kernel)
abbrev vJ (e:En):=FN e "_law_levels" 3 2 lC
theorem B6 (D:fP e.K e.mg "_law_levels" qg) (B:Bi e.mg) (eL:mO e):vJ e:=nq (k:=2) (g:=lB) D gD b2 fun _ _ _ _ _ _ _ hr=>by have hu1:=gI hr;unfold lB;exact (aw (gG 2 (zz hu1 (ai 1) aG) gD.nd) (aw (gG 3 (pq (aa (ai 1) aD)) gD.nd) (aw (dR 4 aG gD.nd) (aw (zg 100000 (cU (yW) (aj 4) (JE.bor (bZ iq rfl B.len c9 (bx (aj 3) bY)))) (aw (l8 rfl (yb (bT hu1 (aj 0) (JE.bor aG))) (cM 5 gD.nd) (aw (dR 6 (jc eL hr dh (aa (ai 5) (aa (bT hu1 (aj 3) (aj 4)) aD))) gD.nd) (aK (eV (JW.t (wp (cU (yY) (aj 6) (JE.bor qX)) (v8 (cU (wx hu1) (aj 6) (aj 2))))) (aw (zy 2 (bU cN (JE.bor (ww hu1 (aj 2) (JE.bor (bT hu1 (aj 3) (aj 4))))) (JE.bor aG)) (ai 6) hu1) (aK (jh 3 (ai 6)))) cB)))) (aK (dR 4 (bU cN (aj 4) (JE.bor aG)) gD.nd)))) (aK (HE 2 (bD (ai 2))))))))
abbrev sG:cp:=mE 60
abbrev Cb:List Str:=["_law_book_here","_law_state","_law_want_here","_law_met","_law_some_here"]
theorem uj:bu Cb ["_law_book_here","_law_state","_law_want_here"] (ax sG):=dk (by decide +kernel)
abbrev Cc (e:En):=FN e "_law_far" 4 3 lR
theorem Io (D:fP e.K e.mg "_law_far" sG) (B:Bi e.mg) (qh:vJ e) (fg:mM e):Cc e:=nq (k:=3) (g:=sw) D uj b3 fun _ _ _ _ _ _ _ hr=>by have hu1:=gI hr;have hu64:=hr.units;unfold sw;exact (aw (dR 3 (jc qh hr px (aa (ai 0) (aa (ai 1) aD))) uj.nd) (aw (j6 4 (N':=["_law_one","_law_want_here","_law_met"]) (ix:=[2,3]) 1 (by decide) uj.nd rfl (bK (so:=ax sG) (N:=Cb) (by decide +kernel)) (yf (aj 3)) (fun cl A0 s0 H0 ex pn=>⟨cj (i:=0) (by show (["_law_one","_law_want_here","_law_met"] : List Str).Nodup;decide +kernel) rfl (.inl rfl),(iG (eF (jc fg hr dh (aa (ai 0) (aa (ai 1) aD))))),(ww hu1 (aj 2) (aj 0))⟩)) (aw (eV (cU (tj hu64) (aj 4) (JE.bor (jE aD))) (aK (bD qX)) cB) (aK (bD (bZ (Us rfl) rfl B.min PyProof.Rows.boot_min (bx (aj 4) bY)))))))
abbrev qi:cp:=mE 61
abbrev Ae:List Str:=["_law_script","_law_at","_law_book_here","_law_state","_law_many","_law_row","_law_k","_law_some_here","_law_errand_here"]
theorem jm:bu Ae ["_law_script","_law_at","_law_book_here","_law_state","_law_many"] (ax qi):=dk (by decide +kernel)
abbrev Af (e:En):=FN e "_law_walk" 3 5 mq
theorem FW (D:fP e.K e.mg "_law_walk" qi) (B:Bi e.mg) (eL:mO e) (aZ:eW e):Af e:=nq (k:=2) (g:=pM) D jm b5 fun _ _ _ _ _ _ _ hr=>by have hu1:=gI hr;have hu64:=hr.units;unfold pM;exact (aw (gG 5 (pq aD) jm.nd) (aw (l8 rfl (m6 rfl B.range (bx (aj 4) bY)) (cM 6 jm.nd) (aw (j6 7 (N':=["_law_errand_here","_law_state"]) (ix:=[3]) 1 (by decide) jm.nd rfl (bK (so:=ax qi) (N:=Ae) (by decide +kernel)) (eI (JE.bor (bT hu1 (aj 2) (JE.bor aG)))) (fun cl A0 s0 H0 ex pn=>⟨cj (i:=0) (by show (["_law_errand_here","_law_state"] : List Str).Nodup;decide +kernel) rfl (.inl rfl),(iG (cU (yY) (JE.bor (jc eL hr dh (aa (ai 0) (aa (ai 1) aD)))) (JE.bor qX))),(ai 0)⟩)) (aw (eV (cU (tj hu64) (aj 7) (JE.bor (jE aD))) (aK (bD (ai 5))) cB) (aw (dR 8 (bT hu1 (aj 7) (JE.bor (jc aZ hr dh (aa (ai 0) (aa (bU cN (aj 1) (aj 6)) (aa (bZ iq rfl B.len c9 (bx (aj 7) bY)) aD)))))) jm.nd) (aw (jh 5 (bT hu1 (aj 8) (JE.bor aG))) (aK (dR 3 (jc eL hr dh (aa (ai 8) (aa (ai 3) aD))) jm.nd))))))) (aK (bD (ai 5)))))
abbrev lL:cp:=mE 62
abbrev vK:List Str:=["_law_book_here","_law_state","_law_row","_law_named","_law_found","_law_number","_law_name","_law_other"]
theorem i0:bu vK ["_law_book_here","_law_state","_law_row"] (ax lL):=dk (by decide +kernel)
abbrev qj (e:En):=FN e "_law_states" 3 3 g6
theorem B7 (D:fP e.K e.mg "_law_states" lL) (B:Bi e.mg) (eL:mO e):qj e:=nq (k:=2) (g:=lE) D i0 b3 fun _ _ _ _ _ _ _ hr=>by have hu1:=gI hr;unfold lE;exact (aw (gG 3 (Lb rfl (JN.je (dO (N':=["_law_errand_here"]) (ix:=[]) 1 (by decide) rfl (bK (so:=ax lL) (N:=vK) (by decide +kernel)) (eI (JE.bor (bT hu1 (aj 0) (JE.bor aG)))) (fun cl A0 s0 H0 ex pn=>⟨cj (i:=0) (by show (["_law_errand_here"] : List Str).Nodup;decide +kernel) rfl (.inl rfl),f9,(k7 (aa (bT hu1 (aj 0) (JE.bor aG)) (aa (ai 0) aD)))⟩))) rfl B.dict) i0.nd) (aw (gG 4 (pq (aa (ai 1) aD)) i0.nd) (aw (l8 rfl (Lc rfl B.enumerate (aa (ai 2) aD)) (pp rfl (dg (cM 5 i0.nd) (dg (cM 6 i0.nd) lu))) (aw (dR 7 (jc eL hr dh (aa (bT hu1 (aj 3) (aj 6)) (aa (bT hu1 (aj 4) (JE.bor (Ny aG))) aD))) i0.nd) (aw (eV (cU (Sg) (aj 7) (JE.bor qX)) (aK (bD (ai 5))) cB) (aK (jh 4 (ai 7)))))) (aK (bD (ai 4))))))
abbrev uk:cp:=mE 63
abbrev Ip:List Str:=["_law_book_here","_law_state","_law_want_here","_law_row","_law_found"]
theorem xp:bu Ip ["_law_book_here","_law_state","_law_want_here","_law_row"] (ax uk):=dk (by decide +kernel)
abbrev Ag (e:En):=FN e "_law_does" 4 4 mr
theorem FX (D:fP e.K e.mg "_law_does" uk) (B:Bi e.mg) (iL:qj e) (fg:mM e):Ag e:=nq (k:=3) (g:=pO) D xp b4 fun _ _ _ _ _ _ _ hr=>by have hu1:=gI hr;unfold pO;exact (aw (dR 4 (jc iL hr px (aa (ai 0) (aa (ai 1) (aa (ai 3) aD)))) xp.nd) (aK (bD (tU (CO (pi (aj 4) rfl B.isinstance rfl B.int yw (by decide))) (tT (jc fg hr px (aa (bT hu1 (aj 4) (JE.bor (Ny aG))) (aa (ai 2) aD))))))))
abbrev qk:cp:=mE 66
abbrev Ah:List Str:=["_law_book_here","_law_state","_law_want_here","_law_fact","_law_met","_law_row","_law_one","_law_errand_here","_law_other"]
theorem jn:bu Ah ["_law_book_here","_law_state","_law_want_here","_law_fact"] (ax qk):=dk (by decide +kernel)
abbrev Ai (e:En):=FN e "_law_past" 3 4 ms
theorem FY (D:fP e.K e.mg "_law_past" qk) (B:Bi e.mg) (eL:mO e) (fg:mM e):Ai e:=nq (k:=2) (g:=pP) D jn b4 fun _ _ _ _ _ _ _ hr=>by have hu1:=gI hr;have hu64:=hr.units;unfold pP;exact (aw (eV (cU (vc) (aj 3) (aj 1)) (aK (bD jD)) cB) (aw (gG 4 (zz hu1 (ai 1) jD) jn.nd) (aw (gG 5 (pq (aa (ai 1) aD)) jn.nd) (aw (zg 100000 (cU (yV hu64) (aj 5) (JE.bor (jE aD))) (aw (Ut 6 5 jn.nd) (aK (l8 rfl (yb (bT hu1 (aj 0) (JE.bor aG))) (cM 7 jn.nd) (aw (dR 8 (jc eL hr dh (aa (ai 7) (aa (ai 6) aD))) jn.nd) (aK (eV (JW.t (wp (cU (yY) (aj 8) (JE.bor qX)) (wp (cU (qZ) (aj 3) (aj 8)) (v8 (cU (wx hu1) (aj 8) (aj 4)))))) (aw (zy 4 jD (ai 8) hu1) (aK (jh 5 (ai 8)))) cB))))))) (aK (HE 4 (bD (bZ (yZ rfl) rfl B.any gS (bx (JE.bor (JN.je (dO (N':=["_law_one","_law_want_here"]) (ix:=[2]) 1 (by decide) rfl (bK (so:=ax qk) (N:=Ah) (by decide +kernel)) (yf (aj 4)) (fun cl A0 s0 H0 ex pn=>⟨cj (i:=0) (by show (["_law_one","_law_want_here"] : List Str).Nodup;decide +kernel) rfl (.inl rfl),f9,(jc fg hr dh (aa (ai 0) (aa (ai 1) aD)))⟩)))) bY)))))))))
abbrev rM:cp:=mE 67
abbrev K8:List Str:=["_law_script","_law_book_here","_law_state","_law_want_here","_law_told","_law_rows","_law_k","_law_row","_law_states_here"]
theorem ql:bu K8 ["_law_script"] (ax rM):=dk (by decide +kernel)
theorem UX {f:ah}{fd:dL} (F:Ee e.K "law" "law" rM f fd) (B:Bi e.mg) (ul:Ac e) (wP:Cc e) (um:Ai e) (uo:A2 e) (aZ:eW e) (uq:Af e) (ur:Ag e) (iL:qj e) (T_law_told_three_must_hold:FT e "_law_told_three" "must_hold" 11 3 (zr R9 gU)):sO e.P e.w e.K e.mg e.base (mR e.P e.w) 12 f fd ["_law_script"] (Sk e.K e.cls 1 F_law):=by
 refine Sn (k:=11) (g:=JJ) F ql fun cdv A outer s H E hr=>?_
 have hu1:=gI hr
 have hu64:=hr.units
 unfold JJ
 exact (aw (z0 (jc ul hr px (aa (ai 0) (aa aG (aa aG aD)))) (pp rfl (dg (cM 1 ql.nd) (dg (cM 2 ql.nd) (dg (cM 3 ql.nd) lu))))) (aw (dR 4 (jd T_law_told_three_must_hold hr px (aa (ai 1) (aa (ai 2) (aa (ai 3) aD)))) ql.nd) (aw (eV (cU (Sg) (JE.bor (jc wP hr px (aa (ai 1) (aa (ai 2) (aa (ai 3) aD))))) (JE.bor qX)) (aK (bD (m5 (tj hu64) (aj 4) (JE.bor (k7 (aa pd (aa aG aD))))))) cB) (aw (eV (cU (yV hu64) (aj 4) (JE.bor (JN.je (dO (N':=["_law_fact","_law_book_here","_law_state","_law_want_here"]) (ix:=[1,2,3]) 1 (by decide) rfl (bK (so:=ax rM) (N:=K8) (by decide +kernel)) (eI (JE.bor (bT hu1 (aj 1) (JE.bor aG)))) (fun cl A0 s0 H0 ex pn=>⟨cj (i:=0) (by show (["_law_fact","_law_book_here","_law_state","_law_want_here"] : List Str).Nodup;decide +kernel) rfl (.inl rfl),(iG (fX (eF (jc um hr dh (aa (ai 1) (aa (ai 2) (aa (ai 3) (aa (ai 0) aD)))))))),(ai 0)⟩))))) (aK (bD jD)) cB) (aw (eV (fX (eF (bZ (o8 rfl) rfl B.all cz (bx (JE.bor (JN.je (dO (N':=["_law_fact","_law_told"]) (ix:=[4]) 1 (by decide) rfl (bK (so:=ax rM) (N:=K8) (by decide +kernel)) (eI (JE.bor (bU cN (aj 2) (JE.bor (bT hu1 (aj 3) (JE.bor aG)))))) (fun cl A0 s0 H0 ex pn=>⟨cj (i:=0) (by show (["_law_fact","_law_told"] : List Str).Nodup;decide +kernel) rfl (.inl rfl),f9,(m5 (vc) (aj 0) (aj 1))⟩)))) bY)))) (aK (bD jD)) cB) (aw (gG 5 (pq (aa (jc uo hr px (aa (ai 1) (aa (ai 2) (aa (ai 3) aD)))) aD)) ql.nd) (aw (l8 rfl (m6 rfl B.range (bx (JE.bor aG) bY)) (cM 6 ql.nd) (aK (jh 5 (jc uq hr dh (aa (ai 0) (aa (bU cN (JE.bor aG) (JE.bor (bU ph (JE.bor aG) (aj 6)))) (aa (ai 1) (aa (ai 2) (aa (jc aZ hr dh (aa (ai 0) (aa (ai 6) (aa aG aD)))) aD))))))))) (aw (Je 5 rfl (cM 7 ql.nd) (aK (eV (eF (jc ur hr dh (aa (ai 1) (aa (ai 2) (aa (ai 3) (aa (ai 7) aD)))))) (aw (dR 8 (jc iL hr dh (aa (ai 1) (aa (ai 2) (aa (ai 7) aD)))) ql.nd) (aK (eV (fX (eF (bZ (o8 rfl) rfl B.all cz (bx (JE.bor (JN.je (dO (N':=["_law_fact","_law_states_here"]) (ix:=[8]) 1 (by decide) rfl (bK (so:=ax rM) (N:=K8) (by decide +kernel)) (eI (aj 4)) (fun cl A0 s0 H0 ex pn=>⟨cj (i:=0) (by show (["_law_fact","_law_states_here"] : List Str).Nodup;decide +kernel) rfl (.inr rfl),f9,(bZ (yZ rfl) rfl B.any gS (bx (JE.bor (JN.je (dO (N':=["_law_one","_law_fact"]) (ix:=[0]) 1 (by decide) rfl (bK (N:=["_law_fact","_law_states_here"]) (by kernel_rfl) rfl) (eI (aj 1)) (fun cl A0 s0 H0 ex pn=>⟨cj (i:=0) (by show (["_law_one","_law_fact"] : List Str).Nodup;decide +kernel) rfl (.inl rfl),f9,(m5 (vc) (aj 1) (aj 0))⟩)))) bY))⟩)))) bY)))) (aK (bD jD)) cB))) cB))) (aK (bD jD))))))))))
end
end
section
theorem all_mk {l:xv}{w:bd}{K:a8}{h:bt}{mg:Str->Option a9}{fa A:ah}{kS:ah}{jo:ah}{kU:ah}{kh:ah}{sH:ah}{nV:ah}{lT:ah}{lU:ah}{ki:ah}{lV:ah}{oR:ah}{jp:ah}{od an:Option ah}{sl:Array (Option a9)}{oc kV dc pm cv ct:a9} (X:K.In h) (G:h.Ns bM mg) (hfa:mg "law"=some (.ref fa))
  (Zz:Zs K zn)
  (mF:Cn mg "MOST_LETTERS" 6)
  (pV:Cn mg "MOST_PRICE" 9)
  (pW:Cn mg "MOST_FACTS" 6)
  (mG:Cn mg "MOST_ERRANDS" 6)
  (Ws:SY K Fz [kS,jo,kU,kh,sH,nV,lT,lU,ki,lV,oR])
  (Cd:TopC K "NoState" jo)
  (FZ:TopC K "NoWant" kU)
  (F_:TopC K "NoBook" kS)
  (K9:TopC K "NoWay" nV)
  (nW:TopC K "PlanError" jp)
  (w_NoState:Wy K jo jp [(kS,false),(jo,true),(kU,false),(kh,false),(sH,false),(nV,false),(lT,false),(lU,false),(ki,false),(lV,false),(oR,false)])
  (w_NoWant:Wy K kU jp [(kS,false),(jo,false),(kU,true),(kh,false),(sH,false),(nV,false),(lT,false),(lU,false),(ki,false),(lV,false),(oR,false)])
  (w_NoBook:Wy K kS jp [(kS,true),(jo,false),(kU,false),(kh,false),(sH,false),(nV,false),(lT,false),(lU,false),(ki,false),(lV,false),(oR,false)])
  (w_NoWay:Wy K nV jp [(kS,false),(jo,false),(kU,false),(kh,false),(sH,false),(nV,true),(lT,false),(lU,false),(ki,false),(lV,false),(oR,false)])
  (G0:fP K mg "_law_which" rh)
  (wQ:fP K mg "_law_told_three" gK)
  (DF:fP K mg "share_none" lH)
  (LC:fP K mg "without" sB)
  (Pi:fP K mg "joined" zR)
  (LD:fP K mg "is_word" sC)
  (ut:fP K mg "are_rising_words" fO)
  (G1:fP K mg "are_facts" nN)
  (Iq:fP K mg "is_whole" u3)
  (G3:fP K mg "is_errand" nP)
  (LF:fP K mg "is_book" oP)
  (LG:fP K mg "is_want" wG)
  (B8:fP K mg "check_state" oj)
  (DG:fP K mg "check_want" pX)
  (LH:fP K mg "fulfils" sD)
  (G4:fP K mg "is_doable" rm)
  (Aj:fP K mg "state_behind" mH)
  (LJ:fP K mg "checked" wK)
  (B9:fP K mg "check_place" om)
  (G5:fP K mg "check_aim" ro)
  (DH:fP K mg "steps_from" lJ)
  (DI:fP K mg "first_rows" pZ)
  (LK:fP K mg "nearest" oQ)
  (Ir:fP K mg "shortest" u9)
  (G6:fP K mg "is_served" nQ)
  (Ak:fP K mg "check_served" mJ)
  (G7:fP K mg "must_come" nR)
  (G8:fP K mg "must_hold" nT)
  (Ba:fP K mg "_law_cell_at" ou)
  (G9:fP K mg "_law_mixed" rH)
  (Iu:fP K mg "_law_word" ua)
  (Ga:fP K mg "_law_facts" rJ)
  (Iv:fP K mg "_law_some" q9)
  (Iw:fP K mg "_law_thin" kg)
  (DJ:fP K mg "_law_errand" lK)
  (Ix:fP K mg "_law_book" qd)
  (Iy:fP K mg "_law_want" ud)
  (Iz:fP K mg "_law_case" ue)
  (IA:fP K mg "_law_good" mL)
  (IB:fP K mg "_law_step" qf)
  (DK:fP K mg "_law_levels" qg)
  (LL:fP K mg "_law_far" sG)
  (IC:fP K mg "_law_walk" qi)
  (DL:fP K mg "_law_states" lL)
  (ID:fP K mg "_law_does" uk)
  (IE:fP K mg "_law_past" qk)
  (l0:gZ K bM "law"=some (some (.ref A)))
  (l1:K.lookup A=some ⟨oc,od,.func (eO "law" "law" (nh rM) (iE rM) (ax rM) .none kV dc pm an cv ct),sl⟩)
  (l2:jx K cv "law"=true)
  (l3:e6 K (.ref A)=true)
  : ∃ fd:dL,(∀ (s:af) (v:a9),Ao s fd ⟨[v],[]⟩ [("_law_script",v)])/\∀ base:bt,K.In base->base.Ns bM mg->sO l.prog w K mg base (mR l.prog w) 12 fa fd ["_law_script"] (V_ K F_law):=by
 have q:=hfa.symm.trans (ko X G l0)
 cases q
 refine ⟨eO "law" "law" (nh rM) (iE rM) (ax rM) .none kV dc pm an cv ct,fun s v=>.of_eq rfl,fun base X G=>?_⟩
 let e:En:=⟨l.prog,w,K,mg,base,W0 [("NoBook",kS),("NoState",jo),("NoWant",kU),("NoErrand",kh),("NoRow",sH),("NoWay",nV),("NoPaper",lT),("NoFacts",lU),("NoNumber",ki),("Nothing",lV),("NoText",oR),("PlanError",jp)]⟩
 have B:Bi e.mg:=Wo X G Zz
 have wH:ER e "NoState":=Cd.er X G rfl
 have zV:ER e "NoWant":=FZ.er X G rfl
 have zY:ER e "NoBook":=F_.er X G rfl
 have Dy:ER e "NoWay":=K9.er X G rfl
 obtain ⟨fw,fdw,Fw,mw⟩:=G0.ex
 have W:Wh e.P e.w e.K e.mg e.base e.cls "_law_which" Fz R9:=by
  refine ⟨⟨_,_,_,AV (e:=e) Fw B (Wp X G Zz) (Wq X G Ws rfl),mw,Fw.kp,b1 Fw⟩,ko X G nW.ns,?_,fun y j h=>?_⟩
  ·obtain ⟨bm,o,_⟩:=(Hy X G nW.ns nW.ex nW.mb).2
   exact ⟨bm,o⟩
  unfold R9 at h
  by_cases hy:y="NoState"
  ·subst hy
   simp at h
   subst h
   exact JC X G Cd w_NoState Ws rfl rfl rfl rfl rfl (by decide) (by decide)
  rw [if_neg hy] at h
  by_cases hy:y="NoWant"
  ·subst hy
   simp at h
   subst h
   exact JC X G FZ w_NoWant Ws rfl rfl rfl rfl rfl (by decide) (by decide)
  rw [if_neg hy] at h
  by_cases hy:y="NoBook"
  ·subst hy
   simp at h
   subst h
   exact JC X G F_ w_NoBook Ws rfl rfl rfl rfl rfl (by decide) (by decide)
  rw [if_neg hy] at h
  by_cases hy:y="NoWay"
  ·subst hy
   simp at h
   subst h
   exact JC X G K9 w_NoWay Ws rfl rfl rfl rfl rfl (by decide) (by decide)
  rw [if_neg hy] at h
  cases h
 have eS:=AX (e:=e) DF B
 have wJ:=HW (e:=e) LC B
 have zX:=Lz (e:=e) Pi B
 have lS:=HY (e:=e) LD B mF
 have eK:=sW (e:=e) ut B lS
 have fE:=Do (e:=e) G1 B eK
 have u4:=FD (e:=e) Iq B
 have rj:=Dp (e:=e) G3 B lS u4 fE eS pV
 have wL:=H_ (e:=e) LF B eK rj pW mG
 have wI:=Ic (e:=e) LG B fE eS
 have oo:=zU (e:=e) B8 fE wH
 have pY:=A_ (e:=e) DG wI zV
 have iJ:=Ie (e:=e) LH B eS
 have rz:=Ds (e:=e) G4 iJ
 have mI:=xN (e:=e) Aj wJ zX
 have wM:=Ih (e:=e) LJ wL zY
 have oq:=z_ (e:=e) B9 wM oo
 have jj:=Du (e:=e) G5 oq pY
 have q0:=B2 (e:=e) DH rz mI
 have iK:=B3 (e:=e) DI q0
 have wO:=Ii (e:=e) LK B iJ
 have uo:=FG (e:=e) Ir jj iK wO
 have jk:=Dx (e:=e) G6 B iK iJ
 have mK:=xP (e:=e) Ak jj jk Dy
 have rG:=Dz (e:=e) G7 B jk
 have Gb:=DB (e:=e) G8 mK rG
 have oy:=A5 (e:=e) Ba B
 have aZ:=DC (e:=e) G9 oy
 have ke:=FJ (e:=e) Iu B aZ
 have rK:=DD (e:=e) Ga B ke aZ
 have ug:=FM (e:=e) Iv B aZ
 have uc:=FO (e:=e) Iw B aZ
 have qe:=B5 (e:=e) DJ B aZ uc
 have uf:=FP (e:=e) Ix B rK ke qe aZ
 have uh:=FQ (e:=e) Iy B aZ
 have ul:=FR (e:=e) Iz uf aZ ug uh
 have fg:=FU (e:=e) IA B
 have eL:=FV (e:=e) IB B fg
 have qh:=B6 (e:=e) DK B eL
 have wP:=Io (e:=e) LL B qh fg
 have uq:=FW (e:=e) IC B eL aZ
 have iL:=B7 (e:=e) DL B eL
 have ur:=FX (e:=e) ID B iL fg
 have um:=FY (e:=e) IE B eL fg
 have T_law_told_three_must_hold:=vA (e:=e) (k:=10) wQ W Gb (by decide) (by decide)
 exact (UX (e:=e) (MH l1 l2 l3) B ul wP um uo aZ uq ur iL T_law_told_three_must_hold).imp Ua
end
end Z
section
open PySem PySem.W PyProof.Rows
def PySem.W.Fast.tw8650422410161246063:Nat:=0
def PySem.W.Fast.tw9722891527137403519:Nat:=0
def PySem.W.Fast.tw7289464030143974198:Nat:=0
def PySem.W.Fast.tw10743463966246785785:Nat:=0
def PySem.W.Fast.tw4390075557549212558:Nat:=0
def PySem.W.Fast.tw12848580190020975578:Nat:=0
def PySem.W.Fast.tw5027005690227979531:Nat:=0
def PySem.W.Fast.tw5352055711849804485:Nat:=0
def PySem.W.Fast.tw14779949227607985845:Nat:=0
def PySem.W.Fast.tw2992675730931236375:Nat:=0
def PySem.W.Fast.tw8983370437334474267:Nat:=0
def PySem.W.Fast.tw9679688484119026256:Nat:=0
def PySem.W.Fast.tw14287491411811837722:Nat:=0
def PySem.W.Fast.tw15745225295328868589:Nat:=0
def PySem.W.Fast.tw13171799975071061106:Nat:=0
def PySem.W.Fast.tw17800795913209264344:Nat:=0
def PySem.W.Fast.tw4302758543327098477:Nat:=0
def PySem.W.Fast.tw15166859518549056356:Nat:=0
def PySem.W.Fast.tw7942119746609698986:Nat:=0
def PySem.W.Fast.tw8916512135340177398:Nat:=0
def PySem.W.Fast.tw1470996227488278803:Nat:=0
def PySem.W.Fast.tw3580372762443569763:Nat:=0
def PySem.W.Fast.tw17958811149950390883:Nat:=0
def PySem.W.Fast.tw2630133174640973101:Nat:=0
def PySem.W.Fast.tw18431117229106996581:Nat:=0
def PySem.W.Fast.tw1156161133161605611:Nat:=0
def PySem.W.Fast.tw16010878892513297353:Nat:=0
def PySem.W.Fast.tw2860897870478899946:Nat:=0
def PySem.W.Fast.tw16941685096152466423:Nat:=0
def PySem.W.Fast.tw10277311549715033277:Nat:=0
def PySem.W.Fast.tw12794314436538817283:Nat:=0
def PySem.W.Fast.tw9904019729694659777:Nat:=0
def PySem.W.Fast.tw2776733385635683966:Nat:=0
def PySem.W.Fast.tw9552399115701248507:Nat:=0
def PySem.W.Fast.tw8024631533931688818:Nat:=0
def PySem.W.Fast.tw9179997940926568323:Nat:=0
def PySem.W.Fast.tw16662829534967690584:Nat:=0
def PySem.W.Fast.tw1365754469695303807:Nat:=0
def PySem.W.Fast.tw12470149981830927978:Nat:=0
def PySem.W.Fast.tw15348579078027830922:Nat:=0
def PySem.W.Fast.tw14331079924291682002:Nat:=0
def PySem.W.Fast.tw3714313020846780804:Nat:=0
def PySem.W.Fast.tw18305108496026219449:Nat:=0
def PySem.W.Fast.tw9595499411987149474:Nat:=0
def PySem.W.Fast.tw3477748865134743914:Nat:=0
def PySem.W.Fast.tw10051729973014396990:Nat:=0
def PySem.W.Fast.tw8712431516638790839:Nat:=0
def PySem.W.Fast.tw16006920233612441796:Nat:=0
def PySem.W.Fast.tw2112980960315149571:Nat:=0
def PySem.W.Fast.tw948728151741079626:Nat:=0
def PySem.W.Fast.tw1541450872021254120:Nat:=0
def PySem.W.Fast.tw1045752295749896034:Nat:=0
def PySem.W.Fast.tw2784608606079938245:Nat:=0
def PySem.W.Fast.tw17716485187915428553:Nat:=0
def PySem.W.Fast.tw17567444683280413900:Nat:=0
theorem PySem.Challenge.cw_errands_k18_whole_must_hold_holds : PySem.Challenge.rw_errands_k18_whole_must_hold.Holds := by
 w_on;o_law;k_head;(case hw=>w_witness2)
 k_fill
 refine J.walkF (l:=PySem.Challenge.rw_errands_k18_whole_must_hold) (k:=12) (x:="_law_script") (F0:=Z.F_law) rfl rfl ⟨rfl,by decide,by decide⟩ (fun w h Y=>PySem.W.kIn_of Y) ?F (fun ns _=>Z.law_true ns)
 case F =>
  intro w mg fa h KX G hmg
  refine' Z.all_mk KX G hmg ?_ ?_ ?_ ?_ ?_ ?_ ?_ ?_ ?_ ?_ ?_ ?_ ?_ ?_ ?_ ?_ ?_ ?_ ?_ ?_ ?_ ?_ ?_ ?_ ?_ ?_ ?_ ?_ ?_ ?_ ?_ ?_ ?_ ?_ ?_ ?_ ?_ ?_ ?_ ?_ ?_ ?_ ?_ ?_ ?_ ?_ ?_ ?_ ?_ ?_ ?_ ?_ ?_ ?_ ?_ ?_ ?_ ?_ ?_ ?_ ?_ ?_ ?_ ?_ ?_
  all_goals first
   | (refine' J.d_in KX G ?_ ?_ ?_ ?_<;>try k_is)
   | (refine' J.cn_in KX G ?_<;>try k_is)
   | k_is
   | (refine' J.TopC.mk ?_ ?_ ?_<;>try (first | k_is | k_exc))
   | ((refine' J.Wy.mk ?_ ?_ ?_ ?_ ?_ ?_ ?_ ?_ ?_ ?_)<;>try (first | k_is | decide | ((repeat' (first | exact .nil | refine' .cons ?_ ?_ ?_))<;>try (first | k_is | decide))))
   | ((repeat' (first | exact .nil | refine' .cons ?_ ?_))<;>try (first | (refine' J.cw_in ?_ ?_ ?_<;>try k_is) | k_is))
   | skip
end
