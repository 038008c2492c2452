import PyProof.Rows.All
import Wide.All
import OpenK.AllK
import Wide.FinOn
import Lean
import PyProof.EqAt
import PyProof.EqKinds
import PyProof.TupleCall
import KE.KDictOf
import PyProof.AttrMissHeap
import KE.KRevIter
import PyProof.DictWalks
import PyProof.MinMaxWalk
import PyProof.SeqI3
import PyProof.WalkInts
import PyProof.ExcInit
import PyProof.InstStoreFacts
import PyProof.DictCompW
import KE.KItemsList
import KE.KEqDict
import PyProof.Rows.CallKwBuiltin
import KE.KLam
import KE.KMinKey
import PySem.Challenge.RW_errands_k27_gains_refused
set_option Elab.async false
set_option linter.all false
set_option maxRecDepth 100000
set_option maxHeartbeats 0
open PySem renaming wpAny_bind->a6,wpAny_pure->a8,Value->a9,Addr->ac,Shared->ae,wpAny->ai,starEach->ap,model->ax,Program->aJ,mainGlobals->aO,Expr->aQ,Around->aR,World->aS,Heap->aW,wpAny_setState_of->aX,wpAny_newObj_type->bg,compareOp->bh,cellsFrom->bi,mem_of_lookup->bt,wpAny_mono->bu,wpAny_holding->bw,wpAny_call_entry->bz,rawInt->bB,wpAny_callSpecial?_slot->bP,wpAny_truthy_bool->c8,Scope->cf,FuncData->cp,wpAny_seqItems->cr,Stmt->cy,boot_len->cE,foldedSetIterable->cJ,wpAny_of_eq->cK,eval->cQ,backTo->cR,wpAny_field->cY,codeAny_builtin->dk,fits_of_scanBound->dI,behindInMarks->dY,sysModules->eg,wpAny_setField->ej,codeAny->em,wpAny_rule->eN,binaryOp->eZ,scanBound->e_,wpAny_askSetting->f9,setField->fc,strIterType->fk,wpAny_typeNameOfWhole_keyiter->fo,bootBuiltins->ft,assignEach->fu,wpAny_Call_Name_kw->fv,wpAny_setField_rec->fA,wpAny_passesOwn->fL,letOwnedTupleGo->fM,swapsWith->fP,plainId_quiet->fR,wpAny_storeSet_of->fX,Builtin->fY,wpAny_isInstance->gR,wpAny_standAt->hU,wpAny_attempt->hV,wpAny_updateSeq->i4,pyNext->i8,IsPair->i9,cLine->ik,wpAny_pyIter_list->iB,codeAny_mono->iC,NameKind->iD,SetTable->iF,firstArgMember->iG,wpAny_tryCatch->iH,sliceBounds->jm,codeAny_call_builtin->jn,wpAny_letGo->jo,wpAny_execs_nil->jH,pickOrder->kG,builtinsNs->kK,wpAny_pyIter_tuple->kL,recursionLimit->kM,wpAny_call->kO,tupleKind_room_in1->kQ,getItem->lJ,wpAny_comprehension_free->lP,tupleKind->mT,codeAmong->mU,Arguments->mV,raiseNew->mW,seqItems?->mX,assign->nL,wpAny_typeOf->nO,newExc->nQ,bindArgs->pT,IsPart->pU,relayAll->pW,IsZip->pX,wpAny_updateSeq_pair->pY,standAt->qM,holding->qN,BindsTo->qO,callerA->qQ,swapsWithSole->rT,swappedStores->rV,wpAny_onRaise->rZ,isTrue->sv,pyIter->sx,Result->sA,call_meets->sB,Keyword->uC,concat_meets->uD,valueAt->uE,wpAny_pyIter_slot->uG,wpAny_dictEntries->uJ,TriplesOk->wa,noFill_tuple_add->wb,checkBuiltinCall->we,PyData->wj,sizeLine_eq->xF,subscripted->xG,codeAny_of_tree->xO,wpAny_dictEpoch->xR,Paired->zz,GenState->zB,bindName->zC,bindL->zE,bindC->zF,wpAny_newFunctionEnv_cells->zG,typeLookup->zH,atKey->zJ,newFunctionEnv->zK,entryFor->zM,entryFor_alias->zN,isSubtype_type->zO,isInstance->zQ,wpAny_fieldsOf->zR,isSubtype_stop->zS,assignInOrder->BK,seq_tuple_add->BN,attributeBase->BQ,call->BR,wpAny_handled->BU,Drawn->D0,Model->D1,CmpOp->D2,lastMarks->D3,DictEntry->D4,noteFrame->D6,updateSeq->D9,field->Da,sub_set_self->Dq,setNext->Dr,wpAny_isTrue_Compare1->G3,codeAny_call_function->G4,builtinLookup_eq_fast->G8,wpAny_isOneOf_keyiter->Gd,keywordEach->Gh,wpAny_alloc->Gk,Walks->Gm,unsupported->Gp,newTuple->Gq,wpAny_throw->Gr,ZipApart->Gs
open PySem.W renaming Frag->a7,keepIn->bC,mroIn->bH,kia_one->bK,codeIn->c6,fnOf->cc,kitOne->cz,nsMap_none_of_in->dh,cellsFrom_some->dA,nsIn->dC,codeHdIn->dH,clsIn->el,findIn->eD,mg_of->eX,isNs_of_in->iW,subIn->jM,looks_findIn->lR,callWith_K->nM,codeRec_of->nN,methodObj->oG,specialIn->oH,kitx_list->oJ,instObj->rn,takesIn->rq,OpenLaw->rz,kla_obj->rH,lookIn->sy,typeIn->sF,kla_fn->sH,excIn->uI,hideAll_get->zt,codeHd_of_K->zv,of_hideAll->zA,kitx_tuple->zD,mg_none_of->zW,kitx_dict->AV,plainGet->BM,hideAll->C_,kitCls->Du,nsOkIn->Dx,WalkO->G7,Looks->Ga
open PySem.Heap renaming get?_push_of_some->ag,lt_size->al,get?_push_size->av,SameBut->b9,size_push->bU,get?_update_other->ck,get?_update_self->cC,ExtBut->sD
open List renaming mem_cons_of_mem->ah,getElem?_set_ne->aj,mem_append_right->ak,mem_cons_self->ao,size_toArray->aB,getElem?_set_self->aE,getElem?_map->aK,mem_cons->aM,length_map->aN,getElem?_append_right->aT,getElem?_eq_getElem->aY,getElem?_replicate->bn,length_append->bo,getElem?_append_left->br,not_mem_nil->bv,length_cons->bE,lookup_cons->bM,map_cons->bO,range->bR,append_nil->bT,length_replicate->bZ,getElem?_eq_none->cD,all_eq_true->cU,find?_cons->c_,mem_singleton->dR,getD_eq_getElem?_getD->dS,any_cons->eC,forIn_cons->gP,length_range->i3,length_singleton->iq,mem_append_left->iK,getElem_of_mem->iV,replicate->jq,filterMap_map->jr,forIn_nil->js,contains_cons->jv,getElem_mem->ls,of_mem_zip->lN,length_nil->lO,filterMap_cons->oB,all_cons->oO,map_nil->qP,length_filterMap_eq_countP->rG,length_take->rW,ext_getElem->rX,any_eq_true->rY,getElem_map->r_,lookup->sC,mem_append->uw,length_set->uz,length_eraseIdx_of_lt->vg,perm_ext_iff_of_nodup->vk,drop_eq_getElem_cons->wc,getElem?_cons_zero->xP,getElem?_cons_succ->xQ,mem_of_getElem?->AW,replicate_succ->BX,replicate_zero->BY,lookup_append->D5,getElem_range->Db,set_cons_zero->Dd,set_cons_succ->De,append_assoc->Do,nodup_append->Dp,length_drop->G5,zipIdx_cons->G9,cons_append->Ge,zipIdx_nil->Gu,nil_append->GC
open Array renaming length_toList->am,getElem?_toList->cB,getD_eq_getD_getElem?->fm,getElem?_eq_getElem->fZ,eq_empty_of_size_eq_zero->ir,size_map->mY,replicate->sG,getElem?_eq_none->xN,toArray_toList->zT,toList_append->AY,append_assoc->BJ,find?_toList->BL,forIn_toList->BW,toList_push->D7,all_toList->Dy
open Nat renaming le_refl->aq,lt_of_lt_of_le->au,ne_of_lt->aA,le_of_lt->ba,lt_irrefl->bX,le_trans->cn,zero_le->eB,lt_succ_self->eO,ne_of_gt->eY,lt_succ_of_lt->fJ,lt_succ_of_le->kE,lt_of_le_of_lt->pV,lt_trans->rA,le_of_lt_succ->rF,mod_lt->wf,lt_asymm->zL,succ_pos->zU,lt_of_succ_lt_succ->zV,add_lt_add_right->BV,eq_zero_or_pos->Dk,min_le_right->Gg,le_of_not_lt->Gj,le_add_right->Gv,reduceLeDiff->GD,reduceEqDiff->GE
open Bool renaming and_eq_true->ay,false_ne_true->aL,false_eq_true->bx,noConfusion->cm,eq_iff_iff->gO,or_eq_true->gT,and_false->h_,false_or->kC,not_true->xH,and_self->xK,or_eq_false_iff->AX,not_eq_true'->Dt
open Option.some renaming inj->a_,injEq->xJ
open PySem.Heap.SameBut renaming update->bb
open PySem.Value renaming ref->bc,none->cx,bool->fK,str->gU,type->jk,int->kJ,isStrOf->oA
open PySem.NameKind renaming free->bF,cell->cV,«local»->lL
open PySem.SetTable renaming sizeAbove->bG,grown->fi,below->fj,fits->jt,bits->jw,turns->lK,layClean->oE,laid->ux,orStandIn->zw,relaid->BS,fill->Dv,road->Dw
open PySem.Builtin.SmallTypes renaming nextOf->bJ,ownedTupleIsFree->dg,ownedTupleHandOut->ju
open PySem.PyData renaming eqv->bL,eqvAll->iu,canLay0->jj,canLayAll0->jJ,list->mD,int->oF,str->uy
open PyProof.Rows renaming boot_tuple->bV,boot_all->cg,slot_tuple_getitem->dW,Keyed->hX,boot_isinstance->i5,AllBare->lH,StrsAre->nU,callWith_type1->oK,isBoolOf->pZ,SortKind->p_,assignInOrder_cons->sw,boot_str->sI,SortSt->zX,subscriptTail->BO,subscriptTail_builtinR->Dl,IntsAre->Dn
open Option renaming map_some->c9,getD_none->eK,getD_some->il,isSome_some->oC,isSome_map->pS,bind_some->qS
open PySem.SetTable.layClean renaming free->cF
open Ne renaming symm->cO
open PySem.Around renaming under_plainId->cP,frames_deeper->zu
open PySem.F renaming plain_max_loop->cW,plainAttrs_list->dn,slot_dict_keyiterator_next->dJ,slot_tuple_iterator_next->g6,args_tuple_add_2->jI,slot_list_extend->jK,type_list_extend->jL,entry_tuple_add->kc,slot_tuple_add->kP,entry_max_loop->kR,args_dict_keyiterator_next_1->m_,slot_zip_next->nl,entry_dict_keyiterator_next->nq,slot_list_count->vi,slot_list_index->vj,args_tuple_iterator_next_1->wg,slot_dict_iter->wk,entry_tuple_iterator_next->xI,args_list_extend_2->Dm,entry_list_extend->G6,slot_list_extend->Gi
open Or renaming inr->cX,inl->eu
open PySem.Obj renaming mapFields->cZ,mapSeq->dB,putSet->lQ,data_mapFields->Ds
open False renaming elim->df
open PySem.Str renaming ofString->dm
open PySem.Heap.FunFrames renaming mem->dz
open PySem.Builtin.Slice renaming slicePlaces->fg,sliceAdjust->iE,sliceApplied->oM
open PyProof.Rows.F renaming plain_set_update_loop->fh,entry_set_update_loop->kF
open PySem.Builtin.Tuple renaming tupleExact->fz,tupleItemsOf->oN
open PySem.Builtin.List renaming listTooLong->fH,listExtendWith->oP,listSameRef->qR
open True renaming intro->fQ
open ForInStep renaming yield->fW
open PySem.Paired renaming length->gm
open PySem.Builtin.Frozenset renaming updateFrom->gQ,isAnySet->mZ,sizeOf->nR,copyOf->nV,newClass->Gn,oneOther->Gw,addrOf->Gx,slot1->Gy,baseOf->Gz,merge->GA,unchanged->GB
open PySem.Builtin.Dict_items renaming ownsTuple->iQ
open PySem.Calls renaming Name_function_global->jl,call_function_entry->vh,loadGlobal_global->xE,evalArgs_plain->zI
open Int renaming emod_lt_of_pos->jN,emod_nonneg->mC,toNat_natCast->rE,toNat_of_nonneg->Dc
open PySem.PassesOwn renaming never->kH
open PySem.Walks renaming list->lz
open PySem.Builtin.Builtins renaming bindParams->n5
open Sum renaming inl->rl,inr->rm
open PyProof.Rows.IsTup renaming new->ro
open PySem.pickOrder renaming go->uF
open PySem.SetTable.below renaming go->uH
open PySem.SeqAt.EqAt renaming bool_bool->vd,int_str->xC,str_int->xD
open List.Pairwise renaming nil->vf
open And renaming intro->zx
open PySem.SeqAt renaming EqAt->BP
open PySem.Code renaming quiet_builtin->D8
open PySem.Builtin.ObjectAttr renaming attrName->Gb,find->Gc
open PySem.Shared renaming TypeIs->Go
section
namespace L2
open PySem PySem.Spec PyProof.Rows
abbrev dQ:=Sum Int Str
def sJ:dQ->a9->Bool
 |.inl k,v=>Value.isInt k v
 |.inr x,v=>oA x v
def N2 (w:aS):dQ->Int
 |.inl k=>hashInt k
 |.inr x=>hashStr w x
theorem dD:∀ {k:dQ}{v:a9},sJ k v=true->(∃ i t,k=rl i/\v=kJ i t)\/(∃ x t,k=rm x/\v=gU x t)
 |.inl i,v,h=>by
  obtain ⟨t,e⟩:=Value.isInt_shape (k:=i) (v:=v) h
  exact .inl ⟨i,t,rfl,e⟩
 |.inr x,v,h=>by
  obtain ⟨t,e⟩:=Value.isStrOf_shape (x:=x) (v:=v) h
  exact .inr ⟨x,t,rfl,e⟩
theorem BZ (i:Int) (t:Tok):sJ (.inl i) (.int i t)=true:=by simp [sJ,Value.isInt]
theorem B_ (x:Str) (t:Tok):sJ (.inr x) (.str x t)=true:=by simp [sJ,oA]
theorem Jq (a b:Int):decide ((rl a:dQ)=rl b)=(a==b):=by
 by_cases e:a=b
 ·subst e;simp
 ·have h:¬ (rl a:dQ)=rl b:=fun q=>e (Sum.inl.inj q)
  rw [decide_eq_false h]
  exact (beq_eq_false_iff_ne.mpr e).symm
theorem Jr (a b:Str):decide ((rm a:dQ)=rm b)=decide (a=b):=by
 by_cases e:a=b
 ·subst e;simp
 ·have h:¬ (rm a:dQ)=rm b:=fun q=>e (Sum.inr.inj q)
  rw [decide_eq_false h,decide_eq_false e]
theorem Js (a:Int) (b:Str):decide ((rl a:dQ)=rm b)=false:=decide_eq_false (fun q=>nomatch q)
theorem Jt (a:Str) (b:Int):decide ((rm a:dQ)=rl b)=false:=decide_eq_false (fun q=>nomatch q)
def dZ (prog:aJ) (w:aS):PySem.KeyKind prog w dQ where
 is:=sJ
 hash:=N2 w
 inj:=fun v a b ha hb=>by
  rcases dD ha with ⟨i,t,rfl,rfl⟩|⟨x,t,rfl,rfl⟩
  ·rcases dD hb with ⟨j,u,rfl,e⟩|⟨y,u,rfl,e⟩
   ·injection e with e1 _;rw [e1]
   ·exact nomatch e
  ·rcases dD hb with ⟨j,u,rfl,e⟩|⟨y,u,rfl,e⟩
   ·exact nomatch e
   ·injection e with e1 _;rw [e1]
 byValue:=fun k v h=>by
  rcases dD h with ⟨i,t,rfl,rfl⟩|⟨x,t,rfl,rfl⟩<;>rfl
 pyHash:=fun hv h=>by
  rcases dD hv with ⟨i,t,rfl,rfl⟩|⟨x,t,rfl,rfl⟩
  ·exact wpAny_pyHash_int h
  ·exact wpAny_pyHash_str h
 eqBool:=fun hu hv h=>by
  rcases dD hu with ⟨i,t,rfl,rfl⟩|⟨x,t,rfl,rfl⟩
  ·rcases dD hv with ⟨j,u,rfl,rfl⟩|⟨y,u,rfl,rfl⟩
   ·rw [Jq] at h;exact wpAny_eqBool_int h
   ·rw [Js] at h;exact xC i t y u _ _ _ _ h
  ·rcases dD hv with ⟨j,u,rfl,rfl⟩|⟨y,u,rfl,rfl⟩
   ·rw [Jt] at h;exact xD x t j u _ _ _ _ h
   ·rw [Jr] at h;exact wpAny_eqBool_str h
 «strs»:=fun k x t v h=>by
  rcases dD h with ⟨i,u,rfl,e⟩|⟨y,u,rfl,e⟩
  ·exact nomatch e
  ·injection e with e1 _
   subst e1
   cases v<;>rfl
theorem xS (prog:aJ) (w:aS) (i:Int) (t:Tok):(dZ prog w).is (.inl i) (.int i t)=true:=BZ i t
theorem xT (prog:aJ) (w:aS) (x:Str) (t:Tok):(dZ prog w).is (.inr x) (.str x t)=true:=B_ x t
end L2
namespace L2
open PySem PySem.Spec PyProof.Rows
inductive V where
 |non|bl (b:Bool)|int (i:Int)|str (x:Str)|byt (b:Array UInt8)|flt (b:UInt64)|ref (a:ac)|ty (n:String)
 deriving DecidableEq
def bW:V->a9->Prop
 |.non,u=>u=cx
 |.bl b,u=>u=fK b
 |.int i,u=>∃ t,u=kJ i t
 |.str x,u=>∃ t,u=gU x t
 |.byt b,u=>∃ t,u=Value.bytes b t
 |.flt b,u=>∃ t,u=Value.float b t
 |.ref a,u=>u=bc a
 |.ty n,u=>u=jk n
abbrev cu:List V->List a9->Prop:=zz bW
theorem cu.length {xs:List V}{us:List a9} (r:cu xs us):xs.length=us.length:=gm r
theorem cu.get {xs:List V}{us:List a9} (h:cu xs us):∀ {i:Nat}{x:V},xs[i]?=some x->∃ u,us[i]?=some u/\bW x u:=by
 induction h with
 |nil=>intro i x e;cases e
 |cons r t ih =>
  intro i x e
  cases i with
  |zero=>cases e;exact ⟨_,rfl,r⟩
  |succ i=>have q:=ih (i:=i) e;exact q
theorem cu.append {xs ys:List V}{us ws:List a9} (h:cu xs us) (s:cu ys ws):cu (xs++ys) (us++ws):=by
 induction h with
 |nil=>exact s
 |cons r t ih=>exact .cons r ih
theorem cu.take:∀ {xs:List V}{us:List a9} (n:Nat),cu xs us->cu (xs.take n) (us.take n)
 |_,_,0,_=>.nil
 |_,_,_+1,.nil=>.nil
 |_,_,n+1,.cons r t=>.cons r (cu.take n t)
theorem cu.drop:∀ {xs:List V}{us:List a9} (n:Nat),cu xs us->cu (xs.drop n) (us.drop n)
 |_,_,0,r=>r
 |_,_,_+1,.nil=>.nil
 |_,_,n+1,.cons _ t=>cu.drop n t
def sK:Option V->Option a9->Prop
 |some v,some u=>bW v u
 |none,none=>True
 |_,_=>False
def KV {κ:Type}:List (κ×V)->List (κ×a9)->Prop:=zz fun (p:κ×V) (q:κ×a9)=>p.1=q.1/\bW p.2 q.2
def kV:dQ->V
 |.inl i=>.int i
 |.inr x=>.str x
inductive HO where
 |lst (xs:List V)
 |tup (xs:List V)
 |dK (kvs:List (dQ×V))|dT (kvs:List (List dQ×V))
 |set (S:Int->Bool) (n:Nat)
 |ins (C dx:ac) (fs:List (Str×V))
 |own (x:ac)
 |xd (fs:List (Str×V))
 |met (f x:ac)
 |rng (lo hi:Int)
 |frz (o:Obj) (u:HO)
 |tbl (ps:Array a9)
 |ext (φ:aW->Prop)
abbrev Hp:=ac->Option HO
def upd (H:Hp) (a:ac) (o:HO):Hp:=fun b=>if b=a then some o else H b
theorem aH {H:Hp}{a:ac}{o:HO}:upd H a o a=some o:=by unfold upd;rw [if_pos rfl]
theorem aG {H:Hp}{a b:ac}{o:HO} (h:b≠a):upd H a o b=H b:=by unfold upd;rw [if_neg h]
theorem Dz {H:Hp}{a b:ac}{o u:HO} (h:H a=some o) (h':H b=some u) (d:o≠u):a≠b:=by
 intro e;subst e;rw [h] at h';exact d (a_ h')
theorem aI {H:Hp}{a b:ac}{o:HO} (h:H a=some o) (h':H b=none):a≠b:=by
 intro e;subst e;rw [h] at h';cases h'
section
variable (P:aJ) (w:aS)
def cj (H:Hp) (h:aW) (a:ac):HO->Prop
 |.lst xs=>xs.length<=sizeLine/\∃ (its:List a9) (n:Nat),cu xs its/\h.get? a=some { cls:=.type "list",data:=.seq its.toArray n }
 |.tup xs=>xs.length<=sizeLine/\∃ its:List a9,cu xs its/\IsTup h a its.toArray
 |.dK kvs=>kvs.length<=sizeLine/\(a==eg)=false/\∃ vs,KV kvs vs/\h.DictOf (dZ P w) a vs
 |.dT kvs=>kvs.length<=sizeLine/\(a==eg)=false/\∃ xs:List (List dQ×ac×a9),
   zz (fun (p:List dQ×V) (q:List dQ×ac×a9)=>p.1=q.1/\H q.2.1=some (.tup (p.1.map kV))/\bW p.2 q.2.2) kvs xs /\
   ∃ o es ep,h.get? a=some o/\o.ExactDict/\o.data=.dict es ep/\es.toList=xs.map (entryOfKey (mT (dZ P w)))/\(xs.map (·.1)).Nodup
 |.set S n=>h.SetOf (intKind P w) a S n
 |.ins C dx fs=>H dx=some (.own a)/\fs.length<=1000/\dx≠a/\h.get? a=some (rn C dx) /\
   ∃ mA,h.Ns1 dx mA/\(∀ f,sK (fs.lookup f) (mA f))/\PySem.Within mA (fs.map (·.1))
 |.own _=>∃ o,h.get? a=some o
 |.xd fs=>∃ mA,h.Ns1 a mA/\∀ f,sK (fs.lookup f) (mA f)
 |.rng lo hi=>∃ t u v,h.get? a=some { cls:=.type "range",data:=.fields #[.int lo t,.int hi u,.int 1 v] }
 |.frz o u=>h.get? a=some o/\cj H h a u
 |.tbl ps=>∃ qs:Array a9,h.get? a=some { cls:=.none,data:=.fields qs }/\wa qs.toList/\∀ pos cv,mU pos qs.toList=some cv->∃ c oc u vs q t,cv=.ref c/\H c=some (.frz oc u)/\oc.data=.fields vs/\vs[1]?=some (.str q t)/\ps[0]?=some (.str q 0)
 |.met f x=>h.get? a=some (oG (.ref f) (.ref x))
 |.ext φ=>φ h/\(∃ o,h.get? a=some o)/\∀ h1 h2:aW,φ h1->(∀ o,h1.get? a=some o->h2.get? a=some o)->φ h2
def lC (H:Hp) (h:aW):Prop:=∀ a o,H a=some o->cj P w H h a o
end
section
variable {P:aJ}{w:aS}{H H':Hp}{h h':aW}{a:ac}{o:HO}
theorem cj.lt (x:cj P w H h a o):a<h.objs.size:=by
 cases o with
 |lst xs=>obtain ⟨_,_,_,_,e⟩:=x;exact al e
 |tup xs=>obtain ⟨_,_,_,p⟩:=x;exact p.lt
 |dK kvs=>obtain ⟨_,_,_,_,o,_,_,e,_⟩:=x;exact al e
 |dT kvs=>obtain ⟨_,_,_,_,o,_,_,e,_⟩:=x;exact al e
 |set S n=>obtain ⟨o,_,_,_,e,_⟩:=x;exact al e
 |ins C dx fs=>obtain ⟨_,_,_,e,_⟩:=x;exact al e
 |own y=>obtain ⟨_,e⟩:=x;exact al e
 |xd fs=>obtain ⟨_,⟨_,_,_,e,_⟩,_⟩:=x;exact al e
 |rng lo hi=>obtain ⟨_,_,_,e⟩:=x;exact al e
 |frz ob u=>obtain ⟨e,_⟩:=x;exact al e
 |tbl ps=>obtain ⟨_,e,_⟩:=x;exact al e
 |met f y=>exact al (show h.get? a=some _ from x)
 |ext φ=>obtain ⟨_,⟨_,e⟩,_⟩:=x;exact al e
theorem Paired.mapP {α β:Type}{F G:α->β->Prop}{l₁:List α}{l₂:List β} (h:zz F l₁ l₂) (f:∀ a b,F a b->G a b):zz G l₁ l₂:=by
 induction h with
 |nil=>exact .nil
 |cons r t ih=>exact .cons (f _ _ r) ih
theorem cj.stay (x:cj P w H h a o) (k:∀ b u,(b=a\/H b=some (.own a))->h.get? b=some u->h'.get? b=some u)
  (ho:∀ b,H b=some (.own a)->H' b=some (.own a)) (ht:∀ b xs,H b=some (.tup xs)->H' b=some (.tup xs)) (hf:∀ b ob u,H b=some (.frz ob u)->H' b=some (.frz ob u)):cj P w H' h' a o:=by
 induction o with
 |lst xs=>obtain ⟨z,its,n,r,e⟩:=x;exact ⟨z,its,n,r,k _ _ (.inl rfl) e⟩
 |tup xs=>obtain ⟨z,its,r,ob,e,c⟩:=x;exact ⟨z,its,r,ob,k _ _ (.inl rfl) e,c⟩
 |dK kvs=>obtain ⟨z,y,vs,r,ob,es,ep,e,c⟩:=x;exact ⟨z,y,vs,r,ob,es,ep,k _ _ (.inl rfl) e,c⟩
 |dT kvs =>
  obtain ⟨z,y,xs,r,ob,es,ep,e,c⟩:=x
  exact ⟨z,y,xs,Paired.mapP r fun p q z=>⟨z.1,ht _ _ z.2.1,z.2.2⟩,ob,es,ep,k _ _ (.inl rfl) e,c⟩
 |set S n=>obtain ⟨ob,es,ep,t,e,c⟩:=x;exact ⟨ob,es,ep,t,k _ _ (.inl rfl) e,c⟩
 |ins C dx fs =>
  obtain ⟨d,z,ne,e,mA,⟨od,es,ep,e2,c⟩,r⟩:=x
  exact ⟨ho _ d,z,ne,k _ _ (.inl rfl) e,mA,⟨od,es,ep,k _ _ (.inr d) e2,c⟩,r⟩
 |own y=>obtain ⟨ob,e⟩:=x;exact ⟨ob,k _ _ (.inl rfl) e⟩
 |xd fs=>obtain ⟨mA,⟨od,es,ep,e,c⟩,r⟩:=x;exact ⟨mA,⟨od,es,ep,k _ _ (.inl rfl) e,c⟩,r⟩
 |rng lo hi=>obtain ⟨t,u,v,e⟩:=x;exact ⟨t,u,v,k _ _ (.inl rfl) e⟩
 |frz ob u ih=>obtain ⟨e,q⟩:=x;exact ⟨k _ _ (.inl rfl) e,ih q⟩
 |tbl ps =>
  obtain ⟨qs,e,tq,hc⟩:=x
  refine ⟨qs,k a _ (.inl rfl) e,tq,fun pos cv q=>?_⟩
  obtain ⟨c,oc,u,vs,qq,t,e1,e2,e4⟩:=hc pos cv q
  exact ⟨c,oc,u,vs,qq,t,e1,hf _ _ _ e2,e4⟩
 |met f y =>
  have e:h.get? a=some (oG (.ref f) (.ref y)):=x
  show h'.get? a=some (oG (.ref f) (.ref y))
  exact k a _ (.inl rfl) e
 |ext φ=>obtain ⟨p,⟨o,e⟩,st⟩:=x;exact ⟨st _ _ p fun o q=>k _ _ (.inl rfl) q,⟨o,k _ _ (.inl rfl) e⟩,st⟩
theorem lC.lt (x:lC P w H h) (e:H a=some o):a<h.objs.size:=(x a o e).lt
theorem lC.fresh (x:lC P w H h) (e:h.objs.size<=a):H a=none:=by
 cases q:H a with
 |none=>rfl
 |some u=>exact absurd (au (x.lt q) e) (bX _)
theorem lC.kept (x:lC P w H h) (k:∀ b u,h.get? b=some u->h'.get? b=some u):lC P w H h':=fun a o e =>
 (x a o e).stay (fun b u _ q=>k b u q) (fun _ q=>q) (fun _ _ q=>q) fun _ _ _ q=>q
theorem lC.laid (x:lC P w H h) (k:∀ b u,h.get? b=some u->h'.get? b=some u) (hp:h.objs.size<=a) (new:cj P w (upd H a o) h' a o):lC P w (upd H a o) h':=fun b u e=>by
 have hn:=x.fresh hp
 by_cases hb:b=a
 ·subst hb;rw [aH] at e;cases e;exact new
 ·rw [aG hb] at e
  exact (x b u e).stay (fun c v _ q=>k c v q) (fun c q=>by rw [aG (aI q hn)];exact q) (fun c xs q=>by rw [aG (aI q hn)];exact q) fun c ob xs q=>by rw [aG (aI q hn)];exact q
end
def Rd (H:Hp) (a:ac) (u:HO):Prop:=H a=some u\/∃ o,H a=some (.frz o u)
theorem Rd.ok {P:aJ}{w:aS}{H:Hp}{h:aW}{a:ac}{u:HO} (r:Rd H a u) (x:lC P w H h):cj P w H h a u:=by
 rcases r with r|⟨o,r⟩
 ·exact x a u r
 ·obtain ⟨_,q⟩:=x a _ r
  exact q
def Li:Option HO->Prop
 |some (.lst _)=>True
 |some (.dK _)=>True
 |some (.dT _)=>True
 |some (.set _ _)=>True
 |some (.ins _ _ _)=>True
 |some (.ext _)=>True
 |_=>False
section
variable {P:aJ}{w:aS}{H:Hp}{h h':aW}{x e:ac}{o':HO}
theorem lC.write (ok:lC P w H h) (mu:Li (H x)) (he:e=x\/H e=some (.own x)) (k:∀ b u,b≠e->h.get? b=some u->h'.get? b=some u) (heo:∃ u,h'.get? e=some u)
  (new:cj P w (upd H x o') h' x o'):lC P w (upd H x o') h':=fun b u q=>by
 have nown:∀ c y,H c=some (.own y)->c≠x:=fun c y r z=>by subst z;rw [r] at mu;exact mu
 have ntup:∀ c xs,H c=some (.tup xs)->c≠x:=fun c xs r z=>by subst z;rw [r] at mu;exact mu
 have nfrz:∀ c ob xs,H c=some (.frz ob xs)->c≠x:=fun c ob xs r z=>by subst z;rw [r] at mu;exact mu
 by_cases hb:b=x
 ·subst hb;rw [aH] at q;cases q;exact new
 ·rw [aG hb] at q
  by_cases hbe:b=e
  ·have q':H b=some (.own x):=by
    rcases he with z|z
    ·exact absurd (hbe.trans z) hb
    ·rw [hbe];exact z
   rw [q] at q';cases q'
   obtain ⟨v,hv⟩:=heo
   exact ⟨v,by rw [hbe];exact hv⟩
  ·refine (ok b u q).stay (fun c v hc r=>k c v ?_ r) (fun c r=>by rw [aG (nown c b r)];exact r) (fun c xs r=>by rw [aG (ntup c xs r)];exact r) fun c ob xs r=>by rw [aG (nfrz c ob xs r)];exact r
   rcases hc with rfl|hc
   ·exact hbe
   ·rintro rfl
    rcases he with z|z
    ·exact nown c b hc z
    ·rw [hc] at z;cases z;exact hb rfl
end
structure Un (fs ex:List ac) (H H':Hp) (h h':aW):Prop where
 keep:∀ b o,h.get? b=some o->H b=none->b∉fs->b∉ex->h'.get? b=some o
 slot:∀ b o,h.get? b=some o->H b=none->b∈fs->b∉ex->∃ sl,h'.get? b=some { o with slots:=sl }
 free:∀ b o,h.get? b=some o->H b=none->b∉ex->H' b=none
 there:∀ b o,h.get? b=some o->b∉ex->∃ o',h'.get? b=some o'
 tups:∀ b xs,H b=some (.tup xs)->H' b=some (.tup xs)
 frzs:∀ b o u,H b=some (.frz o u)->H' b=some (.frz o u)
 tbls:∀ b ps,H b=some (.tbl ps)->∃ more,H' b=some (.tbl (ps++more))
section
variable {fs fs' ex ex':List ac}{H H1 H2:Hp}{h h1 h2 h':aW}{a x e:ac}{o:HO}
theorem Un.any (u:Un fs ex H H1 h h1) {b:ac}{ob:Obj} (q:h.get? b=some ob) (n:H b=none) (hx:b∉ex):∃ sl,h1.get? b=some { ob with slots:=sl }:=by
 by_cases hb:b∈fs
 ·exact u.slot b ob q n hb hx
 ·exact ⟨ob.slots,u.keep b ob q n hb hx⟩
theorem Un.kept (k:∀ b u,h.get? b=some u->h'.get? b=some u):Un fs ex H H h h' :=
 ⟨fun b ob q _ _ _=>k b ob q,fun b ob q _ _ _=>⟨ob.slots,k b ob q⟩,fun _ _ _ n _=>n,fun b ob q _=>⟨ob,k b ob q⟩,fun _ _ q=>q,fun _ _ _ q=>q,fun _ ps q=>⟨#[],by rw [q];simp⟩⟩
theorem Un.refl:Un fs ex H H h h:=Un.kept fun _ _ q=>q
theorem Un.laid (k:∀ b u,h.get? b=some u->h'.get? b=some u) (hp:h.objs.size<=a) (hn:H a=none):Un fs ex H (upd H a o) h h' where
 keep:=fun b u q _ _ _=>k b u q
 slot:=fun b u q _ _ _=>⟨u.slots,k b u q⟩
 free:=fun b u q n _=>by rw [aG (aA (au (al q) hp))];exact n
 there:=fun b u q _=>⟨u,k b u q⟩
 tups:=fun b xs q=>by rw [aG (aI q hn)];exact q
 frzs:=fun b u xs q=>by rw [aG (aI q hn)];exact q
 tbls:=fun b ps q=>⟨#[],by rw [aG (aI q hn),q];simp⟩
theorem Un.write (mu:Li (H x)) (he:e=x\/H e=some (.own x)) (k:∀ b u,b≠e->h.get? b=some u->h'.get? b=some u) (heo:∃ u,h'.get? e=some u):Un fs ex H (upd H x o) h h':=by
 have hx:∀ b,H b=none->b≠x:=fun b n z=>by subst z;rw [n] at mu;exact mu
 have hb:∀ b,H b=none->b≠e:=fun b n z=>by
  subst z
  rcases he with r|r
  ·exact hx b n r
  ·rw [n] at r;cases r
 have hm:∀ b u,H b=some u->¬ Li (some u)->b≠x:=fun b u q nm z=>by subst z;rw [q] at mu;exact nm mu
 refine ⟨fun b u q n _ _=>k b u (hb b n) q,fun b u q n _ _=>⟨u.slots,k b u (hb b n) q⟩,fun b u q n _=>by rw [aG (hx b n)];exact n,fun b u q _=>?_,
  fun b xs q=>by rw [aG (hm b _ q fun z=>z)];exact q,fun b u xs q=>by rw [aG (hm b _ q fun z=>z)];exact q,fun b ps q=>⟨#[],by rw [aG (hm b _ q fun z=>z),q];simp⟩⟩
 by_cases hbe:b=e
 ·subst hbe;exact heo
 ·exact ⟨u,k b u hbe q⟩
end
def MS (h:aW) (H:Hp):List ac:=(bR h.objs.size).filter fun a=>(H a).isSome
def wl (h:aW) (H:Hp):aW:=C_ h (MS h H)
theorem C0 (h:aW) (H:Hp):(wl h H).objs.size=h.objs.size:=PySem.W.hideAll_size _ _
theorem DA {h:aW}{H:Hp}{b:ac}{o:Obj} (e:h.get? b=some o) (n:H b=none):(wl h H).get? b=some o :=
 zt _ e fun hm=>by
  have q:(H b).isSome=true:=(List.mem_filter.mp hm).2
  rw [n] at q;simp at q
theorem GF {h:aW}{H:Hp}{b:ac}{o:Obj} (e:(wl h H).get? b=some o):h.get? b=some o/\H b=none:=by
 have e':h.get? b=some o:=zA (MS h H) e
 refine ⟨e',?_⟩
 cases q:H b with
 |none=>rfl
 |some x =>
  have hm:b∈MS h H:=List.mem_filter.mpr ⟨List.mem_range.mpr (al e'),by simp [q]⟩
  have z:(wl h H).get? b=none:=PySem.W.hideAll_none (MS h H) hm
  rw [z] at e;cases e
def GG (g h:aW) (L:ac):List (ac×Obj):=(bR h.objs.size).filterMap fun a=>if a=L\/(g.get? a).isSome=true then none else (h.get? a).map fun o=>(a,o)
def b_ (g h:aW) (L d:ac):List (ac×Obj):=(GG g h L).filter fun p=>decide (p.1≠d)
end L2
namespace L2
open PySem PySem.Spec PyProof.Rows
structure Mod (K:a7) (mg:Str->Option a9) (base:aW):Prop where
 kin:K.In base
 glob:base.Ns aO mg
 blt:∃ mb,base.Ns kK mb/\∀ x:Str,x≠"__name__"->mb x=ft x
 nolimit:base.NoLimit
 bm:∃ bm ob,mg "__builtins__"=some (.ref bm)/\bm≠kK/\base.get? bm=some ob/\ob.cls=.type "module"/\ob.dict=some kK/\ob.data=.plain
structure Cx where
 prog:aJ
 w:aS
 K:a7
 mg:Str->Option a9
 base:aW
 A:aR
 N:List Str
 s₀:ae
 H₀:Hp
 env:Env
 outer:List Env
 stack:List Env
 ex:List ac
 fn:Str->Bool
 calm:Bool
 pn:List (ac×Obj)
 xe:a9->ae->Prop
def nr (l:List Env):List ac:=l.filterMap (·.frame)
abbrev Cx.fs (X:Cx):List ac:=nr X.outer
def C1 (sc:cf) (x:Str):Prop:=sc.names.lookup x=some .local\/sc.names.lookup x=some .cell\/sc.names.lookup x=some .free
def GH (sc:cf) (x:Str):Prop:=sc.names.lookup x=some .local\/sc.names.lookup x=some .cell
def N3 (env:Env) (h:aW) (m:Str->Option a9) (x:Str) (u:a9):Prop :=
 (env.kindOf x=some .local/\m x=some u)\/((env.kindOf x=some .cell\/env.kindOf x=some .free)/\∃ c,env.cells.lookup x=some c/\h.IsCell c (some u))
def Ju:Str:="best_reached"
def Tb (K:a7) (H:Hp):Prop:=∀ c P q,c6 K (.ref c) q=true->dH K c P=true->K.lookup P=none->q=Ju->∃ ps,H P=some (.tbl ps)/\ps[0]?=some (.str (q++".<locals>."++"<lambda>") 0)
theorem Tb.more {K:a7}{H H':Hp} (t:Tb K H) (k:∀ b ps,H b=some (.tbl ps)->∃ more,H' b=some (.tbl (ps++more))):Tb K H':=fun c P q h1 h2 h3 h4=>by
 obtain ⟨ps,e1,e2⟩:=t c P q h1 h2 h3 h4
 obtain ⟨more,e3⟩:=k P ps e1
 refine ⟨ps++more,e3,?_⟩
 have hl:0<ps.size:=by
  rcases Dk ps.size with z|z
  ·rw [xN (by omega)] at e2;cases e2
  ·exact z
 rw [Array.getElem?_append_left hl]
 exact e2
structure Cx.Ok (X:Cx):Prop where
 mod:Mod X.K X.mg X.base
 kind:X.env.scope.kind=.function
 glob:X.env.globals=aO
 blt:X.env.builtins=kK
 above:X.s₀.heap.objs.size<=X.env.locals
 inj:∀ x y c,X.env.cells.lookup x=some c->X.env.cells.lookup y=some c->x=y
 has:∀ x,(X.env.kindOf x=some .cell\/X.env.kindOf x=some .free)->∃ c,X.env.cells.lookup x=some c
 cab:∀ x c,X.fn x=true->X.env.cells.lookup x=some c->X.s₀.heap.objs.size<=c
 hd:X.calm=true->X.A.handled=none
 frames:X.A.frames=some X.stack
 stk:X.stack=X.outer\/(X.stack=X.env::X.outer/\X.env.frame=some X.env.locals)
 exf:∀ b∈X.ex,b≠X.env.locals/\∀ x c,X.env.cells.lookup x=some c->c≠b
 bs:∀ b o,X.base.get? b=some o->X.s₀.heap.get? b=some o/\X.H₀ b=none
 bsz:X.base.objs.size<=X.s₀.heap.objs.size
 noex:∀ b o,X.base.get? b=some o->b∉X.ex
 exfs:∀ b∈X.ex,b∉X.fs
 funs:X.s₀.heap.FunFrames X.base X.outer
 frf:∀ b∈X.fs,X.H₀ b=none
 tb:Tb X.K X.H₀
structure aV (X:Cx) (pins:List (ac×Obj)) (σ:List (Option V)) (H:Hp) (s:ae):Prop where
 ok:X.Ok
 os:s.os=X.s₀.os
 bare:lH s.gens
 base:Un X.fs X.ex X.H₀ H X.s₀.heap s.heap
 loc:∃ m,s.heap.Ns X.env.locals m/\∀ (i:Nat) (x:Str) (v:V),X.N[i]?=some x->σ[i]?=some (some v)->C1 X.env.scope x->∃ u,bW v u/\N3 X.env s.heap m x u
 cell:∀ x c,X.env.cells.lookup x=some c->∃ v,s.heap.IsCell c v
 free:H X.env.locals=none
 freeC:∀ x c,X.env.cells.lookup x=some c->H c=none
 pin:∀ p∈X.pn++pins,s.heap.get? p.1=some p.2/\H p.1=none/\p.1≠X.env.locals/\p.1∉X.fs/\∀ v,p.2.data≠.cell v
 hok:lC X.prog X.w H s.heap
 len:σ.length=X.N.length
section
variable {X:Cx}{pins:List (ac×Obj)}{σ:List (Option V)}{H H':Hp}{s:ae}{h':aW}
theorem Cx.Ok.nofr (ok:X.Ok) {b:ac}{o:Obj} (e:X.base.get? b=some o):b∉X.fs:=fun hb=>by
 have:=(ok.funs.mem hb).1
 rw [e] at this;cases this
theorem aV.bs (I:aV X pins σ H s):∀ b o,X.base.get? b=some o->s.heap.get? b=some o/\H b=none:=fun b o e =>
 ⟨I.base.keep b o (I.ok.bs b o e).1 (I.ok.bs b o e).2 (I.ok.nofr e) (I.ok.noex b o e),I.base.free b o (I.ok.bs b o e).1 (I.ok.bs b o e).2 (I.ok.noex b o e)⟩
theorem aV.bk (I:aV X pins σ H s):∀ b o,X.base.get? b=some o->s.heap.get? b=some o:=fun b o e=>(I.bs b o e).1
theorem aV.mod (I:aV X pins σ H s):Mod X.K X.mg X.base:=I.ok.mod
theorem aV.kIn (I:aV X pins σ H s):X.K.In s.heap:=I.ok.mod.kin.keeps I.bk
theorem aV.nolimit (I:aV X pins σ H s):s.heap.NoLimit:=I.ok.mod.nolimit.keeps I.bk
theorem aV.fr (I:aV X pins σ H s):∃ m,Fr X.base X.env.locals s.heap m :=
 let ⟨m,hn,_⟩:=I.loc
 ⟨m,hn,I.bk,cn I.ok.bsz I.ok.above⟩
theorem aV.lt (I:aV X pins σ H s):X.env.locals<s.heap.objs.size:=let ⟨_,hn,_⟩:=I.loc;hn.lt
theorem aV.sz (I:aV X pins σ H s):X.s₀.heap.objs.size<=s.heap.objs.size:=cn I.ok.above (ba I.lt)
theorem aV.nofs (I:aV X pins σ H s) {a:ac} (h:s.heap.objs.size<=a):a∉X.fs:=fun hb=>by
 obtain ⟨_,o,ho,_⟩:=I.ok.funs.mem hb
 exact absurd (au (al ho) (cn I.sz h)) (bX _)
theorem aV.cne (I:aV X pins σ H s):∀ x c,X.env.cells.lookup x=some c->c≠X.env.locals:=fun x c e z=>by
 obtain ⟨v,o,ho,hd⟩:=I.cell x c e
 obtain ⟨m,⟨o',es,ep,ho',hd',_⟩,_⟩:=I.loc
 rw [z,ho'] at ho;cases ho;rw [hd'] at hd;cases hd
theorem aV.funs (I:aV X pins σ H s):s.heap.FunFrames X.base X.outer:=by
 have all:∀ (l:List Env),(∀ b∈nr l,b∈X.fs)->X.s₀.heap.FunFrames X.base l->s.heap.FunFrames X.base l:=by
  intro l
  induction l with
  |nil=>intro _ _;trivial
  |cons env r ih =>
   intro hs hl
   obtain ⟨hk,⟨L,o,hf,hn,ho,hd⟩,hr⟩:=hl
   have hL:L∈X.fs:=hs L (by unfold nr;rw [oB,hf];exact ao)
   obtain ⟨sl,e⟩:=I.base.slot L o ho (I.ok.frf L hL) hL fun z=>I.ok.exfs L z hL
   exact ⟨hk,⟨L,_,hf,hn,e,hd⟩,ih (fun b hb=>hs b (by unfold nr;rw [oB,hf];exact ah _ hb)) hr⟩
 exact all X.outer (fun _ hb=>hb) I.ok.funs
theorem aV.stack (I:aV X pins σ H s):s.heap.FunFrames X.base X.stack:=by
 rcases I.ok.stk with e|⟨e,hf⟩
 ·rw [e];exact I.funs
 ·rw [e]
  obtain ⟨m,hn,_⟩:=I.loc
  refine .cons (by rw [I.ok.kind];decide) hf hn ?_ I.funs
  exact Heap.get?_none_of_le (cn I.ok.bsz I.ok.above)
theorem aV.stkSub (I:aV X pins σ H s):∀ b∈nr X.stack,b∈X.env.locals::X.fs:=fun b hb=>by
 rcases I.ok.stk with e|⟨e,hf⟩
 ·rw [e] at hb;exact ah _ hb
 ·rw [e] at hb
  unfold nr at hb
  rw [oB,hf] at hb
  exact hb
theorem aV.stkFree (I:aV X pins σ H s):∀ b∈nr X.stack,H b=none:=fun b hb=>by
 rcases List.mem_cons.mp (I.stkSub b hb) with e|hb
 ·rw [e];exact I.free
 ·obtain ⟨_,o,ho,_⟩:=I.ok.funs.mem hb
  exact I.base.free b o ho (I.ok.frf b hb) fun z=>I.ok.exfs b z hb
theorem aV.step {g':Array zB}{t':Nat}{d':D0}{ch:List ac} (I:aV X pins σ H s)
  (hch:∀ b∈ch,(b∈X.ex\/X.s₀.heap.objs.size<=b)/\b≠X.env.locals/\(∀ x c,X.env.cells.lookup x=some c->c≠b)/\∀ p∈X.pn++pins,p.1≠b)
  (keep:∀ b o,b≠X.env.locals->b∉X.fs->b∉ch->s.heap.get? b=some o->H b=none->h'.get? b=some o)
  (slot:∀ b o,b≠X.env.locals->b∈X.fs->b∉ch->s.heap.get? b=some o->H b=none->∃ sl,h'.get? b=some { o with slots:=sl }) (free:∀ b o,b∉ch->s.heap.get? b=some o->H b=none->H' b=none)
  (there:∀ b o,b∉ch->s.heap.get? b=some o->∃ o',h'.get? b=some o')
  (tups:∀ b xs,H b=some (.tup xs)->H' b=some (.tup xs)) (frzs:∀ b o u,H b=some (.frz o u)->H' b=some (.frz o u)) (tbls:∀ b ps,H b=some (.tbl ps)->∃ more,H' b=some (.tbl (ps++more)))
  (ns:∀ m,s.heap.Ns X.env.locals m->h'.Ns X.env.locals m) (hok:lC X.prog X.w H' h') (hg:lH g') :
  aV X pins σ H' { s with heap:=h',gens:=g',drawn:=d',toks:=t' }:=by
 have neL:∀ b o,X.s₀.heap.get? b=some o->b≠X.env.locals:=fun b o e=>aA (au (al e) I.ok.above)
 have neC:∀ b o,X.s₀.heap.get? b=some o->b∉X.ex->b∉ch:=fun b o e hx hb=>by
  rcases (hch b hb).1 with z|z
  ·exact hx z
  ·exact absurd (au (al e) z) (bX _)
 have cellK:∀ x c,X.env.cells.lookup x=some c->∀ v,s.heap.IsCell c v->h'.IsCell c v:=fun x c e v h_0=>by
  obtain ⟨o,ho,hd⟩:=h_0
  have nch:c∉ch:=fun z=>(hch c z).2.2.1 x c e rfl
  by_cases hc:c∈X.fs
  ·obtain ⟨sl,q⟩:=slot c o (I.cne x c e) hc nch ho (I.freeC x c e)
   exact ⟨_,q,hd⟩
  ·exact ⟨o,keep c o (I.cne x c e) hc nch ho (I.freeC x c e),hd⟩
 refine ⟨I.ok,I.os,hg,⟨fun b o e n hb hx=>?_,fun b o e n hb hx=>?_,fun b o e n hx=>?_,fun b o e hx=>?_,fun b xs e=>tups b xs (I.base.tups b xs e),fun b o xs e=>frzs b o xs (I.base.frzs b o xs e),fun b ps e=>?_⟩,?_,fun x c e=>?_,?_,fun x c e=>?_,fun p hp=>?_,hok,I.len⟩
 ·exact keep b o (neL b o e) hb (neC b o e hx) (I.base.keep b o e n hb hx) (I.base.free b o e n hx)
 ·obtain ⟨sl,e1⟩:=I.base.slot b o e n hb hx
  obtain ⟨sl',e2⟩:=slot b _ (neL b o e) hb (neC b o e hx) e1 (I.base.free b o e n hx)
  exact ⟨sl',e2⟩
 ·obtain ⟨o',e1⟩:=I.base.there b o e hx
  exact free b o' (neC b o e hx) e1 (I.base.free b o e n hx)
 ·obtain ⟨o',e1⟩:=I.base.there b o e hx
  exact there b o' (neC b o e hx) e1
 ·obtain ⟨m1,e1⟩:=I.base.tbls b ps e
  obtain ⟨m2,e2⟩:=tbls b _ e1
  exact ⟨m1++m2,by rw [e2,BJ]⟩
 ·obtain ⟨m,hn,hl⟩:=I.loc
  refine ⟨m,ns m hn,fun i x v e1 e2 e3=>?_⟩
  obtain ⟨u,r,l⟩:=hl i x v e1 e2 e3
  refine ⟨u,r,?_⟩
  rcases l with l|⟨k,c,e,z⟩
  ·exact .inl l
  ·exact .inr ⟨k,c,e,cellK x c e _ z⟩
 ·obtain ⟨v,z⟩:=I.cell x c e
  exact ⟨v,cellK x c e v z⟩
 ·obtain ⟨m,⟨o,_,_,ho,_⟩,_⟩:=I.loc
  exact free _ o (fun z=>(hch _ z).2.1 rfl) ho I.free
 ·obtain ⟨v,o,ho,hd⟩:=I.cell x c e
  exact free c o (fun z=>(hch c z).2.2.1 x c e rfl) ho (I.freeC x c e)
 ·obtain ⟨e,n,ne,nf,d⟩:=I.pin p hp
  have nch:p.1∉ch:=fun z=>(hch p.1 z).2.2.2 p hp rfl
  exact ⟨keep p.1 p.2 ne nf nch e n,free p.1 p.2 nch e n,ne,nf,d⟩
theorem aV.un {t':Nat} (I:aV X pins σ H s) (u:Un X.fs [] H H' s.heap h') (hok:lC X.prog X.w H' h'):aV X pins σ H' { s with heap:=h',toks:=t' }:=by
 obtain ⟨m,⟨o,es,ep,ho,r⟩,_⟩:=id I.loc
 obtain ⟨sl,hL⟩:=u.any ho I.free (by simp)
 exact I.step (g':=s.gens) (d':=s.drawn) (ch:=[]) (fun _ z=>nomatch z) (fun b o _ hb _ e n=>u.keep b o e n hb (by simp)) (fun b o _ hb _ e n=>u.slot b o e n hb (by simp)) (fun b o _ e n=>u.free b o e n (by simp)) (fun b o _ e=>u.there b o e (by simp)) u.tups u.frzs u.tbls (fun m' hm=>by
  obtain ⟨o',es',ep',ho',r'⟩:=hm
  rw [ho] at ho';cases ho'
  exact ⟨_,es',ep',hL,r'⟩) hok I.bare
theorem aV.call {g':Array zB}{t':Nat}{d':D0}{ch:List ac} (I:aV X pins σ H s) (u:Un (nr X.stack) ch H H' s.heap h') (hok:lC X.prog X.w H' h') (hg:lH g')
  (hch:∀ b∈ch,(b∈X.ex\/X.s₀.heap.objs.size<=b)/\b≠X.env.locals/\(∀ x c,X.env.cells.lookup x=some c->c≠b)/\∀ p∈X.pn++pins,p.1≠b) :
  aV X pins σ H' { s with heap:=h',gens:=g',drawn:=d',toks:=t' }:=by
 obtain ⟨m,⟨o,es,ep,ho,r⟩,_⟩:=id I.loc
 obtain ⟨sl,hL⟩:=u.any ho I.free fun z=>(hch _ z).2.1 rfl
 exact I.step (ch:=ch) hch (fun b o hL hb hc e n=>u.keep b o e n (fun z=>(List.mem_cons.mp (I.stkSub b z)).elim hL hb) hc) (fun b o _ _ hc e n=>u.any e n hc) (fun b o hc e n=>u.free b o e n hc) (fun b o hc e=>u.there b o e hc) u.tups u.frzs u.tbls (fun m' hm=>by
  obtain ⟨o',es',ep',ho',r'⟩:=hm
  rw [ho] at ho';cases ho'
  exact ⟨_,es',ep',hL,r'⟩) hok hg
theorem aV.turned {t':Nat}{it:ac} (I:aV X pins σ H s) (k:∀ b o,b≠it->s.heap.get? b=some o->h'.get? b=some o) (hn:H it=none) (hL:it≠X.env.locals)
  (h1:it∈X.ex\/X.s₀.heap.objs.size<=it) (h2:∀ x c,X.env.cells.lookup x=some c->c≠it) (h3:∀ p∈X.pn++pins,p.1≠it):aV X pins σ H { s with heap:=h',toks:=t' }:=by
 have nit:∀ b u,H b=some u->b≠it:=fun b u e z=>by rw [z,hn] at e;cases e
 refine I.step (g':=s.gens) (d':=s.drawn) (ch:=[it]) (fun b hb=>?_) (fun b o _ _ hc e _=>k b o (fun z=>hc (by simp [z])) e) (fun b o _ _ hc e _=>⟨o.slots,k b o (fun z=>hc (by simp [z])) e⟩) (fun _ _ _ _ n=>n)
  (fun b o hc e=>⟨o,k b o (fun z=>hc (by simp [z])) e⟩) (fun _ _ e=>e) (fun _ _ _ e=>e) (fun b ps e=>⟨#[],by rw [e];simp⟩) (fun m hm=>?_) (fun b u e=>?_) I.bare
 ·have e:b=it:=by simpa using hb
  subst e
  exact ⟨h1,hL,h2,h3⟩
 ·obtain ⟨o,es,ep,ho,r⟩:=hm
  exact ⟨o,es,ep,k _ o (cO hL) ho,r⟩
 ·refine (I.hok b u e).stay (fun c v hc q=>k c v ?_ q) (fun _ q=>q) (fun _ _ q=>q) fun _ _ _ q=>q
  rcases hc with z|z
  ·rw [z];exact nit b u e
  ·exact nit c _ z
theorem aV.tok (I:aV X pins σ H s) (t:Nat):aV X pins σ H { s with toks:=t }:=I.un (h':=s.heap) (t':=t) Un.refl I.hok
theorem aV.kept {t':Nat} (I:aV X pins σ H s) (k:∀ b u,s.heap.get? b=some u->h'.get? b=some u):aV X pins σ H { s with heap:=h',toks:=t' }:=I.un (Un.kept k) (I.hok.kept k)
theorem aV.laid {a:ac}{o:HO}{t':Nat} (I:aV X pins σ H s) (k:∀ b u,s.heap.get? b=some u->h'.get? b=some u) (hp:s.heap.objs.size<=a) (new:cj X.prog X.w (upd H a o) h' a o) :
  aV X pins σ (upd H a o) { s with heap:=h',toks:=t' }:=I.un (Un.laid k hp (I.hok.fresh hp)) (I.hok.laid k hp new)
theorem aV.write {x e:ac}{o:HO}{t':Nat} (I:aV X pins σ H s) (mu:Li (H x)) (he:e=x\/H e=some (.own x)) (k:∀ b u,b≠e->s.heap.get? b=some u->h'.get? b=some u) (heo:∃ u,h'.get? e=some u)
  (new:cj X.prog X.w (upd H x o) h' x o):aV X pins σ (upd H x o) { s with heap:=h',toks:=t' }:=I.un (Un.write mu he k heo) (I.hok.write mu he k heo new)
theorem aV.weak {σ':List (Option V)} (I:aV X pins σ H s) (hl:σ'.length=σ.length) (w:∀ (i:Nat) v,σ'[i]?=some (some v)->σ[i]?=some (some v)):aV X pins σ' H s :=
 ⟨I.ok,I.os,I.bare,I.base,let ⟨m,hn,hl'⟩:=I.loc;⟨m,hn,fun i x v e1 e2 e3=>hl' i x v e1 (w i v e2) e3⟩,I.cell,I.free,I.freeC,I.pin,I.hok,hl.trans I.len⟩
theorem aV.pins_of {pins':List (ac×Obj)} (I:aV X pins σ H s) (h:∀ p∈pins',s.heap.get? p.1=some p.2/\H p.1=none/\p.1≠X.env.locals/\p.1∉X.fs/\∀ v,p.2.data≠.cell v):aV X pins' σ H s :=
 ⟨I.ok,I.os,I.bare,I.base,I.loc,I.cell,I.free,I.freeC,fun p hp=>(List.mem_append.mp hp).elim (fun z=>I.pin p (iK _ z)) (h p),I.hok,I.len⟩
theorem xU {N:List Str} (hN:N.Nodup) {i j:Nat}{x:Str} (a:N[i]?=some x) (b:N[j]?=some x):i=j:=by
 obtain ⟨h1,e1⟩:=List.getElem?_eq_some_iff.mp a
 obtain ⟨h2,e2⟩:=List.getElem?_eq_some_iff.mp b
 exact (List.getElem_inj hN).mp (e1.trans e2.symm)
theorem vm {M:D1}{A:aR}{E:a9->ae->Prop}{i:Nat}{x:Str}{v:V}{u:a9}{Q:Unit->ae->Prop} (I:aV X pins σ H s) (hN:X.N.Nodup) (hi:X.N[i]?=some x) (hx:GH X.env.scope x) (r:bW v u)
  (h:∀ s',aV X pins (σ.set i (some v)) H s'->(∃ a,b9 a s.heap s'.heap/\(a=X.env.locals\/X.env.cells.lookup x=some a))->Q () s') (hf:X.fn x=true\/X.env.scope.names.lookup x=some .local:=by first|exact .inl rfl|exact .inr rfl|assumption):ai M A (storeName X.env x u) Q E s:=by
 obtain ⟨m,hn,hl⟩:=id I.loc
 have hcls:(X.env.scope.kind == .class||(X.env.scope.kind == .module&&X.env.locals != X.env.globals))=false:=by rw [I.ok.kind];rfl
 have hiσ:i<σ.length:=by rw [I.len];exact (List.getElem?_eq_some_iff.mp hi).1
 have cne:=I.cne
 have tracked:∀ {a:ac}{h':aW},(∃ o,s.heap.get? a=some o/\H a=none)->b9 a s.heap h'->lC X.prog X.w H h':=fun {a h'} ha hs b ob e=>by
  obtain ⟨_,_,hfree⟩:=ha
  refine (I.hok b ob e).stay (fun c w' hc q=>(hs.2 c ?_).trans q) (fun _ q=>q) (fun _ _ q=>q) fun _ _ _ q=>q
  rintro rfl
  rcases hc with rfl|hc
  ·rw [hfree] at e;cases e
  ·rw [hfree] at hc;cases hc
 rcases hx with hk|hk
 ·refine wpAny_storeName_local hk hn (fun h' hn' hs=>?_) hcls
  obtain ⟨oL,_,_,hoL,_⟩:=id hn
  refine h _ ⟨I.ok,I.os,I.bare,⟨fun b o e n hb hx=>?_,fun b o e n hb hx=>?_,I.base.free,fun b o e hx=>?_,I.base.tups,I.base.frzs,I.base.tbls⟩,⟨_,hn',fun j y v' e1 e2 e3=>?_⟩,fun y c e=>?_,I.free,I.freeC,fun p hp=>?_,tracked ⟨oL,hoL,I.free⟩ hs,by simpa using I.len⟩ ⟨_,hs,.inl rfl⟩
  ·exact (hs.2 b (aA (au (al e) I.ok.above))).trans (I.base.keep b o e n hb hx)
  ·obtain ⟨sl,e1⟩:=I.base.slot b o e n hb hx
   exact ⟨sl,(hs.2 b (aA (au (al e) I.ok.above))).trans e1⟩
  ·obtain ⟨o',e1⟩:=I.base.there b o e hx
   exact ⟨o',(hs.2 b (aA (au (al e) I.ok.above))).trans e1⟩
  ·by_cases hj:j=i
   ·subst hj
    rw [hi] at e1;cases e1
    rw [aE hiσ] at e2
    cases e2
    exact ⟨u,r,.inl ⟨hk,by simp⟩⟩
   ·rw [aj (cO hj)] at e2
    obtain ⟨u',r',q⟩:=hl j y v' e1 e2 e3
    refine ⟨u',r',?_⟩
    rcases q with ⟨k,e⟩|⟨k,c,e,z⟩
    ·refine .inl ⟨k,?_⟩
     have:y≠x:=fun e=>hj (xU hN e1 (e ▸ hi))
     simp [this,e]
    ·exact .inr ⟨k,c,e,z.sameBut hs (cne y c e)⟩
  ·obtain ⟨w',z⟩:=I.cell y c e
   exact ⟨w',z.sameBut hs (cne y c e)⟩
  ·obtain ⟨e,n,ne,nf,d⟩:=I.pin p hp
   exact ⟨(hs.2 p.1 ne).trans e,n,ne,nf,d⟩
 ·have hfn:X.fn x=true:=by
   rcases hf with z|z
   ·exact z
   ·rw [z] at hk;cases hk
  obtain ⟨c,hc⟩:=I.ok.has x (.inl hk)
  obtain ⟨w',z⟩:=I.cell x c hc
  refine wpAny_storeName_cell I.ok.kind hk hc z (fun h' hc' hs=>?_)
  obtain ⟨oc,hoc,hocd⟩:=id z
  refine h { s with heap:=h' } ⟨I.ok,I.os,I.bare,⟨fun b o e n hb hx=>?_,fun b o e n hb hx=>?_,I.base.free,fun b o e hx=>?_,I.base.tups,I.base.frzs,I.base.tbls⟩,⟨m,hn.sameBut hs (cO (cne x c hc)),fun j y v' e1 e2 e3=>?_⟩,fun y c' e=>?_,I.free,I.freeC,fun p hp=>?_,tracked ⟨oc,hoc,I.freeC x c hc⟩ hs,by simpa using I.len⟩ ⟨c,hs,.inr hc⟩
  ·exact (hs.2 b (aA (au (al e) (I.ok.cab x c hfn hc)))).trans (I.base.keep b o e n hb hx)
  ·obtain ⟨sl,e1⟩:=I.base.slot b o e n hb hx
   exact ⟨sl,(hs.2 b (aA (au (al e) (I.ok.cab x c hfn hc)))).trans e1⟩
  ·obtain ⟨o',e1⟩:=I.base.there b o e hx
   exact ⟨o',(hs.2 b (aA (au (al e) (I.ok.cab x c hfn hc)))).trans e1⟩
  ·by_cases hj:j=i
   ·subst hj
    rw [hi] at e1;cases e1
    rw [aE hiσ] at e2
    cases e2
    exact ⟨u,r,.inr ⟨.inl hk,c,hc,hc'⟩⟩
   ·rw [aj (cO hj)] at e2
    obtain ⟨u',r',q⟩:=hl j y v' e1 e2 e3
    refine ⟨u',r',?_⟩
    rcases q with q|⟨k,c',e,z'⟩
    ·exact .inl q
    ·refine .inr ⟨k,c',e,z'.sameBut hs ?_⟩
     rintro rfl
     exact hj (xU hN e1 (I.ok.inj _ _ _ e hc ▸ hi))
  ·by_cases hcc:c'=c
   ·subst hcc;exact ⟨_,hc'⟩
   ·obtain ⟨w2,z2⟩:=I.cell y c' e
    exact ⟨w2,z2.sameBut hs hcc⟩
  ·obtain ⟨e,n,ne,nf,d⟩:=I.pin p hp
   refine ⟨(hs.2 p.1 ?_).trans e,n,ne,nf,d⟩
   intro q
   rw [q,hoc] at e
   have q':oc=p.2:=a_ e
   exact d w' (by rw [<- q'];exact hocd)
theorem lS {M:D1}{A:aR}{E:a9->ae->Prop}{i:Nat}{x:Str}{v:V}{u:a9}{Q:Unit->ae->Prop} (I:aV X pins σ H s) (hN:X.N.Nodup) (hi:X.N[i]?=some x) (hx:GH X.env.scope x) (r:bW v u)
  (h:∀ s',aV X pins (σ.set i (some v)) H s'->Q () s') (hf:X.fn x=true\/X.env.scope.names.lookup x=some .local:=by first|exact .inl rfl|exact .inr rfl|assumption):ai M A (storeName X.env x u) Q E s :=
 vm I hN hi hx r (fun s' I' _=>h s' I') hf
theorem aV.call' {s':ae}{ch:List ac} (I:aV X pins σ H s) (ho:s'.os=s.os) (u:Un (nr X.stack) ch H H' s.heap s'.heap) (hok:lC X.prog X.w H' s'.heap) (hg:lH s'.gens)
  (hch:∀ b∈ch,(b∈X.ex\/X.s₀.heap.objs.size<=b)/\b≠X.env.locals/\(∀ x c,X.env.cells.lookup x=some c->c≠b)/\∀ p∈X.pn++pins,p.1≠b):aV X pins σ H' s':=by
 obtain ⟨h',g',d',t',o'⟩:=s'
 have e:o'=s.os:=ho
 subst e
 exact I.call (g':=g') (t':=t') (d':=d') u hok hg hch
end
abbrev XK:=a9->Option ac->Hp->Prop
abbrev St:=List (Option V)
abbrev VK:=V->Hp->Prop
abbrev TE:=St->Hp->VK->Prop
abbrev TT:=St->Hp->(Bool->Hp->Prop)->Prop
abbrev TA:=St->Hp->(List V->Hp->Prop)->Prop
structure oQ where
 nx:St->Hp->Prop
 rt:VK
 bk:St->Hp->Prop:=fun _ _=>False
 ct:St->Hp->Prop:=fun _ _=>False
abbrev TS:=oQ->St->Hp->Prop
inductive EP (X:Cx) (pins:List (ac×Obj)) (σ:St) (Q:VK) (u:a9) (s':ae):Prop
 |mk (v H':_) (h0:aV X pins σ H' s') (h1:bW v u) (h2:Q v H'):EP X pins σ Q u s'
inductive TP (X:Cx) (pins:List (ac×Obj)) (σ:St) (Q:Bool->Hp->Prop) (b:Bool) (s':ae):Prop
 |mk (H':_) (h0:aV X pins σ H' s') (h1:Q b H'):TP X pins σ Q b s'
inductive AP (X:Cx) (pins:List (ac×Obj)) (σ:St) (Q:List V->Hp->Prop) (us:List a9) (s':ae):Prop
 |mk (vs H':_) (h0:aV X pins σ H' s') (h1:cu vs us) (h2:Q vs H'):AP X pins σ Q us s'
inductive SN (X:Cx) (pins:List (ac×Obj)) (k:St->Hp->Prop) (s':ae):Prop
 |mk (σ':St) (H':Hp) (I:aV X pins σ' H' s') (q:k σ' H'):SN X pins k s'
inductive SV (X:Cx) (pins:List (ac×Obj)) (k:V->Hp->Prop) (u:a9) (s':ae):Prop
 |mk (v:V) (σ':St) (H':Hp) (I:aV X pins σ' H' s') (r:bW v u) (q:k v H'):SV X pins k u s'
def SP (X:Cx) (pins:List (ac×Obj)) (D:oQ) (f:Flow) (s':ae):Prop :=
 match f with
 |.next=>SN X pins D.nx s'
 |.brk=>SN X pins D.bk s'
 |.cont=>SN X pins D.ct s'
 |.ret u=>SV X pins D.rt u s'
def PE (X:Cx) (e:aQ) (t:TE):Prop :=
 ∀ (pins:List (ac×Obj)) (s:ae) (σ:St) (H:Hp) (Q:VK),aV X pins σ H s->t σ H Q->ai (ax X.prog X.w) X.A (cQ e X.env) (EP X pins σ Q) X.xe s
def PT (X:Cx) (e:aQ) (t:TT):Prop :=
 ∀ (pins:List (ac×Obj)) (s:ae) (σ:St) (H:Hp) (Q:Bool->Hp->Prop),aV X pins σ H s->t σ H Q->ai (ax X.prog X.w) X.A (sv e X.env (cQ e X.env)) (TP X pins σ Q) X.xe s
def PW (X:Cx) (e:aQ) (t:TT):Prop :=
 ∀ (whole:Sem a9) (pins:List (ac×Obj)) (s:ae) (σ:St) (H:Hp) (Q:Bool->Hp->Prop),aV X pins σ H s->t σ H Q->ai (ax X.prog X.w) X.A (sv e X.env whole) (TP X pins σ Q) X.xe s
theorem PW.pt {X:Cx}{e:aQ}{t:TT} (h:PW X e t):PT X e t:=h _
def PA (X:Cx) (es:List aQ) (t:TA):Prop :=
 ∀ (pos:Pos) (pins:List (ac×Obj)) (s:ae) (σ:St) (H:Hp) (Q:List V->Hp->Prop),aV X pins σ H s->t σ H Q->ai (ax X.prog X.w) X.A (spliced (cR pos (ap es X.env))) (AP X pins σ Q) X.xe s
def PS (X:Cx) (st:cy) (t:TS):Prop :=
 ∀ (pins:List (ac×Obj)) (s:ae) (σ:St) (H:Hp) (D:oQ),aV X pins σ H s->t D σ H->ai (ax X.prog X.w) X.A (exec st X.env) (SP X pins D) X.xe s
def uA (X:Cx) (st:List cy) (t:TS):Prop :=
 ∀ (pins:List (ac×Obj)) (s:ae) (σ:St) (H:Hp) (D:oQ),aV X pins σ H s->t D σ H->ai (ax X.prog X.w) X.A (execs st X.env) (SP X pins D) X.xe s
theorem dX {α:Type}{t:Sem α}{Q Q':α->ae->Prop}{M:D1}{A:aR}{E:a9->ae->Prop}{s:ae} (h:ai M A t Q E s) (hQ:∀ a s,Q a s->Q' a s):ai M A t Q' E s:=bu h hQ fun _ _ x=>x
end L2
namespace L2
open PySem PySem.Spec PyProof.Rows
section
variable {X:Cx}
inductive Iz (i:Nat) (σ:St) (H:Hp) (Q:VK):Prop
 |mk (v:_) (h0:σ[i]?=some (some v)) (h1:Q v H):Iz i σ H Q
def DB (i:Nat):TE:=Iz i
def tC (v:V):TE:=fun _ H Q=>Q v H
theorem jO {i:Nat}{x:Str}{pos:Pos} (hN:X.N[i]?=some x) (hv:C1 X.env.scope x) (hd:(x==("__debug__" : Str))=false:=by decide) (hcd:(x==("__classdict__" : Str))=false:=by decide):PE X (.Name x pos) (DB i):=by
 intro pins s σ H Q I h
 obtain ⟨v,e,h⟩:=h
 obtain ⟨m,hn,hl⟩:=I.loc
 obtain ⟨u,r,l⟩:=hl i x v hN e hv
 have fin:EP X pins σ Q u s:=⟨v,H,I,r,h⟩
 rcases l with ⟨hk,hm⟩|⟨hk,c,hc,hcell⟩
 ·exact wpAny_Name (wpAny_loadName_local I.ok.kind hk hn hm fin) hd
 ·rcases hk with hk|hk
  ·exact wpAny_Name (wpAny_loadName_cell I.ok.kind hk hc hcell fin) hd
  ·exact wpAny_Name (wpAny_loadName_free I.ok.kind hk hc hcell fin hcd) hd
theorem DC {i j pos}:PE X (.Constant (.int i) j pos) (tC (.int i)):=fun _ _ _ H _ I h=>wpAny_Constant_int ⟨.int i,H,I.tok _,⟨_,rfl⟩,h⟩
theorem DD {b j pos}:PE X (.Constant (.bool b) j pos) (tC (.bl b)):=fun _ _ _ H _ I h=>Constant_bool ⟨.bl b,H,I,rfl,h⟩
theorem Jv {j pos}:PE X (.Constant .none j pos) (tC .non):=fun _ _ _ H _ I h=>Constant_none ⟨.non,H,I,rfl,h⟩
theorem DE {x j pos}:PE X (.Constant (.str x) j pos) (tC (.str x)):=fun _ _ _ H _ I h=>Calls.Constant_str ⟨.str x,H,I.tok _,⟨_,rfl⟩,h⟩
def Gl (X:Cx) (x:Str):Prop:=X.env.kindOf x=some .globalImplicit
theorem s9 {E:a9->ae->Prop}{pins:List (ac×Obj)}{s:ae}{σ:St}{H:Hp}{x:Str}{u:a9}{pos:Pos}{Q:a9->ae->Prop} (I:aV X pins σ H s) (hg:Gl X x) (hm:X.mg x=some u) (h:Q u s)
  (hd:(x==("__debug__" : Str))=false:=by decide):ai (ax X.prog X.w) X.A (cQ (.Name x pos) X.env) Q E s :=
 jl I.ok.kind hg (xE (by rw [I.ok.glob];exact I.mod.glob.keeps I.bk) hm h) hd
theorem sM {E:a9->ae->Prop}{pins:List (ac×Obj)}{s:ae}{σ:St}{H:Hp}{x:Str}{u:a9}{pos:Pos}{Q:a9->ae->Prop} (I:aV X pins σ H s) (hg:Gl X x) (hm:X.mg x=none) (hv:ft x=some u) (h:Q u s)
  (hn:x≠"__name__":=by decide) (hd:(x==("__debug__" : Str))=false:=by decide):ai (ax X.prog X.w) X.A (cQ (.Name x pos) X.env) Q E s:=by
 obtain ⟨mb,h1,h2⟩:=I.mod.blt
 exact jl I.ok.kind hg (Calls.loadGlobal_builtin (by rw [I.ok.glob];exact I.mod.glob.keeps I.bk) hm (by rw [I.ok.blt];exact h1.keeps I.bk) ((h2 x hn).trans hv) h) hd
theorem oR {x:Str}{v:V}{u:a9}{pos:Pos} (hg:Gl X x) (hm:X.mg x=some u) (r:bW v u) (hd:(x==("__debug__" : Str))=false:=by decide):PE X (.Name x pos) (tC v) :=
 fun _ _ _ H _ I h=>s9 I hg hm ⟨v,H,I,r,h⟩ hd
theorem AZ {x:Str}{v:V}{u:a9}{pos:Pos} (hg:Gl X x) (hm:X.mg x=none) (hv:ft x=some u) (r:bW v u) (hn:x≠"__name__":=by decide) (hd:(x==("__debug__" : Str))=false:=by decide):PE X (.Name x pos) (tC v) :=
 fun _ _ _ H _ I h=>sM I hg hm hv ⟨v,H,I,r,h⟩ hn hd
variable {a b:aQ}{ta tb:TE}{pos:Pos}
def PC (X:Cx) (op:D2) (a b:aQ) (t:TE):Prop :=
 ∀ (pins:List (ac×Obj)) (s:ae) (σ:St) (H:Hp) (Q:VK),aV X pins σ H s->t σ H Q ->
  ai (ax X.prog X.w) X.A (cQ a X.env) (fun v s₁=>ai (ax X.prog X.w) X.A (cQ b X.env) (fun u s₂=>ai (ax X.prog X.w) X.A (bh op v u) (EP X pins σ Q) X.xe s₂) X.xe s₁) X.xe s
theorem DF (b:aQ) {op:D2} (h:op≠.In) (h2:op≠.NotIn):dY op b=false:=by
 have e1:(op==CmpOp.In)=false:=by cases op<;>first|rfl|exact absurd rfl h
 have e2:(op==CmpOp.NotIn)=false:=by cases op<;>first|rfl|exact absurd rfl h2
 cases b<;>simp [dY,e1,e2]
def tB (t:TE):TT:=fun σ H Q=>t σ H fun x H1=>∃ c,x=.bl c/\Q c H1
theorem N4 {op:D2}{t:TE} (h:PC X op a b t) (h1:dY op b=false:=by first|exact DF _ (by decide) (by decide)|rfl):PT X (.Compare a [op] [b] pos) (tB t):=by
 intro pins s σ H Q I hw
 refine G3 (dX (h pins s σ H _ I hw) fun v s1 h1=>dX h1 fun u s2 h2=>dX h2 fun c s3 ⟨x,H1,I1,r1,q1⟩=>?_) h1
 obtain ⟨d,rfl,q⟩:=q1
 cases r1
 exact c8 ⟨H1,I1,q⟩
theorem DG {e:aQ}{t:TE} (h:PE X e t) (he:∀ whole,sv e X.env whole=(do let v <- whole;qM e.pos;qN [v] (truthy v)):=by intro _;rfl):PT X e (tB t):=by
 intro pins s σ H Q I hw
 refine isTrue_plain (dX (h pins s σ H _ I hw) fun v s1 ⟨x,H1,I1,r1,q1⟩=>?_) (he _)
 obtain ⟨d,rfl,q⟩:=q1
 cases r1
 exact c8 ⟨H1,I1,q⟩
variable {tA tB':TT}{b_:List aQ}
def OV (t u:TT):TT:=fun σ H Q=>t σ H fun c H1=>if c=true then Q true H1 else u σ H1 Q
def N5 (t:TT):TT:=fun σ H Q=>t σ H fun c H1=>Q (!c) H1
theorem DH (ha:PT X a tA):PW X (.BoolOp .Or [a] pos) tA:=by
 intro wh pins s σ H Q I h
 refine isTrue_or (dX (ha pins s σ H Q I h) fun c s1 e=>?_)
 cases c with
 |false=>exact isTrue_or_nil e
 |true=>exact e
theorem IA (ha:PT X a tA) (hb:PW X (.BoolOp .Or (b::b_) pos) tB'):PW X (.BoolOp .Or (a::b::b_) pos) (OV tA tB'):=by
 intro wh pins s σ H Q I h
 refine isTrue_or (dX (ha pins s σ H _ I h) fun c s1 ⟨H1,I1,q1⟩=>?_)
 cases c with
 |true=>exact ⟨H1,I1,q1⟩
 |false=>exact hb wh pins s1 σ H1 Q I1 q1
theorem DI (ha:PT X a tA):PT X (.UnaryOp .Not a pos) (N5 tA):=by
 intro pins s σ H Q I h
 exact isTrue_not (dX (ha pins s σ H (fun c H1=>Q (!c) H1) I h) fun _ _ x=>by obtain ⟨a,b,c⟩:=x;exact ⟨a,b,c⟩)
def Lj (ta tb:TE):TE:=fun σ H Q=>ta σ H fun x H1=>∃ c,x=.bl c/\if c=true then tb σ H1 Q else Q (.bl false) H1
def Lk (ta:TE):TE:=fun σ H Q=>ta σ H fun x H1=>∃ c,x=.bl c/\Q (.bl (!c)) H1
theorem Jw {op}{t:TE} (h:PE X a t):PE X (.BoolOp op [a] pos) t:=fun pins s σ H Q I hw=>BoolOp_one (h pins s σ H Q I hw)
theorem Jx (ha:PE X a ta) (hb:PE X (.BoolOp .And (b::b_) pos) tb):PE X (.BoolOp .And (a::b::b_) pos) (Lj ta tb):=by
 intro pins s σ H Q I h
 refine BoolOp_and (dX (ha pins s σ H _ I h) fun v s1 ⟨x,H1,I1,r1,q1⟩=>?_)
 obtain ⟨c,rfl,q1⟩:=q1
 cases r1
 refine c8 ?_
 cases c with
 |true=>exact hb pins s1 σ H1 Q I1 q1
 |false=>exact ⟨.bl false,H1,I1,rfl,q1⟩
theorem Jy (ha:PE X a ta):PE X (.UnaryOp .Not a pos) (Lk ta):=by
 intro pins s σ H Q I h
 refine UnaryOp_ (dX (ha pins s σ H _ I h) fun v s1 ⟨x,H1,I1,r1,q1⟩=>?_)
 obtain ⟨c,rfl,q1⟩:=q1
 cases r1
 exact not_of (c8 ⟨.bl (!c),H1,I1,rfl,q1⟩)
end
end L2
namespace L2
open PySem PySem.Spec PyProof.Rows
inductive O9 (K:a7) (a:ac) (xs:List V):Prop
 |mk (o:Obj) (its:Array a9) (n:Nat) (h0:K.lookup a=some o) (h1:o.cls=.type "list") (h2:o.dict=none) (h3:o.data=.seq its n) (h4:its.size<=sizeLine) (h5:cu xs its.toList):O9 K a xs
def jx (K:a7) (H:Hp) (a:ac) (xs:List V):Prop :=
 Rd H a (.lst xs)\/O9 K a xs
inductive Oa (K:a7) (a:ac) (xs:List V):Prop
 |mk (o:Obj) (its:Array a9) (n:Nat) (h0:K.lookup a=some o) (h1:o.cls=.type "tuple") (h3:o.data=.seq its n) (h4:its.size<=sizeLine) (h5:cu xs its.toList):Oa K a xs
def iR (K:a7) (H:Hp) (a:ac) (xs:List V):Prop :=
 Rd H a (.tup xs)\/Oa K a xs
def N6:a9->Option V
 |.none=>some .non
 |.bool b=>some (.bl b)
 |.int i _=>some (.int i)
 |.str x _=>some (.str x)
 |.bytes b _=>some (.byt b)
 |.float b _=>some (.flt b)
 |.ref a=>some (.ref a)
 |.type n=>some (.ty n)
 |_=>none
theorem bW.abs {x:V}{u:a9} (r:bW x u):N6 u=some x:=by
 cases x with
 |non=>cases r;rfl
 |bl _=>cases r;rfl
 |int _=>obtain ⟨t,rfl⟩:=r;rfl
 |str _=>obtain ⟨t,rfl⟩:=r;rfl
 |byt _=>obtain ⟨t,rfl⟩:=r;rfl
 |flt _=>obtain ⟨t,rfl⟩:=r;rfl
 |ref _=>cases r;rfl
 |ty _=>cases r;rfl
theorem bW.inj {x y:V}{u:a9} (r:bW x u) (q:bW y u):x=y:=a_ (r.abs.symm.trans q.abs)
theorem cu.inj {xs:List V}{us:List a9} (h:cu xs us):∀ {ys:List V},cu ys us->xs=ys:=by
 induction h with
 |nil=>intro ys k;cases k;rfl
 |cons r t ih=>intro ys k;cases k with|cons r' t'=>rw [r.inj r',ih t']
section
variable {X:Cx}{pins:List (ac×Obj)}{σ:St}{H:Hp}{s:ae}{a:ac}{xs ys:List V}
theorem jx.of {K:a7} (h:H a=some (.lst xs)):jx K H a xs:=.inl (.inl h)
theorem iR.of {K:a7} (h:H a=some (.tup xs)):iR K H a xs:=.inl (.inl h)
inductive Ob (h:aW) (a:ac) (xs:List V):Prop
 |mk (its:List a9) (r:cu xs its) (p:PlainL h a its.toArray) (z:xs.length<=sizeLine):Ob h a xs
inductive Oc (h:aW) (a:ac) (xs:List V):Prop
 |mk (its:List a9) (r:cu xs its) (p:IsTup h a its.toArray) (z:xs.length<=sizeLine):Oc h a xs
inductive Od (h:aW) (l:ac) (xs:List V):Prop
 |mk (z:xs.length<=sizeLine) (its:List a9) (n:Nat) (r:cu xs its) (hl:xs.length=its.length) (e:h.get? l=some { cls:=.type "list",data:=.seq its.toArray n }):Od h l xs
theorem aV.list (I:aV X pins σ H s) (h:jx X.K H a xs):Ob s.heap a xs:=by
 rcases h with h|⟨o,its,n,hk,hc,hd,hs,hz,r⟩
 ·obtain ⟨z,its,n,r,e⟩:=h.ok I.hok
  exact ⟨its,r,⟨_,n,e,rfl,rfl,rfl⟩,z⟩
 ·refine ⟨its.toList,r,⟨o,n,I.kIn a o hk,hc,hd,by simpa using hs⟩,?_⟩
  have e:=r.length
  simp only [am] at e
  omega
theorem aV.tuple (I:aV X pins σ H s) (h:iR X.K H a xs):Oc s.heap a xs:=by
 rcases h with h|⟨o,its,n,hk,hc,hs,hz,r⟩
 ·obtain ⟨z,its,r,p⟩:=h.ok I.hok
  exact ⟨its,r,p,z⟩
 ·refine ⟨its.toList,r,⟨o,I.kIn a o hk,hc,n,by simpa using hs⟩,?_⟩
  have e:=r.length
  simp only [am] at e
  omega
theorem aV.list_inj (I:aV X pins σ H s) (h:jx X.K H a xs) (h':jx X.K H a ys):xs=ys:=by
 obtain ⟨its,r,⟨o,n,e,_,_,d⟩,_⟩:=I.list h
 obtain ⟨its',r',⟨o',n',e',_,_,d'⟩,_⟩:=I.list h'
 rw [e] at e';cases e'
 rw [d] at d'
 injection d' with d1 _
 have:its=its':=by simpa using congrArg Array.toList d1
 subst this
 exact r.inj r'
theorem aV.tuple_inj (I:aV X pins σ H s) (h:iR X.K H a xs) (h':iR X.K H a ys):xs=ys:=by
 obtain ⟨its,r,⟨o,e,_,n,d⟩,_⟩:=I.tuple h
 obtain ⟨its',r',⟨o',e',_,n',d'⟩,_⟩:=I.tuple h'
 rw [e] at e';cases e'
 rw [d] at d'
 injection d' with d1 _
 have:its=its':=by simpa using congrArg Array.toList d1
 subst this
 exact r.inj r'
end
abbrev Cx.wish (X:Cx) (E:a9->ae->Prop):Cx:={ X with xe:=E }
abbrev Cx.nox (X:Cx):Cx:=X.wish fun _ _=>False
theorem Cx.Ok.wish {X:Cx} (ok:X.Ok) (E:a9->ae->Prop):(X.wish E).Ok :=
 ⟨ok.mod,ok.kind,ok.glob,ok.blt,ok.above,ok.inj,ok.has,ok.cab,ok.hd,ok.frames,ok.stk,ok.exf,ok.bs,ok.bsz,ok.noex,ok.exfs,ok.funs,ok.frf,ok.tb⟩
theorem Cx.Ok.unwish {X:Cx}{E:a9->ae->Prop} (ok:(X.wish E).Ok):X.Ok :=
 ⟨ok.mod,ok.kind,ok.glob,ok.blt,ok.above,ok.inj,ok.has,ok.cab,ok.hd,ok.frames,ok.stk,ok.exf,ok.bs,ok.bsz,ok.noex,ok.exfs,ok.funs,ok.frf,ok.tb⟩
section
variable {X:Cx}{pins:List (ac×Obj)}{σ:St}{H:Hp}{s:ae}{E:a9->ae->Prop}
theorem aV.wish (I:aV X pins σ H s) (E:a9->ae->Prop):aV (X.wish E) pins σ H s:=⟨I.ok.wish E,I.os,I.bare,I.base,I.loc,I.cell,I.free,I.freeC,I.pin,I.hok,I.len⟩
theorem aV.unwish (I:aV (X.wish E) pins σ H s):aV X pins σ H s:=⟨I.ok.unwish,I.os,I.bare,I.base,I.loc,I.cell,I.free,I.freeC,I.pin,I.hok,I.len⟩
theorem SP.unwish {D:oQ}{f:Flow}{s':ae} (h:SP (X.wish E) pins D f s'):SP X pins D f s':=by
 cases f with
 |next=>obtain ⟨σ',H',I,q⟩:=h;exact ⟨σ',H',I.unwish,q⟩
 |brk=>obtain ⟨σ',H',I,q⟩:=h;exact ⟨σ',H',I.unwish,q⟩
 |cont=>obtain ⟨σ',H',I,q⟩:=h;exact ⟨σ',H',I.unwish,q⟩
 |ret u=>obtain ⟨v,σ',H',I,r,q⟩:=h;exact ⟨v,σ',H',I.unwish,r,q⟩
end
section
variable {X:Cx}{st:cy}{b_:List cy}{t u:TS}{e:aQ}{te:TE}{pos:Pos}
def Ll:TS:=fun D σ H=>D.nx σ H
def N7 (t u:TS):TS:=fun D σ H=>t { D with nx:=u D } σ H
theorem wm:uA X [] Ll:=fun _ _ σ H _ I h=>jH ⟨σ,H,I,h⟩
theorem d_ (h1:PS X st t) (h2:uA X b_ u):uA X (st::b_) (N7 t u):=by
 intro pins s σ H D I h
 refine wpAny_execs_cons (dX (h1 pins s σ H { D with nx:=u D } I h) fun f s1 q=>?_)
 cases f with
 |next =>
  obtain ⟨σ',H',I',q⟩:=q
  exact h2 pins s1 σ' H' D I' q
 |ret v=>exact q
 |brk=>exact q
 |cont=>exact q
theorem mE (h1:PS X st t):uA X [st] t:=by
 intro pins s σ H D I h
 refine wpAny_execs_cons (dX (h1 pins s σ H D I h) fun f s1 q=>?_)
 cases f with
 |next=>exact jH q
 |ret v=>exact q
 |brk=>exact q
 |cont=>exact q
theorem aV.quiet {pins:List (ac×Obj)}{σ:St}{H:Hp}{s:ae} (I:aV X pins σ H s):interactive X.env=false:=by simp [interactive,I.ok.kind]
def Lm (te:TE):TS:=fun D σ H=>te σ H fun _ H1=>D.nx σ H1
theorem oS (he:PE X e te) (hs:fP e none pos.line X.env=pure false:=by rfl):PS X (.Expr e pos) (Lm te):=by
 intro pins s σ H D I h
 exact wpAny_Expr_any (dX (he pins s σ H _ I h) fun v s1 h_7=>by obtain ⟨x,H1,I1,r1,q1⟩:=h_7;exact ⟨σ,H1,I1,q1⟩) I.quiet hs
def Ln (te:TE):TS:=fun D σ H=>te σ H D.rt
theorem wn (he:PE X e te):PS X (.Return (some e) pos) (Ln te):=by
 intro pins s σ H D I h
 exact wpAny_Return_some (dX (he pins s σ H _ I h) fun v s1 h_8=>by obtain ⟨x,H1,I1,r1,q1⟩:=h_8;exact ⟨x,σ,H1,I1,r1,q1⟩)
def N8 (c:TT) (t u:TS):TS:=fun D σ H=>c σ H fun b H1=>if b=true then t D σ H1 else u D σ H1
theorem DJ {c:aQ}{a b:List cy}{tc:TT} (hc:PT X c tc) (ha:uA X a t) (hb:uA X b u):PS X (.If c a b pos) (N8 tc t u):=by
 intro pins s σ H D I h
 refine wpAny_If (dX (hc pins s σ H _ I h) fun d s1 ⟨H1,I1,q1⟩=>?_)
 cases d with
 |true=>exact ha pins s1 σ H1 D I1 q1
 |false=>exact hb pins s1 σ H1 D I1 q1
def Jz:TS:=fun _ _ _=>False
theorem fN {sts:List cy}:uA X sts Jz:=fun _ _ _ _ _ _ h=>h.elim
end
abbrev TG:=V->St->Hp->(St->Hp->Prop)->Prop
abbrev DK:=List V->St->Hp->(St->Hp->Prop)->Prop
def PG (X:Cx) (target:aQ) (t:TG):Prop :=
 ∀ (pins:List (ac×Obj)) (s:ae) (σ:St) (H:Hp) (v:V) (u:a9) (Q:St->Hp->Prop),aV X pins σ H s->bW v u->t v σ H Q ->
  ai (ax X.prog X.w) X.A (nL target X.env u) (fun _ s'=>SN X pins Q s') X.xe s
def IB (X:Cx) (ts:List aQ) (t:DK):Prop :=
 ∀ (pins:List (ac×Obj)) (s:ae) (σ:St) (H:Hp) (vs:List V) (us:List a9) (Q:St->Hp->Prop),aV X pins σ H s->cu vs us->t vs σ H Q ->
  ai (ax X.prog X.w) X.A (BK ((fu ts X.env).map (·.2)) us) (fun _ s'=>SN X pins Q s') X.xe s
section
variable {X:Cx}{pos:Pos}
def oT (i:Nat):TG:=fun v σ H Q=>Q (σ.set i (some v)) H
theorem dq {i:Nat}{x:Str} (hN:X.N.Nodup) (hi:X.N[i]?=some x) (hx:GH X.env.scope x) (hf:X.fn x=true\/X.env.scope.names.lookup x=some .local:=by first|exact .inl rfl|exact .inr rfl|assumption):PG X (.Name x pos) (oT i):=by
 intro pins s σ H v u Q I r h
 exact wpAny_assign_Name (lS I hN hi hx r (fun s' I'=>⟨_,H,I',h⟩) hf)
def aF:DK:=fun vs σ H Q=>vs=[]/\Q σ H
inductive DL (t:TG) (u:DK) (vs:List V) (σ:St) (H:Hp) (Q:St->Hp->Prop):Prop
 |mk (v r:_) (h0:vs=v::r) (h1:t v σ H fun σ' H'=>u r σ' H' Q):DL t u vs σ H Q
def aa (t:TG) (u:DK):DK:=DL t u
theorem sd:IB X [] aF:=by
 intro pins s σ H vs us Q I r h
 obtain ⟨e,h⟩:=h
 subst e
 cases r
 exact assignInOrder_nil ⟨σ,H,I,h⟩
theorem iX {e:aQ}{es:List aQ}{t:TG}{u:DK} (h1:PG X e t) (h2:IB X es u)
  (hs:(fu (e::es) X.env).map (·.2)=nL e X.env::(fu es X.env).map (·.2):=by rfl):IB X (e::es) (aa t u):=by
 intro pins s σ H vs us Q I r h
 obtain ⟨v,vr,e1,h⟩:=h
 subst e1
 cases r with
 |cons r rr =>
  rw [hs]
  refine sw (dX (h1 pins s σ H _ _ _ I r h) fun _ s1 ⟨σ1,H1,I1,q1⟩=>?_)
  exact h2 pins s1 σ1 H1 _ _ Q I1 rr q1
inductive IC (K:a7) (n:Nat) (t:DK) (v:V) (σ:St) (H:Hp) (Q:St->Hp->Prop):Prop
 |mk (a xs:_) (h0:v=.ref a) (h1:iR K H a xs) (h2:xs.length=n) (h3:t xs σ H Q):IC K n t v σ H Q
def JA (K:a7) (n:Nat) (t:DK):TG:=IC K n t
theorem wo {es:List aQ}{k:Nat}{t:DK}{n:Nat} (hc:X.calm=true) (h:IB X es t)
  (hn:(fu es X.env).length=n:=by rfl) (hst:(fu es X.env).findIdx? (·.1)=none:=by rfl):PG X (.Tuple es k pos) (JA X.K n t):=by
 intro pins s σ H v u Q I r hw
 obtain ⟨a,xs,e1,hq,hl,hw⟩:=hw
 subst e1
 cases r
 obtain ⟨its,rv,ht,hz⟩:=I.tuple hq
 refine assign_Tuple_tuple (I.ok.hd hc) ht (by simp [hn,<- hl,rv.length]) hst fun h' hx=>?_
 have I1:aV X pins σ H { s with heap:=h' }:=I.kept (t':=s.toks) fun b o e=>hx b o (aA (al e)) e
 exact h pins _ σ H xs _ Q I1 (by simpa using rv) hw
def Lo (te:TE) (g:TG):TS:=fun D σ H=>te σ H fun x H1=>g x σ H1 D.nx
theorem DM {tg e:aQ}{te:TE}{g:TG} (he:PE X e te) (hg:PG X tg g) (hs:rT [tg] e pos.line X.env=pure false:=by rfl) (hw:rV [tg] e X.env=pure none:=by rfl)
  (h1:(fu [tg] X.env).map (·.2)=[nL tg X.env]:=by rfl):PS X (.Assign [tg] e pos) (Lo te g):=by
 intro pins s σ H D I h
 refine wpAny_Assign_stores (dX (he pins s σ H _ I h) fun v s1 ⟨x,H1,I1,r1,q1⟩=>?_) hs hw
 rw [h1]
 exact dX (hg pins s1 σ H1 x v _ I1 r1 q1) fun _ s2 q=>q
theorem wp {i:Nat}{x:Str}{e:aQ}{te:TE}{pos':Pos} (hN:X.N.Nodup) (hi:X.N[i]?=some x) (hx:GH X.env.scope x) (he:PE X e te) (hs:fP e (some (.Name x pos')) pos.line X.env=pure false:=by rfl) (hf:X.fn x=true\/X.env.scope.names.lookup x=some .local:=by first|exact .inl rfl|exact .inr rfl|assumption) :
  PS X (.Assign [.Name x pos'] e pos) (Lo te (oT i)):=by
 intro pins s σ H D I h
 refine wpAny_Assign_Name (dX (he pins s σ H _ I h) fun v s1 ⟨y,H1,I1,r1,q1⟩=>?_) hs
 exact lS I1 hN hi hx r1 (fun s2 I2=>⟨_,H1,I2,q1⟩) hf
def N9 (i j:Nat) (ta:TA):TS:=fun D σ H=>ta σ H fun vs H1=>∃ v w,vs=[v,w]/\D.nx ((σ.set i (some v)).set j (some w)) H1
theorem JC {i j:Nat}{x y:Str}{a b:aQ}{ta:TA}{px py pt:Pos}{kt k2 pt2} (hc:X.calm=true) (hN:X.N.Nodup) (hi:X.N[i]?=some x) (hj:X.N[j]?=some y) (hij:i≠j)
  (hx:X.env.scope.names.lookup x=some .local) (hy:X.env.scope.names.lookup y=some .local) (ha:PA X [a,b] ta)
  (hw:rV [.Tuple [.Name x px,.Name y py] kt pt] (.Tuple [a,b] k2 pt2) X.env=pure (some [x,y]))
  (hs:rT [.Tuple [.Name x px,.Name y py] kt pt] (.Tuple [a,b] k2 pt2) pos.line X.env=pure false:=by rfl) :
  PS X (.Assign [.Tuple [.Name x px,.Name y py] kt pt] (.Tuple [a,b] k2 pt2) pos) (N9 i j ta):=by
 intro pins s σ H D I h
 rw [exec_Assign_arm]
 refine a6 (hU ?_)
 rw [hs]
 refine a6 (a8 ?_)
 rw [if_neg (by decide)]
 refine a6 (Tuple_ (dX (ha _ pins s σ H _ I h) fun us s1 ⟨vs,H1,I1,r1,q1⟩=>?_))
 obtain ⟨v,w,e1,q1⟩:=q1
 subst e1
 obtain ⟨u1,u2,rfl,rv,rw'⟩:∃ u1 u2,us=[u1,u2]/\bW v u1/\bW w u2:=by
  cases r1 with
  |cons p q =>
   cases q with
   |cons p' q' =>
    cases q'
    exact ⟨_,_,rfl,p,p'⟩
 refine bg ?_ (by show 2<=sizeLine;decide)
 have I2:aV X pins σ H1 { s1 with heap:=s1.heap.push { cls:=.type "tuple",data:=.seq [u1,u2].toArray } }:=I1.kept (t':=s1.toks) fun b o e=>ag _ e
 rw [hw]
 refine a6 (a8 ?_)
 show ai (ax X.prog X.w) X.A (do rule "assign.swapped-stores";let items <- unpackItems (.ref s1.heap.objs.size) 2 none;BK [fun v=>zC X.env y v,fun v=>zC X.env x v] items.reverse;pure Flow.next) _ _ _
 refine a6 (eN (a6 (unpackItems_tuple (items:=#[u1,u2]) (I.ok.hd hc) (ro s1.heap _) fun h' hx'=>?_)))
 have I3:=I2.kept (h':=h') (t':=s1.toks) fun b o e=>hx' b o (aA (al e)) e
 show ai _ _ (BK [fun v=>zC X.env y v,fun v=>zC X.env x v] [u2,u1] >>= fun _=>pure Flow.next) _ _ _
 refine a6 (sw (wpAny_bindName (lS I3 hN hj (.inl hy) rw' (fun s2 I4=>?_) (.inr hy))))
 refine sw (wpAny_bindName (lS I4 hN hi (.inl hx) rv (fun s3 I5=>assignInOrder_nil (a8 ?_)) (.inr hx)))
 rw [List.set_comm _ _ (cO hij)] at I5
 exact ⟨_,H1,I5,q1⟩
end
section
variable {X:Cx}{pos:Pos}
def JD (c:TT) (tb:TS):TS:=fun D σ H=>∃ W:Nat->St->Hp->Prop,(∃ m,W m σ H)/\∀ m σ H,W m σ H ->
 c σ H fun b H1=>if b=true then ∃ N:St->Hp->Prop,(∀ σ' H',N σ' H'->∃ m',m'<m/\W m' σ' H')/\tb { D with nx:=N,ct:=N,bk:=D.nx } σ H1 else D.nx σ H1
theorem DN {c:aQ}{body:List cy}{tc:TT}{tb:TS} (hp:PassesOwn (ax X.prog X.w) X.A X.env X.xe) (hc:PT X c tc) (hb:uA X body tb):PS X (.While c body [] pos) (JD tc tb):=by
 intro pins s σ H D I h
 obtain ⟨W,⟨m0,w0⟩,turn⟩:=h
 refine wpAny_While (codeAny_whileLoop (fun n s'=>∃ σ' H',aV X pins σ' H' s'/\W n σ' H') ?_ m0 ⟨σ,H,I,w0⟩)
 rintro n s1 ⟨σ1,H1,I1,w1⟩
 refine fL hp (dX (hc pins s1 σ1 H1 _ I1 (turn n σ1 H1 w1)) fun b s2 ⟨H2,I2,q2⟩=>?_)
 cases b with
 |true =>
  obtain ⟨N,hN,q2⟩:=q2
  rw [if_pos rfl]
  refine fL hp (dX (hb pins s2 σ1 H2 _ I2 q2) fun f s3 q3=>?_)
  cases f with
  |next =>
   obtain ⟨σ3,H3,I3,n3⟩:=q3
   obtain ⟨m',hm,w3⟩:=hN σ3 H3 n3
   exact ⟨m',hm,σ3,H3,I3,w3⟩
  |cont =>
   obtain ⟨σ3,H3,I3,n3⟩:=q3
   obtain ⟨m',hm,w3⟩:=hN σ3 H3 n3
   exact ⟨m',hm,σ3,H3,I3,w3⟩
  |brk=>exact q3
  |ret v=>exact q3
 |false =>
  rw [if_neg aL]
  exact jH ⟨σ1,H2,I2,q2⟩
end
structure It where
 go:Nat->Hp->Prop
 yld:Nat->Hp->V->Hp->Prop
 stop:Nat->Hp->Prop
structure n6 (X:Cx) (pins:List (ac×Obj)) (H:Hp) (b:ac):Prop where
 f0:H b=none
 f1:b≠X.env.locals
 f2:b∉X.fs
 f3:b∈X.ex\/X.s₀.heap.objs.size<=b
 f4:∀ x c,X.env.cells.lookup x=some c->c≠b
 f5:∀ p∈X.pn++pins,p.1≠b
theorem aV.fpOk {X:Cx}{pins:List (ac×Obj)}{σ:St}{H H':Hp}{s:ae}{b:ac} (I:aV X pins σ H s) (hb:s.heap.objs.size<=b) (hn:H' b=none):n6 X pins H' b:=by
 refine ⟨hn,eY (au I.lt hb),I.nofs hb,.inr (cn I.sz hb),fun x c e z=>?_,fun p hp z=>?_⟩
 ·obtain ⟨v,q⟩:=I.cell x c e
  exact absurd (au q.lt (by rw [z];exact hb)) (bX _)
 ·exact absurd (au (al (I.pin p hp).1) (by rw [z];exact hb)) (bX _)
structure zY (P:aJ) (w:aS) (K:a7) (tg:aQ) (J:It) (fp:List ac) (it:ac) (tn:Nat->aW->Prop):Prop where
 mem:it∈fp
 obj:∀ i h,tn i h->∀ b∈fp,∃ o,h.get? b=some o/\∀ v,o.data≠.cell v
 keep:∀ i h h',tn i h->(∀ b∈fp,∀ o,h.get? b=some o->h'.get? b=some o)->tn i h'
 item:∀ (X:Cx),X.prog=P->X.w=w->X.K=K->X.calm=true->∀ (i:Nat) (pins:List (ac×Obj)) (s:ae) (σ:St) (H:Hp) (E:a9->ae->Prop),aV X pins σ H s->(∀ b∈fp,n6 X pins H b)->tn i s.heap->J.go i H ->
  ai (ax P w) X.A (i8 (.ref it)) (fun r s1=>∃ u,r=some u /\
   ai (ax P w) X.A (fM tg (.ref it) u) (fun _ s2=>∃ x H',aV X pins σ H' s2/\bW x u/\J.yld i H x H'/\tn (i+1) s2.heap/\∀ b∈fp,H' b=none) E s1) E s
 done:∀ (X:Cx),X.prog=P->X.w=w->X.K=K->X.calm=true->∀ (i:Nat) (pins:List (ac×Obj)) (s:ae) (σ:St) (H:Hp) (E:a9->ae->Prop),aV X pins σ H s->(∀ b∈fp,n6 X pins H b)->tn i s.heap->J.stop i H ->
  ai (ax P w) X.A (i8 (.ref it)) (fun r s1=>r=none/\aV X pins σ H s1) E s
 self:∀ (A:aR) (i:Nat) (s:ae) (Q:a9->ae->Prop) (E:a9->ae->Prop),tn i s.heap->Q (.ref it) s->ai (ax P w) A (sx (.ref it)) Q E s
abbrev TI:=St->Hp->(It->Hp->Prop)->Prop
inductive Oe (X:Cx) (pins:List (ac×Obj)) (σ:St) (tg:aQ) (R:It->Hp->Prop) (itv:a9) (s2:ae):Prop
 |mk (it:ac) (fp:List ac) (tn:Nat->aW->Prop) (J:It) (H':Hp) (h0:itv=.ref it) (I:aV X pins σ H' s2) (T:zY X.prog X.w X.K tg J fp it tn) (t0:tn 0 s2.heap) (f:∀ b∈fp,n6 X pins H' b) (q:R J H'):Oe X pins σ tg R itv s2
inductive Na (X:Cx) (pins:List (ac×Obj)) (tn:Nat->aW->Prop) (fp:List ac) (W:Nat->Nat->St->Hp->Prop) (n:Nat) (s':ae):Prop
 |mk (i:Nat) (σ':St) (H':Hp) (I:aV X pins σ' H' s') (t:tn i s'.heap) (f:∀ b∈fp,H' b=none) (q:W i n σ' H'):Na X pins tn fp W n s'
def PI (X:Cx) (tg iter:aQ) (wi:TI):Prop :=
 ∀ (pins:List (ac×Obj)) (s:ae) (σ:St) (H:Hp) (R:It->Hp->Prop),aV X pins σ H s->wi σ H R ->
  ai (ax X.prog X.w) X.A (cQ iter X.env) (fun v s1=>ai (ax X.prog X.w) X.A (sx v) (Oe X pins σ tg R) X.xe s1) X.xe s
theorem DO {M : D1} {A : aR} {E : a9 -> ae -> Prop} {s : ae} {tg : aQ} {it : ac} {u : a9} {o : Obj} {n : String} {vs : Array a9} {Q : Unit -> ae -> Prop} (ho : s.heap.get? it = some o) (hc : o.cls = .type n) (hd : o.data = .fields vs)
    (hn : ["enumerate", "zip", "dict_itemiterator", "dict_reverseitemiterator", "odict_iterator", "itertools.zip_longest", "itertools.pairwise"].contains n = false) (hQ : Q () s) : ai M A (fM tg (.ref it) u) Q E s := by
  unfold fM
  cases tg <;> first
    | exact a8 hQ
    | (cases u <;> first
        | exact a8 hQ
        | (refine a6 (wpAny_load ho ?_)
           rw [hc, hd]
           show ai M A (if (["enumerate", "zip", "dict_itemiterator", "dict_reverseitemiterator", "odict_iterator", "itertools.zip_longest", "itertools.pairwise"].contains n && vs[0]? == some (bB _)) = true then _ else _) Q E s
           rw [if_neg (by intro h; rw [hn, Bool.false_and] at h; cases h)]
           exact a8 hQ))
def L9 (K:a7) (a:ac):It :=
 ⟨fun i H=>∃ xs x,jx K H a xs/\xs[i]?=some x,fun i H x H'=>H'=H/\∀ xs,jx K H a xs->xs[i]?=some x,fun i H=>∃ xs,jx K H a xs/\xs.length<=i⟩
def La (K:a7) (a:ac):It :=
 ⟨fun i H=>∃ xs x,iR K H a xs/\xs[i]?=some x,fun i H x H'=>H'=H/\∀ xs,iR K H a xs->xs[i]?=some x,fun i H=>∃ xs,iR K H a xs/\xs.length<=i⟩
theorem C2 {P:aJ}{w:aS}{K:a7}{tg:aQ} (a it:ac):zY P w K tg (L9 K a) [it] it (fun i h=>h.IsListIter it a i) where
 mem:=by simp
 obj:=fun i h st b hb=>by
  have e:b=it:=by simpa using hb
  subst e
  obtain ⟨o,e,c,d⟩:=st
  exact ⟨o,e,fun v z=>by rw [d] at z;cases z⟩
 keep:=fun i h h' st k=>st.at fun o e=>k it (by simp) o e
 item:=by
  intro X hP hw hK hc i pins s σ H E I hf st hg
  subst hP hw hK
  obtain ⟨xs,x,hq,hx⟩:=hg
  obtain ⟨its,rv,p,hz⟩:=I.list hq
  obtain ⟨u,hu,ru⟩:=rv.get hx
  obtain ⟨f0,f1,f2,f3,f4,f5⟩:=hf it (by simp)
  refine wpAny_pyNext_list_item st p.isList (x:=u) (by simpa using hu) fun h' st' sb=>?_
  have I1:aV X pins σ H { s with heap:=h' }:=I.turned (t':=s.toks) (fun b o hb e=>(sb.2 b hb).trans e) f0 f1 f3 f4 f5
  obtain ⟨o,e,c,d⟩:=id st'
  exact ⟨u,rfl,DO (s:={ s with heap:=h' }) e c d (by decide) ⟨x,H,I1,ru,⟨rfl,fun ys hy=>by rw [I.list_inj hy hq];exact hx⟩,st',fun b hb=>(hf b hb).1⟩⟩
 done:=by
  intro X hP hw hK hc i pins s σ H E I hf st hg
  subst hP hw hK
  obtain ⟨xs,hq,hx⟩:=hg
  obtain ⟨its,rv,p,hz⟩:=I.list hq
  obtain ⟨f0,f1,f2,f3,f4,f5⟩:=hf it (by simp)
  have hl:=rv.length
  exact wpAny_pyNext_list_end (I.ok.hd hc) st p.isList (by simp;omega) fun h' eb=>⟨rfl,I.turned (t':=s.toks) (fun b o hb e=>eb b o hb e) f0 f1 f3 f4 f5⟩
 self:=fun _ _ _ _ _ st h=>wpAny_pyIter_listiter st h
theorem zZ {P:aJ}{w:aS}{K:a7}{tg:aQ} (a it:ac):zY P w K tg (La K a) [it] it (fun i h=>h.IsTupleIter it a i) where
 mem:=by simp
 obj:=fun i h st b hb=>by
  have e:b=it:=by simpa using hb
  subst e
  obtain ⟨o,e,c,d⟩:=st
  exact ⟨o,e,fun v z=>by rw [d] at z;cases z⟩
 keep:=fun i h h' st k=>st.at fun o e=>k it (by simp) o e
 item:=by
  intro X hP hw hK hc i pins s σ H E I hf st hg
  subst hP hw hK
  obtain ⟨xs,x,hq,hx⟩:=hg
  obtain ⟨its,rv,p,hz⟩:=I.tuple hq
  obtain ⟨u,hu,ru⟩:=rv.get hx
  obtain ⟨f0,f1,f2,f3,f4,f5⟩:=hf it (by simp)
  refine wpAny_pyNext_tuple_item st (show s.heap.IsTuple a its.toArray from p) (x:=u) (by simpa using hu) fun h' st' sb=>?_
  have I1:aV X pins σ H { s with heap:=h' }:=I.turned (t':=s.toks) (fun b o hb e=>(sb.2 b hb).trans e) f0 f1 f3 f4 f5
  obtain ⟨o,e,c,d⟩:=id st'
  exact ⟨u,rfl,DO (s:={ s with heap:=h' }) e c d (by decide) ⟨x,H,I1,ru,⟨rfl,fun ys hy=>by rw [I.tuple_inj hy hq];exact hx⟩,st',fun b hb=>(hf b hb).1⟩⟩
 done:=by
  intro X hP hw hK hc i pins s σ H E I hf st hg
  subst hP hw hK
  obtain ⟨xs,hq,hx⟩:=hg
  obtain ⟨its,rv,p,hz⟩:=I.tuple hq
  obtain ⟨f0,f1,f2,f3,f4,f5⟩:=hf it (by simp)
  have hl:=rv.length
  exact wpAny_pyNext_tuple_end (I.ok.hd hc) st (show s.heap.IsTuple a its.toArray from p) (by simp;omega) fun h' eb=>⟨rfl,I.turned (t':=s.toks) (fun b o hb e=>eb b o hb e) f0 f1 f3 f4 f5⟩
 self:=fun _ _ _ _ _ st h=>wpAny_pyIter_tupleiter st h
end L2
namespace L2
open PySem PySem.Spec PyProof.Rows
section
variable {X:Cx}{tg:aQ}
def Lp (K:a7) (tl:TE):TI:=fun σ H R=>tl σ H fun x H1=>∃ a,x=.ref a/\(∃ xs,jx K H1 a xs)/\R (L9 K a) H1
def Nb (K:a7) (tl:TE):TI:=fun σ H R=>tl σ H fun x H1=>∃ a,x=.ref a/\(∃ xs,iR K H1 a xs)/\R (La K a) H1
theorem oU {l:aQ}{tl:TE} (hl:PE X l tl):PI X tg l (Lp X.K tl):=by
 intro pins s σ H R I h
 refine dX (hl pins s σ H _ I h) fun v s1 h_16=>?_
 obtain ⟨x,H1,I1,r1,q1⟩:=h_16
 obtain ⟨a,e,⟨xs,hq⟩,q⟩:=q1
 subst e
 cases r1
 obtain ⟨its,rv,p,hz⟩:=I1.list hq
 refine iB p.isList ?_
 refine ⟨s1.heap.objs.size,[s1.heap.objs.size],_,_,H1,rfl,I1.kept (t':=s1.toks) fun b o e=>ag _ e,C2 a _,⟨_,av _ rfl,rfl,rfl⟩,fun b hb=>?_,q⟩
 have e:b=s1.heap.objs.size:=by simpa using hb
 subst e
 exact I1.fpOk (aq _) (I1.hok.fresh (aq _))
theorem z_ {l:aQ}{tl:TE} (hl:PE X l tl):PI X tg l (Nb X.K tl):=by
 intro pins s σ H R I h
 refine dX (hl pins s σ H _ I h) fun v s1 h_17=>?_
 obtain ⟨x,H1,I1,r1,q1⟩:=h_17
 obtain ⟨a,e,⟨xs,hq⟩,q⟩:=q1
 subst e
 cases r1
 obtain ⟨its,rv,p,hz⟩:=I1.tuple hq
 refine kL (show s1.heap.IsTuple a its.toArray from p) ?_
 refine ⟨s1.heap.objs.size,[s1.heap.objs.size],_,_,H1,rfl,I1.kept (t':=s1.toks) fun b o e=>ag _ e,zZ a _,⟨_,av _ rfl,rfl,rfl⟩,fun b hb=>?_,q⟩
 have e:b=s1.heap.objs.size:=by simpa using hb
 subst e
 exact I1.fpOk (aq _) (I1.hok.fresh (aq _))
inductive Nc (g:TG) (tb:TS) (D:oQ) (σ:St) (J:It) (H1:Hp):Prop
 |mk (W:Nat->Nat->St->Hp->Prop) (w0:∃ m,W 0 m σ H1) (turn:∀ i m σ H,W i m σ H ->
 (J.stop i H/\D.nx σ H)\/(J.go i H/\∃ N:St->Hp->Prop,(∀ σ' H',N σ' H'->∃ m',m'<m/\W (i+1) m' σ' H')/\∀ x H',J.yld i H x H'->g x σ H' fun σ2 H2=>tb { D with nx:=N,ct:=N,bk:=D.nx } σ2 H2)):Nc g tb D σ J H1
def Nd (wi:TI) (g:TG) (tb:TS):TS:=fun D σ H=>wi σ H (Nc g tb D σ)
def sO (fp:List ac) (h:aW):List (ac×Obj):=fp.filterMap fun b=>(h.get? b).map fun o=>(b,o)
theorem ic {fp:List ac}{h:aW}{b:ac}{o:Obj} (hb:b∈fp) (e:h.get? b=some o):(b,o)∈sO fp h:=List.mem_filterMap.mpr ⟨b,hb,by rw [e];rfl⟩
theorem vn {fp:List ac}{h:aW}{p:ac×Obj} (hp:p∈sO fp h):p.1∈fp/\h.get? p.1=some p.2:=by
 obtain ⟨b,hb,e⟩:=List.mem_filterMap.mp hp
 cases q:h.get? b with
 |none=>rw [q] at e;cases e
 |some o =>
  rw [q] at e
  have e':(b,o)=p:=a_ e
  subst e'
  exact ⟨hb,q⟩
theorem aV.pinned {pins:List (ac×Obj)}{σ:St}{H:Hp}{s:ae}{fp:List ac} (I:aV X pins σ H s) (hf:∀ b∈fp,n6 X pins H b) (ho:∀ b∈fp,∃ o,s.heap.get? b=some o/\∀ v,o.data≠.cell v):aV X (pins++sO fp s.heap) σ H s :=
 I.pins_of fun p hp=>(List.mem_append.mp hp).elim (fun z=>I.pin p (ak _ z)) fun z=>by
  obtain ⟨hb,e⟩:=vn z
  obtain ⟨f0,f1,f2,_⟩:=hf p.1 hb
  obtain ⟨o,e',d⟩:=ho p.1 hb
  rw [e] at e';cases e'
  exact ⟨e,f0,f1,f2,d⟩
theorem aV.unpinned {pins pl:List (ac×Obj)}{σ:St}{H:Hp}{s:ae} (I:aV X (pins++pl) σ H s):aV X pins σ H s:=I.pins_of fun p hp=>I.pin p (ak _ (iK _ hp))
theorem A1 {iter:aQ}{body:List cy}{wi:TI}{g:TG}{tb:TS}{pos:Pos} (hp:PassesOwn (ax X.prog X.w) X.A X.env X.xe) (hc:X.calm=true) (hi:PI X tg iter wi) (hg:PG X tg g) (hb:uA X body tb)
  (hs:∀ x,cJ iter X.env x=pure x:=by intro _;rfl):PS X (.For tg iter body [] pos) (Nd wi g tb):=by
 intro pins s σ H D I h
 refine wpAny_For (dX (hi pins s σ H _ I h) fun v s1 h1=>dX h1 fun itv s2 h2=>?_) hs
 obtain ⟨it,fp,tn,J,H2,e,I2,T,st2,f2,W,⟨m0,w0⟩,turn⟩:=h2
 subst e
 have stat:∀ {H':Hp},(∀ b∈fp,H' b=none)->∀ b∈fp,n6 X pins H' b:=fun hn b hb=>⟨hn b hb,(f2 b hb).f1,(f2 b hb).f2,(f2 b hb).f3,(f2 b hb).f4,(f2 b hb).f5⟩
 refine codeAny_forLoop_any (Na X pins tn fp W) ?_ m0 ⟨0,σ,H2,I2,st2,fun b hb=>(f2 b hb).1,w0⟩
 rintro n s3 ⟨i,σ3,H3,I3,st3,fr3,w3⟩
 rcases turn i n σ3 H3 w3 with ⟨stop,qn⟩|⟨go,N,hN,step⟩
 ·refine fL hp (dX (T.done X rfl rfl rfl hc i pins s3 σ3 H3 X.xe I3 (stat fr3) st3 stop) fun r s4 ⟨hr,I4⟩=>?_)
  subst hr
  exact jH ⟨σ3,H3,I4,qn⟩
 ·refine fL hp (dX (T.item X rfl rfl rfl hc i pins s3 σ3 H3 X.xe I3 (stat fr3) st3 go) fun r s4 ⟨u,hr,h4⟩=>?_)
  subst hr
  refine fL hp (dX h4 fun _ s5 ⟨x,H5,I5,r5,y5,st5,fr5⟩=>?_)
  have I5':=I5.pinned (stat fr5) (T.obj _ _ st5)
  refine fL hp (dX (hg _ s5 σ3 H5 x u _ I5' r5 (step x H5 y5)) fun _ s6 ⟨σ6,H6,I6,q6⟩=>?_)
  refine fL hp (dX (hb _ s6 σ6 H6 _ I6 q6) fun f s7 q7=>?_)
  have again:∀ {σ7:St}{H7:Hp},aV X (pins++sO fp s5.heap) σ7 H7 s7->N σ7 H7->∃ m,m<n/\Na X pins tn fp W m s7:=fun {σ7 H7} I7 n7=>by
   obtain ⟨m',hm,w7⟩:=hN σ7 H7 n7
   refine ⟨m',hm,i+1,σ7,H7,I7.unpinned,T.keep _ _ _ st5 fun b hb o e=>(I7.pin (b,o) (ak _ (ak _ (ic hb e)))).1,fun b hb=>?_,w7⟩
   obtain ⟨o,e,d⟩:=T.obj _ _ st5 b hb
   exact (I7.pin (b,o) (ak _ (ak _ (ic hb e)))).2.1
  cases f with
  |next=>obtain ⟨σ7,H7,I7,n7⟩:=q7;exact again I7 n7
  |cont=>obtain ⟨σ7,H7,I7,n7⟩:=q7;exact again I7 n7
  |brk=>obtain ⟨σ7,H7,I7,q7⟩:=q7;exact ⟨σ7,H7,I7.unpinned,q7⟩
  |ret v=>obtain ⟨x7,σ7,H7,I7,r7,q7⟩:=q7;exact ⟨x7,σ7,H7,I7.unpinned,r7,q7⟩
end
theorem Lq {K:a7}{a:ac}{xs:List V}{g:TG}{tb:TS}{D:oQ}{σ:St}{H:Hp} (Pv:Nat->St->Hp->Prop) (h0:Pv 0 σ H) (hl:∀ i σ H,i<=xs.length->Pv i σ H->jx K H a xs)
  (hs:∀ i x σ H,xs[i]?=some x->Pv i σ H->g x σ H fun σ2 H2=>tb { D with nx:=Pv (i+1),ct:=Pv (i+1),bk:=D.nx } σ2 H2) (hd:∀ σ H,Pv xs.length σ H->D.nx σ H) :
  ∃ W:Nat->Nat->St->Hp->Prop,(∃ m,W 0 m σ H)/\∀ i m σ H,W i m σ H ->
   ((L9 K a).stop i H/\D.nx σ H)\/((L9 K a).go i H/\∃ N:St->Hp->Prop,(∀ σ' H',N σ' H'->∃ m',m'<m/\W (i+1) m' σ' H')/\∀ x H',(L9 K a).yld i H x H'->g x σ H' fun σ2 H2=>tb { D with nx:=N,ct:=N,bk:=D.nx } σ2 H2):=by
 refine ⟨fun i m σ H=>m=xs.length-i/\i<=xs.length/\Pv i σ H,⟨xs.length,by simp,eB _,h0⟩,?_⟩
 rintro i m σ H ⟨rfl,hi,p⟩
 have q:=hl i σ H hi p
 by_cases hlt:i<xs.length
 ·refine .inr ⟨⟨xs,xs[i],q,by simp [hlt]⟩,Pv (i+1),fun σ' H' p'=>⟨xs.length-(i+1),by omega,rfl,hlt,p'⟩,fun x H' y=>?_⟩
  obtain ⟨e,y⟩:=y
  subst e
  exact hs i x σ _ (y xs q) p
 ·have e:i=xs.length:=by omega
  subst e
  exact .inl ⟨⟨xs,q,aq _⟩,hd σ H p⟩
theorem GI {K:a7}{a:ac}{xs:List V}{g:TG}{tb:TS}{D:oQ}{σ:St}{H:Hp} (Pv:Nat->St->Hp->Prop) (h0:Pv 0 σ H) (hl:∀ i σ H,i<=xs.length->Pv i σ H->iR K H a xs)
  (hs:∀ i x σ H,xs[i]?=some x->Pv i σ H->g x σ H fun σ2 H2=>tb { D with nx:=Pv (i+1),ct:=Pv (i+1),bk:=D.nx } σ2 H2) (hd:∀ σ H,Pv xs.length σ H->D.nx σ H) :
  ∃ W:Nat->Nat->St->Hp->Prop,(∃ m,W 0 m σ H)/\∀ i m σ H,W i m σ H ->
   ((La K a).stop i H/\D.nx σ H)\/((La K a).go i H/\∃ N:St->Hp->Prop,(∀ σ' H',N σ' H'->∃ m',m'<m/\W (i+1) m' σ' H')/\∀ x H',(La K a).yld i H x H'->g x σ H' fun σ2 H2=>tb { D with nx:=N,ct:=N,bk:=D.nx } σ2 H2):=by
 refine ⟨fun i m σ H=>m=xs.length-i/\i<=xs.length/\Pv i σ H,⟨xs.length,by simp,eB _,h0⟩,?_⟩
 rintro i m σ H ⟨rfl,hi,p⟩
 have q:=hl i σ H hi p
 by_cases hlt:i<xs.length
 ·refine .inr ⟨⟨xs,xs[i],q,by simp [hlt]⟩,Pv (i+1),fun σ' H' p'=>⟨xs.length-(i+1),by omega,rfl,hlt,p'⟩,fun x H' y=>?_⟩
  obtain ⟨e,y⟩:=y
  subst e
  exact hs i x σ _ (y xs q) p
 ·have e:i=xs.length:=by omega
  subst e
  exact .inl ⟨⟨xs,q,aq _⟩,hd σ H p⟩
end L2
namespace L2
open PySem PySem.Spec PyProof.Rows
abbrev R2:=V->V->Hp->VK->Prop
def mF (X:Cx) (f:a9->a9->Sem a9) (r:R2):Prop :=
 ∀ (pins:List (ac×Obj)) (s:ae) (σ:St) (H:Hp) (x y:V) (v u:a9) (Q:VK),aV X pins σ H s->bW x v->bW y u->r x y H Q ->
  ai (ax X.prog X.w) X.A (f v u) (EP X pins σ Q) X.xe s
def Nf (X:Cx) (f:a9->Sem a9) (r:V->Hp->VK->Prop):Prop :=
 ∀ (pins:List (ac×Obj)) (s:ae) (σ:St) (H:Hp) (x:V) (v:a9) (Q:VK),aV X pins σ H s->bW x v->r x H Q ->
  ai (ax X.prog X.w) X.A (f v) (EP X pins σ Q) X.xe s
def i6 (X:Cx) (f:a9) (r:List V->Hp->VK->Prop):Prop :=
 ∀ (pins:List (ac×Obj)) (s:ae) (σ:St) (H:Hp) (xs:List V) (us:List a9) (Q:VK),aV X pins σ H s->cu xs us->r xs H Q ->
  ai (ax X.prog X.w) X.A (call f us) (EP X pins σ Q) X.xe s
def Ng (X:Cx) (r:V->Hp->(Bool->Hp->Prop)->Prop):Prop :=
 ∀ (pins:List (ac×Obj)) (s:ae) (σ:St) (H:Hp) (x:V) (v:a9) (Q:Bool->Hp->Prop),aV X pins σ H s->bW x v->r x H Q ->
  ai (ax X.prog X.w) X.A (truthy v) (TP X pins σ Q) X.xe s
def Lr (r:R2) (ta tb:TE):TE:=fun σ H Q=>ta σ H fun x H1=>tb σ H1 fun y H2=>r x y H2 Q
def OW (r:V->Hp->VK->Prop) (ta:TE):TE:=fun σ H Q=>ta σ H fun x H1=>r x H1 Q
inductive Of (C:Int->Int->Prop) (g:Int->Int->V) (x:V) (y:V) (H:Hp) (Q:VK):Prop
 |mk (i j:_) (h0:x=.int i) (h1:y=.int j) (h2:C i j) (h3:Q (g i j) H):Of C g x y H Q
def rI (C:Int->Int->Prop) (g:Int->Int->V):R2:=Of C g
inductive Ls (g:Int->Int->V) (x:V) (y:V) (H:Hp) (Q:VK):Prop
 |mk (i j:_) (h0:x=.int i) (h1:y=.int j) (h2:Q (g i j) H):Ls g x y H Q
def JF (g:Int->Int->V):R2:=Ls g
inductive Og (g:Int->V) (x:V) (H:Hp) (Q:VK):Prop
 |mk (i:_) (h0:x=.int i) (h1:Q (g i) H):Og g x H Q
def rU (g:Int->V):V->Hp->VK->Prop:=Og g
section
variable {X:Cx}{a b c:aQ}{ta tb tc:TE}{pos:Pos}
theorem JH (ha:PE X a ta) (hb:PE X b tb) {pins:List (ac×Obj)}{s:ae}{σ:St}{H:Hp}{R:V->V->Hp->Prop} (I:aV X pins σ H s)
  (h:ta σ H fun x H1=>tb σ H1 fun y H2=>R x y H2) {Q:a9->ae->Prop}{f:a9->a9->Sem a9}
  (hf:∀ v u s2 x y H2,aV X pins σ H2 s2->bW x v->bW y u->R x y H2->ai (ax X.prog X.w) X.A (f v u) Q X.xe s2) :
  ai (ax X.prog X.w) X.A (cQ a X.env) (fun v s₁=>ai (ax X.prog X.w) X.A (cQ b X.env) (fun u s₂=>ai (ax X.prog X.w) X.A (f v u) Q X.xe s₂) X.xe s₁) X.xe s:=by
 refine dX (ha pins s σ H _ I h) fun v s1 h_19=>?_
 obtain ⟨x,H1,I1,r1,q1⟩:=h_19
 refine dX (hb pins s1 σ H1 _ I1 q1) fun u s2 h_20=>?_
 obtain ⟨y,H2,I2,r2,q2⟩:=h_20
 exact hf v u s2 x y H2 I2 r1 r2 q2
theorem ID {op:Operator}{r:R2} (ho:mF X (eZ op) r) (ha:PE X a ta) (hb:PE X b tb):PE X (.BinOp a op b pos) (Lr r ta tb):=by
 intro pins s σ H Q I h
 exact wpAny_BinOp (JH ha hb I h fun v u s2 x y H2 I2 rx ry q=>ho pins s2 σ H2 x y v u Q I2 rx ry q)
theorem Lu {op:UnaryOp}{r:V->Hp->VK->Prop} (ho:Nf X (unaryOp op) r) (ha:PE X a ta):PE X (.UnaryOp op a pos) (OW r ta):=by
 intro pins s σ H Q I h
 exact UnaryOp_ (dX (ha pins s σ H _ I h) fun v s1 h_21=>by obtain ⟨x,H1,I1,r1,q1⟩:=h_21;exact ho pins s1 σ H1 x v Q I1 r1 q1)
theorem Oh {f:a9->a9->Sem a9}{C:Int->Int->Prop}{g:Int->Int->Int}
  (rule:∀ (i j:Int) (t u:Tok) (s:ae) (Q:a9->ae->Prop) (E:a9->ae->Prop),C i j->Q (.int (g i j) s.toks) { s with toks:=s.toks+1 }->ai (ax X.prog X.w) X.A (f (.int i t) (.int j u)) Q E s) :
  mF X f (rI C fun i j=>.int (g i j)):=by
 intro pins s σ H x y v u Q I rx ry h
 obtain ⟨i,j,rfl,rfl,hc,q⟩:=h
 obtain ⟨t,rfl⟩:=rx
 obtain ⟨t',rfl⟩:=ry
 exact rule i j t t' s _ _ hc ⟨.int (g i j),H,I.tok _,⟨_,rfl⟩,q⟩
theorem Nh {f:a9->a9->Sem a9}{g:Int->Int->Int}
  (rule:∀ (i j:Int) (t u:Tok) (s:ae) (Q:a9->ae->Prop) (E:a9->ae->Prop),Q (.int (g i j) s.toks) { s with toks:=s.toks+1 }->ai (ax X.prog X.w) X.A (f (.int i t) (.int j u)) Q E s) :
  mF X f (JF fun i j=>.int (g i j)):=by
 intro pins s σ H x y v u Q I rx ry h
 obtain ⟨i,j,rfl,rfl,q⟩:=h
 obtain ⟨t,rfl⟩:=rx
 obtain ⟨t',rfl⟩:=ry
 exact rule i j t t' s _ _ ⟨.int (g i j),H,I.tok _,⟨_,rfl⟩,q⟩
theorem JJ {f:a9->a9->Sem a9}{g:Int->Int->Bool}
  (rule:∀ (i j:Int) (t u:Tok) (s:ae) (Q:a9->ae->Prop) (E:a9->ae->Prop),Q (.bool (g i j)) s->ai (ax X.prog X.w) X.A (f (.int i t) (.int j u)) Q E s) :
  mF X f (JF fun i j=>.bl (g i j)):=by
 intro pins s σ H x y v u Q I rx ry h
 obtain ⟨i,j,rfl,rfl,q⟩:=h
 obtain ⟨t,rfl⟩:=rx
 obtain ⟨t',rfl⟩:=ry
 exact rule i j t t' s _ _ ⟨.bl (g i j),H,I,rfl,q⟩
def JK (i j:Int):Prop:=(-(2 ^ 64)<i/\i<2 ^ 64)\/(-(2 ^ 64)<j/\j<2 ^ 64)
theorem JK.ok {i j:Int} (h:JK i j):IntMulOk i j:=by
 rcases h with ⟨h1,h2⟩|⟨h1,h2⟩
 ·exact .of_left (intBits_le_64 h1 h2)
 ·exact .of_right (intBits_le_64 h1 h2)
theorem JM:mF X (eZ .Add) (JF fun i j=>.int (i+j)):=Nh fun _ _ _ _ _ _ _ q=>add_int q
theorem JQ:mF X (eZ .Mult) (rI JK fun i j=>.int (i*j)):=Oh fun _ _ _ _ _ _ _ hc q=>mul_int q hc.ok
theorem JR:mF X (eZ .Mod) (rI (fun _ j=>0<j) fun i j=>.int (i % j)):=Oh fun i j _ _ _ _ _ hc q=>by
 have h1:(0:Int)<j:=hc
 exact mod_int' (by omega) (by rw [Int.fmod_eq_emod_of_nonneg i (by omega)];exact q)
theorem OX {f:a9->Sem a9}{g:Int->Int}
  (rule:∀ (i:Int) (t:Tok) (s:ae) (Q:a9->ae->Prop) (E:a9->ae->Prop),Q (.int (g i) s.toks) { s with toks:=s.toks+1 }->ai (ax X.prog X.w) X.A (f (.int i t)) Q E s) :
  Nf X f (rU fun i=>.int (g i)):=by
 intro pins s σ H x v Q I rx h
 obtain ⟨i,rfl,q⟩:=h
 obtain ⟨t,rfl⟩:=rx
 exact rule i t s _ _ ⟨.int (g i),H,I.tok _,⟨_,rfl⟩,q⟩
theorem JU:Nf X (unaryOp .USub) (rU fun i=>.int (-i)):=OX fun _ _ _ _ _ q=>neg_int q
end
def Ni:V->V->Bool
 |.non,.non=>true | .non,.int _=>true | .int _,.non=>true | .non,.bl _=>true | .bl _,.non=>true | .non,.str _=>true | .str _,.non=>true
 |.int _,.int _=>true | .bl _,.bl _=>true | .str _,.str _=>true | .byt _,.byt _=>true
 |.int _,.str _=>true | .str _,.int _=>true | .bl _,.str _=>true | .str _,.bl _=>true
 |_,_=>false
def OY:R2:=fun x y H Q=>Ni x y=true/\Q (.bl (!decide (x=y))) H
theorem GJ {i j:Int}:decide (V.int i=V.int j)=(i==j):=by
 rw [gO]
 simp
theorem JV {i j:Bool}:decide (V.bl i=V.bl j)=(i==j):=by
 rw [gO]
 simp
theorem GK {i j:Str}:decide (V.str i=V.str j)=(i==j):=by
 rw [gO]
 simp
theorem GL {i j:Array UInt8}:decide (V.byt i=V.byt j)=(i.toList==j.toList):=by
 rw [gO]
 cases i
 cases j
 simp
section
variable {X:Cx}{a b c:aQ}{ta tb tc:TE}{pos:Pos}
theorem fB {pins:List (ac×Obj)}{σ:St}{H:Hp}{s:ae}{Q:VK}{k k':Bool} (I:aV X pins σ H s) (q:Q (.bl k) H) (e:k=k'):EP X pins σ Q (.bool k') s:=by
 subst e
 exact ⟨.bl k,H,I,rfl,q⟩
theorem Lv:mF X (bh .NotEq) OY:=by
 intro pins s σ H x y v u Q I rx ry h
 obtain ⟨hs,q⟩:=h
 cases x with
 |non =>
  cases rx
  cases y with
  |non=>cases ry;exact PySem.EqNone.ne_none_none (fB I q (by simp))
  |bl j=>cases ry;exact PySem.EqNone.ne_none_bool (fB I q (by simp))
  |int j=>obtain ⟨t',rfl⟩:=ry;exact PySem.EqNone.ne_none_int (fB I q (by simp))
  |str j=>obtain ⟨t',rfl⟩:=ry;exact PySem.EqNone.ne_none_str (fB I q (by simp))
  |_=>exact absurd (show false=true from hs) aL
 |bl i =>
  cases rx
  cases y with
  |non=>cases ry;exact PySem.EqNone.ne_bool_none (fB I q (by simp))
  |bl j=>cases ry;exact ne_bool (fB I q (congrArg not JV))
  |str j=>obtain ⟨t',rfl⟩:=ry;exact PySem.EqMixed.ne_bool_str (fB I q (by simp))
  |_=>exact absurd (show false=true from hs) aL
 |int i =>
  obtain ⟨t,rfl⟩:=rx
  cases y with
  |non=>cases ry;exact PySem.EqNone.ne_int_none (fB I q (by simp))
  |int j=>obtain ⟨t',rfl⟩:=ry;exact ne_int (fB I q (congrArg not GJ))
  |str j=>obtain ⟨t',rfl⟩:=ry;exact PySem.EqMixed.ne_int_str (fB I q (by simp))
  |_=>exact absurd (show false=true from hs) aL
 |str i =>
  obtain ⟨t,rfl⟩:=rx
  cases y with
  |non=>cases ry;exact PySem.EqNone.ne_str_none (fB I q (by simp))
  |bl j=>cases ry;exact PySem.EqMixed.ne_str_bool (fB I q (by simp))
  |int j=>obtain ⟨t',rfl⟩:=ry;exact PySem.EqMixed.ne_str_int (fB I q (by simp))
  |str j=>obtain ⟨t',rfl⟩:=ry;exact ne_str (fB I q (congrArg not GK))
  |_=>exact absurd (show false=true from hs) aL
 |byt i =>
  obtain ⟨t,rfl⟩:=rx
  cases y with
  |byt j=>obtain ⟨t',rfl⟩:=ry;exact PySem.W.ne_bytes (fB I q (congrArg not GL))
  |_=>exact absurd (show false=true from hs) aL
 |_=>cases y<;>exact absurd (show false=true from hs) aL
theorem Lw:mF X (bh .Lt) (JF fun i j=>.bl (decide (i<j))):=JJ fun _ _ _ _ _ _ _ q=>lt_int q
theorem Lx:mF X (bh .LtE) (JF fun i j=>.bl (decide (i<=j))):=JJ fun _ _ _ _ _ _ _ q=>le_int q
theorem Ly:mF X (bh .Gt) (JF fun i j=>.bl (decide (j<i))):=JJ fun _ _ _ _ _ _ _ q=>gt_int q
theorem C3:mF X (bh .Lt) (fun x y H Q=>∃ i j,x=.str i/\y=.str j/\Q (.bl (decide (i.cps.toList<j.cps.toList))) H):=by
 intro pins s σ H x y v u Q I rx ry h
 obtain ⟨i,j,rfl,rfl,q⟩:=h
 obtain ⟨t,rfl⟩:=rx
 obtain ⟨t',rfl⟩:=ry
 exact lt_str (fB I q rfl)
theorem wq (b:aQ) {op:D2} (h:op≠.In:=by decide) (h2:op≠.NotIn:=by decide):dY op b=false:=by
 have e1:(op==CmpOp.In)=false:=by cases op<;>first|rfl|exact absurd rfl h
 have e2:(op==CmpOp.NotIn)=false:=by cases op<;>first|rfl|exact absurd rfl h2
 cases b<;>simp [dY,e1,e2]
theorem GM {op:D2}{r:R2} (ho:mF X (bh op) r) (ha:PE X a ta) (hb:PE X b tb) (hm:dY op b=false):PE X (.Compare a [op] [b] pos) (Lr r ta tb):=by
 intro pins s σ H Q I h
 exact wpAny_Compare1 (JH ha hb I h fun v u s2 x y H2 I2 rx ry q=>ho pins s2 σ H2 x y v u Q I2 rx ry q) hm
def IE (t:TE):TT:=fun σ H Q=>t σ H fun x H'=>∃ k,x=.bl k/\Q k H'
theorem wt {op:D2}{r:R2} (ho:mF X (bh op) r) (ha:PE X a ta) (hb:PE X b tb) (hm:dY op b=false):PT X (.Compare a [op] [b] pos) (IE (Lr r ta tb)):=by
 intro pins s σ H Q I h
 refine G3 (dX (ha pins s σ H _ I h) fun v s1 ⟨x,H1,I1,r1,q1⟩=>dX (hb pins s1 σ H1 _ I1 q1) fun u s2 ⟨y,H2,I2,r2,q2⟩ =>
  dX (ho pins s2 σ H2 x y v u _ I2 r1 r2 q2) fun c s3 ⟨z,H3,I3,r3,k,e,q3⟩=>?_) hm
 subst e
 cases r3
 exact c8 ⟨H3,I3,q3⟩
def A2 (r r':R2) (ta tb tc:TE):TE:=fun σ H Q=>ta σ H fun x H1=>tb σ H1 fun y H2=>r x y H2 fun z H3=>∃ k,z=.bl k /\
 (if k=true then tc σ H3 fun w' H4=>r' y w' H4 Q else Q (.bl false) H3)
theorem DP {op op':D2}{r r':R2} (ho:mF X (bh op) r) (ho':mF X (bh op') r') (ha:PE X a ta) (hb:PE X b tb) (hc:PE X c tc)
  (hm:D3 [op,op'] [b,c]=false:=by with_unfolding_all rfl):PE X (.Compare a [op,op'] [b,c] pos) (A2 r r' ta tb tc):=by
 intro pins s σ H Q I h
 refine Compare_chain (dX (ha pins s σ H _ I h) fun v s1 ⟨x,H1,I1,r1,q1⟩=>chain_link (dX (hb pins s1 σ H1 _ I1 q1) fun u s2 ⟨y,H2,I2,r2,q2⟩ =>
  dX (ho pins s2 σ H2 x y v u _ I2 r1 r2 q2) fun d s3 ⟨z,H3,I3,r3,k,e,q3⟩=>?_)) hm
 subst e
 cases r3
 refine c8 ?_
 cases k with
 |false=>exact ite_ff ⟨.bl false,H3,I3,rfl,q3⟩
 |true=>exact ite_tt (chain_last (dX (hc pins s3 σ H3 _ I3 q3) fun w' s4 h_22=>by obtain ⟨z',H4,I4,r4,q4⟩:=h_22;exact ho' pins s4 σ H4 y z' u w' Q I4 r2 r4 q4))
theorem DQ {op op':D2}{r r':R2} (ho:mF X (bh op) r) (ho':mF X (bh op') r') (ha:PE X a ta) (hb:PE X b tb) (hc:PE X c tc)
  (hm:D3 [op,op'] [b,c]=false:=by with_unfolding_all rfl):PT X (.Compare a [op,op'] [b,c] pos) (IE (A2 r r' ta tb tc)):=by
 intro pins s σ H Q I h
 refine isTrue_chain (dX (ha pins s σ H _ I h) fun v s1 ⟨x,H1,I1,r1,q1⟩=>test_link (dX (hb pins s1 σ H1 _ I1 q1) fun u s2 ⟨y,H2,I2,r2,q2⟩ =>
  dX (ho pins s2 σ H2 x y v u _ I2 r1 r2 q2) fun d s3 ⟨z,H3,I3,r3,k,e,q3⟩=>?_)) hm
 subst e
 cases r3
 refine c8 ?_
 cases k with
 |false =>
  obtain ⟨k',e',q'⟩:=q3
  cases e'
  exact ite_ff ⟨H3,I3,q'⟩
 |true =>
  refine ite_tt (test_last (dX (hc pins s3 σ H3 _ I3 q3) fun w' s4 ⟨z',H4,I4,r4,q4⟩=>dX (ho' pins s4 σ H4 y z' u w' _ I4 r2 r4 q4) fun d' s5 ⟨z2,H5,I5,r5,k2,e2,q5⟩=>?_))
  subst e2
  cases r5
  exact c8 ⟨H5,I5,q5⟩
def Lz (K:a7) (x:V) (H:Hp) (k:Bool):Prop :=
 match x with
 |.non=>k=false
 |.bl b=>k=b
 |.int i=>k=(i != 0)
 |.str y=>y.length<=sizeLine/\k=((y.length:Int) != 0)
 |.byt y=>y.size<=sizeLine/\k=((y.size:Int) != 0)
 |.ref p=>(∃ xs,jx K H p xs/\k=!xs.isEmpty)\/(∃ xs,iR K H p xs/\k=!xs.isEmpty)\/∃ kvs,H p=some (.dK kvs)/\k=!kvs.isEmpty
 |_=>False
theorem A3 {κ:Type}{kvs:List (κ×V)}{vs:List (κ×a9)} (r:KV kvs vs):(!vs.isEmpty)=!kvs.isEmpty:=by
 cases r<;>rfl
theorem sP {xs:List V}{its:List a9} (r:cu xs its):(!its.toArray.isEmpty)=!xs.isEmpty:=by
 cases r<;>simp
theorem q9:(sizeLine:Nat)<2 ^ 63:=by rw [xF];decide
theorem JX:Ng X (fun x H Q=>∃ k,Lz X.K x H k/\Q k H):=by
 intro pins s σ H x v Q I rx h
 obtain ⟨k,e,q⟩:=h
 have hl:=q9
 have hs:sizeLine=16777216:=xF
 cases x with
 |non =>
  cases rx
  have e':k=false:=e
  subst e'
  exact truthy_none ⟨H,I,q⟩
 |bl b =>
  cases rx
  have e':k=b:=e
  subst e'
  exact c8 ⟨H,I,q⟩
 |int i =>
  obtain ⟨t,rfl⟩:=rx
  have e':k=(i != 0):=e
  subst e'
  exact PySem.P.truthy_int ⟨H,I,q⟩
 |str y =>
  obtain ⟨t,rfl⟩:=rx
  obtain ⟨hy,e'⟩:y.length<=sizeLine/\k=((y.length:Int) != 0):=e
  subst e'
  exact PySem.P.truthy_str (by omega) ⟨H,I.tok _,q⟩
 |byt y =>
  obtain ⟨t,rfl⟩:=rx
  obtain ⟨hy,e'⟩:y.size<=sizeLine/\k=((y.size:Int) != 0):=e
  subst e'
  exact PySem.W.truthy_bytes (by omega) ⟨H,I.tok _,q⟩
 |ref p =>
  cases rx
  have e':(∃ xs,jx X.K H p xs/\k=!xs.isEmpty)\/(∃ xs,iR X.K H p xs/\k=!xs.isEmpty)\/∃ kvs,H p=some (.dK kvs)/\k=!kvs.isEmpty:=e
  rcases e' with ⟨xs,hx,e'⟩|⟨xs,hx,e'⟩|⟨kvs,hx,e'⟩
  ·subst e'
   obtain ⟨its,r,pl,hz⟩:=I.list hx
   have hlen:=r.length
   exact wpAny_truthy_list pl.isList (by simp only [aB];omega) ⟨H,I.tok _,by rw [sP r];exact q⟩
  ·subst e'
   obtain ⟨its,r,pl,hz⟩:=I.tuple hx
   have hlen:=r.length
   exact truthy_tuple pl (by simp only [aB];omega) ⟨H,I.tok _,by rw [sP r];exact q⟩
  ·subst e'
   obtain ⟨hz,hS,vs,r,m⟩:kvs.length<=sizeLine/\(p==eg)=false/\∃ vs,KV kvs vs/\s.heap.DictOf (dZ X.prog X.w) p vs:=I.hok p _ hx
   have hlen:kvs.length=vs.length:=gm r
   exact wpAny_truthy_dict hS m (by omega) ⟨H,I.tok _,by rw [A3 r];exact q⟩
 |_=>exact (show False from e).elim
theorem DR (ha:PE X a ta) (he:∀ whole,sv a X.env whole=(do let v <- whole;qM a.pos;qN [v] (truthy v))) :
  PT X a (fun σ H Q=>ta σ H fun x H'=>∃ k,Lz X.K x H' k/\Q k H'):=by
 intro pins s σ H Q I h
 exact isTrue_plain (dX (ha pins s σ H _ I h) fun v s1 h_23=>by obtain ⟨x,H1,I1,r1,q1⟩:=h_23;exact JX pins s1 σ H1 x v Q I1 r1 q1) (he _)
theorem A4:mF X (eZ .Add) (fun x y H Q=>∃ i j,x=.str i/\y=.str j/\i.length+j.length<=sizeLine/\Q (.str (i++j)) H):=by
 intro pins s σ H x y v u Q I rx ry h
 obtain ⟨i,j,rfl,rfl,hz,q⟩:=h
 obtain ⟨t,rfl⟩:=rx
 obtain ⟨t',rfl⟩:=ry
 exact add_str (fun t' tk=>⟨.str (i++j),H,I.tok _,⟨_,rfl⟩,q⟩) hz
theorem jy {x:V}{us:List a9} (r:cu [x] us):∃ u,us=[u]/\bW x u:=by
 cases r with
 |cons r1 r2=>cases r2;exact ⟨_,rfl,r1⟩
theorem DS {x y:V}{us:List a9} (r:cu [x,y] us):∃ u w',us=[u,w']/\bW x u/\bW y w':=by
 cases r with
 |cons r1 r2 =>
  cases r2 with
  |cons r3 r4=>cases r4;exact ⟨_,_,rfl,r1,r3⟩
end
end L2
namespace L2
open PySem PySem.Spec PyProof.Rows
structure JY (h:aW) (x dx C:ac) (mA:Str->Option a9):Prop where
 obj:h.get? x=some (rn C dx)
 ns:h.Ns1 dx mA
 ne:dx≠x
theorem C4 {h:aW}{dx:ac}{mA:Str->Option a9} (n:h.Ns1 dx mA):∃ od,h.get? dx=some od/\∀ name,sy name od=some (mA name):=by
 obtain ⟨o,es,ep,ho,hd,hk,_,hm⟩:=n
 refine ⟨o,ho,fun name=>?_⟩
 have e:=hm name
 unfold nsFind findBy at e
 rw [<- BL] at e
 unfold sy
 rw [hd]
 dsimp only
 split
 ·rename_i y q
  rw [q] at e
  exact congrArg some e
 ·rename_i q
  rw [q] at e
  have a:es.toList.any (·.refKey)=false:=by
   rw [List.any_eq_false]
   intro y hy
   obtain ⟨z,t,hkey⟩:=hk y (Array.mem_toList_iff.mp hy)
   simp [DictEntry.refKey,hkey]
  have a':¬ es.toList.any (·.refKey)=true:=by rw [a];exact aL
  rw [if_neg a']
  exact congrArg some e
theorem JY.look {h:aW}{x dx C:ac}{mA:Str->Option a9} (I:JY h x dx C mA):∃ od,PySem.W.InstAt h x (rn C dx) C (some od)/\∀ name,sy name od=some (mA name) :=
 let ⟨od,ho,hl⟩:=C4 I.ns
 ⟨od,⟨I.obj,rfl,rfl,ho⟩,hl⟩
section
variable {prog:aJ}{w:aS}{A:aR}{E:a9->ae->Prop}{s:ae}{K:a7}{x dx C f:ac}{mA:Str->Option a9}{name:Str}{v:a9}
end
theorem sK.some_of {v:V}{o:Option a9} (r:sK (some v) o):∃ u,o=some u/\bW v u:=by
 cases o with
 |none=>exact (show False from r).elim
 |some u=>exact ⟨u,rfl,r⟩
section
variable {P:aJ}{w:aS}{H H':Hp}{h h':aW}{a C dx:ac}{fs fs':List (Str×V)}
theorem GN (hok:lC P w H h) (e:H a=some (.ins C dx fs)):∃ mA,JY h a dx C mA/\(∀ f,sK (fs.lookup f) (mA f))/\PySem.Within mA (fs.map (·.1))/\fs.length<=1000/\H dx=some (.own a):=by
 obtain ⟨d,z,ne,ob,mA,n,r,q⟩:=(show cj P w H h a (.ins C dx fs) from hok a _ e)
 exact ⟨mA,⟨ob,n,ne⟩,r,q,z,d⟩
end
structure Nj (K:a7) (C:ac):Prop where
 pg:BM K C Str.empty=true
 hd:PySem.W.hasDictIn K C=true
 po:PySem.W.plainOver K C=true
 sa:eD K (.ref C) "__setattr__"=some (some (.builtin "object.__setattr__"))
theorem Nj.get {K:a7}{C:ac} (c:Nj K C) (f:Str):BM K C f=true:=c.pg
section
variable {X:Cx}{pins:List (ac×Obj)}{σ:St}{H:Hp}{s:ae}{a C dx:ac}{fs:List (Str×V)}{f:Str}{v:V}{A:aR}{E:a9->ae->Prop}
end
section
variable {X:Cx}{o e value:aQ}{f:Str}{pos pos' tpos:Pos}{ta tv:TE}
end
section
variable {X:Cx}{pins:List (ac×Obj)}{σ:St}{H:Hp}{s:ae}{A:aR}{E:a9->ae->Prop}{Q:a9->ae->Prop}{c:a9}{b:Bool}
inductive qc (K:a7) (H:Hp):V->a9->Prop where
 |non:qc K H .non (.type "NoneType")
 |bl (x:Bool):qc K H (.bl x) (.type "bool")
 |int (i:Int):qc K H (.int i) (.type "int")
 |str (x:Str):qc K H (.str x) (.type "str")
 |flt (x:UInt64):qc K H (.flt x) (.type "float")
 |lst {a:ac}{xs:List V} (e:H a=some (.lst xs)):qc K H (.ref a) (.type "list")
 |frz {a:ac}{o:Obj}{xs:List V} (e:H a=some (.frz o (.lst xs))):qc K H (.ref a) (.type "list")
 |tup {a:ac}{xs:List V} (e:H a=some (.tup xs)):qc K H (.ref a) (.type "tuple")
 |dK {a:ac}{kvs:List (dQ×V)} (e:H a=some (.dK kvs)):qc K H (.ref a) (.type "dict")
 |dT {a:ac}{kvs:List (List dQ×V)} (e:H a=some (.dT kvs)):qc K H (.ref a) (.type "dict")
 |ins {a C dx:ac}{fs:List (Str×V)} (e:H a=some (.ins C dx fs)) (cl:Nj K C) (ha:eD K (.ref C) "__class__"=some (some (.builtin "object.__class__")))
   (hn:oH K (.builtin "object.__class__") "__get__"=some (some (.builtin "getset_descriptor.__get__"))) (htk:rq K (.builtin "object.__class__")=some true)
   (hm:bH K C (.type "object")=some true):qc K H (.ref a) (.ref C)
theorem ke {x:V}{u t:a9} (I:aV X pins σ H s) (rx:bW x u) (ty:qc X.K H x t) (e:cz X.K t c=some b) (h:∀ tk,Q (.bool b) { s with toks:=tk }) :
  ai (ax X.prog X.w) A (call (.builtin "isinstance") [u,c]) Q E s:=by
 cases ty with
 |non=>cases (show u=cx from rx);exact bK PySem.W.kitx_none I.kIn fQ e (fun z=>nomatch z) h
 |bl y=>cases (show u=fK y from rx);exact bK PySem.W.kitx_bool I.kIn fQ e (fun z=>nomatch z) h
 |int i=>obtain ⟨t,q⟩:=(show ∃ t,u=kJ i t from rx);cases q;exact bK PySem.W.kitx_int I.kIn fQ e (fun z=>nomatch z) h
 |str y=>obtain ⟨t,q⟩:=(show ∃ t,u=gU y t from rx);cases q;exact bK PySem.W.kitx_str I.kIn fQ e (fun z=>nomatch z) h
 |flt y=>obtain ⟨t,q⟩:=(show ∃ t,u=Value.float y t from rx);cases q;exact bK PySem.W.kitx_float I.kIn fQ e (fun z=>nomatch z) h
 | @lst a xs ea =>
  cases (show u=bc a from rx)
  obtain ⟨_,_,n,_,h1⟩:=(show cj X.prog X.w H s.heap a (.lst xs) from I.hok a _ ea)
  exact bK oJ I.kIn ⟨_,h1,rfl⟩ e (fun z=>nomatch z) h
 | @frz a ob xs ea =>
  cases (show u=bc a from rx)
  obtain ⟨_,_,_,n,_,h1⟩:=(show cj X.prog X.w H s.heap a (.frz ob (.lst xs)) from I.hok a _ ea)
  exact bK oJ I.kIn ⟨_,h1,rfl⟩ e (fun z=>nomatch z) h
 | @tup a xs ea =>
  cases (show u=bc a from rx)
  obtain ⟨_,_,_,p⟩:=(show cj X.prog X.w H s.heap a (.tup xs) from I.hok a _ ea)
  obtain ⟨o,h1,h2,_⟩:=p
  exact bK zD I.kIn ⟨o,h1,h2⟩ e (fun z=>nomatch z) h
 | @dK a kvs ea =>
  cases (show u=bc a from rx)
  obtain ⟨_,_,vs,_,p⟩:=(show cj X.prog X.w H s.heap a (.dK kvs) from I.hok a _ ea)
  obtain ⟨o,es,ep,h1,h2,_⟩:=p
  exact bK AV I.kIn ⟨o,h1,h2.1⟩ e (fun z=>nomatch z) h
 | @dT a kvs ea =>
  cases (show u=bc a from rx)
  obtain ⟨_,_,xs,_,o,es,ep,h1,h2,_⟩:=(show cj X.prog X.w H s.heap a (.dT kvs) from I.hok a _ ea)
  exact bK AV I.kIn ⟨o,h1,h2.1⟩ e (fun z=>nomatch z) h
 | @ins a C dx fs ea cl ha hn htk hm =>
  cases (show u=bc a from rx)
  obtain ⟨mA,O,_⟩:=GN I.hok ea
  obtain ⟨od,J,_⟩:=O.look
  exact bK (PySem.W.kitx_own (cl.get _) cl.hd ha hn htk hm) I.kIn J e (fun z=>nomatch z) h
end
end L2
namespace L2
open PySem PySem.Spec PyProof.Rows
structure eL (k:Nat) (A:aR):Prop where
 hd:A.handled=none
 dp:A.depth+3*k+5<kM
 un:A.units+16*k+200<ik
theorem eL.mono {j k:Nat}{A:aR} (r:eL k A) (h:j<=k):eL j A:=⟨r.hd,by have:=r.dp;omega,by have:=r.un;omega⟩
theorem eL.deeper {k:Nat}{A:aR} (r:eL (k+1) A) (env:Env):eL k (A.deeper env) :=
 ⟨r.hd,by have:=r.dp;show A.depth+1+3*k+5<_;omega,by have:=r.un;show A.units+3+16*k+200<_;omega⟩
theorem eL.depth {k:Nat}{A:aR} (r:eL k A):A.depth<kM:=by have:=r.dp;omega
theorem eL.units {k:Nat}{A:aR} (r:eL k A):A.units+64<ik:=by have:=r.un;omega
def GO:TA:=fun _ H Q=>Q [] H
def A_ (ta:TE) (tr:TA):TA:=fun σ H Q=>ta σ H fun x H1=>tr σ H1 fun xs H2=>Q (x::xs) H2
section
variable {X:Cx}{e:aQ}{es:List aQ}{te:TE}{t:TA}{pos:Pos}
theorem eE:PA X [] GO:=fun _ _ _ _ H Q I h=>Calls.spliced_nil ⟨[],H,I,.nil,h⟩
theorem bD (ha:PE X e te) (hr:PA X es t) (hs:ap (e::es) X.env=(false,cQ e X.env)::ap es X.env:=by rfl):PA X (e::es) (A_ te t):=by
 intro pos pins s σ H Q I h
 rw [hs]
 show ai _ _ (spliced ((false,cQ e X.env)::cR pos (ap es X.env))) _ _ s
 refine Calls.spliced_cons (dX (ha pins s σ H _ I h) fun u s1 ⟨x,H1,I1,r1,q1⟩=>?_)
 exact dX (hr pos pins s1 σ H1 _ I1 q1) fun us s2 h_25=>by obtain ⟨xs,H2,I2,r2,q2⟩:=h_25;exact ⟨x::xs,H2,I2,.cons r1 r2,q2⟩
def Nk (t:TA):TE:=fun σ H Q=>t σ H fun xs H1=>xs.length<=sizeLine/\∀ p,H1 p=none->Q (.ref p) (upd H1 p (.tup xs))
def Nl (t:TA):TE:=fun σ H Q=>t σ H fun xs H1=>xs.length<=sizeLine/\∀ p,H1 p=none->Q (.ref p) (upd H1 p (.lst xs))
theorem A5 {x1} (h:PA X es t):PE X (.Tuple es x1 pos) (Nk t):=by
 intro pins s σ H Q I hq
 refine wpAny_Tuple_spliced (dX (h pos pins s σ H _ I hq) fun us s1 ⟨xs,H1,I1,r,z,q⟩=>⟨by rw [<- r.length];exact z,?_⟩)
 have hf:H1 s1.heap.objs.size=none:=I1.hok.fresh (aq _)
 refine ⟨.ref s1.heap.objs.size,upd H1 s1.heap.objs.size (.tup xs),I1.laid (t':=s1.toks) (fun b u e=>ag _ e) (aq _) ?_,rfl,q _ hf⟩
 exact ⟨z,us,r,⟨_,av _ rfl,rfl,_,rfl⟩⟩
theorem sQ (h:PA X es t):PE X (.List es pos) (Nl t):=by
 intro pins s σ H Q I hq
 refine wpAny_List_spliced (dX (h pos pins s σ H _ I hq) fun us s1 ⟨xs,H1,I1,r,z,q⟩=>⟨by rw [<- r.length];exact z,?_⟩)
 have hf:H1 s1.heap.objs.size=none:=I1.hok.fresh (aq _)
 refine ⟨.ref s1.heap.objs.size,upd H1 s1.heap.objs.size (.lst xs),I1.laid (t':=s1.toks) (fun b u e=>ag _ e) (aq _) ?_,rfl,q _ hf⟩
 exact ⟨z,us,0,r,av _ rfl⟩
end
abbrev Sp:=List V->Hp->VK->XK->Prop
abbrev A6:=List Env->Hp->ae->XK->a9->ae->Prop
structure A7 (P:aJ) (w:aS) (K:a7) (mg:Str->Option a9) (base:aW) (A:aR) (outer:List Env) (s:ae) (H:Hp):Prop where
 frames:A.frames=some outer
 mod:Mod K mg base
 bs:∀ b o,base.get? b=some o->s.heap.get? b=some o/\H b=none
 bsz:base.objs.size<=s.heap.objs.size
 funs:s.heap.FunFrames base outer
 frf:∀ b∈nr outer,H b=none
 hok:lC P w H s.heap
 bare:lH s.gens
 tb:Tb K H
inductive CE (outer:List Env) (P:aJ) (w:aS) (H:Hp) (s:ae) (Q:VK) (u:a9) (s':ae):Prop
 |mk (v H':_) (h0:s'.os=s.os) (h1:lH s'.gens) (h2:Un (nr outer) [] H H' s.heap s'.heap) (h3:lC P w H' s'.heap) (h4:bW v u) (h5:Q v H'):CE outer P w H s Q u s'
def CR (CX:A6) (outer:List Env) (P:aJ) (w:aS) (H:Hp) (s:ae) (Q:VK) (E:XK) (r:sA) (s':ae):Prop :=
 match r with
 |.ok (.ret u)=>CE outer P w H s Q u s'
 |.ok _=>False
 |.error e=>CX outer H s E e s'
structure kS (P:aJ) (w:aS) (K:a7) (mg:Str->Option a9) (base:aW) (CX:A6) (k:Nat) (f:ac) (fd:cp) (ps:List Str) (sp:Sp):Prop where
 len:∀ vs H Q E,sp vs H Q E->vs.length=ps.length
 run:∀ (A:aR) (outer:List Env) (s:ae) (H:Hp) (args:Args) (us:List a9) (vs:List V) (Q:VK) (E:XK),eL k A->A7 P w K mg base A outer s H->qO s fd args (ps.zip us)->cu vs us->sp vs H Q E ->
  em (ax P w) A (.call (.ref f) args) (CR CX outer P w H s Q E) s
theorem kS.imp {P:aJ}{w:aS}{K:a7}{mg:Str->Option a9}{base:aW}{CX:A6}{k:Nat}{f:ac}{fd:cp}{ps:List Str}{sp sp':Sp} (F:kS P w K mg base CX k f fd ps sp)
  (h:∀ vs H Q E,sp' vs H Q E->sp vs H Q E):kS P w K mg base CX k f fd ps sp' :=
 ⟨fun vs H Q E q=>F.len vs H Q E (h _ _ _ _ q),fun A outer s H args us vs Q E hr he hb hv hs=>F.run A outer s H args us vs Q E hr he hb hv (h _ _ _ _ hs)⟩
section
variable {X:Cx}{pins:List (ac×Obj)}{σ:St}{H:Hp}{s s':ae}
theorem aV.env0 (I:aV X pins σ H s):A7 X.prog X.w X.K X.mg X.base X.A X.stack s H :=
 ⟨I.ok.frames,I.ok.mod,I.bs,cn I.ok.bsz I.sz,I.stack,I.stkFree,I.hok,I.bare,I.ok.tb.more I.base.tbls⟩
theorem aV.after {Q:VK}{u:a9} (I:aV X pins σ H s) (h:CE X.stack X.prog X.w H s Q u s'):EP X pins σ Q u s':=by
 obtain ⟨v,H',os,bare,un,hok,r,q⟩:=h
 obtain ⟨hh,g,d,t,os'⟩:=s'
 obtain rfl:os'=s.os:=os
 exact ⟨v,H',I.call (h':=hh) (g':=g) (d':=d) (t':=t) (ch:=[]) un hok bare (fun b z=>absurd z (by simp)),r,q⟩
end
def xV (sp:Sp) (dvs:List V) (E:XK) (t:TA):TE:=fun σ H Q=>t σ H fun vs H1=>sp (vs++dvs) H1 Q E
def fD (K:a7) (fd:cp) (ps:List Str) (ds:List a9):Prop :=
 ∀ (s:ae) (us:List a9),K.In s.heap->(us++ds).length=ps.length->qO s fd ⟨us,[]⟩ (ps.zip (us++ds))
theorem fD.all {K:a7}{fd:cp}{ps:List Str} (h:∀ us:List a9,us.length=ps.length->pT fd ⟨us,[]⟩=pure (ps.zip us)):fD K fd ps []:=fun s us _ hl=>by
 rw [bT] at hl ⊢
 exact .of_eq (h us hl)
def fS (CX:A6) (X:Cx) (E:XK):Prop:=∀ (pins:List (ac×Obj)) (σ:St) (H:Hp) (s:ae) (e:a9) (s':ae),aV X pins σ H s->CX X.stack H s E e s'->X.xe e s'
section
variable {X:Cx}{CX:A6}{k:Nat}{f C:ac}{fd:cp}{ps:List Str}{sp:Sp}{dvs:List V}{ds:List a9}{E:XK}{x m:Str}{p pos apos:Pos}{e o:aQ}{es:List aQ}{ta:TE}{t:TA}
theorem DT {pins:List (ac×Obj)}{σ:St}{H:Hp}{s:ae}{Q:VK}{us:List a9}{vs:List V} (F:kS X.prog X.w X.K X.mg X.base CX k f fd ps sp) (hr:eL k X.A) (hb:fD X.K fd ps ds) (hd:cu dvs ds) (hx:fS CX X E)
  (I:aV X pins σ H s) (r:cu vs us) (h:sp (vs++dvs) H Q E):ai (ax X.prog X.w) X.A (call (.ref f) us) (EP X pins σ Q) X.xe s:=by
 have r2:cu (vs++dvs) (us++ds):=r.append hd
 have hl:(us++ds).length=ps.length:=by rw [<- r2.length];exact F.len _ _ _ _ h
 refine kO (iC (F.run X.A X.stack s H ⟨us,[]⟩ (us++ds) (vs++dvs) Q E hr I.env0 (hb s us I.kIn hl) r2 h) fun r s' hq=>?_)
 cases r with
 |error e=>exact hx pins σ H s e s' I hq
 |ok fl =>
  cases fl with
  |ret u=>exact I.after hq
  |next=>exact df hq
  |brk=>exact df hq
  |cont=>exact df hq
theorem wu (F:kS X.prog X.w X.K X.mg X.base CX k f fd ps sp) (hr:eL k X.A) (hg:Gl X x) (hm:X.mg x=some (.ref f)) (hk:bC X.K (.ref f)=true) (hb:fD X.K fd ps ds) (hd:cu dvs ds) (hx:fS CX X E)
  (ha:PA X (e::es) t) (hdb:(x==("__debug__" : Str))=false:=by decide) (he:ap (e::es) X.env=(false,cQ e X.env)::ap es X.env:=by rfl) (hpl:(cR pos (ap es X.env)).any (·.1)=false:=by rfl) :
  PE X (.Call (.Name x p) (e::es) [] pos) (xV sp dvs E t):=by
 intro pins s σ H Q I h
 refine fv (s9 I hg hm ?_ hdb)
 refine nM (h₀:=X.base) I.ok.mod.kin hk (dX (ha pos pins s σ H _ I h) fun us s1 ⟨vs,H1,I1,r,q⟩=>⟨I1.kIn,?_⟩) he hpl
 exact DT F hr hb hd hx I1 r q
end
section
variable {X:Cx}{CX:A6}{k:Nat}{f C:ac}{fd:cp}{ps ks:List Str}{sp:Sp}{E:XK}{x m:Str}{p pos apos kpos:Pos}{e o:aQ}{es:List aQ}{kws:List uC}{te ta:TE}{t tk:TA}{nm:Option Str}
variable {g:List a9->List a9->List a9}{gV:List V->List V->List V}
end
structure bq (N P:List Str) (sc:cf):Prop where
 kind:sc.kind=.function
 co:sc.isCoroutine=false
 gen:sc.isGenerator=false
 nd:N.Nodup
 pre:N.take P.length=P
 par:∀ x∈P,sc.names.lookup x=some .local\/sc.names.lookup x=some .cell
 nofree:∀ y∈sc.names,y.2≠.free
theorem vo {kindOf:Str->Option iD}{x:Str}:∀ {binds:List (Str×a9)}{m:Str->Option a9},(∀ v,(x,v)∉binds)->zE kindOf binds m x=m x
 |[],_,_=>rfl
 |(n,v)::r,m,h=>by
  unfold zE
  rw [vo fun w hw=>h w (ah _ hw)]
  split
  ·have:x≠n:=by rintro rfl;exact h v ao
   simp [this]
  ·rfl
theorem vq {kindOf:Str->Option iD}{x:Str}:∀ {binds:List (Str×a9)}{m:Str->Option a9},(∀ v,(x,v)∉binds)->zF kindOf binds m x=m x
 |[],_,_=>rfl
 |(n,v)::r,m,h=>by
  unfold zF
  rw [vq fun w hw=>h w (ah _ hw)]
  split
  ·rfl
  ·have:x≠n:=by rintro rfl;exact h v ao
   simp [this]
theorem vt {kindOf:Str->Option iD}{x:Str}{v:a9}:∀ {P:List Str}{vs:List a9}{i:Nat}{m:Str->Option a9},P.Nodup->P[i]?=some x->vs[i]?=some v->kindOf x=some .local ->
  zE kindOf (P.zip vs) m x=some v
 |[],_,_,_,_,h,_,_=>by simp at h
 |_::_,[],_,_,_,_,h,_=>by simp at h
 |p::P,w::vs,0,m,nd,h1,h2,hk=>by
  simp at h1 h2;subst h1;subst h2
  show zE kindOf ((p,w)::P.zip vs) m p=_
  unfold zE
  rw [vo fun v hv=>(List.nodup_cons.mp nd).1 (lN hv).1,if_pos hk]
  simp
 |p::P,w::vs,i+1,m,nd,h1,h2,hk=>by
  show zE kindOf ((p,w)::P.zip vs) m x=_
  unfold zE
  exact vt (i:=i) (List.nodup_cons.mp nd).2 (by simpa using h1) (by simpa using h2) hk
theorem vv {kindOf:Str->Option iD}{x:Str}{v:a9}:∀ {P:List Str}{vs:List a9}{i:Nat}{m:Str->Option a9},P.Nodup->P[i]?=some x->vs[i]?=some v->kindOf x≠some .local ->
  zF kindOf (P.zip vs) m x=some v
 |[],_,_,_,_,h,_,_=>by simp at h
 |_::_,[],_,_,_,_,h,_=>by simp at h
 |p::P,w::vs,0,m,nd,h1,h2,hk=>by
  simp at h1 h2;subst h1;subst h2
  show zF kindOf ((p,w)::P.zip vs) m p=_
  unfold zF
  rw [vq fun v hv=>(List.nodup_cons.mp nd).1 (lN hv).1,if_neg hk]
  simp
 |p::P,w::vs,i+1,m,nd,h1,h2,hk=>by
  show zF kindOf ((p,w)::P.zip vs) m x=_
  unfold zF
  exact vv (i:=i) (List.nodup_cons.mp nd).2 (by simpa using h1) (by simpa using h2) hk
def start (N:List Str) (vs:List V):St:=vs.map some++jq (N.length-vs.length) none
def g9 (CX:A6) (P:aJ) (w:aS) (K:a7) (mg:Str->Option a9) (base:aW) (N:List Str) (qual:Str) (scope:cf) (f:ac) (cd:a9) (A:aR) (outer:List Env) (s:ae) (H:Hp) (E:XK):Cx where
 prog:=P
 w:=w
 K:=K
 mg:=mg
 base:=base
 A:=A.deeper (envOfC qual scope s.heap.objs.size f cd)
 N:=N
 s₀:=s
 H₀:=H
 env:=envOfC qual scope s.heap.objs.size f cd
 outer:=outer
 stack:=envOfC qual scope s.heap.objs.size f cd::outer
 ex:=[]
 calm:=true
 fn:=fun _=>true
 pn:=[]
 xe:=fun e s'=>ai (ax P w) (A.deeper (envOfC qual scope s.heap.objs.size f cd)) (leaving (envOfC qual scope s.heap.objs.size f cd) e) (fun _ s''=>CX outer H s E e s'') (fun e' s''=>CX outer H s E e' s'') s'
theorem xW {sc:cf}{n:Nat}{x:Str} (h:sc.names.lookup x=some .cell):∃ c,(bi n sc.names []).lookup x=some c:=by
 have q:=dA sc.names n [] (.inl h)
 exact Option.isSome_iff_exists.mp q
theorem vw {CX:A6}{P:aJ}{w:aS}{K:a7}{mg:Str->Option a9}{base:aW}{N ps:List Str}{qual:Str}{scope:cf}{f:ac}{cd:a9}{A:aR}{outer:List Env}{s s1:ae}{H:Hp}{E:XK}{us:List a9}{vs:List V}
  (S:bq N ps scope) (hd:A.handled=none) (e0:A7 P w K mg base A outer s H) (hl:vs.length=ps.length) (r:cu vs us)
  (x:InCallC s s.heap.objs.size (zE (envOfC qual scope s.heap.objs.size f cd).kindOf (ps.zip us) fun _=>none) (bi (s.heap.objs.size+1) scope.names []) (zF (envOfC qual scope s.heap.objs.size f cd).kindOf (ps.zip us) fun _=>none) s1) :
  aV (g9 CX P w K mg base N qual scope f cd A outer s H E) [] (start N vs) H s1:=by
 have hpl:ps.length<=N.length:=by have:=congrArg List.length S.pre;rw [rW] at this;omega
 obtain ⟨h1,tk,rfl,hk⟩:=x.done
 have noA:∀ b:ac,b∉(g9 CX P w K mg base N qual scope f cd A outer s H E).ex:=fun b z=>absurd (show b∈([] : List ac) from z) (by simp)
 refine ⟨⟨e0.mod,S.kind,rfl,rfl,aq _,fun y z c h1 h2=>?_,fun y hy=>?_,fun y c _ h=>?_,fun _=>hd,zu e0.frames,.inr ⟨rfl,rfl⟩,fun b z=>absurd z (noA b),e0.bs,e0.bsz,fun b _ _=>noA b,fun b z=>absurd z (noA b),e0.funs,e0.frf,e0.tb⟩,
  rfl,e0.bare,Un.kept hk,⟨_,x.toInCall.ns,fun i y v h1 h2 h3=>?_⟩,fun y c h=>⟨_,x.cell y c h⟩,e0.hok.fresh (aq _),fun y c h=>?_,fun p hp=>absurd (show p∈([] : List (ac×Obj)) from hp) (by simp),e0.hok.kept hk,?_⟩
 ·exact name_of_addr x.apart (bt h1) (bt h2)
 ·have hy:scope.names.lookup y=some .cell\/scope.names.lookup y=some .free:=hy
  rcases hy with hy|hy
  ·exact xW hy
  ·exact absurd rfl (S.nofree _ (bt hy))
 ·exact ba (x.above y c (bt h))
 ·have hi:i<vs.length:=by
   unfold start at h2
   by_cases hi:i<vs.length
   ·exact hi
   ·rw [aT (by simpa using hi)] at h2
    rw [bn] at h2
    split at h2<;>cases h2
  have ha:vs[i]?=some v:=by
   unfold start at h2
   rw [br (by simpa using hi),aK] at h2
   cases e:vs[i]? with
   |none=>rw [e] at h2;cases h2
   |some a=>rw [e] at h2;cases h2;rfl
  obtain ⟨u,hu,rv⟩:=r.get ha
  have hp:ps[i]?=some y:=by
   rw [<- S.pre,List.getElem?_take_of_lt (by omega)];exact h1
  have ndP:ps.Nodup:=by rw [<- S.pre];exact S.nd.sublist (List.take_sublist _ _)
  refine ⟨u,rv,?_⟩
  rcases S.par y (AW hp) with k|k
  ·exact .inl ⟨k,vt ndP hp hu k⟩
  ·obtain ⟨c,e⟩:=xW (n:=s.heap.objs.size+1) k
   refine .inr ⟨.inl k,c,e,?_⟩
   have q:=x.cell y c e
   rw [vv ndP hp hu (by show scope.names.lookup y≠_;rw [k];decide)] at q
   exact q
 ·exact e0.hok.fresh (ba (x.above y c (bt h)))
 ·unfold start
  show _=N.length
  rw [bo,aN,bZ]
  omega
theorem DU {CX:A6}{P:aJ}{w:aS}{K:a7}{mg:Str->Option a9}{base:aW}{k:Nat}{f:ac}{name qual:Str}{params:mV}{body:List cy}{scope:cf}{dV kV doc pm cdv ct oc:a9}{an od:Option ac}
  {osl:Array (Option a9)}{N ps:List Str}{sp:Sp} (lk:K.lookup f=some ⟨oc,od,.func (cc name qual params body scope dV kV doc pm an cdv ct),osl⟩) (hcd:c6 K cdv qual=true) (S:bq N ps scope)
  (len:∀ vs H Q E,sp vs H Q E->vs.length=ps.length)
  (hbody:∀ (A:aR) (outer:List Env) (s:ae) (H:Hp) (vs:List V) (Q:VK) (E:XK),eL k (A.deeper (envOfC qual scope s.heap.objs.size f cdv))->sp vs H Q E ->
   ∃ t,uA (g9 CX P w K mg base N qual scope f cdv A outer s H E) body t/\t { nx:=fun _ H'=>Q .non H',rt:=Q } (start N vs) H) :
  kS P w K mg base CX (k+1) f (cc name qual params body scope dV kV doc pm an cdv ct) ps sp:=by
 refine ⟨len,fun A outer s H args us vs Q E hr e0 hb r hsp=>?_⟩
 have hl:=len _ _ _ _ hsp
 have KX:K.In s.heap:=e0.mod.kin.keeps fun b o e=>(e0.bs b o e).1
 have lim:s.heap.NoLimit:=e0.mod.nolimit.keeps fun b o e=>(e0.bs b o e).1
 have hkind:∀ y∈ps.zip us,scope.names.lookup y.1=some .local\/(scope.names.lookup y.1=some .cell/\((bi (s.heap.objs.size+1) scope.names []).lookup y.1).isSome=true):=fun ⟨n,v⟩ hy=>by
  rcases S.par n (lN hy).1 with q|q
  ·exact .inl q
  ·exact .inr ⟨q,dA _ _ _ (.inl q)⟩
 refine G4 hr.depth (KX _ _ lk) rfl S.co S.gen rfl (nN KX hcd) (hb _ _ _ _ ?_)
 refine zG S.kind hkind fun env he s1 x=>?_
 subst he
 refine ⟨lim.keeps x.toInCall.keep,codeAny_func ?_⟩
 obtain ⟨t,ht,hq⟩:=hbody A outer s H vs Q E (hr.deeper _) hsp
 have I:aV (g9 CX P w K mg base N qual scope f cdv A outer s H E) [] (start N vs) H s1:=vw S hr.hd e0 hl r x
 refine bu (ht [] s1 (start N vs) H _ I hq) (fun fl s' hs=>?_) fun e s' hs=>hs
 have fin:∀ {σ':St}{H':Hp}{v:V}{u:a9},aV (g9 CX P w K mg base N qual scope f cdv A outer s H E) [] σ' H' s'->bW v u->Q v H'->CE outer P w H s Q u s' :=
  fun {σ' H' v u} J rv q=>⟨v,H',J.os,J.bare,J.base,J.hok,rv,q⟩
 cases fl with
 |ret u =>
  obtain ⟨v,σ',H',J,rv,q⟩:=hs
  exact fin J rv q
 |next =>
  obtain ⟨σ',H',J,q⟩:=hs
  exact fin (v:=V.non) (u:=cx) J rfl q
 |brk =>
  obtain ⟨_,_,_,q⟩:=hs
  exact df q
 |cont =>
  obtain ⟨_,_,_,q⟩:=hs
  exact df q
end L2
namespace L2
open PySem PySem.Spec PyProof.Rows
section
variable {X:Cx}{x:Str}{p pos:Pos}{e:aQ}{es:List aQ}{t:TA}{id T:String}{r:List V->Hp->VK->Prop}
def LA (r:List V->Hp->VK->Prop) (t:TA):TE:=fun σ H Q=>t σ H fun vs H1=>r vs H1 Q
theorem kg (hc:i6 X (.builtin id) r) (hg:Gl X x) (hm:X.mg x=none) (hv:ft x=some (.builtin id)) (ha:PA X (e::es) t) (hn:x≠"__name__":=by decide) (hdb:(x==("__debug__" : Str))=false:=by decide)
  (he:ap (e::es) X.env=(false,cQ e X.env)::ap es X.env:=by rfl) (hpl:(cR pos (ap es X.env)).any (·.1)=false:=by rfl):PE X (.Call (.Name x p) (e::es) [] pos) (LA r t):=by
 intro pins s σ H Q I h
 refine fv (sM I hg hm hv ?_ hn hdb)
 exact PyProof.Rows.callWith_builtin1 (dX (ha pos pins s σ H _ I h) fun us s1 h_27=>by obtain ⟨vs,H1,I1,r1,q1⟩:=h_27;exact hc pins s1 σ H1 vs us Q I1 r1 q1) he hpl
theorem vy (hc:i6 X (.type T) r) (hg:Gl X x) (hm:X.mg x=none) (hv:ft x=some (.type T)) (ha:PA X (e::es) t) (hn:x≠"__name__":=by decide) (hdb:(x==("__debug__" : Str))=false:=by decide)
  (he:ap (e::es) X.env=(false,cQ e X.env)::ap es X.env:=by rfl) (hpl:(cR pos (ap es X.env)).any (·.1)=false:=by rfl):PE X (.Call (.Name x p) (e::es) [] pos) (LA r t):=by
 intro pins s σ H Q I h
 refine fv (sM I hg hm hv ?_ hn hdb)
 exact oK (dX (ha pos pins s σ H _ I h) fun us s1 h_28=>by obtain ⟨vs,H1,I1,r1,q1⟩:=h_28;exact hc pins s1 σ H1 vs us Q I1 r1 q1) he hpl
end
end L2
namespace HT
open PySem PyProof.Rows
section
open PySem.SeqAt
open PySem.AutoSeq1 (wpAny_loadPart')
open PySem.MeetsSeq PySem.MeetsSeq2 PySem.MeetsSeq3
end
section
variable {prog:aJ}{w:aS}{A:aR}{E:a9->ae->Prop}{s:ae}
theorem GP {t b:ac}{vs ws:List a9}{Q:a9->ae->Prop} (ht:IsTup s.heap t vs.toArray) (hb:IsTup s.heap b ws.toArray) (hv:vs≠[])
  (h1:ws=[]->Q (.ref t) s) (h2:ws≠[]->Q (.ref s.heap.objs.size) { s with heap:=s.heap.push { cls:=.type "tuple",data:=.seq (vs++ws).toArray } })
  (hsz:vs.length+ws.length<=sizeLine):ai (ax prog w) A (eZ .Add (.ref t) (.ref b)) Q E s:=by
 obtain ⟨⟨cls,dd,data,sl⟩,ho,hc,n,hd⟩:=id ht
 obtain ⟨⟨cls2,dd2,data2,sl2⟩,ho2,hc2,n2,hd2⟩:=id hb
 simp only at hc hd hc2 hd2
 subst hc hd hc2 hd2
 have e:vs.toArray++ws.toArray=(vs++ws).toArray:=by simp
 by_cases hw:ws=[]
 ·exact uD ⟨_,ho,rfl⟩ ⟨_,ho2,rfl⟩ wb BN kP kc (jI _ _)
   (tuple_addW1 t b vs.toArray ws.toArray n n2 dd dd2 sl sl2 (by simpa using hv) (by simp [hw])) ⟨ho,ho2,h1 hw⟩
 ·refine uD ⟨_,ho,rfl⟩ ⟨_,ho2,rfl⟩ wb BN kP kc (jI _ _)
   (tuple_addW2 t b vs.toArray ws.toArray n n2 dd dd2 sl sl2 (by simpa using hv) (by simpa using hw) (by rw [aB,aB];exact hsz)) ⟨ho,ho2,?_⟩
  rw [e]
  exact h2 hw
def f_ (n d:Nat):Option Int->Nat
 |none=>d
 |some v=>if v<0 then (v+(n:Int)).toNat else min v.toNat n
theorem JZ (n d:Nat) (hd:d<=n) (o:Option Int):f_ n d o<=n:=by
 cases o with
 |none=>exact hd
 |some v =>
  show (if v<0 then (v+(n:Int)).toNat else min v.toNat n)<=n
  by_cases hv:v<0
  ·rw [if_pos hv];omega
  ·rw [if_neg hv];exact Gg _ _
theorem B0 (v:Int) (n d:Nat):(if v<0 then max (v+(n:Int)) 0 else min v (n:Int))=((f_ n d (some v):Nat):Int):=by
 show (if v<0 then max (v+(n:Int)) 0 else min v (n:Int))=(((if v<0 then (v+(n:Int)).toNat else min v.toNat n):Nat):Int)
 by_cases hv:v<0
 ·simp only [if_pos hv];omega
 ·simp only [if_neg hv];omega
theorem A8 (lo hi:Option Int) (n:Nat):iE lo hi 1 (n:Int)=(((f_ n 0 lo:Nat):Int),((f_ n n hi:Nat):Int)):=by
 have h1:¬ ((1:Int)<0):=by omega
 unfold iE
 simp only [h1,if_false]
 refine Prod.ext ?_ ?_
 ·cases lo with
  |none=>rfl
  |some v=>exact B0 v n 0
 ·cases hi with
  |none=>rfl
  |some v=>exact B0 v n n
theorem A9 (i j:Nat):fg (i:Int) (j:Int) 1=j-i:=by
 unfold fg
 have h1:(1:Int) > 0:=by omega
 simp only [h1,if_true,Int.ediv_one]
 split<;>omega
theorem sR {v:a9}{o:Option Int}{Q:Option Int->ae->Prop} (p:pU v o) (h:Q o s):ai (ax prog w) A (Builtin.Slice.slicePartIndex v) Q E s:=by
 cases p with
 |none=>exact slicePart_none h
 |int i t=>exact slicePart_int h
theorem kh {sl:ac}{vl vu:a9}{lo hi:Option Int}{n:Nat}{Q:Int×Int×Nat->ae->Prop} (hs:s.heap.IsSliceOf sl vl vu .none) (pl:pU vl lo) (pu:pU vu hi)
  (h:Q (((f_ n 0 lo:Nat):Int),1,f_ n n hi-f_ n 0 lo) s):ai (ax prog w) A (oM (.ref sl) (pure (n:Int))) Q E s:=by
 obtain ⟨os,hos,hcs,hds⟩:=id hs
 unfold oM Builtin.Slice.sliceFields
 refine a6 (a6 (cY hos hds (x:=vl) rfl (a6 (cY hos hds (x:=vu) rfl (a6 (cY hos hds (x:=.none) rfl (a8 ?_)))))))
 refine a6 (slicePart_none ?_)
 show ai _ _ (if ((1:Int)==0)=true then _ else _) _ _ s
 rw [if_neg (by decide)]
 refine a6 (sR pl (a6 (sR pu (a6 (a8 ?_)))))
 show ai _ _ (match iE lo hi 1 (n:Int) with|(lo,hi)=>pure (lo,(1:Int),fg lo hi 1)) _ _ s
 rw [A8 lo hi n]
 show ai _ _ (pure (((f_ n 0 lo:Nat):Int),(1:Int),fg ((f_ n 0 lo:Nat):Int) ((f_ n n hi:Nat):Int) 1)) _ _ s
 rw [A9]
 exact a8 h
theorem DV (xs:Array a9) (i k:Nat):((bR k).filterMap fun (m:Nat)=>xs[((i:Int)+(m:Int)*1).toNat]?).toArray=((xs.toList.drop i).take k).toArray:=by
 have e:(fun (m:Nat)=>xs[((i:Int)+(m:Int)*1).toNat]?)=fun m=>xs[i+m]?:=by
  funext m
  have:((i:Int)+(m:Int)*1).toNat=i+m:=by omega
  rw [this]
 rw [e]
 have:=pick_run xs i k
 rw [jr] at this
 have e2:((fun x=>xs[x]?)∘fun x=>i+x)=fun m=>xs[i+m]?:=rfl
 rw [e2] at this
 rw [this]
theorem oV {t sl:ac}{items:Array a9}{vl vu:a9}{lo hi:Option Int}{Q:a9->ae->Prop} (ht:IsTup s.heap t items) (hs:s.heap.IsSliceOf sl vl vu .none) (pl:pU vl lo) (pu:pU vu hi)
  (hw:¬ (f_ items.size 0 lo=0/\f_ items.size items.size hi=items.size))
  (h:Q (.ref s.heap.objs.size) { s with heap:=s.heap.push { cls:=.type "tuple",data:=.seq ((items.toList.drop (f_ items.size 0 lo)).take (f_ items.size items.size hi-f_ items.size 0 lo)).toArray } })
  (hsz:items.size<=sizeLine):ai (ax prog w) A (lJ (.ref t) (.ref sl)) Q E s:=by
 have htake:sizeOk (.seq ((items.toList.drop (f_ items.size 0 lo)).take (f_ items.size items.size hi-f_ items.size 0 lo)).toArray):=by
  show ((items.toList.drop (f_ items.size 0 lo)).take (f_ items.size items.size hi-f_ items.size 0 lo)).toArray.size<=sizeLine
  rw [aB,rW,G5,am]
  omega
 have hj:f_ items.size items.size hi<=items.size:=JZ _ _ (aq _) hi
 obtain ⟨os,hos,hcs,hds⟩:=id hs
 have hTs:s.TypeIs (.ref sl) "slice":=⟨os,hos,hcs⟩
 unfold lJ
 try with_reducible refine bw ?_
 first|refine a6 (a8 ?_)|skip
 refine a6 (wpAny_sequenceKey ht.typeIs (by decide) ?_)
 refine a6 (bP (name:=dm "__getitem__") ht.typeIs dW
  (bz dW ht.typeIs entry_tuple_getitem ?_ (args_tuple_getitem _ _)))
 show ai _ _ (oN (.ref t) >>= _) _ _ s
 refine a6 (tupleItemsOf_ ht ?_)
 refine a6 (nO hTs ?_)
 rw [if_pos (by decide)]
 refine a6 (kh hs pl pu ?_)
 have hno:¬ ((((f_ items.size 0 lo:Nat):Int)==0&&(1:Int)==1&&(f_ items.size items.size hi-f_ items.size 0 lo)==items.size)=true):=by
  intro q
  rw [ay,ay] at q
  have q1:((f_ items.size 0 lo:Nat):Int)=0:=eq_of_beq q.1.1
  have q2:f_ items.size items.size hi-f_ items.size 0 lo=items.size:=eq_of_beq q.2
  exact hw ⟨by omega,by omega⟩
 show ai _ _ (if (((f_ items.size 0 lo:Nat):Int)==0&&(1:Int)==1&&(f_ items.size items.size hi-f_ items.size 0 lo)==items.size)=true then _ else _) _ _ s
 rw [if_neg hno,DV]
 first
  |exact a6 (m:=fz _) (bg (a8 ⟨_,rfl,a8 h⟩) htake)
  |exact a6 (m:=fz _) (bg (a6 (a8 (a8 ⟨_,rfl,a8 h⟩))) htake)
  |exact a6 (a6 (m:=fz _) (bg (a8 (a8 ⟨_,rfl,a8 h⟩)) htake))
  |exact a6 (a6 (m:=fz _) (bg (a8 ⟨_,rfl,a8 h⟩) htake))
end
end HT
namespace L2
open PySem PySem.Spec PyProof.Rows
abbrev TO:=St->Hp->(Option Int->Hp->Prop)->Prop
def PO (X:Cx) (e:Option aQ) (t:TO):Prop :=
 ∀ (pins:List (ac×Obj)) (s:ae) (σ:St) (H:Hp) (Q:Option Int->Hp->Prop),aV X pins σ H s->t σ H Q ->
  ai (ax X.prog X.w) X.A (evalPart e X.env) (fun u s'=>∃ o H',aV X pins σ H' s'/\pU u o/\Q o H') X.xe s
def GQ:TO:=fun _ H Q=>Q none H
def LB (t:TE):TO:=fun σ H Q=>t σ H fun x H1=>∃ i,x=.int i/\Q (some i) H1
section
variable {X:Cx}{e:aQ}{te:TE}{lo hi:Option aQ}{tl th:TO}{pos p2:Pos}
theorem GR:PO X none GQ:=by
 intro pins s σ H Q I h
 rw [evalPart_none]
 exact a8 ⟨none,H,I,.none,h⟩
theorem GS (h:PE X e te):PO X (some e) (LB te):=by
 intro pins s σ H Q I hw
 rw [evalPart_some]
 refine dX (h pins s σ H _ I hw) fun u s1 h_29=>?_
 obtain ⟨x,H1,I1,r1,q1⟩:=h_29
 obtain ⟨i,rfl,q⟩:=q1
 obtain ⟨t,rfl⟩:=r1
 exact ⟨some i,H1,I1,.int i t,q⟩
def LC (X:Cx) (r:V->Option Int->Option Int->Hp->VK->Prop):Prop :=
 ∀ (pins:List (ac×Obj)) (s:ae) (σ:St) (H:Hp) (x:V) (v vl vu:a9) (lo hi:Option Int) (sl:ac) (Q:VK),aV X pins σ H s->bW x v->s.heap.IsSliceOf sl vl vu .none->pU vl lo->pU vu hi->r x lo hi H Q ->
  ∃ T id,zH (.type T) "__getitem__"=pure (some (.builtin id))/\s.TypeIs v T/\ai (ax X.prog X.w) X.A (lJ v (.ref sl)) (EP X pins σ Q) X.xe s
def OZ (r:V->Option Int->Option Int->Hp->VK->Prop) (te:TE) (tl th:TO):TE:=fun σ H Q=>te σ H fun x H1=>tl σ H1 fun l H2=>th σ H2 fun u H3=>r x l u H3 Q
theorem DW {r:V->Option Int->Option Int->Hp->VK->Prop} (hr:LC X r) (he:PE X e te) (hl:PO X lo tl) (hu:PO X hi th):PE X (.Subscript e (.Slice lo hi none p2) pos) (OZ r te tl th):=by
 intro pins s σ H Q I h
 refine Subscript_ (dX (he pins s σ H _ I h) fun v s1 ⟨x,H1,I1,r1,q1⟩=>?_)
 refine wpAny_Slice (dX (hl pins s1 σ H1 _ I1 q1) fun vl s2 ⟨l,H2,I2,pl,q2⟩=>dX (hu pins s2 σ H2 _ I2 q2) fun vu s3 ⟨u,H3,I3,pu,q3⟩=>?_)
 rw [evalPart_none]
 refine a8 ?_
 have I4:aV X pins σ H3 { s3 with heap:=s3.heap.push { cls:=.type "slice",data:=.fields #[vl,vu,.none] } }:=I3.kept (t':=s3.toks) fun b ob q=>ag _ q
 obtain ⟨T,id,hT,ht,hg⟩:=hr pins { s3 with heap:=s3.heap.push { cls:=.type "slice",data:=.fields #[vl,vu,.none] } } σ H3 x v vl vu l u s3.heap.objs.size Q I4 r1 (Heap.IsSliceOf.new ..) pl pu q3
 show ai (ax X.prog X.w) X.A (BO e (.Slice lo hi none p2) v (.ref s3.heap.objs.size)) (EP X pins σ Q) X.xe { s3 with heap:=s3.heap.push { cls:=.type "slice",data:=.fields #[vl,vu,.none] } }
 exact tail_any (ops:=[.ref s3.heap.objs.size,v]) ht hT hg (by with_unfolding_all rfl)
def xX (xs:List V) (lo hi:Option Int):List V:=(xs.drop (HT.f_ xs.length 0 lo)).take (HT.f_ xs.length xs.length hi-HT.f_ xs.length 0 lo)
theorem qT (xs:List V) (lo hi:Option Int):(xX xs lo hi).length<=xs.length:=by
 unfold xX
 rw [rW,G5]
 omega
def Nm (K:a7):V->Option Int->Option Int->Hp->VK->Prop:=fun x lo hi H Q=>∃ a xs,x=.ref a/\iR K H a xs /\
 ¬ (HT.f_ xs.length 0 lo=0/\HT.f_ xs.length xs.length hi=xs.length)/\∀ p,H p=none->Q (.ref p) (upd H p (.tup (xX xs lo hi)))
theorem J_:LC X (Nm X.K):=by
 intro pins s σ H x v vl vu lo hi sl Q I rx hs pl pu h
 obtain ⟨a,xs,rfl,hx,hw,q⟩:=h
 cases rx
 obtain ⟨its,r,ht,hz⟩:=I.tuple hx
 have hlen:its.toArray.size=xs.length:=by rw [aB];exact r.length.symm
 refine ⟨"tuple",_,PyProof.Rows.slot_tuple_getitem.lookup,ht.typeIs,?_⟩
 refine HT.oV ht hs pl pu (by rw [hlen];exact hw) ?_ (by rw [hlen];exact hz)
 rw [hlen]
 refine ⟨.ref s.heap.objs.size,_,I.laid (t':=s.toks) (o:=.tup (xX xs lo hi)) (fun b ob q=>ag _ q) (aq _) ?_,rfl,q _ (I.hok.fresh (aq _))⟩
 exact ⟨cn (qT xs lo hi) hz,_,(r.drop (HT.f_ xs.length 0 lo)).take (HT.f_ xs.length xs.length hi-HT.f_ xs.length 0 lo),ro _ _⟩
inductive DX (K:a7) (x:V) (y:V) (H:Hp) (Q:VK):Prop
 |mk (a b xs ys:_) (h0:x=.ref a) (h1:y=.ref b) (h2:iR K H a xs) (h3:iR K H b ys) (h4:xs≠[]) (h5:xs.length+ys.length<=sizeLine) (h6:(ys=[]->Q (.ref a) H)) (h7:(ys≠[]->∀ p,H p=none->Q (.ref p) (upd H p (.tup (xs++ys))))):DX K x y H Q
def LD (K:a7):R2:=DX K
theorem cu.nil_iff {xs:List V}{us:List a9} (r:cu xs us):us=[]↔xs=[]:=by
 cases r with
 |nil=>simp
 |cons _ _=>simp
theorem GT:mF X (eZ .Add) (LD X.K):=by
 intro pins s σ H x y v u Q I rx ry h
 obtain ⟨a,b,xs,ys,rfl,rfl,ha,hb,hx,hz,q1,q2⟩:=h
 cases rx
 cases ry
 obtain ⟨its,r1,p1,_⟩:=I.tuple ha
 obtain ⟨its2,r2,p2,_⟩:=I.tuple hb
 refine HT.GP p1 p2 (fun z=>hx (r1.nil_iff.mp z)) (fun z=>⟨.ref a,H,I,rfl,q1 (r2.nil_iff.mp z)⟩) (fun z=>?_) (by rw [<- r1.length,<- r2.length];exact hz)
 refine ⟨.ref s.heap.objs.size,_,I.laid (t':=s.toks) (o:=.tup (xs++ys)) (fun b ob q=>ag _ q) (aq _) ?_,rfl,q2 (fun w=>z (r2.nil_iff.mpr w)) _ (I.hok.fresh (aq _))⟩
 exact ⟨by rw [bo];exact hz,_,r1.append r2,ro _ _⟩
end
end L2
namespace L2
open PySem PySem.Spec PyProof.Rows
def K0 (n:Nat) (i:Int):Option Nat:=if 0<=i then (if i<n then some i.toNat else none) else if -(n:Int)<=i then some (i+n).toNat else none
def Aa {α:Type} (xs:List α) (i:Int):Option α:=(K0 xs.length i).bind fun j=>xs[j]?
theorem GU {n:Nat}{i:Int}{j:Nat} (h:K0 n i=some j):seqIndex? i n=some j/\j<n/\-(n:Int)<=i/\i<n:=by
 unfold K0 at h
 by_cases h0:0<=i
 ·rw [if_pos h0] at h
  by_cases h1:i<n
  ·rw [if_pos h1] at h
   have e:i.toNat=j:=a_ h
   exact ⟨by rw [seqIndex_of h0 h1,e],by omega,by omega,h1⟩
  ·rw [if_neg h1] at h;cases h
 ·rw [if_neg h0] at h
  by_cases h1:-(n:Int)<=i
  ·rw [if_pos h1] at h
   have e:(i+n).toNat=j:=a_ h
   exact ⟨by rw [seqIndex_neg (by omega) h1,e],by omega,h1,by omega⟩
  ·rw [if_neg h1] at h;cases h
theorem wv {α:Type}{xs:List α}{i:Int}{v:α} (h:Aa xs i=some v):∃ j,seqIndex? i xs.length=some j/\xs[j]?=some v/\j<xs.length/\-(xs.length:Int)<=i/\i<xs.length:=by
 unfold Aa at h
 cases e:K0 xs.length i with
 |none=>rw [e] at h;cases h
 |some j =>
  rw [e] at h
  obtain ⟨h1,h2,h3,h4⟩:=GU e
  exact ⟨j,h1,h,h2,h3,h4⟩
theorem B1 {α:Type}{xs:List α}{j:Nat}{v:α} (h:xs[j]?=some v):Aa xs (j:Int)=some v:=by
 have hj:j<xs.length:=(List.getElem?_eq_some_iff.mp h).1
 have e:K0 xs.length (j:Int)=some j:=by
  unfold K0
  rw [if_pos (by omega),if_pos (by omega)];simp
 unfold Aa;rw [e];exact h
def se (b:aQ):Prop:=∀ o i,xG b false o i=operate [o,i] (lJ o i)
def LF (X:Cx) (r:R2):Prop :=
 ∀ (value slice:aQ) (pins:List (ac×Obj)) (s:ae) (σ:St) (H:Hp) (x y:V) (v u:a9) (Q:VK),aV X pins σ H s->bW x v->bW y u->r x y H Q ->
  xG slice false v u=operate [v,u] (lJ v u)->ai (ax X.prog X.w) X.A (BO value slice v u) (EP X pins σ Q) X.xe s
def No (X:Cx) (id:String) (r:V->List V->Hp->VK->Prop):Prop :=
 ∀ (pins:List (ac×Obj)) (s:ae) (σ:St) (H:Hp) (x:V) (xs:List V) (v:a9) (us:List a9) (Q:VK),aV X pins σ H s->bW x v->cu xs us->r x xs H Q ->
  ai (ax X.prog X.w) X.A (call (.builtin id) (v::us)) (EP X pins σ Q) X.xe s
section
variable {X:Cx}{a b:aQ}{ta tb:TE}{pos:Pos}
theorem LG {r:R2} (hr:LF X r) (ha:PE X a ta) (hb:PE X b tb) (hs:se b):PE X (.Subscript a b pos) (Lr r ta tb):=by
 intro pins s σ H Q I h
 exact Subscript_ (JH ha hb I h fun v u s2 x y H2 I2 rx ry q=>hr a b pins s2 σ H2 x y v u Q I2 rx ry q (hs _ _))
inductive IF (K:a7) (x:V) (y:V) (H:Hp) (Q:VK):Prop
 |mk (p xs i v:_) (h0:x=.ref p) (h1:y=.int i) (h2:jx K H p xs) (h3:Aa xs i=some v) (h4:Q v H):IF K x y H Q
def LH (K:a7):R2:=IF K
inductive IG (K:a7) (x:V) (y:V) (H:Hp) (Q:VK):Prop
 |mk (p xs i v:_) (h0:x=.ref p) (h1:y=.int i) (h2:iR K H p xs) (h3:Aa xs i=some v) (h4:Q v H):IG K x y H Q
def Np (K:a7):R2:=IG K
inductive IH (x:V) (y:V) (H:Hp) (Q:VK):Prop
 |mk (z i c:_) (h0:x=.str z) (h1:y=.int i) (h2:z.length<=sizeLine) (h3:Aa z.cps.toList i=some c) (h4:Q (.str ⟨#[c]⟩) H):IH  x y H Q
def Nq:R2:=IH
theorem GV:LF X (LH X.K):=by
 intro value slice pins s σ H x y v u Q I rx ry h hs
 obtain ⟨p,xs,i,z,rfl,rfl,hq,he,q⟩:=h
 cases rx
 obtain ⟨t,rfl⟩:=ry
 obtain ⟨its,r,pl,hz⟩:=I.list hq
 obtain ⟨j,h1,h2,h3,h4,h5⟩:=wv he
 obtain ⟨w,ew,rw'⟩:=r.get h2
 have hl:=r.length
 have hn:=q9
 have fin:EP X pins σ Q w s:=⟨z,H,I,rw',q⟩
 by_cases h0:0<=i
 ·have hj:i.toNat=j:=by
   rw [seqIndex_of h0 h5] at h1
   exact a_ h1
  exact item_listR pl.isList h0 (by omega) (by rw [hj];simpa using ew) fin hs
 ·have hj:(i+(its.toArray.size:Int)).toNat=j:=by
   rw [seqIndex_neg (by omega) h4] at h1
   rw [aB,<- hl]
   exact a_ h1
  exact Dl (x:=w) pl.isList.typeIs slot_list_getitem.lookup
   (wpAny_getItem_list_neg (Q:=fun r s'=>r=w/\EP X pins σ Q r s') pl.isList (by omega) (by rw [aB]<;>omega) (by omega) (by rw [hj];simpa using ew) ⟨rfl,fin⟩) hs
theorem K1:LF X (Np X.K):=by
 intro value slice pins s σ H x y v u Q I rx ry h hs
 obtain ⟨p,xs,i,z,rfl,rfl,hq,he,q⟩:=h
 cases rx
 obtain ⟨t,rfl⟩:=ry
 obtain ⟨its,r,pl,hz⟩:=I.tuple hq
 obtain ⟨j,h1,h2,h3,h4,h5⟩:=wv he
 obtain ⟨w,ew,rw'⟩:=r.get h2
 have hl:=r.length
 have hn:=q9
 have fin:EP X pins σ Q w s:=⟨z,H,I,rw',q⟩
 exact Dl (x:=w) pl.typeIs slot_tuple_getitem.lookup
  (getItem_tuple (j:=j) (Q:=fun r s'=>r=w/\EP X pins σ Q r s') pl (by omega) (by omega) (by rw [aB,<- hl];exact h1) (by simpa using ew) ⟨rfl,fin⟩) hs
theorem K2:LF X Nq:=by
 intro value slice pins s σ H x y v u Q I rx ry h hs
 obtain ⟨z,i,c,rfl,rfl,hz,he,q⟩:=h
 obtain ⟨t,rfl⟩:=rx
 obtain ⟨t',rfl⟩:=ry
 obtain ⟨j,h1,h2,h3,h4,h5⟩:=wv he
 have hl:z.cps.toList.length=z.length:=by simp [Str.length]
 rw [hl] at h1 h4 h5
 have hn:=q9
 exact tail_any (typeIs_str s z t) slot_str_getitem.lookup (getItem_str (c:=c) (by
  have e1:decide (i < -(2 ^ 63:Int))=false:=decide_eq_false (by omega)
  have e2:decide (i ≥ 2 ^ 63)=false:=decide_eq_false (by omega)
  rw [e1,e2,Bool.or_false]) (by rw [h1];simpa using h2) ⟨.str ⟨#[c]⟩,H,I.tok _,⟨_,rfl⟩,q⟩) hs
theorem ww (lo hi:Option Int) (n:Nat):(jm lo hi none n).1=((HT.f_ n 0 lo:Nat):Int)/\(jm lo hi none n).2.1=((HT.f_ n n hi:Nat):Int)/\(jm lo hi none n).2.2=1:=by
 refine ⟨?_,?_,rfl⟩
 ·cases lo with
  |none=>simp [jm,HT.f_]
  |some i =>
   simp only [jm,HT.f_,eK,show (1:Int) > 0 by decide,if_true]
   by_cases h:i<0
   ·simp only [h,if_true]<;>omega
   ·simp only [h,if_false]<;>omega
 ·cases hi with
  |none=>simp [jm,HT.f_]
  |some i =>
   simp only [jm,HT.f_,eK,show (1:Int) > 0 by decide,if_true]
   by_cases h:i<0
   ·simp only [h,if_true]<;>omega
   ·simp only [h,if_false]<;>omega
theorem uK (its:List a9) (lo hi:Option Int):slicePick its.toArray lo hi none=((its.drop (HT.f_ its.length 0 lo)).take (HT.f_ its.length its.length hi-HT.f_ its.length 0 lo)).toArray:=by
 obtain ⟨h1,h2,h3⟩:=ww lo hi its.toArray.size
 unfold slicePick
 rw [h1,h2,h3]
 simp only [sliceRange_one,pick_run,aB]<;>rfl
def Nr (K:a7):V->Option Int->Option Int->Hp->VK->Prop:=fun x lo hi H Q=>∃ a xs,x=.ref a/\jx K H a xs/\∀ p,H p=none->Q (.ref p) (upd H p (.lst (xX xs lo hi)))
theorem GW:LC X (Nr X.K):=by
 intro pins s σ H x v vl vu lo hi sl Q I rx hs pl pu h
 obtain ⟨a,xs,rfl,hx,q⟩:=h
 cases rx
 obtain ⟨its,r,ht,hz⟩:=I.list hx
 have hlen:=r.length
 refine ⟨"list",_,slot_list_getitem.lookup,ht.isList.typeIs,?_⟩
 refine wpAny_getItem_list_slice ht.isList hs pl pu .none (by simp) ?_ (by rw [aB]<;>omega)
 rw [uK,<- hlen]
 refine ⟨.ref s.heap.objs.size,_,I.laid (t':=s.toks) (o:=.lst (xX xs lo hi)) (fun b ob q=>ag _ q) (aq _) ?_,rfl,q _ (I.hok.fresh (aq _))⟩
 exact ⟨cn (qT xs lo hi) hz,_,0,(r.drop (HT.f_ xs.length 0 lo)).take (HT.f_ xs.length xs.length hi-HT.f_ xs.length 0 lo),av _ rfl⟩
def lT:V->Bool
 |.non=>true
 |.bl _=>true
 |.int _=>true
 |.str _=>true
 |_=>false
def GX:V->V->Bool
 |.non,.non=>true
 |.bl a,.bl b=>a==b
 |.bl a,.int b=>(if a then 1 else 0)==b
 |.int a,.bl b=>a==(if b then 1 else 0)
 |.int a,.int b=>a==b
 |.str a,.str b=>a==b
 |_,_=>false
theorem K3 {A:aR}{s:ae}{y x:V}{u v:a9} (ry:bW y u) (rx:bW x v) (fy:lT y=true) (fx:lT x=true):BP A s u v (GX y x):=by
 cases y with
 |non =>
  cases ry
  cases x with
  |non=>cases rx;exact SeqAt.EqAt.same _
  |bl b=>cases rx;exact SeqAt.EqAt.none_bool b
  |int b=>obtain ⟨t,rfl⟩:=rx;exact SeqAt.EqAt.none_int b t
  |str b=>obtain ⟨t,rfl⟩:=rx;exact SeqAt.EqAt.none_str b t
  |_=>exact absurd (show false=true from fx) aL
 |bl a =>
  cases ry
  cases x with
  |non=>cases rx;exact SeqAt.EqAt.bool_none a
  |bl b=>cases rx;exact vd a b
  |int b=>obtain ⟨t,rfl⟩:=rx;exact SeqAt.EqAt.bool_int a b t
  |str b=>obtain ⟨t,rfl⟩:=rx;exact SeqAt.EqAt.bool_str a b t
  |_=>exact absurd (show false=true from fx) aL
 |int a =>
  obtain ⟨t',rfl⟩:=ry
  cases x with
  |non=>cases rx;exact SeqAt.EqAt.int_none a t'
  |bl b=>cases rx;exact SeqAt.EqAt.int_bool a t' b
  |int b=>obtain ⟨t,rfl⟩:=rx;exact SeqAt.EqAt.int_int a t' b t
  |str b=>obtain ⟨t,rfl⟩:=rx;exact xC a t' b t
  |_=>exact absurd (show false=true from fx) aL
 |str a =>
  obtain ⟨t',rfl⟩:=ry
  cases x with
  |non=>cases rx;exact SeqAt.EqAt.str_none a t'
  |bl b=>cases rx;exact SeqAt.EqAt.str_bool a t' b
  |int b=>obtain ⟨t,rfl⟩:=rx;exact xD a t' b t
  |str b=>obtain ⟨t,rfl⟩:=rx;exact SeqAt.EqAt.str_str a t' b t
  |_=>exact absurd (show false=true from fx) aL
 |_=>exact absurd (show false=true from fy) aL
def Ab (x:V) (u:a9):Bool:=match u with
 |.none=>GX .non x
 |.bool b=>GX (.bl b) x
 |.int i _=>GX (.int i) x
 |.str z _=>GX (.str z) x
 |_=>false
theorem DY {x y:V}{u:a9} (r:bW y u) (f:lT y=true):Ab x u=GX y x:=by
 cases y with
 |non=>cases r;rfl
 |bl b=>cases r;rfl
 |int i=>obtain ⟨t,rfl⟩:=r;rfl
 |str z=>obtain ⟨t,rfl⟩:=r;rfl
 |_=>exact absurd (show false=true from f) aL
theorem oW {x:V}:∀ {xs:List V}{us:List a9},cu xs us->xs.all lT=true->us.any (Ab x)=xs.any fun y=>GX y x
 |_,_,.nil,_=>rfl
 |y::xs,u::us,.cons r t,f=>by
  rw [oO,ay] at f
  rw [eC,eC,DY r f.1,oW t f.2]
theorem lU {A:aR}{s:ae}{x:V}{v:a9} (rx:bW x v) (fx:lT x=true):∀ {xs:List V}{us:List a9},cu xs us->xs.all lT=true->∀ u∈us,BP A s u v (Ab x u)
 |_,_,.nil,_=>fun u hu=>by cases hu
 |y::xs,u::us,.cons r t,f=>fun u' hu=>by
  rw [oO,ay] at f
  rcases List.mem_cons.mp hu with rfl|hu
  ·rw [DY r f.1];exact K3 r rx f.1 fx
  ·exact lU rx fx t f.2 u' hu
def MT (x:V) (xs:List V):Bool:=xs.any fun y=>GX y x
inductive LJ (K:a7) (neg:Bool) (x:V) (y:V) (H:Hp) (Q:VK):Prop
 |mk (p xs:_) (h0:y=.ref p) (h1:(jx K H p xs\/iR K H p xs)) (h2:lT x=true) (h3:xs.all lT=true) (h4:Q (.bl (if neg then !MT x xs else MT x xs)) H):LJ K neg x y H Q
def Nt (K:a7) (neg:Bool):R2:=LJ K neg
theorem C5:mF X (bh .In) (Nt X.K false):=by
 intro pins s σ H x y v u Q I rx ry h
 obtain ⟨p,xs,rfl,hq,fx,fs,q⟩:=h
 cases ry
 rcases hq with hq|hq
 ·obtain ⟨its,r,pl,hz⟩:=I.list hq
  refine SeqAt.in_listAt (Ab x) pl.isList (fun w hw=>lU rx fx r fs w (by simpa using hw)) ⟨.bl _,H,I,rfl,?_⟩
  rw [show its.toArray.any (Ab x)=its.any (Ab x) by simp,oW r fs]
  exact q
 ·obtain ⟨its,r,pl,hz⟩:=I.tuple hq
  refine SeqAt.in_tupleAt (Ab x) pl (fun w hw=>lU rx fx r fs w (by simpa using hw)) ⟨.bl _,H,I,rfl,?_⟩
  rw [show its.toArray.any (Ab x)=its.any (Ab x) by simp,oW r fs]
  exact q
theorem wx:mF X (bh .NotIn) (Nt X.K true):=by
 intro pins s σ H x y v u Q I rx ry h
 obtain ⟨p,xs,rfl,hq,fx,fs,q⟩:=h
 cases ry
 rcases hq with hq|hq
 ·obtain ⟨its,r,pl,hz⟩:=I.list hq
  refine SeqAt.notIn_listAt (Ab x) pl.isList (fun w hw=>lU rx fx r fs w (by simpa using hw)) ⟨.bl _,H,I,rfl,?_⟩
  rw [show its.toArray.any (Ab x)=its.any (Ab x) by simp,oW r fs]
  exact q
 ·obtain ⟨its,r,pl,hz⟩:=I.tuple hq
  refine SeqAt.notIn_tupleAt (Ab x) pl (fun w hw=>lU rx fx r fs w (by simpa using hw)) ⟨.bl _,H,I,rfl,?_⟩
  rw [show its.toArray.any (Ab x)=its.any (Ab x) by simp,oW r fs]
  exact q
theorem oX:i6 X (.builtin "len") (fun xs H Q=>∃ p ys,xs=[.ref p]/\(jx X.K H p ys\/iR X.K H p ys)/\Q (.int ys.length) H):=by
 intro pins s σ H xs us Q I r h
 obtain ⟨p,ys,rfl,hq,q⟩:=h
 obtain ⟨u,rfl,rx⟩:=jy r
 cases rx
 have hn:=q9
 rcases hq with hq|hq
 ·obtain ⟨its,r',pl,hz⟩:=I.list hq
  have hlen:=r'.length
  exact Calls.call_len_list pl.isList (by simp only [aB]<;>omega) ⟨.int ys.length,H,I.tok _,⟨s.toks+1,by rw [aB,hlen]⟩,q⟩
 ·obtain ⟨its,r',pl,hz⟩:=I.tuple hq
  have hlen:=r'.length
  exact len_tuple pl (by simp only [aB]<;>omega) ⟨.int ys.length,H,I.tok _,⟨s.toks+1,by rw [aB,hlen]⟩,q⟩
theorem wy:i6 X (.builtin "len") (fun xs H Q=>∃ z,xs=[.str z]/\z.length<=sizeLine/\Q (.int z.length) H):=by
 intro pins s σ H xs us Q I r h
 obtain ⟨z,rfl,hz,q⟩:=h
 obtain ⟨u,rfl,t,rfl⟩:=jy r
 have hn:=q9
 exact len_str (by omega) ⟨.int z.length,H,I.tok _,⟨_,rfl⟩,q⟩
theorem oY:i6 X (.type "list") (fun xs H Q=>∃ p ys,xs=[.ref p]/\(jx X.K H p ys\/iR X.K H p ys)/\∀ l,H l=none->Q (.ref l) (upd H l (.lst ys))):=by
 intro pins s σ H xs us Q I r h
 obtain ⟨p,ys,rfl,hq,q⟩:=h
 obtain ⟨u,rfl,rx⟩:=jy r
 cases rx
 have fin:∀ (its:List a9),cu ys its->ys.length<=sizeLine->∀ (h':aW) (c':Nat),(∀ b o',s.heap.get? b=some o'->h'.get? b=some o') ->
   h'.get? s.heap.objs.size=some { cls:=.type "list",dict:=none,data:=.seq its.toArray c',slots:=#[] }->EP X pins σ Q (.ref s.heap.objs.size) { s with heap:=h' }:=fun its r' hz h' c' kp e =>
  ⟨.ref s.heap.objs.size,_,I.laid (t':=s.toks) kp (aq _) (show cj X.prog X.w _ h' _ (.lst ys) from ⟨hz,its,c',r',e⟩),rfl,q _ (I.hok.fresh (aq _))⟩
 rcases hq with hq|hq
 ·obtain ⟨its,r',pl,hz⟩:=I.list hq
  have hlen:=r'.length
  obtain ⟨o,ho,hc,n,hd⟩:=pl.isList
  exact call_list_seq p (.inl rfl) ho hc hd (fun h' c' kp e=>fin its r' hz h' c' kp e) (by simp only [aB]<;>omega)
 ·obtain ⟨its,r',pl,hz⟩:=I.tuple hq
  have hlen:=r'.length
  obtain ⟨o,ho,hc,n,hd⟩:=pl
  exact call_list_seq p (.inr rfl) ho hc hd (fun h' c' kp e=>fin its r' hz h' c' kp e) (by simp only [aB]<;>omega)
theorem nu:i6 X (.type "tuple") (fun xs H Q=>∃ p ys,xs=[.ref p]/\((jx X.K H p ys/\∀ l,H l=none->Q (.ref l) (upd H l (.tup ys)))\/(iR X.K H p ys/\Q (.ref p) H))):=by
 intro pins s σ H xs us Q I r h
 obtain ⟨p,ys,rfl,h⟩:=h
 obtain ⟨u,rfl,rx⟩:=jy r
 cases rx
 rcases h with ⟨hq,q⟩|⟨hq,q⟩
 ·obtain ⟨its,r',pl,hz⟩:=I.list hq
  have hlen:=r'.length
  refine call_tuple_list pl.isList (fun h' kp=>?_) (by simp only [aB]<;>omega)
  have I1:aV X pins σ H { s with heap:=h' }:=I.kept (t':=s.toks) kp
  have I2:aV X pins σ (upd H h'.objs.size (.tup ys)) { s with heap:=h'.push { cls:=.type "tuple",data:=.seq its.toArray } } :=
   I1.laid (t':=s.toks) (fun b o e=>ag _ e) (aq _) (show cj X.prog X.w _ _ _ (.tup ys) from ⟨hz,its,r',ro _ _⟩)
  exact ⟨.ref h'.objs.size,_,I2,rfl,q _ (I1.hok.fresh (aq _))⟩
 ·obtain ⟨its,r',pl,hz⟩:=I.tuple hq
  exact call_tuple_same pl ⟨.ref p,H,I,rfl,q⟩
def Oi (K:a7) (T:String) (x:V) (H:Hp):Prop:=match x with
 |.str _=>T="str"
 |.int _=>T="int"
 |.ref p=>(T="list"/\∃ xs,jx K H p xs)\/(T="tuple"/\∃ o,K.lookup p=some o/\o.cls=.type "tuple"/\o.dict=none) \/
   (T="dict"/\((∃ kvs,H p=some (.dK kvs))\/∃ kvs,H p=some (.dT kvs)))\/(T="set"/\∃ S n,H p=some (.set S n))
 |_=>False
theorem K4 {pins:List (ac×Obj)}{σ:St}{H:Hp}{s:ae}{T:String}{x:V}{v:a9} (I:aV X pins σ H s) (r:bW x v) (ty:Oi X.K T x H) :
  s.TypeIs v T/\∀ a,v=.ref a->∃ ob,s.heap.get? a=some ob/\ob.dict=none:=by
 cases x with
 |str z =>
  obtain ⟨t,rfl⟩:=r
  cases (show T="str" from ty)
  exact ⟨typeIs_str s z t,fun _ e=>nomatch e⟩
 |int i =>
  obtain ⟨t,rfl⟩:=r
  cases (show T="int" from ty)
  exact ⟨typeIs_int s i t,fun _ e=>nomatch e⟩
 |ref p =>
  cases r
  rcases ty with ⟨rfl,xs,hq⟩|⟨rfl,o,hk,hc,hd⟩|⟨rfl,hk⟩|⟨rfl,S,n,hk⟩
  ·obtain ⟨its,_,pl,_⟩:=I.list hq
   refine ⟨pl.isList.typeIs,fun a e=>?_⟩
   cases e
   obtain ⟨o,n,e,c,hd,_⟩:=pl
   exact ⟨o,e,hd⟩
  ·refine ⟨⟨o,I.kIn p o hk,hc⟩,fun a e=>?_⟩
   cases e
   exact ⟨o,I.kIn _ o hk,hd⟩
  ·have z:∃ o,s.heap.get? p=some o/\o.ExactDict:=by
    rcases hk with ⟨kvs,hk⟩|⟨kvs,hk⟩
    ·obtain ⟨_,_,_,_,o,_,_,e,ex,_⟩:=I.hok p _ hk
     exact ⟨o,e,ex⟩
    ·obtain ⟨_,_,_,_,o,_,_,e,ex,_⟩:=I.hok p _ hk
     exact ⟨o,e,ex⟩
   obtain ⟨o,e,ex⟩:=z
   refine ⟨⟨o,e,ex.1⟩,fun a e2=>?_⟩
   cases e2
   exact ⟨o,e,ex.2.1⟩
  ·obtain ⟨o,_,_,_,e,ex,_⟩:=I.hok p _ hk
   refine ⟨⟨o,e,ex.1⟩,fun a e2=>?_⟩
   cases e2
   exact ⟨o,e,ex.2.1⟩
 |_=>exact df ty
def O_ (K:a7) (T:String) (r:V->List V->Hp->VK->Prop) (to:TE) (t:TA):TE:=fun σ H Q=>to σ H fun x H1=>Oi K T x H1/\t σ H1 fun xs H2=>r x xs H2 Q
variable {o e:aQ}{es:List aQ}{to:TE}{t:TA}{name:Str}{apos cpos:Pos}{T id:String}{r:V->List V->Hp->VK->Prop}
theorem vz (pa:PlainAttrs T) (slot:Slot T name id) (hty:typeOf (.builtin id)=pure (.type "method_descriptor")) (hm:No X id r) (ho:PE X o to) (ha:PA X (e::es) t)
  (hbase:BQ o name X.env (cQ o X.env)=cQ o X.env:=by rfl)
  (hfew:((cR cpos (ap (e::es) X.env)).all (fun x=>!x.1)&&(backToKw cpos (Gh [] X.env)).all (fun x=>x.1.isSome)
   && decide ((e::es).length+([] : List uC).length+(if ([] : List uC).isEmpty then 0 else 1)<30))=true:=by rfl)
  (hline:(apos.endLine==cpos.line)=true:=by rfl) (hs:ap (e::es) X.env=(false,cQ e X.env)::ap es X.env:=by rfl) (hplain:(cR cpos (ap es X.env)).any (·.1)=false:=by rfl) :
  PE X (.Call (.Attribute o name apos) (e::es) [] cpos) (O_ X.K T r to t):=by
 intro pins s σ H Q I h
 refine wpAny_Call_method_late hbase hfew hline rfl (dX (ho pins s σ H _ I h) fun v s1 ⟨x,H1,I1,r1,ty,q1⟩=>?_)
 obtain ⟨h1,h2⟩:=K4 I1 r1 ty
 refine ⟨T,id,pa,slot,hty,h1,h2,?_⟩
 have hA:=ha cpos pins s1 σ H1 _ I1 q1
 rw [hs] at hA ⊢
 refine Calls.callWith_builtin (by show (false||(cR cpos (ap es X.env)).any (·.1))=false;rw [hplain]<;>rfl) (zI ?_)
 exact dX hA fun us s2 h_30=>by obtain ⟨vs,H2,I2,r2,q2⟩:=h_30;exact hm pins s2 σ H2 x vs v us Q I2 r1 r2 q2
end
end L2
namespace L2
open PySem PySem.Spec PyProof.Rows
def Nu (X:Cx) (id:String) (r:V->List V->Hp->VK->Prop):Prop :=
 ∀ (pins:List (ac×Obj)) (s:ae) (σ:St) (H:Hp) (x:V) (xs:List V) (v:a9) (us:List a9) (Q:VK),aV X pins σ H s->bW x v->cu xs us->r x xs H Q ->
  ai (ax X.prog X.w) X.A (call (.builtin id) (v::us)) (EP X pins σ Q) X.xe s
theorem cu.one {x:V}{us:List a9} (h:cu [x] us):∃ u,us=[u]/\bW x u:=by
 cases h with|cons r t=>cases t;exact ⟨_,rfl,r⟩
section
variable {X:Cx}{pins:List (ac×Obj)}{σ:St}{H:Hp}{s:ae}{l b:ac}{xs ys zs:List V}
theorem aV.lset {its its':List a9}{n:Nat}{f:Array a9->Array a9}{t':Nat} (I:aV X pins σ H s) (hH:H l=some (.lst xs))
  (e:s.heap.get? l=some { cls:=.type "list",data:=.seq its.toArray n }) (hf:f its.toArray=its'.toArray) (hv:cu ys its') (hz:ys.length<=sizeLine) :
  aV X pins σ (upd H l (.lst ys)) { s with heap:=s.heap.update l (dB f),toks:=t' }:=by
 have q:=PySem.IsL.update e f
 rw [hf] at q
 refine I.write (x:=l) (e:=l) (by rw [hH];exact trivial) (.inl rfl) (fun b' u hb hu=>(ck s.heap (dB f) (cO hb)).trans hu) ⟨_,q⟩ ?_
 exact ⟨hz,its',_,hv,q⟩
theorem aV.lnew {its:List a9}{t':Nat} (I:aV X pins σ H s) (hv:cu ys its) (hz:ys.length<=sizeLine) :
  aV X pins σ (upd H s.heap.objs.size (.lst ys)) { s with heap:=s.heap.push { cls:=.type "list",data:=.seq its.toArray },toks:=t' } :=
 I.laid (fun _ _ q=>ag _ q) (aq _) ⟨hz,its,0,hv,av _ rfl⟩
theorem aV.fresh (I:aV X pins σ H s):H s.heap.objs.size=none:=I.hok.fresh (aq _)
theorem aV.lstM (I:aV X pins σ H s) (hH:H l=some (.lst xs)):Od s.heap l xs:=by
 obtain ⟨z,its,n,r,e⟩:=I.hok l _ hH
 exact ⟨z,its,n,r,r.length,e⟩
theorem xY {n:Nat} (h:n<=sizeLine):fH n=false:=by
 unfold fH
 exact decide_eq_false (by omega)
end
section
variable {X:Cx}
inductive xZ (x:V) (vs:List V) (H:Hp) (Q:VK):Prop
 |mk (l xs y:_) (h0:x=.ref l) (h1:vs=[y]) (h2:H l=some (.lst xs)) (h3:xs.length<sizeLine) (h4:Q .non (upd H l (.lst (xs++[y])))):xZ  x vs H Q
def GY:V->List V->Hp->VK->Prop:=xZ
theorem C6:Nu X "list.append" GY:=by
 intro pins s σ H x vs v us Q I rx rv h
 obtain ⟨l,xs,y,rfl,rfl,hH,hz,q⟩:=h
 cases rx
 obtain ⟨u,rfl,ru⟩:=rv.one
 obtain ⟨z,its,n,r,hl,e⟩:=I.lstM hH
 refine sB F.slot_list_append ⟨_,e,rfl⟩ F.entry_list_append (F.args_list_append_2 _ _) (PySem.list_append l its.toArray n u (by rw [aB];omega)) ⟨e,?_⟩
 refine ⟨.non,_,I.lset (its':=its++[u]) hH e (by simp) (r.append (.cons ru .nil)) ?_,rfl,q⟩
 rw [bo,iq]
 omega
inductive x_ (x:V) (vs:List V) (H:Hp) (Q:VK):Prop
 |mk (l b xs zs:_) (h0:x=.ref l) (h1:vs=[.ref b]) (h2:H l=some (.lst xs)) (h3:H b=some (.lst zs)) (h4:xs.length+zs.length<=sizeLine) (h5:Q .non (upd H l (.lst (xs++zs)))):x_  x vs H Q
def GZ:V->List V->Hp->VK->Prop:=x_
theorem vA:Nu X "list.extend" GZ:=by
 intro pins s σ H x vs v us Q I rx rv h
 obtain ⟨l,b,xs,zs,rfl,rfl,hH,hB,hz,q⟩:=h
 cases rx
 obtain ⟨u,rfl,ru⟩:=rv.one
 cases ru
 obtain ⟨z,its,n,r,hl,e⟩:=I.lstM hH
 obtain ⟨z2,its2,n2,r2,hl2,e2⟩:=I.lstM hB
 have hsz:its.toArray.size+its2.toArray.size<=sizeLine:=by rw [aB,aB];omega
 have hlong:¬ (!its.toArray.isEmpty&&fH (its.toArray.size+its2.toArray.size))=true:=by
  rw [xY hsz,h_]
  exact aL
 refine sB Gi ⟨_,e,rfl⟩ G6 (Dm _ _)
  (AutoSeq1.list_extend_list_list_0 l its.toArray n b its2.toArray n2 hlong (by rw [aB];omega) (by omega)) ⟨e,e2,?_⟩
 refine ⟨.non,_,I.lset (its':=its++its2) hH e (by simp) (r.append r2) ?_,rfl,q⟩
 rw [bo]
 omega
end
section
variable {prog:aJ}{w:aS}{A:aR}{E:a9->ae->Prop}{s:ae}
end
section
variable {X:Cx}
end
end L2
namespace Att
open PySem PySem.W PySem.Calls PyProof.Rows
theorem rJ {P:Params}{h:aW}:∀ (ns:List Int) (vs:List a9),WellAll P h vs (ns.map WData.int)->Dn vs ns:=by
 intro ns
 induction ns with
 |nil =>
  intro vs w
  rw [qP] at w
  cases w
  exact .nil
 |cons n ns ih =>
  intro vs w
  rw [bO] at w
  cases w with
  |cons a b =>
   cases a
   exact .cons _ _ (ih _ b)
theorem C7 {l:OpenLaw}{n:Nat} (hn:l.most=some n) {P:Params}{h:aW}{args:List WData}{vals:List a9}
  (hpre:l.row.toRowW.claim.pre args=true) (hwl:WellAll P h vals args) :
  ∃ a vs ns,vals=[bc a]/\args=[WData.list (ns.map WData.int)]/\h.get? a=some { cls:=.type "list",data:=.seq vs.toArray }/\Dn vs ns/\ns.length<=n:=by
 have hsh:WShape.hasAll [] args [.list .int]=true:=(pre_splitW hpre).1
 have hc:l.pre.holds [] { args:=args }=true:=(pre_splitW hpre).2
 obtain ⟨d,r,rfl,h1,h2⟩:=hasAllW_cons hsh
 obtain rfl:=hasAllW_nil h2
 obtain ⟨xs,rfl,h3⟩:=hasW_list h1
 obtain ⟨ns,rfl⟩:=items_int h3
 have hlen:ns.length<=n:=by
  unfold OpenLaw.pre at hc
  have h4:(WTm.not (.lt (.lit (.int (n:Int))) (.len (.arg 0)))).holds [] { args:=[.list (ns.map .int)] }=true:=by
   have h4:=(holds_andW hc).1
   rw [hn] at h4
   exact h4
  have h5:=condW_of h4 (w_not (w_lt w_lit (w_len_list (w_arg rfl))))
  rw [aN] at h5
  refine Gj fun q=>?_
  have q':(n:Int)<((ns.length:Nat):Int):=by omega
  first
   |(rw [decide_eq_true q'] at h5;exact absurd h5 (by decide))
   |(simp at h5;omega)
 cases hwl with
 |cons w1 w2 =>
  cases w2
  cases w1 with
  |list ho hall=>exact ⟨_,_,ns,rfl,rfl,ho,rJ ns _ hall,hlen⟩
theorem C8 (l:OpenLaw) (args:List WData):l.row.toRowW.claim.post args (.bool true) args=true :=
 postW_of (r:=l.row.toRowW) (X:=(true==true))
  (show WShape.has [] (.bool true) .bool=true by first|rfl|decide|simp [WShape.has,WShape.arms,WShape.armsAll])
  (show (WTm.eq .res (.lit (.bool true))).value [] { args:=args,res:=some (.bool true),after:=args }=some (.bool (true==true)) from w_eq_bool (w_res rfl) w_lit) rfl
theorem attach_call {l:OpenLaw}{n:Nat}{q:aJ}{loose:List Str}{XP:(Str->Option a9)->aW->Prop}{YP:aS->aW->Prop}{d:DefRec}
  (hn:l.most=some n) (hdf:d.params.defaults=[])
  (call:∀ (w:aS) (s₀ s₁:ae) (mg mb:Str->Option a9) (fa:ac) (o:Obj) (pm cd doc:a9) (a:ac) (vs:List a9) (ns:List Int),
   Ground q loose [] XP w s₀ mg mb s₁.heap->YP w s₁.heap ->
   s₁.heap.get? fa=some o->o.data=.func (docDef d.name d.params d.body d.scope pm cd doc)->s₁.heap.CodeRec cd d.name->mg d.name=some (.ref fa) ->
   s₁.heap.get? a=some { cls:=.type "list",data:=.seq vs.toArray }->Dn vs ns->ns.length<=n->s₁.gens=#[] ->
   em (ax l.prog w) qQ (.call (.ref fa) ⟨[.ref a],[]⟩) (fun r s'=>r=.ok (.ret (.bool true))/\OldK s₁.heap s'.heap/\s'.os=s₁.os/\lH s'.gens) s₁) :
  WalkO q loose XP YP l.row.toRowW d [] (fun f vs=>BR f vs):=by
 intro w s₀ s₁ mg mb G Y fa o pm cd doc dV kV ho hd hcd hD hmg hg args vals as hpre hlay hrd hwl hlo
 obtain rfl:dV=.none:=Dflts.none hD hdf
 obtain rfl:kV=.none:=Dflts.noKw hD
 obtain ⟨a,vs,ns,rfl,rfl,hobj,hints,hlen⟩:=C7 hn hpre hwl
 refine enter_call (iC (call w s₀ s₁ mg mb fa o pm cd doc a vs ns G Y ho (fd_plain hd) hcd hmg hobj hints hlen hg) fun r s' hq=>?_)
 obtain ⟨rfl,h2,h3,h4⟩:=hq
 exact ⟨.inl ⟨.bool true,.bool true,[],rfl,fun _=>rfl,.bool true,C8 l _,fun _=>⟨vf,fun _ hm=>(nomatch hm)⟩⟩,h2,h3,h4⟩
section
variable {prog:aJ}{w:aS}{A:aR}{E:a9->ae->Prop}{s:ae}{K:Frag}
def Nv (h:aW) (L d:ac):List (ac×Obj):=(bR h.objs.size).filterMap fun a=>if a=L\/a=d then none else (h.get? a).map fun o=>(a,o)
end
end Att
namespace L2
open PySem PySem.Spec PyProof.Rows
theorem C9 {vs:List a9}{ns:List Int} (h:Dn vs ns):cu (ns.map V.int) vs:=by
 induction h with
 |nil=>exact .nil
 |cons n t h ih=>exact .cons ⟨t,rfl⟩ ih
def K5 (P0:ac) (H:Hp):Prop:=∀ b,H b=none\/(∃ o xs,H b=some (.frz o (.lst xs)))\/(b=P0/\∃ ps,H b=some (.tbl ps))
def II (K:a7) (P0:ac) (q0:Str) (p:ac×Obj):Bool:=match p.2 with
 |⟨_,_,.fields vs,_⟩=>(match (vs[11]? : Option a9),vs.toList with
  |some (.ref P),_::.str q _::_=>(K.lookup P).isSome || !(q==Ju)||(P==P0&&q==q0)
  |_,_=>true)
 |_=>true
def nW (K:a7) (c0 P0:ac) (q0:Str):Bool:=K.all (II K P0 q0)&&(K.lookup P0).isNone&&dH K c0 P0
theorem DZ {c:ac}{o:Obj}:∀ {K:List (ac×Obj)},K.lookup c=some o->(c,o)∈K
 |[],h=>by cases h
 |(a,u)::r,h=>by
  rw [bM] at h
  cases e:c==a with
  |true =>
   rw [e] at h
   have e':c=a:=beq_iff_eq.mp e
   cases h
   rw [e']
   exact ao
  |false=>rw [e] at h;exact ah _ (DZ h)
theorem y0 {K:a7}{c0 P0 c P:ac}{q0 q:Str} (hT:nW K c0 P0 q0=true) (h1:c6 K (.ref c) q=true) (h2:dH K c P=true) (h3:K.lookup P=none) (h4:q=Ju):P=P0/\q=q0:=by
 unfold nW at hT
 simp only [ay,cU] at hT
 unfold c6 at h1
 unfold dH at h2
 cases hk:K.lookup c with
 |none=>rw [hk] at h2;cases h2
 |some o =>
  have hm:=hT.1.1 (c,o) (DZ hk)
  simp only [hk] at h1 h2
  obtain ⟨cls,dd,dat,sl⟩:=o
  cases dat with
  |fields vs =>
   simp only at h1
   unfold II at hm
   simp only at hm
   split at h1
   ·rename_i a n t r hv
    split at h2
    ·rename_i vs' _ he
     have e4:vs'=vs:=by injection he with he;injection he with _ _ he _;injection he with he;exact he.symm
     subst e4
     simp only [ay] at h2
     have e1:=h2.1.1.1.1.1
     split at e1
     ·rename_i P' h11
      have eP:=beq_iff_eq.mp e1
      subst eP
      rw [h11,hv] at hm
      have e5:=beq_iff_eq.mp h1
      simp only [h3,Option.isSome_none,kC,e5,h4,beq_self_eq_true,xH,ay,beq_iff_eq] at hm
      exact ⟨hm.1,h4.trans hm.2⟩
     ·cases e1
    ·cases h2
   ·cases h1
  |_=>cases h1
theorem D_ {P:aJ}{w:aS}{K:a7}{mg mb:Str->Option a9}{CX:A6}{k:Nat}{fa a:ac}{fd:cp}{x:Str}{sp:Sp}{s₁:ae}{vs:List a9}{ns:List Int}
  {c0 P0:ac}{q0:Str} (hT0:s₁.heap.get? P0=some { cls:=.none,data:=.fields #[] }) (hTK:nW K c0 P0 q0=true) (hbm:∃ bm ob,mg "__builtins__"=some (.ref bm)/\bm≠kK/\s₁.heap.get? bm=some ob/\ob.cls=.type "module"/\ob.dict=some kK/\ob.data=.plain) (KX:K.In s₁.heap) (hns:s₁.heap.Ns aO mg) (hb:s₁.heap.Ns kK mb) (hbb:∀ x:Str,x≠"__name__"->mb x=ft x) (hlim:s₁.heap.NoLimit) (hg:s₁.gens=#[])
  (ha:s₁.heap.get? a=some { cls:=.type "list",data:=.seq vs.toArray }) (hi:Dn vs ns) (hl:ns.length<=sizeLine) (hr:eL k qQ)
  (F:∀ base:aW,K.In base->base.Ns aO mg->kS P w K mg base CX k fa fd [x] sp) (hbind:∀ (s:ae) (u:a9),qO s fd ⟨[u],[]⟩ [(x,u)])
  (hsp:∀ H:Hp,K5 P0 H->jx K H a (ns.map V.int)->sp [.ref a] H (fun v _=>v=.bl true) fun _ _ _=>False)
  (hCX:∀ H e s',CX [] H s₁ (fun _ _ _=>False) e s'->False) :
  em (ax P w) qQ (.call (.ref fa) ⟨[.ref a],[]⟩) (fun r s'=>r=.ok (.ret (.bool true))/\OldK s₁.heap s'.heap/\s'.os=s₁.os/\lH s'.gens) s₁:=by
 have rv:=C9 hi
 have lenV:=hi.length
 have nP:K.lookup P0=none:=by
  unfold nW at hTK
  simp only [ay] at hTK
  cases q:K.lookup P0 with
  |none=>rfl
  |some o=>rw [q] at hTK;exact absurd hTK.1.2 (by simp)
 have aP:a≠P0:=fun z=>by rw [z,hT0] at ha;cases ha
 have core:∀ H:Hp,K5 P0 H->jx K H a (ns.map V.int)->lC P w H s₁.heap->(∀ b,H b≠none->b=a\/b=P0)->(H a≠none->K.lookup a=none)->Tb K H ->
   em (ax P w) qQ (.call (.ref fa) ⟨[.ref a],[]⟩) (fun r s'=>r=.ok (.ret (.bool true))/\OldK s₁.heap s'.heap/\s'.os=s₁.os/\lH s'.gens) s₁:=by
  intro H hO hS hok hA hK hTb
  have base_of:∀ {b:ac}{o:Obj},s₁.heap.get? b=some o->H b=none->(wl s₁.heap H).get? b=some o:=fun e n=>DA e n
  have noA:∀ {b:ac}{o:Obj}{es:Array D4}{ep:Nat},s₁.heap.get? b=some o->o.data=.dict es ep->H b=none:=fun {b o es ep} e d=>by
   cases q:H b with
   |none=>rfl
   |some u =>
    rcases hA b (by rw [q];simp) with e' | e'
    ·subst e'
     rw [ha] at e;cases e
     have d':Data.seq vs.toArray _=Data.dict es ep:=d
     cases d'
    ·subst e'
     rw [hT0] at e;cases e
     have d':Data.fields #[]=Data.dict es ep:=d
     cases d'
  have nsK:∀ {b:ac}{m:Str->Option a9},s₁.heap.Ns b m->(wl s₁.heap H).Ns b m:=fun {b m} ⟨o,es,ep,e,d,r⟩=>⟨o,es,ep,base_of e (noA e d),d,r⟩
  have hKb:K.In (wl s₁.heap H):=fun b o e=>base_of (KX b o e) (by
   cases q:H b with
   |none=>rfl
   |some u =>
    rcases hA b (by rw [q];simp) with e' | e'
    ·subst e'
     rw [hK (by rw [q];simp)] at e;cases e
    ·subst e'
     rw [nP] at e;cases e)
  have hM:Mod K mg (wl s₁.heap H):=⟨hKb,nsK hns,⟨mb,nsK hb,hbb⟩,let ⟨mc,h1,h2⟩:=hlim;⟨mc,nsK h1,h2⟩,by obtain ⟨bm,ob,b1,b2,b3,b4,b5,b6⟩:=hbm;exact ⟨bm,ob,b1,b2,base_of b3 (by
   cases q:H bm with
   |none=>rfl
   |some u =>
    rcases hA bm (by rw [q];simp) with e' | e'
    ·subst e';rw [ha] at b3;cases b3;cases b6
    ·subst e';rw [hT0] at b3;cases b3;cases b6),b4,b5,b6⟩⟩
  have e0:A7 P w K mg (wl s₁.heap H) qQ [] s₁ H:=⟨rfl,hM,fun b o e=>GF e,Nat.le_of_eq (C0 _ _),trivial,fun b hb=>absurd (show b∈([] : List ac) from hb) (by simp),hok,.of_eq hg,hTb⟩
  refine iC ((F _ hKb (nsK hns)).run qQ [] s₁ H ⟨[.ref a],[]⟩ [.ref a] [.ref a] _ _ hr e0 (hbind s₁ (.ref a)) (.cons rfl .nil) (hsp H hO hS)) fun r s' h=>?_
  cases r with
  |error e=>exact (hCX H e s' h).elim
  |ok fl =>
   cases fl with
   |next=>exact df h
   |brk=>exact df h
   |cont=>exact df h
   |ret u =>
    obtain ⟨v,H',os,bare,un,hok',r',q⟩:=h
    have q':v=.bl true:=q
    subst q'
    obtain rfl:u=fK true:=r'
    have hcT:isCodeTable s₁.heap P0:=by
     unfold nW at hTK
     simp only [ay] at hTK
     obtain ⟨o,vs,_,_,_,_,_,_,_,d1,d2,d3,d4,_⟩:=zv KX hTK.2
     exact Heap.TableAt.isCodeTable (ps:=#[]) ⟨⟨o,vs,d1,d2,d3,d4⟩,hT0⟩
    have key:∀ b o,s₁.heap.get? b=some o->asItWas s₁.heap s'.heap b o/\∃ o',s'.heap.get? b=some o':=fun b o e=>by
     cases q:H b with
     |none=>have:=un.keep b o e q (by intro z;exact absurd (show b∈([] : List ac) from z) (by simp)) (by simp);exact ⟨.inl this,o,this⟩
     |some u =>
      rcases hO b with z|⟨ob,xs,z⟩|⟨rfl,ps,z⟩
      ·rw [q] at z;cases z
      ·have z2:=un.frzs b ob _ z
       obtain ⟨e1,_⟩:=hok b _ z
       obtain ⟨e2,_⟩:=hok' b _ z2
       rw [e] at e1;cases e1
       exact ⟨.inl e2,_,e2⟩
      ·obtain ⟨more,z2⟩:=un.tbls b ps z
       obtain ⟨qs,e2,_⟩:=hok' b _ z2
       rw [hT0] at e;cases e
       exact ⟨.inr (.inl ⟨hcT,rfl,#[],qs,rfl,by rw [e2];simp⟩),_,e2⟩
    exact ⟨rfl,⟨fun b o e=>(key b o e).1,fun b o e=>(key b o e).2⟩,os,bare⟩
 cases hk:K.lookup a with
 |some o =>
  have e:=KX a o hk
  rw [ha] at e
  cases e
  refine core (fun b=>if b=P0 then some (.tbl #[.str (q0++".<locals>."++"<lambda>") 0]) else none) (fun b=>?_) (.inr ⟨_,vs.toArray,_,hk,rfl,rfl,rfl,by rw [aB,lenV];exact hl,by simpa using rv⟩) (fun b u z=>?_) (fun b z=>?_) (fun z=>?_) fun c P q t1 t2 t3 t4=>?_
  ·by_cases hb:b=P0
   ·exact .inr (.inr ⟨hb,_,if_pos hb⟩)
   ·exact .inl (if_neg hb)
  ·by_cases hb:b=P0
   ·have z':=(if_pos hb).symm.trans z
    cases z'
    subst hb
    exact ⟨#[],hT0,trivial,fun pos cv q=>by cases q⟩
   ·have z':=(if_neg hb).symm.trans z
    cases z'
  ·by_cases hb:b=P0
   ·exact .inr hb
   ·exact absurd (if_neg hb) z
  ·exact absurd (if_neg aP) z
  ·obtain ⟨rfl,rfl⟩:=y0 hTK t1 t2 t3 t4
   exact ⟨_,if_pos rfl,rfl⟩
 |none =>
  refine core (fun b=>if b=a then some (.frz { cls:=.type "list",data:=.seq vs.toArray } (.lst (ns.map V.int))) else if b=P0 then some (.tbl #[.str (q0++".<locals>."++"<lambda>") 0]) else none) (fun b=>?_) (.inl (.inr ⟨{ cls:=.type "list",data:=.seq vs.toArray },if_pos rfl⟩)) (fun b u z=>?_) (fun b z=>?_) (fun _=>hk) fun c P q t1 t2 t3 t4=>?_
  ·by_cases hb:b=a
   ·exact .inr (.inl ⟨_,_,if_pos hb⟩)
   ·by_cases hb2:b=P0
    ·exact .inr (.inr ⟨hb2,_,(if_neg hb).trans (if_pos hb2)⟩)
    ·exact .inl ((if_neg hb).trans (if_neg hb2))
  ·by_cases hb:b=a
   ·have z':=(if_pos hb).symm.trans z
    cases z'
    subst hb
    exact ⟨ha,by rw [aN];exact hl,vs,_,rv,ha⟩
   ·by_cases hb2:b=P0
    ·have z':=((if_neg hb).trans (if_pos hb2)).symm.trans z
     cases z'
     subst hb2
     exact ⟨#[],hT0,trivial,fun pos cv q=>by cases q⟩
    ·have z':=((if_neg hb).trans (if_neg hb2)).symm.trans z
     cases z'
  ·by_cases hb:b=a
   ·exact .inl hb
   ·by_cases hb2:b=P0
    ·exact .inr hb2
    ·exact absurd ((if_neg hb).trans (if_neg hb2)) z
  ·obtain ⟨rfl,rfl⟩:=y0 hTK t1 t2 t3 t4
   exact ⟨_,(if_neg (cO aP)).trans (if_pos rfl),rfl⟩
end L2
namespace L2
open PySem PySem.Spec PyProof.Rows
abbrev Pd {K:a7}{h:aW} (_:K.In h):a7:=K
theorem G_ {l:rz}{n k:Nat}{q:aJ}{loose:List Str}{XP:(Str->Option a9)->aW->Prop}{YP:aS->aW->Prop}{d:DefRec}{K:Params->a7}{CX:aS->A6}{sp:aS->Sp}{x:Str}
  (hn:l.most=some n) (hn2:n<=sizeLine) (hdf:d.params.defaults=[]) (hr:eL k qQ)
  (c0 P0:ac) (q0:Str) (hY:∀ (w:aS) (h:aW),YP w h->(K w.params).In h) (hT:∀ (w:aS) (h:aW),YP w h->h.get? P0=some { cls:=.none,data:=.fields #[] }) (hTK:∀ w:aS,nW (K w.params) c0 P0 q0=true)
  (F:∀ (w:aS) (mg:Str->Option a9) (fa:ac) (h:aW),(K w.params).In h->h.Ns aO mg->mg d.name=some (.ref fa) ->
   ∃ fd:cp,(∀ (s:ae) (u:a9),qO s fd ⟨[u],[]⟩ [(x,u)]) /\
    ∀ base:aW,(K w.params).In base->base.Ns aO mg->kS l.prog w (K w.params) mg base (CX w) k fa fd [x] (sp w))
  (hsp:∀ (w:aS) (H:Hp) (a:ac) (ns:List Int),ns.length<=n->K5 P0 H->jx (K w.params) H a (ns.map V.int)->sp w [.ref a] H (fun v _=>v=.bl true) fun _ _ _=>False)
  (hCX:∀ (w:aS) (H:Hp) (s:ae) (e:a9) (s':ae),CX w [] H s (fun _ _ _=>False) e s'->False) :
  G7 q loose XP YP l.row.toRowW d [] (fun f vs=>BR f vs):=by
 refine Att.attach_call hn hdf fun w s₀ s₁ mg mb fa o pm cd doc a vs ns G Y ho hd hcd hmg hobj hints hlen hg=>?_
 have KX:=hY w _ Y
 obtain ⟨fd,hb,hF⟩:=F w mg fa _ KX G.T.g hmg
 exact D_ (hT w _ Y) (hTK w) G.T.bmain KX G.T.g G.T.b G.T.builtins G.T.nolimit hg hobj hints (cn hlen hn2) hr hF hb (fun H hO hS=>hsp w H a ns hlen hO hS) fun H e s'=>hCX w H s₁ e s'
end L2
namespace L2
open PySem PySem.Spec PyProof.Rows
def fO (s:cy):mV:=match s with
 |.FunctionDef _ a _ _ _ _ _ _ _ _=>a
 |_=>{ posonlyargs:=[],args:=[],vararg:=none,kwonlyargs:=[],kw_defaults:=[],kwarg:=none,defaults:=[] }
def du (s:cy):List cy:=match s with
 |.FunctionDef _ _ b _ _ _ _ _ _ _=>b
 |_=>[]
def aw (s:cy):cf:=match s with
 |.FunctionDef _ _ _ _ _ _ sc _ _ _=>sc
 |_=>{ kind:=.function,names:=[],isGenerator:=false,isCoroutine:=false }
abbrev Oj:A6:=fun _ _ _ _ _ _=>False
abbrev E0:XK:=fun _ _ _=>False
structure wz (K:a7) (x qual:Str) (st:cy) (f:ac) (fd:cp):Prop where
 ex:∃ (oc:a9) (od:Option ac) (kV doc pm:a9) (an:Option ac) (cdv ct:a9) (osl:Array (Option a9)),
  fd=cc x qual (fO st) (du st) (aw st) .none kV doc pm an cdv ct/\K.lookup f=some ⟨oc,od,.func fd,osl⟩/\c6 K cdv qual=true
 kp:bC K (.ref f)=true
section
variable {P:aJ}{w:aS}{K:a7}{mg:Str->Option a9}{base:aW}
theorem wz.binds {x qual:Str}{st:cy}{f:ac}{fd:cp}{ps:List Str} (F:wz K x qual st f fd)
  (h:∀ (kV doc pm:a9) (an:Option ac) (cdv ct:a9) (us:List a9),us.length=ps.length->pT (cc x qual (fO st) (du st) (aw st) .none kV doc pm an cdv ct) ⟨us,[]⟩=pure (ps.zip us)):fD K fd ps []:=by
 obtain ⟨oc,od,kV,doc,pm,an,cdv,ct,osl,rfl,lk,hcd⟩:=F.ex
 exact .all (h kV doc pm an cdv ct)
theorem Ac {x qual:Str}{st:cy}{f:ac}{oc:a9}{od an:Option ac}{osl:Array (Option a9)}{kV doc pm cdv ct:a9} (l:K.lookup f=some ⟨oc,od,.func (cc x qual (fO st) (du st) (aw st) .none kV doc pm an cdv ct),osl⟩)
  (c:c6 K cdv qual=true) (k:bC K (.ref f)=true):wz K x qual st f (cc x qual (fO st) (du st) (aw st) .none kV doc pm an cdv ct):=⟨⟨oc,od,kV,doc,pm,an,cdv,ct,osl,rfl,l,c⟩,k⟩
end
theorem lu {A:aR}{k:Nat} (hr:eL k A):A.units+1<ik:=pV (Nat.add_le_add_left (by decide:1<=64) _) hr.units
theorem bS {n:Nat} (h:n<=1000):n<sizeLine:=pV h (by decide)
section
variable {X:Cx}
theorem pv (i:Nat) {x:Str}{pos:Pos} (hN:X.N[i]?=some x:=by rfl) (hv:C1 X.env.scope x:=by first|exact eu rfl|exact cX (eu rfl)|exact cX (cX rfl)) (hd:(x==("__debug__" : Str))=false:=by decide)
  (hcd:(x==("__classdict__" : Str))=false:=by decide):PE X (.Name x pos) (DB i):=jO hN hv hd hcd
end
theorem uL {A B:Prop} (h:B):if false=true then A else B:=by
 rw [if_neg aL]
 exact h
theorem y6 {A B:Prop} (h:A):if true=true then A else B:=by
 rw [if_pos rfl]
 exact h
def cb (H H':Hp):Prop:=∀ b o,H b=some o->H' b=some o
theorem cb.refl (H:Hp):cb H H:=fun _ _ h=>h
theorem cb.trans {H H1 H2:Hp} (a:cb H H1) (b:cb H1 H2):cb H H2:=fun c o h=>b c o (a c o h)
theorem cb.free {H H':Hp} (e:cb H H') {l:ac} (h:H' l=Option.none):H l=Option.none:=by
 cases q:H l with
 |none=>rfl
 |some o =>
  rw [e l o q] at h
  cases h
theorem cb.seq {K:a7}{H H':Hp}{a:ac}{xs:List V} (e:cb H H') (h:jx K H a xs):jx K H' a xs:=by
 rcases h with (h|⟨o,h⟩)|h
 ·exact .inl (.inl (e _ _ h))
 ·exact .inl (.inr ⟨o,e _ _ h⟩)
 ·exact .inr h
end L2
end
section
namespace L2
open PySem PySem.Spec PyProof.Rows
section
variable {κ:Type} [DecidableEq κ]
def ki (kvs:List (κ×V)) (k:κ):Option V:=(kvs.find? fun kv=>decide (kv.1=k)).map (·.2)
def kU (kvs:List (κ×V)) (k:κ) (v:V):List (κ×V) :=
 if (kvs.any fun kv=>decide (kv.1=k))=true then kvs.map (fun kv=>if kv.1=k then (kv.1,v) else kv) else kvs++[(k,v)]
theorem sS {p:κ×V}{r:List (κ×V)}{k:κ} (e:p.1=k):ki (p::r) k=some p.2:=by simp [ki,c_,e]
theorem sU {p:κ×V}{r:List (κ×V)}{k:κ} (e:¬ p.1=k):ki (p::r) k=ki r k:=by simp [ki,c_,e]
theorem y7 (k:κ):∀ kvs:List (κ×V),(kvs.any fun kv=>decide (kv.1=k))=(ki kvs k).isSome
 |[]=>rfl
 |p::r=>by
  rw [eC]
  by_cases e:p.1=k
  ·simp only [sS e,decide_eq_true e,Bool.true_or,oC]
  ·rw [sU e,decide_eq_false e,kC];exact y7 k r
theorem lV (kvs:List (κ×V)) (k:κ) (v:V):(kU kvs k v).length<=kvs.length+1:=by
 unfold kU
 split
 ·rw [aN];omega
 ·rw [bo,bE,lO];omega
theorem sK.isSome_eq {o:Option V}{u:Option a9} (r:sK o u):o.isSome=u.isSome:=by
 cases o with
 |none=>cases u with
  |none=>rfl
  |some _=>exact (show False from r).elim
 |some _=>cases u with
  |none=>exact (show False from r).elim
  |some _=>rfl
theorem KV.val {kvs:List (κ×V)}{vs:List (κ×a9)} (r:KV kvs vs) (k:κ):sK (ki kvs k) (uE vs k):=by
 unfold KV at r
 induction r with
 |nil=>exact fQ
 | @cons p q ps qs h t ih =>
  obtain ⟨h1,h2⟩:=h
  by_cases e:p.1=k
  ·have e':q.1=k:=h1.symm.trans e
   have b:uE (q::qs) k=some q.2:=by simp [uE,c_,e']
   rw [sS e,b];exact h2
  ·have e':¬ q.1=k:=fun z=>e (h1.trans z)
   have b:uE (q::qs) k=uE qs k:=by simp [uE,c_,e']
   rw [sU e,b];exact ih
theorem KV.any {kvs:List (κ×V)}{vs:List (κ×a9)} (r:KV kvs vs) (k:κ):(kvs.any fun kv=>decide (kv.1=k))=vs.any fun kv=>decide (kv.1=k):=by
 unfold KV at r
 induction r with
 |nil=>rfl
 |cons h t ih=>rw [eC,eC,ih,h.1]
theorem KV.repl {kvs:List (κ×V)}{vs:List (κ×a9)} (r:KV kvs vs) (k:κ) {y:V}{u:a9} (ry:bW y u) :
  KV (kvs.map fun kv=>if kv.1=k then (kv.1,y) else kv) (vs.map fun kv=>if kv.1=k then (kv.1,u) else kv):=by
 unfold KV at r ⊢
 induction r with
 |nil=>exact .nil
 | @cons p q ps qs h t ih =>
  rw [bO,bO]
  refine .cons ?_ ih
  obtain ⟨h1,h2⟩:=h
  by_cases e:p.1=k
  ·rw [if_pos e,if_pos (h1.symm.trans e)];exact ⟨h1,ry⟩
  ·rw [if_neg e,if_neg (fun z=>e (h1.trans z))];exact ⟨h1,h2⟩
theorem KV.put {kvs:List (κ×V)}{vs:List (κ×a9)} (r:KV kvs vs) (k:κ) {y:V}{u:a9} (ry:bW y u):KV (kU kvs k y) (stored vs k u):=by
 unfold kU stored
 rw [r.any k]
 by_cases e:(vs.any fun kv=>decide (kv.1=k))=true
 ·rw [if_pos e,if_pos e];exact r.repl k ry
 ·rw [if_neg e,if_neg e];exact Paired.snoc r ⟨rfl,ry⟩
theorem KV.length {kvs:List (κ×V)}{vs:List (κ×a9)} (r:KV kvs vs):kvs.length=vs.length:=gm r
end
theorem y8 {P:aJ}{w:aS}{k:dQ}{u:a9} (r:bW (kV k) u):(dZ P w).is k u=true:=by
 cases k with
 |inl i=>obtain ⟨t,e⟩:=(show ∃ t,u=kJ i t from r);subst e;exact xS P w i t
 |inr x=>obtain ⟨t,e⟩:=(show ∃ t,u=gU x t from r);subst e;exact xT P w x t
theorem vB {P:aJ}{w:aS}:∀ {ks:List dQ}{us:List a9},cu (ks.map kV) us->ItemsAre (dZ P w) ks us
 |[],_,r=>by rw [qP] at r;cases r;exact .nil
 |k::ks,_,r=>by
  rw [bO] at r
  cases r with
  |cons h t=>exact .cons (y8 h) (vB t)
abbrev KT (H:Hp):List (List dQ×V)->List (List dQ×ac×a9)->Prop:=zz fun p q=>p.1=q.1/\H q.2.1=some (.tup (p.1.map kV))/\bW p.2 q.2.2
theorem KT.val {H:Hp}{kvs:List (List dQ×V)}{xs:List (List dQ×ac×a9)} (r:KT H kvs xs) (k:List dQ):sK (ki kvs k) ((zJ xs k).map (·.2)):=by
 induction r with
 |nil=>exact fQ
 | @cons p q ps qs h t ih =>
  obtain ⟨h1,_,h2⟩:=h
  by_cases e:p.1=k
  ·have e':q.1=k:=h1.symm.trans e
   have b:zJ (q::qs) k=some q.2:=by simp [zJ,c_,e']
   rw [sS e,b];exact h2
  ·have e':¬ q.1=k:=fun z=>e (h1.trans z)
   have b:zJ (q::qs) k=zJ qs k:=by simp [zJ,c_,e']
   rw [sU e,b];exact ih
theorem KT.repl {H:Hp}{kvs:List (List dQ×V)}{xs:List (List dQ×ac×a9)} (r:KT H kvs xs) (k:List dQ) {y:V}{u:a9} (ry:bW y u) :
  KT H (kvs.map fun kv=>if kv.1=k then (kv.1,y) else kv) (xs.map (putAt k u)):=by
 induction r with
 |nil=>exact .nil
 | @cons p q ps qs h t ih =>
  rw [bO,bO]
  refine .cons ?_ ih
  obtain ⟨h1,h2,h3⟩:=h
  unfold putAt
  by_cases e:p.1=k
  ·rw [if_pos e,if_pos (h1.symm.trans e)];exact ⟨h1,h2,ry⟩
  ·rw [if_neg e,if_neg (fun z=>e (h1.trans z))];exact ⟨h1,h2,h3⟩
theorem KT.put {H:Hp}{kvs:List (List dQ×V)}{xs:List (List dQ×ac×a9)} (r:KT H kvs xs) (k:List dQ) {b:ac}{y:V}{u:a9} (hb:H b=some (.tup (k.map kV))) (ry:bW y u) :
  KT H (kU kvs k y) (storedH xs k b u):=by
 have e:(kvs.any fun kv=>decide (kv.1=k))=(zJ xs k).isSome:=by
  rw [y7,(r.val k).isSome_eq,pS]
 unfold kU storedH
 rw [e]
 by_cases q:(zJ xs k).isSome=true
 ·rw [if_pos q,if_pos q];exact r.repl k ry
 ·rw [if_neg q,if_neg q];exact Paired.snoc r ⟨rfl,hb,ry⟩
theorem KT.keeps {H H':Hp}{kvs:List (List dQ×V)}{xs:List (List dQ×ac×a9)} (r:KT H kvs xs) (ht:∀ b ys,H b=some (.tup ys)->H' b=some (.tup ys)):KT H' kvs xs :=
 Paired.mapP r fun _ _ z=>⟨z.1,ht _ _ z.2.1,z.2.2⟩
section
variable {P:aJ}{w:aS}{H:Hp}{h:aW}{a:ac}
theorem IJ {u:HO} (ok:lC P w H h) (e:Rd H a u):cj P w H h a u:=e.ok ok
theorem y9 {kvs:List (dQ×V)} (ok:lC P w H h) (e:Rd H a (.dK kvs)):kvs.length<=sizeLine/\(a==eg)=false/\∃ vs,KV kvs vs/\h.DictOf (dZ P w) a vs :=
 show cj P w H h a (.dK kvs) from IJ ok e
theorem LK {kvs:List (dQ×V)} (ok:lC P w H h) (e:H a=some (.dK kvs)):kvs.length<=sizeLine/\(a==eg)=false/\∃ vs,KV kvs vs/\h.DictOf (dZ P w) a vs:=y9 ok (.inl e)
theorem qd {ks:List dQ} (ok:lC P w H h) (e:H a=some (.tup (ks.map kV))):(mT (dZ P w)).is h ks a:=by
 obtain ⟨_,its,r,o,h1,h2,n,h3⟩:=(show cj P w H h a (.tup (ks.map kV)) from ok a _ e)
 exact ⟨o,its.toArray,n,h1,h2,h3,by simpa using vB r⟩
theorem yb {kvs:List (List dQ×V)} (ok:lC P w H h) (e:Rd H a (.dT kvs)):kvs.length<=sizeLine/\(a==eg)=false /\
  ∃ xs,KT H kvs xs/\h.DictOfH (mT (dZ P w)) a xs:=by
 obtain ⟨z,y,xs,r,o,es,ep,h1,h2,h3,h4,h5⟩:=(show cj P w H h a (.dT kvs) from IJ ok e)
 refine ⟨z,y,xs,r,o,es,ep,h1,h2,h3,h4,fun x hx=>?_,h5⟩
 have all:∀ {l:List (List dQ×V)}{m:List (List dQ×ac×a9)},KT H l m->∀ x∈m,(mT (dZ P w)).is h x.1 x.2.1:=by
  intro l m q
  induction q with
  |nil=>intro x hx;exact nomatch hx
  | @cons p q ps qs hq t ih =>
   intro x hx
   rcases List.mem_cons.mp hx with e|hx
   ·subst e
    exact qd ok (by rw [<- hq.1];exact hq.2.1)
   ·exact ih x hx
 exact all r x hx
theorem IK {kvs:List (List dQ×V)} (ok:lC P w H h) (e:H a=some (.dT kvs)):kvs.length<=sizeLine/\(a==eg)=false /\
  ∃ xs,KT H kvs xs/\h.DictOfH (mT (dZ P w)) a xs:=yb ok (.inl e)
end
def rK (H:Hp) (a:ac) (y:V) (r:Option V):Prop :=
 (∃ kvs k,Rd H a (.dK kvs)/\y=kV k/\r=ki kvs k)\/∃ kvs k b,Rd H a (.dT kvs)/\y=.ref b/\H b=some (.tup (k.map kV))/\r=ki kvs k
def E2 (H:Hp) (a:ac) (y v:V) (H':Hp):Prop :=
 (∃ kvs k,H a=some (.dK kvs)/\y=kV k/\kvs.length<sizeLine/\H'=upd H a (.dK (kU kvs k v))) \/
 ∃ kvs k b,H a=some (.dT kvs)/\y=.ref b/\H b=some (.tup (k.map kV))/\kvs.length<sizeLine/\H'=upd H a (.dT (kU kvs k v))
theorem rK.k {H:Hp}{a:ac}{kvs:List (dQ×V)}{k:dQ} (e:H a=some (.dK kvs)):rK H a (kV k) (ki kvs k):=.inl ⟨kvs,k,.inl e,rfl,rfl⟩
theorem rK.t {H:Hp}{a b:ac}{kvs:List (List dQ×V)}{k:List dQ} (e:H a=some (.dT kvs)) (eb:H b=some (.tup (k.map kV))):rK H a (.ref b) (ki kvs k):=.inr ⟨kvs,k,b,.inl e,rfl,eb,rfl⟩
theorem E2.t {H:Hp}{a b:ac}{kvs:List (List dQ×V)}{k:List dQ}{v:V} (e:H a=some (.dT kvs)) (eb:H b=some (.tup (k.map kV))) (hl:kvs.length<sizeLine) :
  E2 H a (.ref b) v (upd H a (.dT (kU kvs k v))):=.inr ⟨kvs,k,b,e,rfl,eb,hl,rfl⟩
section
variable {X:Cx}{pins:List (ac×Obj)}{σ:St}{H:Hp}{s:ae}{a:ac}{y v:V}{u r:a9}{o:Option V}{A:aR}{E:a9->ae->Prop}
theorem aV.big (I:aV X pins σ H s):eg<s.heap.objs.size:=by
 have h:aO<s.heap.objs.size:=(I.mod.glob.keeps I.bk).lt
 exact rA (by decide) h
theorem Ca {Q:a9->ae->Prop} (hu:A.units+1<ik) (I:aV X pins σ H s) (g:rK H a y (some v)) (ry:bW y u) (h:∀ w' s',aV X pins σ H s'->bW v w'->Q w' s') :
  ai (ax X.prog X.w) A (lJ (.ref a) u) Q E s:=by
 rcases g with ⟨kvs,k,e,ey,l⟩|⟨kvs,k,b,e,ey,eb,l⟩
 ·subst ey
  obtain ⟨z,hd,vs,rel,dd⟩:=y9 I.hok e
  obtain ⟨w',hw,rw'⟩:=sK.some_of (v:=v) (o:=uE vs k) (by rw [l];exact rel.val k)
  exact wpAny_getItem_of (y8 ry) dd.mapOf hw (h w' _ (I.tok _) rw')
 ·subst ey
  cases (show u=bc b from ry)
  obtain ⟨z,hd,xs,rel,dd⟩:=yb I.hok e
  obtain ⟨w',hw,rw'⟩:=sK.some_of (v:=v) (o:=(zJ xs k).map (·.2)) (by rw [l];exact rel.val k)
  obtain ⟨p,hp,hp2⟩:=Option.map_eq_some_iff.mp hw
  refine wpAny_getItem_heap (kQ hu) (qd I.hok eb) dd hp ?_
  rw [hp2]
  exact h w' _ (I.tok _) rw'
theorem d_in {Q:a9->ae->Prop} (hu:A.units+1<ik) (I:aV X pins σ H s) (g:rK H a y o) (ry:bW y u) (h:∀ s',aV X pins σ H s'->Q (.bool o.isSome) s') :
  ai (ax X.prog X.w) A (bh .In u (.ref a)) Q E s:=by
 rcases g with ⟨kvs,k,e,ey,l⟩|⟨kvs,k,b,e,ey,eb,l⟩
 ·subst ey
  obtain ⟨z,hd,vs,rel,dd⟩:=y9 I.hok e
  refine wpAny_in_of (y8 ry) hd dd.mapOf ?_
  rw [<- (rel.val k).isSome_eq,<- l]
  exact h _ (I.tok _)
 ·subst ey
  cases (show u=bc b from ry)
  obtain ⟨z,hd,xs,rel,dd⟩:=yb I.hok e
  refine wpAny_in_heap (kQ hu) (qd I.hok eb) hd dd ?_
  have q:=(rel.val k).isSome_eq
  rw [pS] at q
  rw [<- q,<- l]
  exact h _ (I.tok _)
theorem H9 {Q:a9->ae->Prop} (hu:A.units+1<ik) (I:aV X pins σ H s) (g:rK H a y o) (ry:bW y u) (h:∀ s',aV X pins σ H s'->Q (.bool (!o.isSome)) s') :
  ai (ax X.prog X.w) A (bh .NotIn u (.ref a)) Q E s:=by
 rcases g with ⟨kvs,k,e,ey,l⟩|⟨kvs,k,b,e,ey,eb,l⟩
 ·subst ey
  obtain ⟨z,hd,vs,rel,dd⟩:=y9 I.hok e
  refine wpAny_notIn_of (y8 ry) hd dd.mapOf ?_
  rw [<- (rel.val k).isSome_eq,<- l]
  exact h _ (I.tok _)
 ·subst ey
  cases (show u=bc b from ry)
  obtain ⟨z,hd,xs,rel,dd⟩:=yb I.hok e
  refine wpAny_notIn_heap (kQ hu) (qd I.hok eb) hd dd ?_
  have q:=(rel.val k).isSome_eq
  rw [pS] at q
  rw [<- q,<- l]
  exact h _ (I.tok _)
theorem wA {h':aW}{t':Nat}{ob:HO} (I:aV X pins σ H s) (mu:Li (H a)) (hs:b9 a s.heap h') (he:∃ q,h'.get? a=some q) (new:cj X.prog X.w (upd H a ob) h' a ob) :
  aV X pins σ (upd H a ob) { s with heap:=h',toks:=t' } :=
 I.write (x:=a) (e:=a) mu (.inl rfl) (fun b q hb z=>(hs.2 b hb).trans z) he new
theorem K6 {P:aJ}{w:aS}{H':Hp}{h':aW}{kvs:List (dQ×V)}{vs:List (dQ×a9)} (z:kvs.length<=sizeLine) (hd:(a==eg)=false) (rel:KV kvs vs) (dd:h'.DictOf (dZ P w) a vs) :
  cj P w H' h' a (.dK kvs):=⟨z,hd,vs,rel,dd⟩
theorem Cb {H':Hp}{Q:Unit->ae->Prop} (hu:A.units+1<ik) (I:aV X pins σ H s) (g:E2 H a y v H') (ry:bW y u) (rv:bW v r) (h:∀ s',aV X pins σ H' s'->Q () s') :
  ai (ax X.prog X.w) A (setItem (.ref a) u r) Q E s:=by
 rcases g with ⟨kvs,k,e,ey,l,eH⟩|⟨kvs,k,b,e,ey,eb,l,eH⟩
 ·subst ey eH
  obtain ⟨z,hd,vs,rel,dd⟩:=LK I.hok e
  have hz:vs.length<=sizeLine:=by rw [<- rel.length];exact z
  have hl:(kU kvs k v).length<=sizeLine:=by have:=lV kvs k v;omega
  refine wpAny_setItem_pairs (hsz:=hz) (y8 ry) dd fun h' dd' hs=>h _ ?_
  have he:∃ q,h'.get? a=some q:=let ⟨q,_,_,hq,_⟩:=dd';⟨q,hq⟩
  exact wA I (by rw [e];exact fQ) hs he (K6 hl hd (rel.put k rv) dd')
 ·subst ey eH
  cases (show u=bc b from ry)
  obtain ⟨z,hd,xs,rel,dd⟩:=IK I.hok e
  have hz:xs.length<=sizeLine:=by rw [<- gm rel];exact z
  have hl:(kU kvs k v).length<=sizeLine:=by have:=lV kvs k v;omega
  refine wpAny_setItem_heap (hsz:=hz) (kQ hu) (qd I.hok eb) dd fun h' dd' hs=>h _ ?_
  obtain ⟨q,es,ep,hq,h2,h3,h4,_,h5⟩:=dd'
  refine wA I (by rw [e];exact fQ) hs ⟨q,hq⟩ ⟨hl,hd,_,(rel.put k eb rv).keeps fun c ys ec=>?_,q,es,ep,hq,h2,h3,h4,h5⟩
  rw [aG (Dz ec e (fun z=>nomatch z))]
  exact ec
end
section
variable {X:Cx}{pins:List (ac×Obj)}{σ:St}{H:Hp}{s:ae}{a:ac}{kvs:List (dQ×V)}{k:dQ}{u:a9}{A:aR}{E:a9->ae->Prop}
end
def LL (i:aQ):Prop:=∀ ov iv,xG i false ov iv=operate [ov,iv] (lJ ov iv)
theorem Ha {prog:aJ}{w:aS}{A:aR}{E:a9->ae->Prop}{s:ae}{env:Env}{value slice:aQ}{pos:Pos}{T id:String}{Q:a9->ae->Prop}
  (hl:zH (.type T) "__getitem__"=pure (some (.builtin id))) (hs:LL slice)
  (h:ai (ax prog w) A (cQ value env) (fun o s₁=>ai (ax prog w) A (cQ slice env) (fun i s₂=>s₂.TypeIs o T/\ai (ax prog w) A (lJ o i) Q E s₂) E s₁) E s) :
  ai (ax prog w) A (cQ (.Subscript value slice pos) env) Q E s:=by
 refine Subscript_ (bu h (fun o s₁ h₁=>bu h₁ (fun i s₂ h₂=>?_) fun _ _ x=>x) fun _ _ x=>x)
 obtain ⟨hT,h₂⟩:=h₂
 unfold BO
 refine a6 ?_
 rw [getitemInPython_of_ne hT.not_modules]
 refine a6 (wpAny_specialOf hT hl ?_)
 have fin:ai (ax prog w) A (xG slice false o i) (fun r s₃=>ai (ax prog w) A (letTemporaryGo value o r >>= fun _=>pure r) Q E s₃) E s₂:=by
  rw [hs o i]
  exact wpAny_operating (bu h₂ (fun r s₃ h₃=>a6 (wpAny_letTemporaryGo (a8 h₃))) fun _ _ x=>x)
 first
  |exact a8 (a6 fin)
  |exact a6 (a8 (a6 fin))
  |exact a6 fin
theorem yc {X:Cx}{pins:List (ac×Obj)}{σ:St}{H:Hp}{s:ae}{a:ac}{y:V}{o:Option V} (I:aV X pins σ H s) (g:rK H a y o):s.TypeIs (.ref a) "dict":=by
 rcases g with ⟨kvs,k,e,_,_⟩|⟨kvs,k,b,e,_,_,_⟩
 ·obtain ⟨_,_,vs,_,dd⟩:=y9 I.hok e
  exact dd.typeIs
 ·obtain ⟨_,_,xs,_,dd⟩:=yb I.hok e
  exact dd.typeIs
def LM (td ty:TE):TE:=fun σ H Q=>td σ H fun x H1=>ty σ H1 fun y H2=>∃ a v,x=.ref a/\rK H2 a y (some v)/\Q v H2
def LN (td ty tv:TE):TS:=fun D σ H=>tv σ H fun v H1=>td σ H1 fun x H2=>ty σ H2 fun y H3=>∃ a H4,x=.ref a/\E2 H3 a y v H4/\D.nx σ H4
section
variable {X:Cx}{o i e value:aQ}{pos pos' tpos:Pos}{td ty tv:TE}
theorem B2 (hu:X.A.units+1<ik) (ho:PE X o td) (hi:PE X i ty) (hs:LL i):PE X (.Subscript o i pos) (LM td ty):=by
 intro pins s σ H Q I h
 refine Ha PySem.F.slot_dict_getitem.lookup hs (dX (ho pins s σ H _ I h) fun u s1 ⟨x,H1,I1,rx,q1⟩=>dX (hi pins s1 σ H1 _ I1 q1) fun iv s2 ⟨y,H2,I2,ry,a,v,ex,g,q2⟩=>?_)
 subst ex
 obtain rfl:u=bc a:=rx
 exact ⟨yc I2 g,Ca hu I2 g ry fun w' s3 I3 rw'=>⟨v,H2,I3,rw',q2⟩⟩
theorem Hb (hu:X.A.units+1<ik) (ho:PE X o td) (hi:PE X i ty) (hv:PE X value tv) (hs:fP value (some (.Subscript o i pos')) pos.line X.env=pure false) :
  PS X (.Assign [.Subscript o i pos'] value pos) (LN td ty tv):=by
 intro pins s σ H D I h
 refine wpAny_Assign_Subscript (dX (hv pins s σ H _ I h) fun r s1 ⟨v,H1,I1,rv,q1⟩=>dX (ho pins s1 σ H1 _ I1 q1) fun u s2 ⟨x,H2,I2,rx,q2⟩=>dX (hi pins s2 σ H2 _ I2 q2) fun iv s3 ⟨y,H3,I3,ry,a,H4,ex,g,q3⟩=>?_) hs
 subst ex
 obtain rfl:u=bc a:=rx
 exact Cb hu I3 g ry rv fun s4 I4=>⟨σ,H4,I4,q3⟩
end
theorem E3 {P:aJ}{w:aS}{H:Hp} (h:aW) (hb:eg<h.objs.size):cj P w H (h.push { cls:=.type "dict",data:=.dict #[] }) h.objs.size (.dT []) :=
 ⟨eB _,beq_eq_false_iff_ne.mpr (cO (aA hb)),[],.nil,_,#[],0,av _ rfl,⟨rfl,rfl,rfl⟩,rfl,rfl,List.nodup_nil⟩
section
variable {X:Cx}{pos:Pos}
end
section
variable {X:Cx}{pins:List (ac×Obj)}{σ:St}{H:Hp}{s:ae}{a:ac}{y d:V}{u r:a9}{o:Option V}{A:aR}{E:a9->ae->Prop}
end
section
variable {X:Cx}{o e f:aQ}{apos cpos:Pos}{td ty tx:TE}
end
section
variable {X:Cx}{pins:List (ac×Obj)}{σ:St}{H:Hp}{s:ae}{a:ac}{kvs:List (dQ×V)}{A:aR}{E:a9->ae->Prop}
end
section
variable {X:Cx}{pins:List (ac×Obj)}{σ:St}{H:Hp}{s:ae}{a:ac}{y:V}{u:a9}{A:aR}{E:a9->ae->Prop}
end
end L2
namespace L2
open PySem PySem.Spec PyProof.Rows
section
variable {X:Cx}
end
section
variable {κ:Type} [DecidableEq κ]
end
end L2
end
namespace L2
open PySem PySem.Spec PyProof.Rows
section
section
end
theorem Ad (names : List (Str × iD)) : ∀ (cs : List (Str × ac)), (∀ y ∈ names, y.2 = .free -> ∃ c, env.cells.lookup y.1 = some c) ->
    (∀ x c, cs.lookup x = some c -> env.cells.lookup x = some c) ->
    ∃ cl, (forIn names cs fun (x : Str × iD) (cs : List (Str × ac)) => match x with
        | (name, kind) => if (kind == bF) = true then do let a <- cellOf env name; pure (fW ((name, a) :: cs)) else pure (fW cs) : Sem (List (Str × ac))) = pure cl /\
      (∀ x c, cl.lookup x = some c -> env.cells.lookup x = some c) /\ (∀ y ∈ names, y.2 = .free -> ∃ c, cl.lookup y.1 = some c) /\ (∀ x c, cs.lookup x = some c -> ∃ c', cl.lookup x = some c') := by
  induction names with
  | nil => intro cs _ h2; exact ⟨cs, rfl, h2, fun _ h => absurd h (by simp), fun x c h => ⟨c, h⟩⟩
  | cons nk r ih =>
    obtain ⟨n, k⟩ := nk;intro cs h1 h2;by_cases hk : k = .free
    · subst hk;obtain ⟨a, ha⟩ := h1 (n, .free) ao rfl;have h2' : ∀ x c, ((n, a) :: cs).lookup x = some c -> env.cells.lookup x = some c := fun x c h => by
        rw [bM] at h;cases e : x == n with
        | true => rw [e] at h; have : x = n := by simpa using e
                  subst this; cases h; exact ha
        | false => rw [e] at h; exact h2 x c h
      obtain ⟨cl, e1, e2, e3, e4⟩ := ih ((n, a) :: cs) (fun y hy => h1 y (ah _ hy)) h2';refine ⟨cl, ?_, e2, fun y hy hf => ?_, fun x c h => ?_⟩
      · rw [gP];have hc : cellOf env n = pure a := by unfold cellOf; rw [ha]
        simp only [beq_self_eq_true, if_true, hc];exact e1
      · rcases List.mem_cons.mp hy with rfl | hy
        · exact e4 n a (by simp)
        · exact e3 y hy hf
      · cases e : x == n with
        | true => exact e4 x a (by rw [bM, e])
        | false => exact e4 x c (by rw [bM, e]; exact h)
    · obtain ⟨cl, e1, e2, e3, e4⟩ := ih cs (fun y hy => h1 y (ah _ hy)) h2;refine ⟨cl, ?_, e2, fun y hy hf => ?_, e4⟩
      · rw [gP];have hk' : (k == bF) = false := by simpa using hk
        simp only [hk', bx, if_false];exact e1
      · rcases List.mem_cons.mp hy with rfl | hy
        · exact absurd hf hk
        · exact e3 y hy hf
theorem kW  (h:∀ y∈scope.names,y.2=.free->∃ c,env.cells.lookup y.1=some c):∃ cl,closureFor scope env=pure cl /\
  (∀ x c,cl.lookup x=some c->env.cells.lookup x=some c)/\(∀ y∈scope.names,y.2=.free->∃ c,cl.lookup y.1=some c):=by
 obtain ⟨cl,e1,e2,e3,_⟩:=Ad (env:=env) scope.names [] h (fun x c h=>by simp at h);refine ⟨cl,?_,e2,e3⟩;simp only [closureFor];rw [show (forIn scope.names ([] : List (Str×ac)) fun x r=>_)=(pure cl:Sem (List (Str×ac))) from e1];rfl
end
section
def cS (X:Cx) (N':List Str) (scope:cf) (cl:List (Str×ac)) (C:ac) (s₀:ae) (H₀:Hp) (ex:List ac) (pn:List (ac×Obj)):Cx :=
 { X with N:=N',s₀:=s₀,H₀:=H₀,env:=compEnvC scope cl C X.env,outer:=X.stack,stack:=X.stack,ex:=ex,fn:=fun y=>scope.names.lookup y==some .cell,pn:=pn,xe:=fun _ _=>False }
def Hc (X:Cx) (ifs:List aQ) (t:TT):Prop :=
 ∀ (pins:List (ac×Obj)) (s:ae) (σ:St) (H:Hp) (Q:Bool->Hp->Prop),aV X pins σ H s->t σ H Q ->
  ai (ax X.prog X.w) X.A (forIn ifs true fun c r=>if r=true then do let ok <- sv c X.env (cQ c X.env);pure (fW ok) else pure (fW r)) (TP X pins σ Q) X.xe s
def Nw:TT:=fun _ H Q=>Q true H
theorem Hd:Hc X [] Nw:=fun pins s σ H Q I h=>wpAny_tests_nil ⟨H,I,h⟩
theorem He   (h:PT X c t):Hc X [c] t:=fun pins s σ H Q I hw=>wpAny_tests_one (h pins s σ H Q I hw)
structure kX (X:Cx) (scope:cf) (N':List Str) (nt:Nat) (ix:List Nat):Prop where
 kind:scope.kind=.function
 cel:∀ y∈scope.names,y.2=.cell->scope.names.lookup y.1=some .cell
 loc:∀ y∈scope.names,y.2=.local->scope.names.lookup y.1=some .local
 free:∀ y∈scope.names,y.2=.free->X.env.scope.names.lookup y.1=some .cell\/X.env.scope.names.lookup y.1=some .free
 cap:∀ k i,ix[k]?=some i->∃ x,X.N[i]?=some x/\N'[nt+k]?=some x/\scope.names.lookup x=some .free
 len:N'.length=nt+ix.length
def iI (nt:Nat) (ix:List Nat) (σ:St):St:=jq nt none++ix.map fun i=>(σ[i]?).join
theorem n8 {env:Env}{x:Str}{names:List (Str×iD)}:names.lookup x=some .free ->
  (names.map fun (n,k)=>if (k==bF&&env.scope.kind == .function&&env.kindOf n==some .cell) then (n,cV) else (n,k)).lookup x=some .free \/
  (names.map fun (n,k)=>if (k==bF&&env.scope.kind == .function&&env.kindOf n==some .cell) then (n,cV) else (n,k)).lookup x=some .cell:=by
 induction names with
 |nil=>intro h;simp at h
 |cons nk r ih =>
  obtain ⟨n,k⟩:=nk;intro h;show sC x ((if (k==bF&&env.scope.kind == .function&&env.kindOf n==some .cell)=true then (n,cV) else (n,k))::_)=_ \/
   sC x ((if (k==bF&&env.scope.kind == .function&&env.kindOf n==some .cell)=true then (n,cV) else (n,k))::_)=_
  cases hx:x==n with
  |true =>
   simp only [bM,hx] at h;cases h;by_cases hc:(bF==bF&&env.scope.kind == .function&&env.kindOf n==some .cell)=true
   ·rw [if_pos hc];right;simp [bM,hx]
   ·rw [if_neg hc];left;simp [bM,hx]
  |false =>
   simp only [bM,hx] at h;by_cases hc:(k==bF&&env.scope.kind == .function&&env.kindOf n==some .cell)=true
   ·rw [if_pos hc];simp only [bM,hx];exact ih h
   ·rw [if_neg hc];simp only [bM,hx];exact ih h
theorem oZ {env:Env}{x:Str}{names:List (Str×iD)} :
  ((names.map fun (n,k)=>if (k==bF&&env.scope.kind == .function&&env.kindOf n==some .cell) then (n,cV) else (n,k)).lookup x=some .free \/
  (names.map fun (n,k)=>if (k==bF&&env.scope.kind == .function&&env.kindOf n==some .cell) then (n,cV) else (n,k)).lookup x=some .cell) ->
  (x,bF)∈names\/(x,cV)∈names:=by
 induction names with
 |nil=>intro h;simp at h
 |cons nk r ih =>
  obtain ⟨n,k⟩:=nk;intro h;have h:sC x ((if (k==bF&&env.scope.kind == .function&&env.kindOf n==some .cell)=true then (n,cV) else (n,k))::_)=_ \/
   sC x ((if (k==bF&&env.scope.kind == .function&&env.kindOf n==some .cell)=true then (n,cV) else (n,k))::_)=_:=h
  cases hx:x==n with
  |true =>
   have e:x=n:=by simpa using hx
   subst e;by_cases hc:(k==bF&&env.scope.kind == .function&&env.kindOf x==some .cell)=true
   ·have:k=.free:=by simp at hc;exact hc.1.1
    subst this;left;exact ao
   ·rw [if_neg hc] at h;simp only [bM,hx] at h;rcases h with h|h
    ·cases h;left;exact ao
    ·cases h;right;exact ao
  |false =>
   have h':=ih (by
    by_cases hc:(k==bF&&env.scope.kind == .function&&env.kindOf n==some .cell)=true
    ·rw [if_pos hc] at h;simp only [bM,hx] at h;exact h
    ·rw [if_neg hc] at h;simp only [bM,hx] at h;exact h)
   rcases h' with h' | h'
   ·left;exact ah _ h'
   ·right;exact ah _ h'
inductive IL (nt:Nat) (ix:List Nat) (g:TG) (tt:TT) (te:TE) (σ:St) (Q:VK) (J:It) (H1:Hp):Prop
 |mk (W:Nat->Nat->List V->Hp->Prop) (w0:∃ m,W 0 m [] H1) (turn:∀ i m acc H,W i m acc H ->
 (J.stop i H/\∀ p,H p=none->Q (.ref p) (upd H p (.lst acc))) \/
 (J.go i H/\acc.length<sizeLine/\∀ x H',J.yld i H x H'->g x (iI nt ix σ) H' fun σ2 H2=>tt σ2 H2 fun b H3 =>
  if b=true then te σ2 H3 fun y H4=>∃ m',m'<m/\W (i+1) m' (acc++[y]) H4 else ∃ m',m'<m/\W (i+1) m' acc H3)):IL nt ix g tt te σ Q J H1
def E4 (nt:Nat) (ix:List Nat) (wi:TI) (g:TG) (tt:TT) (te:TE):TE:=fun σ H Q=>wi σ H (IL nt ix g tt te σ Q)
theorem gd:∀ (names:List (Str×iD)) (n:Nat) (acc:List (Str×ac)),bi n names acc=bi n names []++acc
 |[],_,_=>rfl
 |(y,k)::r,n,acc=>by
  unfold bi;split
  ·rw [gd r (n+1) ((y,n)::acc),gd r (n+1) [(y,n)],Do];rfl
  ·exact gd r n acc
theorem jP  : ∀ (names:List (Str×iD)) (n:Nat) (acc:List (Str×ac)),(x,c)∈bi n names acc->(x,cV)∈names\/(x,c)∈acc
 |[],_,_,h=>.inr h
 |(y,k)::r,n,acc,h=>by
  unfold bi at h;split at h
  ·rename_i hk
   have hk:k=.cell:=by simpa using hk
   rcases jP r _ _ h with z|z
   ·exact .inl (ah _ z)
   ·rcases List.mem_cons.mp z with z|z
    ·cases z;subst hk;exact .inl ao
    ·exact .inr z
  ·exact (jP r _ _ h).imp (ah _) id
theorem iY     (h:(bi n names cl).lookup x=some c) :
  (x,c)∈bi n names []\/((bi n names []).lookup x=none/\cl.lookup x=some c):=by
 rw [gd,D5] at h;cases e:(bi n names []).lookup x with
 |some d=>rw [e] at h;cases h;exact .inl (bt e)
 |none=>rw [e] at h;exact .inr ⟨rfl,h⟩
theorem Hf {M:D1}{A:aR}{E:a9->ae->Prop}{s:ae}{scope:cf}{globals:ac}{cl:List (Str×ac)}{qual:Str}{func:Option ac}{code:a9}{outer:Env}{builtins:ac}{Q:Env->ae->Prop}
  (hQ:∀ h₁,h₁=pushCells (s.heap.push { cls:=.type "dict",data:=.dict #[] }) scope.names->Q (newEnv scope s.heap.objs.size globals (bi (s.heap.objs.size+1) scope.names cl) qual func code (some outer) builtins) { s with heap:=h₁ }) :
  ai M A (zK scope globals cl [] qual func code (some outer) builtins) Q E s:=by
 simp only [zK,oC,if_true];refine a6 (Gk ?_);refine a6 (wpAny_layCells _ (fun name kind cells=>by cases hkc:kind==cV<;>simp [hkc]) _ _ _ _ ?_);rw [show ({ s with heap:=s.heap.push { cls:=.type "dict",data:=.dict #[] } }:ae).heap.objs.size=s.heap.objs.size+1 from bU ..];refine a6 ?_;rw [js];exact a8 (a8 (hQ _ rfl))
theorem Cc (h:aW) (names:List (Str×iD)):CellsOk (pushCells (h.push { cls:=.type "dict",data:=.dict #[] }) names) (h.objs.size+1) (bi (h.objs.size+1) names []):=by
 have ok:=cellsFrom_ok names (h.push { cls:=.type "dict",data:=.dict #[] }) (h.objs.size+1) [] ⟨fun _ _ hm=>(nomatch hm),vf⟩ (by rw [bU];exact aq _);rw [bU] at ok;exact ok
section
theorem E5 {scope:cf}{N':List Str}{nt:Nat}{ix:List Nat}{cl:List (Str×ac)}{C:ac}{fp:List ac}{h₁:aW}{t':Nat}{m:Str->Option a9}
  (S:kX X scope N' nt ix) (I:aV X pins σ H s) (c1:∀ x c,cl.lookup x=some c->X.env.cells.lookup x=some c) (c2:∀ y∈scope.names,y.2=.free->∃ c,cl.lookup y.1=some c)
  (hf:∀ b∈fp,n6 X pins H b) (ff:∀ b∈fp,b<s.heap.objs.size) (hC:s.heap.objs.size<=C) (hns:h₁.Ns C m) (old:∀ b o,s.heap.get? b=some o->h₁.get? b=some o) (ok:CellsOk h₁ (C+1) (bi (C+1) scope.names [])) :
  aV (cS X N' scope (bi (C+1) scope.names cl) C s H fp (X.pn++pins)) [] (iI nt ix σ) H { s with heap:=h₁,toks:=t' }:=by
 have cellOld:∀ {c v},s.heap.IsCell c v->h₁.IsCell c v:=fun {c v} ⟨o,ho,hd⟩=>⟨o,old _ _ ho,hd⟩;have up:∀ {x c},(x,c)∈bi (C+1) scope.names []->s.heap.objs.size<c:=fun {x c} h=>au (kE hC) (ok.empty x c h).2;have low:∀ {x c},cl.lookup x=some c->c<s.heap.objs.size:=fun {x c} h=>by
  obtain ⟨v,q⟩:=I.cell x c (c1 x c h);exact q.lt
 refine ⟨⟨I.ok.mod,S.kind,I.ok.glob,I.ok.blt,hC,fun x y c h1 h2=>?_,fun x hx=>?_,fun x c h h2=>?_,I.ok.hd,I.ok.frames,.inl rfl,fun b hb=>⟨?_,fun x c h=>?_⟩,I.bs,cn I.ok.bsz I.sz,fun b o h hb=>?_,fun b hb z=>?_,I.stack,I.stkFree,I.ok.tb.more I.base.tbls⟩,
  rfl,I.bare,Un.kept old,⟨m,hns,fun i x v h1 h2 h3=>?_⟩,fun x c h=>?_,I.hok.fresh hC,fun x c h=>?_,fun p hp=>?_,I.hok.kept old,?_⟩
 ·rcases iY h1 with a|⟨_,a⟩<;>rcases iY h2 with b|⟨_,b⟩
  ·exact name_of_addr ok.apart a b
  ·exact absurd (up a) (zL (low b))
  ·exact absurd (up b) (zL (low a))
  ·exact I.ok.inj x y c (c1 x c a) (c1 y c b)
 ·have hx':(x,bF)∈scope.names\/(x,cV)∈scope.names:=oZ (env:=X.env) (hx.elim .inr .inl);have hs:((bi (C+1) scope.names cl).lookup x).isSome=true:=by
   rcases hx' with z|z
   ·obtain ⟨c,e⟩:=c2 _ z rfl;exact dA _ _ _ (.inr (by rw [e];rfl))
   ·exact dA _ _ _ (.inl (S.cel _ z rfl))
  exact Option.isSome_iff_exists.mp hs
 ·rcases iY h2 with a|⟨a,_⟩
  ·exact ba (up a)
  ·have:=dA (x:=x) scope.names (C+1) [] (.inl (by simpa [cS] using h));rw [a] at this;cases this
 ·exact aA (au (ff b hb) hC)
 ·rcases iY h with a|⟨_,a⟩
  ·exact eY (rA (ff b hb) (up a))
  ·exact (hf b hb).f4 x c (c1 x c a)
 ·rcases (hf b hb).f3 with z|z
  ·exact I.ok.noex b o h z
  ·exact absurd (au (al h) (cn I.ok.bsz z)) (bX _)
 ·rcases List.mem_cons.mp (I.stkSub b z) with e|e
  ·exact (hf b hb).f1 e
  ·exact (hf b hb).f2 e
 ·have hnt:nt<=i:=by
   refine Gj fun hlt=>?_;have h2':(iI nt ix σ)[i]?=some (some v):=h2;unfold iI at h2';rw [br (by simpa using hlt),bn,if_pos hlt] at h2';cases h2'
  have h2':(iI nt ix σ)[i]?=some (some v):=h2;unfold iI at h2';rw [aT (by simpa using hnt),bZ,aK] at h2';cases e:ix[i-nt]? with
  |none=>rw [e] at h2';cases h2'
  |some j =>
   rw [e] at h2';have hj:σ[j]?=some (some v):=by
    have q:(σ[j]?).join=some v:=a_ h2';cases e3:σ[j]? with
    |none=>rw [e3] at q;cases q
    |some o=>rw [e3] at q;cases o with
     |none=>cases q
     |some v'=>cases q;rfl
   obtain ⟨x',n1,n2,fr⟩:=S.cap _ _ e;rw [Nat.add_sub_cancel' hnt] at n2;have h1':N'[i]?=some x:=h1;rw [h1'] at n2;cases n2;obtain ⟨mm,hn,hl⟩:=I.loc;have hfree:=S.free (x,.free) (bt fr) rfl;obtain ⟨u,r,l⟩:=hl j x v n1 hj (hfree.elim (fun z=>.inr (.inl z)) fun z=>.inr (.inr z));refine ⟨u,r,?_⟩;rcases l with ⟨k,_⟩|⟨k,c,hc,hcell⟩
   ·have k:X.env.scope.names.lookup x=some .local:=k;rcases hfree with z|z<;>(rw [z] at k;cases k)
   ·obtain ⟨c',hc'⟩:=c2 _ (bt fr) rfl;have:=c1 x c' hc';rw [hc] at this;cases this;have hno:(bi (C+1) scope.names []).lookup x=none:=by
     cases e:(bi (C+1) scope.names []).lookup x with
     |none=>rfl
     |some d =>
      rcases jP _ _ _ (bt e) with z|z
      ·have q:=S.cel _ z rfl;rw [fr] at q;cases q
      ·cases z
    refine .inr ⟨?_,c,by show (bi (C+1) scope.names cl).lookup x=some c;rw [gd,D5,hno];exact hc',cellOld hcell⟩;rcases n8 (env:=X.env) fr with z|z
    ·exact .inr z
    ·exact .inl z
 ·rcases iY h with a|⟨_,a⟩
  ·exact ⟨none,(ok.empty x c a).1⟩
  ·obtain ⟨v,q⟩:=I.cell x c (c1 x c a);exact ⟨v,cellOld q⟩
 ·rcases iY h with a|⟨_,a⟩
  ·exact I.hok.fresh (ba (up a))
  ·exact I.freeC x c (c1 x c a)
 ·have hp:p∈X.pn++pins:=(List.mem_append.mp hp).elim id fun z=>absurd z (by simp);obtain ⟨e,n,ne,nf,d⟩:=I.pin p hp;refine ⟨old _ _ e,n,aA (au (al e) hC),fun z=>?_,d⟩;rcases List.mem_cons.mp (I.stkSub p.1 z) with e|e
  ·exact ne e
  ·exact nf e
 ·show (iI nt ix σ).length=N'.length;rw [S.len];simp [iI]
end
end
section
theorem Un.grow   (u:Un fs ex H H1 h h1)  (sb:b9 C h1 h2) (hC:h.objs.size<=C) (hD:h.objs.size<=D) (hn:H1 D=none):Un fs ex H (upd H1 D o) h h2 where
 keep:=fun b ob q n hb hx=>(sb.2 b (aA (au (al q) hC))).trans (u.keep b ob q n hb hx)
 slot:=fun b ob q n hb hx=>by
  obtain ⟨sl,e⟩:=u.slot b ob q n hb hx;exact ⟨sl,(sb.2 b (aA (au (al q) hC))).trans e⟩
 free:=fun b ob q n hx=>by rw [aG (aA (au (al q) hD))];exact u.free b ob q n hx
 there:=fun b ob q hx=>by
  obtain ⟨o',e⟩:=u.there b ob q hx;exact ⟨o',(sb.2 b (aA (au (al q) hC))).trans e⟩
 tups:=fun b xs q=>by have z:=u.tups b xs q;rw [aG (aI z hn)];exact z
 frzs:=fun b ob xs q=>by have z:=u.frzs b ob xs q;rw [aG (aI z hn)];exact z
 tbls:=fun b ps q=>by
  obtain ⟨m,z⟩:=u.tbls b ps q;exact ⟨m,by rw [aG (aI z hn)];exact z⟩
theorem yd     (k:lC P w H h) (hC:H C=none) (sb:b9 C h h'):lC P w H h':=fun b ob e=>by
 refine (k b ob e).stay (fun c w' hc q=>(sb.2 c ?_).trans q) (fun _ q=>q) (fun _ _ q=>q) fun _ _ _ q=>q;rintro rfl;rcases hc with rfl|hc
 ·rw [hC] at e;cases e
 ·rw [hC] at hc;cases hc
theorem qe      (k:lC P w H h) (hD:H D=none) (new:cj P w (upd H D o) h D o):lC P w (upd H D o) h:=fun b ob e=>by
 by_cases hb:b=D
 ·subst hb;rw [aH] at e;cases e;exact new
 ·rw [aG hb] at e;exact (k b ob e).stay (fun c w' hc q=>q) (fun c q=>by rw [aG (aI q hD)];exact q) (fun c x q=>by rw [aG (aI q hD)];exact q) fun c ob xs q=>by rw [aG (aI q hD)];exact q
theorem nf {M:D1}{A:aR}{α:Type}{t:Sem α}{Q:α->ae->Prop}{E':a9->ae->Prop}{s:ae} (h:ai M A t Q (fun _ _=>False) s):ai M A t Q E' s :=
 bu h (fun _ _ q=>q) fun _ _ f=>f.elim
theorem aV.pin1      (I:aV X [] σ H s) (e:s.heap.get? D=some o) (n:H D=none) (ne:D≠X.env.locals) (nf:D∉X.fs) (d:∀ v,o.data≠.cell v):aV X [(D,o)] σ H s :=
 I.pins_of fun p hp=>by
  have:p=(D,o):=by simpa using hp
  subst this;exact ⟨e,n,ne,nf,d⟩
def K7 (nt:Nat) (g:TG):Prop:=∀ x σ0 H (Q:St->Hp->Prop),g x σ0 H Q->g x σ0 H (fun σ2 H2=>Q σ2 H2/\σ2.length=σ0.length/\∀ j,nt<=j->σ2[j]?=σ0[j]?)
theorem E6 (h:i<nt):K7 nt (oT i):=fun x σ0 H Q q=>⟨q,by simp,fun j hj=>aj (by omega)⟩
theorem Hg {nt i k n:Nat}{K:a7} (h:i<nt) (h':k<nt):K7 nt (JA K n (aa (oT i) (aa (oT k) aF))):=by
 rintro x σ0 H Q ⟨a,xs,rfl,sq,hl,v,r,rfl,v',r',rfl,rfl,q⟩;exact ⟨a,_,rfl,sq,hl,v,_,rfl,v',_,rfl,rfl,q,by simp,fun j hj=>by rw [aj (by omega),aj (by omega)]⟩
theorem aV.swap {X:Cx}{pl:List (ac×Obj)}{σ:St}{H:Hp}{s:ae}{D:ac}{o o':Obj}{h':aW} (I:aV X ((D,o)::pl) σ H s) (sb:b9 D s.heap h') (e':h'.get? D=some o') (nd:∀ v,o'.data≠.cell v) (h1:D∈X.ex\/X.s₀.heap.objs.size<=D) (h2:∀ x c,X.env.cells.lookup x=some c->c≠D) (h3:∀ p∈X.pn++pl,p.1≠D):aV X ((D,o')::pl) σ H { s with heap:=h' }:=by
 obtain ⟨pD,pN,pL,pF,_⟩:=I.pin (D,o) (ak _ ao)
 have I1:aV X pl σ H s:=I.pins_of fun p hp=>I.pin p (ak _ (ah _ hp))
 have I2:aV X pl σ H { s with heap:=h',toks:=s.toks }:=I1.turned (it:=D) (fun b o hb e=>sb.extBut b o hb e) pN pL h1 h2 h3
 refine I2.pins_of fun p hp=>?_
 rcases aM.1 hp with z|hp
 ·rw [z];exact ⟨e',pN,pL,pF,nd⟩
 ·exact I2.pin p (ak _ hp)
abbrev LO (its:List a9) (nn:Nat):Obj:={ cls:=.type "list",data:=.seq its.toArray nn }
inductive Ol (X:Cx) {α:Type} (P:ac->Obj->α->Prop) (pins:List (ac×Obj)) (N':List Str) (scope:cf) (cl:List (Str×ac)) (C:ac) (s2:ae) (H2:Hp) (fp:List ac) (nt:Nat) (ix:List Nat) (σ:St) (tn:Nat->aW->Prop) (W:Nat->Nat->α->Hp->Prop) (n:Nat) (s':ae):Prop
 |mk (i:Nat) (acc:α) (oD:Obj) (H':Hp) (I:aV (cS X N' scope cl C s2 H2 fp (X.pn++pins)) [(s2.heap.objs.size,oD)] (iI nt ix σ) H' s') (S:P s2.heap.objs.size oD acc) (t:tn i s'.heap) (f:∀ b∈fp,H' b=none) (w:W i n acc H'):Ol X P pins N' scope cl C s2 H2 fp nt ix σ tn W n s'
def IM (X:Cx) (e0 tg:aQ) (ifs:List aQ) (it:ac) (d:Nat) (Bd:Env->ac->(ae->Prop)->ae->Prop):Prop :=
 ∀ (env:Env) (D:ac) (R:sA->ae->Prop) (I:Nat->ae->Prop),(∀ n s,I n s->ai (ax X.prog X.w) X.A (i8 (.ref it)) (fun r s₁=>match r with
   |none=>R (.ok .next) s₁
   |some v=>ai (ax X.prog X.w) X.A (fM tg (.ref it) v) (fun _ s₁'=>ai (ax X.prog X.w) X.A (nL tg env v) (fun _ s₂ =>
     ai (ax X.prog X.w) X.A (forIn ifs true fun c r=>if r=true then do let ok <- sv c env (cQ c env);pure (fW ok) else pure (fW r)) (fun ok s₃ =>
      if ok=true then Bd env D (fun s₅=>∃ m,m<n/\I m s₅) s₃ else ∃ m,m<n/\I m s₃) (fun _ _=>False) s₂) (fun _ _=>False) s₁') (fun _ _=>False) s₁) (fun _ _=>False) s) ->
  ∀ n s,I n s->em (ax X.prog X.w) X.A (.compLoop e0 d (.ref it) (.ref D) env) R s
theorem IN {X:Cx}{e0 tg iter:aQ}{ifs:List aQ}{d:Nat}{Bd:Env->ac->(ae->Prop)->ae->Prop}{it:ac}{Kt:Env->ac->Bool->Sem Fin}
  (hT:∀ env D,compTurn e0 d (.ref it) (.ref D) env=(do
   qM iter.pos
   match <- i8 (.ref it) with
   |none=>pure (.done .next)
   |some v =>
    fM tg (.ref it) v
    nL tg env v
    let mut ok:=true
    for c in ifs do
     if ok then ok <- sv c env (cQ c env)
    Kt env D ok))
  (ht:∀ env D K s,Bd env D K s->ai (ax X.prog X.w) X.A (Kt env D true) (fun f s5=>f=.again (.compLoop e0 d (.ref it) (.ref D) env)/\K s5) (fun _ _=>False) s)
  (hf:∀ env D,Kt env D false=pure (.again (.compLoop e0 d (.ref it) (.ref D) env)):=by intros;rfl) (hA:∀ env D,X.A.under (.compLoop e0 d (.ref it) (.ref D) env)=X.A:=by intros;rfl)
  (hD:∀ env D,(ax X.prog X.w).den (.compLoop e0 d (.ref it) (.ref D) env)=(compTurn e0 d (.ref it) (.ref D) env).onRaise (fun x=>do D6 x env;theTreesLotGoes x):=by intros;rfl):IM X e0 tg ifs it d Bd:=by
 intro env D R I turn n s h
 refine codeAny_loop rfl I (fun n s hI=>?_) n h
 rw [hA,hD]
 refine wpAny_noted ?_
 rw [hT]
 refine a6 (hU (a6 (nf (bu (turn n s hI) (fun r s₁ h₁=>?_) fun _ _ h'=>h'))))
 cases r with
 |none=>exact a8 h₁
 |some v =>
  refine a6 (nf (bu h₁ (fun _ s₁' h₁'=>?_) fun _ _ h'=>h'))
  refine a6 (nf (bu h₁' (fun _ s₂ h₂=>a6 (nf (bu h₂ (fun ok s₃ h₃=>?_) fun _ _ h'=>h'))) fun _ _ h'=>h'))
  cases ok with
  |false=>rw [hf];exact a8 ⟨rfl,h₃⟩
  |true =>
   refine nf (bu (ht _ _ _ _ h₃) (fun f s₅ h₅=>?_) fun _ _ h'=>h')
   obtain ⟨e,h₅⟩:=h₅
   subst e
   exact ⟨rfl,h₅⟩
def E7 (X:Cx) {α:Type} (N':List Str) (scope:cf) (M:St->Prop) (P:ac->Obj->α->Prop) (L:α->Prop) (U:St->Hp->α->Nat->(Nat->α->Hp->Prop)->Prop) (Bd:Env->ac->(ae->Prop)->ae->Prop):Prop :=
 ∀ cl C s₀ H₀ ex pn (D:ac) (pl:List (ac×Obj)) (o:Obj) (acc:α) (σ:St) (H:Hp) (s:ae) (K:ae->Prop) (m:Nat) (V:Nat->α->Hp->Prop),(D∈ex\/s₀.heap.objs.size<=D)->(∀ x c,cl.lookup x=some c->c≠D)->(∀ p∈pn++pl,p.1≠D)->M σ->L acc->P D o acc ->
  aV (cS X N' scope cl C s₀ H₀ ex pn) ((D,o)::pl) σ H s->U σ H acc m V->(∀ acc' o' H8 s8 m',aV (cS X N' scope cl C s₀ H₀ ex pn) ((D,o')::pl) σ H8 s8->P D o' acc'->m'<m->V m' acc' H8->K s8)->Bd (cS X N' scope cl C s₀ H₀ ex pn).env D K s
inductive Hh (X:Cx) (N':List Str) (scope:cf) (nt nc:Nat) (ix:List Nat) (e0 tg:aQ) (ifs:List aQ) (newA:Sem a9) {α:Type} (O:ac->α->HO) (a0:α) (L:α->Prop) (U:St->Hp->α->Nat->(Nat->α->Hp->Prop)->Prop):Prop
 |mk (P:ac->Obj->α->Prop) (o0:Obj) (Bd:ac->Env->ac->(ae->Prop)->ae->Prop) (M:St->Prop) (nd:∀ {D o acc},P D o acc->∀ v,o.data≠.cell v) (of:o0.isFreed=false) (p0:∀ D,P D o0 a0)
  (tr:∀ {H h D o acc},eg<D->P D o acc->h.get? D=some o->cj X.prog X.w H h D (O D acc))
  (hnew:∀ {E s2}{Q:a9->ae->Prop},Q (.ref s2.heap.objs.size) { s2 with heap:=s2.heap.push o0 }->ai (ax X.prog X.w) X.A newA Q E s2) (loopX:∀ it,IM X e0 tg ifs it 0 (Bd it))
  (hst:∀ {it acc env R s},em (ax X.prog X.w) X.A (.compLoop e0 0 (.ref it) acc env) R s->ai (ax X.prog X.w) X.A (sx (.ref it)) (fun it' s'=>em (ax X.prog X.w) X.A (.compLoop e0 0 it' acc env) R s') (notedBy (ax X.prog X.w) X.A env fun x s'=>R (.error x) s') s->em (ax X.prog X.w) X.A (.compStart e0 0 (.ref it) acc env) R s)
  (hM:nt<=nc/\∀ σ σ6:St,(∀ j,nt<=j->σ6[j]?=(iI nc ix σ)[j]?)->M σ6) (hstep:∀ it,E7 X N' scope M P L U (Bd it)):Hh X N' scope nt nc ix e0 tg ifs newA O a0 L U
theorem Ae {X:Cx}{α:Type}{O:ac->α->HO}{a0:α}{newA:Sem a9}{L:α->Prop}{U:St->Hp->α->Nat->(Nat->α->Hp->Prop)->Prop}{e0 tg:aQ}{ifs:List aQ}{scope:cf}{g:TG}{tt:TT}{N':List Str}{nt nc:Nat}{ix:List Nat}
  (con:Hh X N' scope nt nc ix e0 tg ifs newA O a0 L U) (hc:X.calm=true) (S:kX X scope N' nc ix) (lo:K7 nt g)
  (hb:∀ cl C s₀ H₀ ex pn,PG (cS X N' scope cl C s₀ H₀ ex pn) tg g/\Hc (cS X N' scope cl C s₀ H₀ ex pn) ifs tt)
  {cl:List (Str×ac)} (c1:∀ x c,cl.lookup x=some c->X.env.cells.lookup x=some c) (c2:∀ y∈scope.names,y.2=.free->∃ c,cl.lookup y.1=some c)
  {pins:List (ac×Obj)}{σ:St}{H2:Hp}{s2:ae}{it:ac}{fp:List ac}{tn:Nat->aW->Prop}{J:It}{Q:VK}{E:a9->ae->Prop}
  (I2:aV X pins σ H2 s2) (T:zY X.prog X.w X.K tg J fp it tn) (st2:tn 0 s2.heap) (f2:∀ b∈fp,n6 X pins H2 b)
  {W:Nat->Nat->α->Hp->Prop} (w0:∃ m,W 0 m a0 H2)
  (turn:∀ i m acc H,W i m acc H->(J.stop i H/\∀ p,H p=none->Q (.ref p) (upd H p (O p acc))) \/
   (J.go i H/\L acc/\∀ x H',J.yld i H x H'->g x (iI nc ix σ) H' fun σ2 H2=>tt σ2 H2 fun b H3 =>
    if b=true then U σ2 H3 acc m (W (i+1)) else ∃ m',m'<m/\W (i+1) m' acc H3))
  {RR:a9->ac->sA->ae->Prop}
  (hRR:∀ D C m s' (acc:α) H',H' D=none->n6 X pins (upd H' D (O D acc)) C->Q (.ref D) (upd H' D (O D acc))->s'.heap.Ns C m->(∀ h',b9 C s'.heap h'->aV X pins σ (upd H' D (O D acc)) { s' with heap:=h' })->RR (.ref D) C (.ok .next) s') :
  ai (ax X.prog X.w) X.A newA (fun acc s₃=>ai (ax X.prog X.w) X.A (zK scope X.env.globals cl [] X.env.qual none .none (some X.env)) (fun cenv s₄ =>
   em (ax X.prog X.w) X.A (.compStart e0 0 (.ref it) acc { cenv with scope:=relabel scope X.env }) (RR acc cenv.locals) s₄) E s₃) E s2:=by
 obtain ⟨P,o0,Bd,M,nd,of,p0,tr,hnew,loopX,hst,⟨hnc,hM⟩,hstep⟩:=con
 refine hnew (Hf fun h₁ hh₁=>?_);dsimp only at hh₁ ⊢;generalize hG2:s2.heap.push o0=G2 at hh₁ ⊢;have hC:G2.objs.size=s2.heap.objs.size+1:=by rw [<- hG2,bU]
 have hDC:s2.heap.objs.size≠G2.objs.size:=by rw [hC];exact aA (eO _)
 have hCle:s2.heap.objs.size<=G2.objs.size:=by rw [hC];exact Nat.le_succ _
 have below:∀ b,b<s2.heap.objs.size->b≠G2.objs.size:=fun b hb=>by rw [hC];exact aA (fJ hb)
 have kp:∀ b o,G2.get? b=some o->h₁.get? b=some o:=fun b o e=>by rw [hh₁];exact pushCells_keeps _ _ b o (ag _ e)
 have hns₁:h₁.Ns G2.objs.size (fun _=>none):=by rw [hh₁];exact (Heap.Ns.new G2 (.type "dict")).keeps (pushCells_keeps _ _)
 have ok₁:CellsOk h₁ (G2.objs.size+1) (bi (G2.objs.size+1) scope.names []):=by rw [hh₁];exact Cc G2 scope.names
 have cne:∀ x c,(bi (G2.objs.size+1) scope.names cl).lookup x=some c->X.env.cells.lookup x=some c\/s2.heap.objs.size<c:=fun x c e=>by
  rcases iY e with a|⟨_,a⟩
  ·exact .inr (au (kE hCle) (ok₁.empty x c a).2)
  ·exact .inl (c1 x c a)
 have old:∀ b o,s2.heap.get? b=some o->h₁.get? b=some o:=fun b o e=>kp b o (hG2 ▸ ag _ e);have hacc:h₁.get? s2.heap.objs.size=some o0:=kp _ _ (hG2 ▸ av _ of);have ff:∀ b∈fp,b<s2.heap.objs.size:=fun b hb=>by
  obtain ⟨o,e,_⟩:=T.obj _ _ st2 b hb;exact al e
 have I3:aV (cS X N' scope (bi (G2.objs.size+1) scope.names cl) G2.objs.size s2 H2 fp (X.pn++pins)) [] (iI nc ix σ) H2 { s2 with heap:=h₁,toks:=s2.toks }:=E5 S I2 c1 c2 f2 ff hCle hns₁ old ok₁;obtain ⟨pg,pt⟩:=hb (bi (G2.objs.size+1) scope.names cl) G2.objs.size s2 H2 fp (X.pn++pins);have hDfs:s2.heap.objs.size∉nr X.stack:=fun z=>by
  rcases List.mem_cons.mp (I2.stkSub _ z) with e|e
  ·exact absurd I2.lt (by rw [<- e];exact bX _)
  ·exact I2.nofs (aq _) e
 have st1:tn 0 h₁:=T.keep _ _ _ st2 fun b _ o e=>old b o e;have hDf:s2.heap.objs.size∉fp:=fun z=>absurd (ff _ z) (bX _);have stat:∀ {H':Hp}{pl:List (ac×Obj)},(∀ p∈pl,p.1∉fp)->(∀ b∈fp,H' b=none)->∀ b∈fp,n6 (cS X N' scope (bi (G2.objs.size+1) scope.names cl) G2.objs.size s2 H2 fp (X.pn++pins)) pl H' b:=fun hpl hn b hb=>by
  obtain ⟨f0,f1,f2',f3,f4,f5⟩:=f2 b hb;refine ⟨hn b hb,below b (ff b hb),fun z=>?_,.inl hb,fun x c e=>(cne x c e).elim (f4 x c) fun q z=>zL q (by rw [z];exact ff b hb),fun p hp z=>?_⟩
  ·rcases List.mem_cons.mp (I2.stkSub _ z) with e|e
   ·exact f1 e
   ·exact f2' e
  ·rcases List.mem_append.mp hp with q|q
   ·exact f5 p q z
   ·exact hpl p q (z ▸ hb)
 obtain ⟨m0,w0⟩:=w0;have loop:em (ax X.prog X.w) X.A (.compLoop e0 0 (.ref it) (.ref s2.heap.objs.size) (compEnvC scope (bi (G2.objs.size+1) scope.names cl) G2.objs.size X.env))
    (RR (.ref s2.heap.objs.size) G2.objs.size) { s2 with heap:=h₁,toks:=s2.toks }:=by
  refine loopX it _ _ _ (Ol X P pins N' scope (bi (G2.objs.size+1) scope.names cl) G2.objs.size s2 H2 fp nc ix σ tn W) ?_ m0 _
   ⟨0,a0,_,H2,I3.pin1 hacc (I2.hok.fresh (aq _)) hDC hDfs (nd (p0 s2.heap.objs.size)),p0 _,st1,fun b hb=>(f2 b hb).1,w0⟩
  rintro n s3 ⟨i,acc,oD,H3,J3,hS3,st3,fr3,w3⟩;have plD:∀ p∈[(s2.heap.objs.size,oD)],p.1∉fp:=fun p hp=>by
   have:p=(s2.heap.objs.size,oD):=by simpa using hp
   rw [this];exact hDf
  rcases turn i n acc H3 w3 with ⟨stop,qn⟩|⟨go,hlt,step⟩
  ·refine dX (T.done (cS X N' scope (bi (G2.objs.size+1) scope.names cl) G2.objs.size s2 H2 fp (X.pn++pins)) rfl rfl rfl hc i _ s3 _ H3 _ J3 (stat plD fr3) st3 stop) fun r s4 h_0=>?_;obtain ⟨hr,I4⟩:=h_0;subst hr;obtain ⟨pD,pN,_⟩:=I4.pin (s2.heap.objs.size,_) (ak _ (List.mem_singleton.mpr rfl));obtain ⟨mm,hn,_⟩:=I4.loc;have hCn:H3 G2.objs.size=none:=I4.free;refine hRR _ _ mm s4 acc H3 pN (I2.fpOk hCle (by rw [aG (cO hDC)];exact hCn)) (qn _ pN) hn fun h' sb=>?_;have hu:Un (nr X.stack) fp H2 (upd H3 s2.heap.objs.size (O s2.heap.objs.size acc)) s2.heap h':=Un.grow I4.base sb hCle (aq _) pN;refine I2.call' (s':={ s4 with heap:=h' }) (ch:=fp) I4.os hu ?_ I4.bare fun b hb=>?_
   ·exact qe (yd I4.hok hCn sb) pN (tr I2.big hS3 ((sb.2 _ hDC).trans pD))
   ·obtain ⟨_,f1,_,f3,f4,f5⟩:=f2 b hb;exact ⟨f3,f1,f4,f5⟩
  ·refine dX (T.item (cS X N' scope (bi (G2.objs.size+1) scope.names cl) G2.objs.size s2 H2 fp (X.pn++pins)) rfl rfl rfl hc i _ s3 _ H3 _ J3 (stat plD fr3) st3 go) fun r s4 h_1=>?_;obtain ⟨u,hr,h4⟩:=h_1;subst hr;refine dX h4 fun _ s5 h_2=>?_;obtain ⟨x,H5,I5,r5,y5,st5,fr5⟩:=h_2;have I5':=I5.pinned (stat plD fr5) (T.obj _ _ st5);refine dX (pg _ s5 _ H5 x u _ I5' r5 (lo _ _ _ _ (step x H5 y5))) fun _ s6 h_3=>?_;obtain ⟨σ6,H6,I6,q6,l6,k6⟩:=h_3;have hw:∀ (j:Nat) v,(iI nc ix σ)[j]?=some (some v)->σ6[j]?=some (some v):=fun j v e=>by
    by_cases hj:nt<=j
    ·rw [k6 j hj];exact e
    ·unfold iI at e;rw [br (by simp;omega),bn,if_pos (by omega)] at e;cases e
   refine dX (pt _ s6 σ6 H6 _ I6 q6) fun b s7 h_4=>?_;obtain ⟨H7,I7,q7⟩:=h_4;have fpk:∀ {s8:ae}{σ8:St}{H8:Hp},aV (cS X N' scope (bi (G2.objs.size+1) scope.names cl) G2.objs.size s2 H2 fp (X.pn++pins)) ([(s2.heap.objs.size,oD)]++sO fp s5.heap) σ8 H8 s8 ->
     tn (i+1) s8.heap/\∀ b∈fp,H8 b=none:=fun {s8 σ8 H8} I8=>by
    refine ⟨T.keep _ _ _ st5 fun b hb o e=>(I8.pin (b,o) (ak _ (ak _ (ic hb e)))).1,fun b hb=>?_⟩;obtain ⟨o,e,d⟩:=T.obj _ _ st5 b hb;exact (I8.pin (b,o) (ak _ (ak _ (ic hb e)))).2.1
   cases b with
   |false =>
    simp only [bx,if_false] at q7 ⊢;obtain ⟨m',hm,w7⟩:=q7;obtain ⟨t7,f7⟩:=fpk I7;exact ⟨m',hm,i+1,acc,oD,H7,(I7.weak l6.symm hw).unpinned,hS3,t7,f7,w7⟩
   |true =>
    simp only [if_true] at q7 ⊢
    refine hstep it _ _ _ _ _ _ _ _ _ _ _ _ _ _ _ _ (.inr (aq _)) (fun x c e z=>?_) (fun p hp z=>?_) (hM σ σ6 k6) hlt hS3 I7 q7 fun acc' o' H8 s8 m' I8 p8 hm w8=>?_
    ·rcases cne x c e with e|e
     ·obtain ⟨v,q⟩:=I2.cell x c e;exact absurd q.lt (by rw [z];exact bX _)
     ·exact absurd e (by rw [z];exact bX _)
    ·rcases uw.1 hp with hp|hp
     ·exact absurd (al (I2.pin p hp).1) (by rw [z];exact bX _)
     ·exact hDf (z ▸ (vn hp).1)
    ·obtain ⟨t8,f8⟩:tn (i+1) s8.heap/\∀ b∈fp,H8 b=none:=by
      refine ⟨T.keep _ _ _ st5 fun b hb o e=>(I8.pin (b,o) (ak _ (ah _ (ic hb e)))).1,fun b hb=>?_⟩;obtain ⟨o,e,d⟩:=T.obj _ _ st5 b hb;exact (I8.pin (b,o) (ak _ (ah _ (ic hb e)))).2.1
     exact ⟨m',hm,i+1,acc',o',H8,(I8.weak (σ':=iI nc ix σ) l6.symm hw).pins_of fun p hp=>I8.pin p (ak _ (by rw [dR.1 hp];exact ao)),p8,t8,f8,w8⟩
 exact hst loop (T.self _ 0 _ _ _ st1 loop)
def LP (_:ac) (o:Obj) (acc:List V):Prop:=∃ its nn,o=LO its nn/\cu acc its/\acc.length<=sizeLine
def K8 (X:Cx) (elt:aQ) (env:Env) (D:ac) (K:ae->Prop) (s:ae):Prop:=ai (ax X.prog X.w) X.A (cQ elt env) (fun x s₄=>ai (ax X.prog X.w) X.A (call (.builtin "list.append") [.ref D,x]) (fun _ s₅=>K s₅) (fun _ _=>False) s₄) (fun _ _=>False) s
theorem E8 {X:Cx}{elt:aQ}{te:TE}{N':List Str}{scope:cf}{M:St->Prop} (pe:∀ cl C s₀ H₀ ex pn,PE (cS X N' scope cl C s₀ H₀ ex pn) elt te) :
  E7 X N' scope M LP (fun acc=>acc.length<sizeLine) (fun σ H acc m V=>te σ H fun y H4=>∃ m',m'<m/\V m' (acc++[y]) H4) (K8 X elt):=by
 intro cl C s₀ H₀ ex pn D pl o acc σ6 H7 s7 K m V h1 h2 h3 _ hl hP I7 q7 fin
 obtain ⟨its,nn,rfl,rv,hz⟩:=hP
 refine dX (pe cl C s₀ H₀ ex pn _ s7 σ6 H7 _ I7 q7) fun u8 s8 h_5=>?_
 obtain ⟨y,H8,I8,r8,m',hm,q8⟩:=h_5
 obtain ⟨pD,pN,_⟩:=I8.pin (D,_) (ak _ ao)
 have hv:=rv.length
 refine wpAny_list_append_plain ⟨nn,pD⟩ (hsz:=by rw [aB];omega) ?_
 intro h9 pl9 sb9
 obtain ⟨n9,e9⟩:=pl9
 have e9':h9.get? D=some (LO (its++[u8]) n9):=by rw [e9];simp
 exact fin (acc++[y]) _ H8 _ m' (I8.swap sb9 e9' (fun _ z=>nomatch z) h1 h2 h3) ⟨_,n9,rfl,rv.append (.cons r8 .nil),by rw [bo,iq];omega⟩ hm q8
theorem E9 {X:Cx}{elt:aQ}{f:Sem Fin}{a:Code} (hf:f=pure (.again a)) (env:Env) (D:ac) (K:ae->Prop) (s:ae) (h:K8 X elt env D K s):ai (ax X.prog X.w) X.A ((do let _ <- call (.builtin "list.append") [.ref D,<- cQ elt env]) >>= fun _=>f) (fun f s5=>f=.again a/\K s5) (fun _ _=>False) s:=by
 subst hf;exact a6 (a6 (dX h fun x s4 h4=>a6 (dX h4 fun _ _ q=>a8 (a8 ⟨rfl,q⟩))))
theorem B3 {X:Cx}{elt tg iter:aQ}{ifs:List aQ}{scope:cf}{pos:Pos}{te:TE}{N':List Str}{nt:Nat}{ix:List Nat} (pe:∀ cl C s₀ H₀ ex pn,PE (cS X N' scope cl C s₀ H₀ ex pn) elt te) :
  Hh X N' scope nt nt ix (.ListComp elt [⟨tg,iter,ifs,0⟩] scope pos) tg ifs (newList []) (fun _=>HO.lst) [] (fun acc=>acc.length<sizeLine) (fun σ H acc m V=>te σ H fun y H4=>∃ m',m'<m/\V m' (acc++[y]) H4) :=
 ⟨LP,_,fun _=>K8 X elt,fun _=>True,fun ⟨_,_,h,_⟩ _ z=>(by rw [h] at z;cases z),rfl,fun _=>⟨[],0,rfl,.nil,eB _⟩,fun _ ⟨its,nn,h,rv,hz⟩ e=>⟨hz,its,nn,rv,by rw [e,h]⟩,bg,fun _=>IN (iter:=iter) (fun _ _=>rfl) fun a b c d h=>E9 rfl a b c d h,codeAny_compStart_list,⟨aq _,fun _ _ _=>trivial⟩,fun _=>E8 pe⟩
end
section
theorem ye
  (hc:X.calm=true) (S:kX X scope N' nt ix) (lo:K7 nt g) (hi:PI X tg iter wi)
  (hb:∀ cl C s₀ H₀ ex pn,PG (cS X N' scope cl C s₀ H₀ ex pn) tg g/\Hc (cS X N' scope cl C s₀ H₀ ex pn) ifs tt/\PE (cS X N' scope cl C s₀ H₀ ex pn) elt te)
  (hs:∀ x,cJ iter X.env x=pure x:=by intro _;rfl):PE X (.ListComp elt [⟨tg,iter,ifs,0⟩] scope pos) (E4 nt ix wi g tt te):=by
 intro pins s σ H Q I h;obtain ⟨cl,hcl,c1,c2⟩:=kW (scope:=scope) (env:=X.env) fun y hy hf=>I.ok.has y.1 (S.free y hy hf);rw [eval_ListComp];refine lP (use:=none) rfl hs hcl S.kind S.loc (dX (hi pins s σ H _ I h) fun v s1 h1=>dX h1 fun itv s2 h2=>?_);obtain ⟨it,fp,tn,J,H2,e,I2,T,st2,f2,W,w0,turn⟩:=h2;subst e;refine Ae (RR:=fun acc C=>compPost (ax X.prog X.w) X.A X.xe none (EP X pins σ Q) acc C) (B3 fun a b c d e f=>(hb a b c d e f).2.2) hc S lo (fun a b c d e f=>⟨(hb a b c d e f).1,(hb a b c d e f).2.1⟩) c1 c2 I2 T st2 f2 w0 turn ?_;intro D C m s' acc H' hD _ q hn hI;exact ⟨m,hn,fun h' sb=>⟨.ref D,_,hI h' sb,rfl,q⟩⟩
def LQ (i:Nat) (te:TE):TS:=fun D σ H=>te σ H fun x H1=>D.nx (σ.set i (some x)) H1
theorem Af
  (hN:X.N.Nodup) (hiN:X.N[i]?=some y) (hy:X.env.scope.names.lookup y=some .local)
  (hc:X.calm=true) (S:kX X scope N' nt ix) (lo:K7 nt g) (hi:PI X tg iter wi)
  (hb:∀ cl C s₀ H₀ ex pn,PG (cS X N' scope cl C s₀ H₀ ex pn) tg g/\Hc (cS X N' scope cl C s₀ H₀ ex pn) ifs tt/\PE (cS X N' scope cl C s₀ H₀ ex pn) elt te)
  (hsw:fP (.ListComp elt [⟨tg,iter,ifs,0⟩] scope pos) (some (.Name y py)) spos.line X.env=pure true:=by rfl)
  (hs:∀ x,cJ iter X.env x=pure x:=by intro _;rfl):PS X (.Assign [.Name y py] (.ListComp elt [⟨tg,iter,ifs,0⟩] scope pos) spos) (LQ i (E4 nt ix wi g tt te)):=by
 intro pins s σ H D I h;obtain ⟨cl,hcl,c1,c2⟩:=kW (scope:=scope) (env:=X.env) fun y hy hf=>I.ok.has y.1 (S.free y hy hf);rw [exec_Assign_Name_used _ _ _ _ hsw];refine a6 (hU (a6 ?_));show ai _ X.A (do let _ <- comprehension (.ListComp elt [⟨tg,iter,ifs,0⟩] scope pos) scope X.env _ (newList []) false (cQ iter X.env) (some (nL (.Name y py) X.env))) _ _ s;refine a6 (bu (lP (use:=some (nL (.Name y py) X.env)) (Q:=fun _ s'=>SP X pins D .next s') rfl hs hcl S.kind S.loc
  (dX (hi pins s σ H _ I h) fun v s1 h1=>dX h1 fun itv s2 h2=>?_)) (fun _ s' hq=>a8 (a8 hq)) fun _ _ e=>e)
 obtain ⟨it,fp,tn,J,H2,e,I2,T,st2,f2,W,w0,turn⟩:=h2;subst e;refine Ae (Q:=fun x H1=>D.nx (σ.set i (some x)) H1) (RR:=fun acc C=>compPost (ax X.prog X.w) X.A X.xe (some (nL (.Name y py) X.env)) (fun _ s'=>SP X pins D .next s') acc C) (B3 fun a b c d e f=>(hb a b c d e f).2.2) hc S lo (fun a b c d e f=>⟨(hb a b c d e f).1,(hb a b c d e f).2.1⟩) c1 c2 I2 T st2 f2 w0 turn ?_;intro L C m s' acc H' hD fC q hn hI;show ai _ X.A (nL (.Name y py) X.env (.ref L)) _ _ _;have I3:aV X pins σ (upd H' L (.lst acc)) s':=hI s'.heap (.refl ..);refine wpAny_assign_Name (vm I3 hN hiN (.inl hy) (v:=.ref L) rfl (fun s4 I4 ⟨a,sb,ha⟩=>?_) (.inr hy));obtain ⟨g0,g1,g2,g3,g4,g5⟩:=fC;have hCa:C≠a:=by
  rcases ha with z|z
  ·rw [z];exact g1
  ·exact fun e=>g4 y a z e.symm
 refine ⟨m,hn.sameBut sb hCa,fun h5 sb5=>?_⟩;exact ⟨_,_,I4.turned (t':=s4.toks) (fun b o hb e=>(sb5.2 b hb).trans e) g0 g1 g3 g4 g5,q⟩
end
section
def hZ (e:Int×a9):Str:=match e.2 with
 |.str x _=>x
 |_=>⟨#[]⟩
def nX (w:aS) (e:Int×a9):Prop:=∃ x tk,e=(hashStr w x,gU x tk)
structure bY (w:aS) (h:aW) (a:ac) (es:Array (Int×a9)) (ep:Nat) (t:iF):Prop where
 at_:h.get? a=some { cls:=.type "set",dict:=none,data:=.set es ep t }
 txt:∀ e∈es.toList,nX w e
 nd:(es.toList.map hZ).Nodup
 few:es.size<e_
 fits:t.fits es.size=true
 led:t.led=!w.params.followText "set-order"
 pl:es.size=0\/t.plain=false
inductive iL (w:aS) (h:aW) (a:ac) (ss:List Str):Prop
 |mk (es ep t:_) (h0:bY w h a es ep t) (h1:(es.toList.map hZ).Perm ss):iL w h a ss
theorem Ag (t:iF) (es:Array (Int×a9)) (h:Int) (x:a9):(layNew t es h x).2.1.led=t.led:=by
 unfold layNew;cases t.freeSlot h with
 |none=>rfl
 |some p =>
  obtain ⟨slot,d⟩:=p;show ((t.put slot).1.orStandIn _).led=_;unfold zw;split<;>rfl
theorem wB (t:iF) (es:Array (Int×a9)) (h:Int) (x:a9):t.plain=false->(layNew t es h x).2.1.plain=false:=by
 intro hp;unfold layNew;cases t.freeSlot h with
 |none=>rfl
 |some p =>
  obtain ⟨slot,d⟩:=p;show ((t.put slot).1.orStandIn _).plain=_;unfold zw;split
  ·exact hp
  ·rfl
theorem yf {t t':iF}{hs:Array Int}{n:Nat}{o:Array Nat} (h:t.relaid hs n=some (t',o)):t'.led=t.led/\t'.plain=t.plain:=by
 unfold BS ux at h;cases e:oE (bG n-1) hs with
 |none=>rw [e] at h;cases h
 |some ow =>
  rw [e] at h;have h:=a_ h;have h1:=congrArg Prod.fst h;subst h1;exact ⟨rfl,rfl⟩
theorem Cd (t:iF) (es:Array (Int×a9)) (n:Nat):(pW t es n).2.1.led=t.led/\(t.plain=false->(pW t es n).2.1.plain=false):=by
 unfold pW;cases e:t.relaid (es.map (·.1)) n with
 |none=>exact ⟨rfl,fun _=>rfl⟩
 |some p =>
  obtain ⟨t',o⟩:=p;obtain ⟨h1,h2⟩:=yf e;dsimp only;split
  ·exact ⟨h1,fun h=>h2.trans h⟩
  ·exact ⟨rfl,fun _=>rfl⟩
theorem Ea   (h:∀ e∈l,nX w e):ElemsOf (strKind P w) l:=fun e he=>by
 obtain ⟨x,tk,rfl⟩:=h e he;exact ⟨⟨x,by simp [PySem.strKind,oA],rfl⟩,rfl⟩
theorem MU (P:aJ) (w:aS) (x:Str) (tk:Tok):(strKind P w).is x (.str x tk)=true:=by simp [PySem.strKind,oA]
theorem B4   (h:nX w e) (x:Str):(strKind P w).is x e.2=true↔hZ e=x:=by
 obtain ⟨y,tk,rfl⟩:=h;constructor
 ·intro q;have:=(strKind P w).inj _ _ _ q (MU P w y tk);rw [this];rfl
 ·rintro rfl;exact MU P w _ tk
section
theorem mG     (I:bY w h a es ep t):(h.update a (lQ es' t')).get? a=some { cls:=.type "set",dict:=none,data:=.set es' (ep+1) t' }:=by
 have q:=cC (lQ es' t') I.at_ rfl;exact q
theorem vC     (hS:iL w s.heap a ss) (hr:ss.length+1<e_)
  (h:∀ h' tk',b9 a s.heap h'->iL w h' a (if x∈ss then ss else ss++[x])->Q (!decide (x∈ss)) { s with heap:=h',toks:=tk' }) :
  ai (ax P w) A (setAddHashed a (.str x tk) ((strKind P w).hash x)) Q E s:=by
 obtain ⟨es,ep,t,I,pm⟩:=hS
 have hlen:es.size=ss.length:=by rw [<- pm.length_eq,aN,am]
 have hel:ElemsOf (strKind P w) es.toList:=Ea I.txt
 unfold setAddHashed setAddHashedIn
 refine bw (a6 (aX (s:=s) I.at_ rfl I.fits ?_))
 dsimp only
 rw [byScan_of rfl I.few hel]
 rw [if_pos rfl]
 unfold setAddByScan
 refine a6 (a6 (eN (a6 (wpAny_setScan_of (s:=s) (MU P w x tk) I.at_ rfl I.fits hel ?_))))
 have inmem:x∈ss↔∃ e∈es.toList,(strKind P w).is x e.2=true:=by
  rw [<- pm.mem_iff,List.mem_map]
  constructor
  ·rintro ⟨e,he,q⟩;exact ⟨e,he,(B4 (I.txt e he) x).mpr q⟩
  ·rintro ⟨e,he,q⟩;exact ⟨e,he,(B4 (I.txt e he) x).mp q⟩
 cases hf:List.findIdx? (fun e=>(strKind P w).is x e.2) es.toList with
 |some j =>
  obtain ⟨hj,hp,_⟩:=List.findIdx?_eq_some_iff_getElem.mp hf
  have hin:x∈ss:=inmem.mpr ⟨_,ls hj,hp⟩
  have q:=h s.heap s.toks (.refl ..) (by rw [if_pos hin];exact ⟨es,ep,t,I,pm⟩)
  rw [decide_eq_true hin] at q
  exact a8 (a8 q)
 |none =>
  have hout:x∉ss:=fun z=>by
   obtain ⟨e,he,q⟩:=inmem.mp z
   rw [List.findIdx?_eq_none_iff.mp hf e he] at q
   cases q
  have h:=fun h' tk' sb=>h h' tk' sb
  rw [decide_eq_false hout,if_neg hout] at h
  have p1:=layNew_perm t es ((strKind P w).hash x) (.str x tk)
  have f1:=layNew_fits t es ((strKind P w).hash x) (.str x tk)
  have l1:=Ag t es ((strKind P w).hash x) (.str x tk)
  have q1:=wB t es ((strKind P w).hash x) (.str x tk)
  generalize layNew t es ((strKind P w).hash x) (.str x tk)=L at p1 f1 l1 q1 ⊢
  obtain ⟨es1,t1,wd,gv⟩:=L
  dsimp only at p1 f1 l1 q1 ⊢
  rw [D7] at p1
  have tx1:∀ e∈es1.toList,nX w e:=fun e he=>by
   rcases List.mem_append.mp (p1.mem_iff.mp he) with z|z
   ·exact I.txt e z
   ·rw [dR] at z;exact ⟨x,tk,z⟩
  have km:(es1.toList.map hZ).Perm (ss++[x]):=(p1.map hZ).trans (by rw [List.map_append];exact pm.append_right _)
  have nd1:(ss++[x]).Nodup:=by
   rw [Dp]
   exact ⟨pm.nodup_iff.mp I.nd,by simp,fun y hy z hz e=>hout (by rw [dR] at hz;rw [<- hz,<- e];exact hy)⟩
  have sz1:es1.size=es.size+1:=by rw [<- am,p1.length_eq,bo,am];rfl
  have few1:es1.size<e_:=by omega
  have gw:∀ (b:Bool) {s₁:ae}{Q':Unit->ae->Prop},Q' () s₁->ai (ax P w) A (match b with|true=>rule "set.scan.the-table-gave-way" | false=>pure ()) Q' E s₁ :=
   fun b _ _ z=>by cases b<;>first|exact a8 z|exact eN z
  have tail:∀ t2:iF,t2.fits es1.size=true->t2.led=t.led->t2.plain=false->ai (ax P w) A (do
    storeSet a es1 t2
    if (!wd&&t2.tooFull)=true then do
      (match (pW t2 es1 (fi es1.size)).2.2 with|true=>rule "set.scan.the-table-gave-way" | false=>pure ())
      storeSet a (pW t2 es1 (fi es1.size)).1 (pW t2 es1 (fi es1.size)).2.1
      pure (some true)
     else pure (some true)) (fun r s'=>r=some true/\Q true s') E s:=fun t2 f2 l2 n2=>by
   refine a6 (fX (s:=s) I.at_ rfl ?_ (dI few1))
   have at1:=mG (es':=es1) (t':=t2) I
   have sb1:=bb s.heap a (lQ es1 t2)
   have I1:bY w (s.heap.update a (lQ es1 t2)) a es1 (ep+1) t2:=⟨at1,tx1,km.nodup_iff.mpr nd1,few1,f2,l2.trans I.led,.inr n2⟩
   split
   ·have p2:=relayAll_perm t2 es1 (fi es1.size)
    have f3:=relayAll_fits t2 es1 (fi es1.size)
    have l3:=Cd t2 es1 (fi es1.size)
    generalize pW t2 es1 (fi es1.size)=R3 at p2 f3 l3 ⊢
    obtain ⟨es2,t3,gv2⟩:=R3
    dsimp only at p2 f3 l3 ⊢
    have few2:es2.size<e_:=by rw [<- am,p2.length_eq,am];exact few1
    have km2:=(p2.map hZ).trans km
    refine a6 (gw _ (a6 (fX (s:={ s with heap:=s.heap.update a (lQ es1 t2) }) I1.at_ rfl ?_ (dI few2))))
    refine a8 ⟨rfl,h _ _ (sb1.trans (bb _ a _)) ⟨es2,ep+1+1,t3,⟨mG I1,fun e he=>tx1 e (p2.mem_iff.mp he),km2.nodup_iff.mpr nd1,few2,f3,l3.1.trans (l2.trans I.led),.inr (l3.2 n2)⟩,km2⟩⟩
   ·exact a8 ⟨rfl,h _ _ sb1 ⟨es1,ep+1,t2,I1,km⟩⟩
  refine a6 (gw gv ?_)
  cases hp:t1.plain with
  |true =>
   simp only [if_true]
   rw [hashByValue_scannable 8 (x:=.str x tk) rfl]
   refine a6 (a8 ?_)
   refine bu (tail { t1 with plain:=false } (by cases t1;exact f1) l1 rfl) (fun r s' z=>?_) fun _ _ z=>z
   obtain ⟨rfl,z⟩:=z
   exact a8 z
  |false =>
   simp only [bx,if_false]
   refine a6 (a8 ?_)
   refine bu (tail t1 f1 l1 hp) (fun r s' z=>?_) fun _ _ z=>z
   obtain ⟨rfl,z⟩:=z
   exact a8 z
theorem yg     (hS:iL w s.heap a ss) (hr:ss.length+1<e_)
  (h:∀ h' tk',b9 a s.heap h'->iL w h' a (if x∈ss then ss else ss++[x])->Q (!decide (x∈ss)) { s with heap:=h',toks:=tk' }) :
  ai (ax P w) A (setAdd a (.str x tk)) Q E s:=by
 unfold setAdd;refine bw (a6 ((strKind P w).pyHash (k:=x) (MU P w x tk) ?_));exact vC (s:={ s with toks:=s.toks+1 }) hS hr h
end
end
section
abbrev e8 (w:aS):Obj:={ cls:=.type "set",dict:=none,data:=.set #[] 0 (.fresh 0 0 (!w.params.followText "set-order")) }
theorem vD (w:aS)  (e:h.get? a=some (e8 w)):iL w h a [] :=
 ⟨#[],0,_,⟨e,fun e he=>by simp at he,by simp,by decide,rfl,rfl,.inl rfl⟩,by simp⟩
def eA:List Str->List Str->List Str
 |acc,[]=>acc
 |acc,x::r=>eA (if x∈acc then acc else acc++[x]) r
theorem vE:∀ (l acc:List Str) (x:Str),x∈eA acc l↔x∈acc\/x∈l
 |[],acc,x=>by simp [eA]
 |y::r,acc,x=>by
  rw [eA,vE r];by_cases h:y∈acc
  ·rw [if_pos h];simp only [aM];constructor
   ·exact fun z=>z.elim .inl fun z=>.inr (.inr z)
   ·rintro (z|z|z)
    ·exact .inl z
    ·exact .inl (z ▸ h)
    ·exact .inr z
  ·rw [if_neg h];simp [uw,or_assoc]
theorem qU:∀ (l acc:List Str),acc.Nodup->(eA acc l).Nodup
 |[],acc,h=>h
 |y::r,acc,h=>by
  rw [eA];refine qU r _ ?_;by_cases hy:y∈acc
  ·rw [if_pos hy];exact h
  ·rw [if_neg hy,Dp];exact ⟨h,by simp,fun a ha b hb e=>hy (by rw [dR] at hb;rw [<- hb,<- e];exact ha)⟩
theorem o_:∀ (l acc:List Str),(eA acc l).length<=acc.length+l.length
 |[],acc=>by simp [eA]
 |y::r,acc=>by
  rw [eA];have:=o_ r (if y∈acc then acc else acc++[y]);by_cases hy:y∈acc
  ·rw [if_pos hy] at this ⊢;simp only [bE];omega
  ·rw [if_neg hy] at this ⊢;simp only [bE,bo,iq,lO] at this ⊢;omega
section
theorem iL.keep   (x:iL w h a ss) (k:∀ o,h.get? a=some o->h'.get? a=some o):iL w h' a ss :=
 let ⟨es,ep,t,I,p⟩:=x;⟨es,ep,t,⟨k _ I.at_,I.txt,I.nd,I.few,I.fits,I.led,I.pl⟩,p⟩
theorem uM {I:ac}{fp wr:List ac}{n:Nat}{Pv:Nat->a9->Prop}{St:Nat->aW->Prop} (W:Gm prog w A.in1 I fp wr n Pv St) (D:ac) (hD:D∉fp) (xs:List Str) (hx:xs.length=n)
  (hv:∀ i v,Pv i v->∃ x t,xs[i]?=some x/\v=.str x t) (hb:n+1<e_) :
  ∀ (k i:Nat) (s:ae) (acc:List Str),n-i=k->i<=n->acc.length<=i->St i s.heap->iL w s.heap D acc ->
   (∀ h' tk,(∀ b o,b∉D::wr->s.heap.get? b=some o->h'.get? b=some o)->iL w h' D (eA acc (xs.drop i))->R (.ok (.ret .none)) { s with heap:=h',toks:=tk }) ->
   em (ax prog w) A (.builtin "set.update.loop" ⟨[.ref D,.ref I],[]⟩) R s:=by
 have hDw:D∉wr:=fun z=>hD (W.sub _ z);intro k;induction k with
 |zero =>
  intro i s acc hk hi hl st hS hR;obtain rfl:i=n:=by omega
  refine dk kF ?_;rw [cP fh _];show ai _ A.in1 (i8 (.ref I) >>= _) _ _ s;refine a6 (W.done s _ _ st fun h' tk kp=>?_);refine a8 (hR h' tk (fun b o hb e=>kp b o (fun z=>hb (ah _ z)) e) ?_);rw [List.drop_of_length_le (by omega)];exact hS.keep fun o e=>kp D o hDw e
 |succ k ih =>
  intro i s acc hk hi hl st hS hR;have hlt:i<n:=by omega
  refine dk kF ?_;rw [cP fh _];show ai _ A.in1 (i8 (.ref I) >>= _) _ _ s;refine a6 (W.item i s _ _ hlt st fun v h' tk hP st' kp=>?_);obtain ⟨x,t,hxi,rfl⟩:=hv i v hP;have hS':iL w h' D acc:=hS.keep fun o e=>kp D o hDw e;refine a6 (bw (yg (s:={ s with heap:=h',toks:=tk }) hS' (by omega) fun h2 tk2 sb hS2=>?_));refine a8 ⟨fR fh _,ih (i+1) _ (if x∈acc then acc else acc++[x]) (by omega) hlt ?_ (W.frame _ _ _ st' fun b hb o e=>?_) hS2 fun h3 tk3 k3 hS3=>?_⟩
  ·by_cases z:x∈acc
   ·rw [if_pos z];omega
   ·rw [if_neg z,bo,iq];omega
  ·rw [sb.2 b fun z=>hD (z ▸ hb)];exact e
  ·refine hR h3 tk3 (fun b o hb e=>k3 b o hb ?_) ?_
   ·rw [sb.2 b fun z=>hb (by rw [z];exact ao)];exact kp b o (fun z=>hb (ah _ z)) e
   ·have hd:xs.drop i=x::xs.drop (i+1):=by
     obtain ⟨h1,h2⟩:=List.getElem?_eq_some_iff.mp hxi;rw [wc h1,h2]
    rw [hd,eA];exact hS3
theorem Eb (a:a9) (h:Q₁ (.ref s.heap.objs.size) { s with heap:=s.heap.push (e8 w) }) :
  em (ax prog w) A (.call (.builtin "set.__new__") ⟨[.type "set",a],[]⟩) (wants Q₁ E) s:=by
 refine xO ?_;show ai _ A.in1 (do we "set.__new__" ⟨[.type "set",a],[]⟩;again (.builtin "set.__new__" ⟨[.type "set",a],[]⟩)) _ _ s;refine a6 (cK (F.newCall_set_1 a) (a8 ⟨fR F.plain_set_new _,dk F.entry_set_new ?_⟩));rw [cP F.plain_set_new _];unfold fY.«set.__new__» Gn;have hsub:=Dq;obtain ⟨hp,g,d,tk,os⟩:=s;dsimp only;wp_walk;refine f9 (a8 ?_);dsimp only;simp only [newObj];refine a6 (Gk (a8 ?_));exact a8 h
structure K9 (prog:aJ) (w:aS) (A:aR) (T:String) (l:ac) (o:Obj) (items:Array a9):Prop where
 ty:o.cls=.type T
 s1:isSubtype (.type T) (.type "set")=pure false
 s2:isSubtype (.type T) (.type "frozenset")=pure false
 nd:(jk T==jk "dict")=false
 iter:∀ (s:ae) (Q:a9->ae->Prop) (E:a9->ae->Prop),s.heap.get? l=some o ->
  (∀ ob St,Gm prog w A.in1 s.heap.objs.size [s.heap.objs.size,l] [s.heap.objs.size] items.size (fun i v=>items[i]?=some v) St->St 0 (s.heap.push ob)->Q (.ref s.heap.objs.size) { s with heap:=s.heap.push ob })->ai (ax prog w) A (sx (.ref l)) Q E s
theorem p7 {T:String}{l:ac}{ol:Obj}{items:Array a9}{xs:List Str}{Q:a9->ae->Prop}
  (src:K9 prog w A.in1.in1 T l ol items) (hol:s.heap.get? l=some ol) (hi:∀ (i:Nat) (v:a9),items[i]?=some v->∃ x t,xs[i]?=some x/\v=gU x t) (hx:xs.length=items.size) (hb:items.size+1<e_)
  (h:∀ (h':aW) (tk:Nat),iL w h' s.heap.objs.size (eA [] xs)->(∀ b o,s.heap.get? b=some o->h'.get? b=some o)->Q (.ref s.heap.objs.size) { s with heap:=h',toks:=tk }) :
  ai (ax prog w) A (call (.type "set") [.ref l]) Q E s:=by
 obtain ⟨c,tl,hmro⟩:=F.called_set.mro;have hmade:=F.called_set.made;have hsub:=F.called_set.sub;refine kO (xO ?_);show ai _ _ (callAny (.type "set") _) _ _ _;refine a8 ⟨D8 _ (by decide +kernel),dk F.entry_type_call ?_⟩;rw [Around.under_plain (weight_type_call_type "set" [.ref l] []) rfl];have h1:=F.called_set.notType;have h2:=F.called_set.canCreate;have hct:=F.typeCall_set_1 (.ref l);repeat (any_goals (first|assumption|wp_step))
 refine iC (Eb (.ref l) (E:=E) (Q₁:=fun obj s₁=>obj=.ref s.heap.objs.size/\s₁={ s with heap:=s.heap.push (e8 w) }) ⟨rfl,rfl⟩) fun r s₁ hr=>?_;cases r with
 |error e=>exact hr
 |ok fl =>
  cases fl with
  |ret obj =>
   obtain ⟨rfl,rfl⟩:=hr;have hS:(s.heap.push (e8 w)).get? s.heap.objs.size=some (e8 w):=av _ rfl;have hT:Go { s with heap:=s.heap.push (e8 w) } (.ref s.heap.objs.size) "set":=⟨_,hS,rfl⟩;have hli:=F.called_set.init.lookup;have hbi:=F.called_set.init.bind (.ref s.heap.objs.size);repeat (any_goals (first|assumption|wp_step))
   refine iC (jn (R:=wants (fun r s₂=>r=.none/\∃ h' tk,s₂={ s with heap:=h',toks:=tk }/\iL w h' s.heap.objs.size (eA [] xs) /\
     (∀ b o,s.heap.get? b=some o->h'.get? b=some o)) E) F.called_set.init.plain F.entry_set_init (check_set_init_1 hT ?_)) fun r₂ s₂ hr₂=>?_
   ·obtain ⟨oc,od,odt,os'⟩:=ol;obtain ⟨ty,s1,s2,nd,iter⟩:=src;have ty:oc=.type T:=ty;subst ty;have hol':(s.heap.push (e8 w)).get? l=some { cls:=.type T,dict:=od,data:=odt,slots:=os' }:=ag _ hol;unfold fY.«set.__init__» noKeywords gQ;generalize hPI:sx=PI;wp_walk;subst hPI;refine iter { s with heap:=s.heap.push (e8 w) } _ _ hol' fun ob St W st=>?_;have hlS:l<s.heap.objs.size:=al hol;refine a6 (wpAny_runValue ?_);have szp:(s.heap.push (e8 w)).objs.size=s.heap.objs.size+1:=bU ..;refine uM (A:=A.in1.in1) W s.heap.objs.size (by rw [szp];simp only [aM,bv,or_false,not_or];exact ⟨aA (eO _),eY hlS⟩) xs hx hi hb items.size 0 _ [] (by omega) (eB _) (aq _) st (vD w (ag _ hS)) fun h' tk kp hS'=>?_;show ai _ _ _ _ _ _;refine a8 ?_;show ai _ _ (ret cx) _ _ _;refine a8 ⟨rfl,h',tk,rfl,hS',fun b o e=>kp b o ?_ (ag _ (ag _ e))⟩;have:=al e;rw [szp];simp only [aM,bv,or_false,not_or];exact ⟨aA this,aA (fJ this)⟩
   ·cases r₂ with
    |error e=>exact hr₂
    |ok fl₂ =>
     cases fl₂ with
     |ret r =>
      obtain ⟨rfl,h',tk,rfl,hS',hk'⟩:=hr₂;repeat (any_goals (first|assumption|wp_step))
      exact h _ _ hS' hk'
     |next=>exact hr₂.elim
     |brk=>exact hr₂.elim
     |cont=>exact hr₂.elim
  |next=>exact hr.elim
  |brk=>exact hr.elim
  |cont=>exact hr.elim
theorem Ec {l:ac}{o:Obj}{its:List a9} (hh:A.handled=none) (e0:o.cls=.type "list") (e1:∃ n,o.data=.seq its.toArray n):K9 prog w A "list" l o its.toArray :=
 ⟨e0,F.sub_list_set,F.sub_list_frozenset,by decide,fun s Q E e h=>iB ⟨_,e,e0,e1⟩
  (h _ _ (lz (by simpa using hh) _ l (aA (al e)) its.toArray) ⟨⟨_,av _ rfl,rfl,rfl⟩,⟨_,ag _ e,e0,e1⟩⟩)⟩
theorem Hj {l:ac}{o:Obj}{its:List a9} (hh:A.handled=none) (e0:o.cls=.type "tuple") (e1:∃ n,o.data=.seq its.toArray n):K9 prog w A "tuple" l o its.toArray :=
 ⟨e0,F.sub_tuple_set,F.sub_tuple_frozenset,by decide,fun s Q E e h=>kL ⟨_,e,e0,e1⟩
  (h _ _ (Walks.tuple (by simpa using hh) _ l (aA (al e)) its.toArray) ⟨⟨_,av _ rfl,rfl,rfl⟩,⟨_,ag _ e,e0,e1⟩⟩)⟩
end
end
end L2
section
namespace L2
open PySem PySem.Spec PyProof.Rows
namespace SI
theorem entry_iter:zM table "set.__iter__"=some fY.«frozenset.__iter__» :=
 zN (id':="frozenset.__iter__") (by kernel_rfl) rfl (by decide +kernel) (by kernel_rfl)
theorem slot_next:Slot "set_iterator" "__next__" "set_iterator.__next__":=by
 refine .of (owner:="set_iterator") (n:="__next__") ?_ ?_ ?_ ?_ ?_ ?_
 ·rw [typeLookup_type,G8];kernel_rfl
 ·decide +kernel
 ·decide +kernel
 ·decide +kernel
 ·first
   |exact .inl (by decide +kernel)
   |exact .inr (by decide +kernel)
 ·rw [zO];kernel_rfl
theorem entry_next:zM table "set_iterator.__next__"=some fY.«set_iterator.__next__» :=
 entryFor_of_tree (by kernel_rfl)
theorem yh:Manifest.owners.lookup (String.ofList ['r','o','t','a','r','e','t','i','_','t','e','s'].reverse)=some Manifest.sig_set_iterator:=by kernel_rfl
theorem args_next (a:a9):argsOk "set_iterator.__next__" ⟨[a],[]⟩:=by
 unfold argsOk;rw [signature?_of (id:="set_iterator.__next__") (n:=['_','_','t','x','e','n','_','_']) (o:=['r','o','t','a','r','e','t','i','_','t','e','s']) (by kernel_rfl) yh]
 kernel_rfl
theorem args_iter (a:a9):argsOk "set_iterator.__iter__" ⟨[a],[]⟩:=by
 unfold argsOk;rw [signature?_of (id:="set_iterator.__iter__") (n:=['_','_','r','e','t','i','_','_']) (o:=['r','o','t','a','r','e','t','i','_','t','e','s']) (by kernel_rfl) yh]
 kernel_rfl
theorem entry_self:zM table "set_iterator.__iter__"=some fY.«dict_keyiterator.__iter__» :=
 zN (id':="dict_keyiterator.__iter__") (by kernel_rfl) rfl (by decide +kernel) (by kernel_rfl)
theorem slot_iter:Slot "set_iterator" "__iter__" "set_iterator.__iter__":=by
 refine .of (owner:="set_iterator") (n:="__iter__") ?_ ?_ ?_ ?_ ?_ ?_
 ·rw [typeLookup_type,G8];kernel_rfl
 ·decide +kernel
 ·decide +kernel
 ·decide +kernel
 ·first
   |exact .inl (by decide +kernel)
   |exact .inr (by decide +kernel)
 ·rw [zO];kernel_rfl
end SI
end L2
end
namespace L2
open PySem PySem.Spec PyProof.Rows
section
theorem nY {α:Type}:∀ {l:List α}{i:Nat} (h:i<l.length),(l[i]::l.eraseIdx i).Perm l
 |x::r,0,_=>.refl _
 |x::r,i+1,h=>by
  have q:=nY (l:=r) (i:=i) (by simpa using h);rw [List.getElem_cons_succ,List.eraseIdx_cons_succ];exact (List.Perm.swap _ _ _).trans (q.cons x)
section
theorem Ce   (hn:n≠0) (h:∀ i d,i<n->Q i { s with drawn:=d }):ai M A (choose src n) Q E s :=
 fun _ _ _=>⟨hn,h _ _ (wf _ (Nat.pos_of_ne_zero hn))⟩
theorem p9 {α:Type}:∀ (n:Nat) (xs:List α) (s:ae) (Q:List α->ae->Prop),n=xs.length->(∀ ys d,ys.Perm xs->Q ys { s with drawn:=d })->ai M A (drawOrder n xs) Q E s
 | 0,xs,s,Q,hn,h=>by
  obtain rfl:xs=[]:=List.length_eq_zero_iff.mp hn.symm;exact a8 (h [] s.drawn .nil)
 |n+1,[],s,Q,hn,h=>by cases hn
 |n+1,x::r,s,Q,hn,h=>by
  show ai M A (choose .order (x::r).length >>= _) Q E s;refine a6 (Ce (by simp) fun i d hi=>?_);rw [aY hi];refine a6 (p9 n _ _ _ (by rw [vg hi];omega) fun ys d' p=>a8 ?_);exact h _ _ ((p.cons _).trans (nY hi))
end
theorem wC {α:Type} (next:Nat->Nat):∀ (n k:Nat) (left:List α) (out:Array α),n=left.length->(uF next n k left out).toList.Perm (out.toList++left)
 | 0,k,left,out,hn=>by
  obtain rfl:left=[]:=List.length_eq_zero_iff.mp hn.symm;rw [uF,bT]
 |n+1,k,left,out,hn=>by
  have hl:next k % left.length<left.length:=wf _ (by omega)
  rw [uF,aY hl];refine (wC next n (k+1) _ _ (by rw [vg hl];omega)).trans ?_;rw [D7,Do];exact (nY hl).append_left _
theorem qf {α:Type} (next:Nat->Nat) (xs:Array α):(kG next xs).toList.Perm xs.toList:=by
 have:=wC next xs.size 0 xs.toList #[] (by simp)
 simpa [kG] using this
def wD (h:aW) (I S:ac) (first:a9) (i n ep:Nat):Prop:=h.get? I=some { cls:=.type "set_iterator",data:=.fields #[first,.int i 0,.ref S,.int n 0,.int ep 0] }
section
theorem wD.put {f f':a9}{j j':Nat}{k:Nat}{x:a9}{h:aW} (hit:wD h I S f j n ep) (e:(#[f,.int j 0,.ref S,.int n 0,.int ep 0] : Array a9).setIfInBounds k x=#[f',.int j' 0,.ref S,.int n 0,.int ep 0]) :
  wD (h.update I (cZ (·.setIfInBounds k x))) I S f' j' n ep:=by
 have q:=cC (cZ (·.setIfInBounds k x)) hit rfl;unfold wD;rw [q];show some ({ cls:=.type "set_iterator",data:=.fields ((#[f,.int j 0,.ref S,.int n 0,.int ep 0] : Array a9).setIfInBounds k x) }:Obj)=_;rw [e]
theorem mH (hit:wD s.heap I S first i n ep) (hS:bY w s.heap S es ep t) (hn:n=es.size)
  (h:ai (ax prog w) A.in1 (do
   if let .int slot _:=first then
    match <- Dr S slot.toNat i ep with
    |some (x,next) =>
     fc (.ref I) 0 (bB next)
     fc (.ref I) 1 (bB (i+1))
     ret x
    |none=>fc (.ref I) 2 .none;mW (<- nQ (.type "StopIteration") [])
   else
    let some places <- mX first|Gp "internal:set_iterator"
    match places[i]? with
    |some (.int place _) =>
     let x <- setNextDrawn S place.toNat ep
     fc (.ref I) 1 (bB (i+1))
     ret x
    |some _=>Gp "internal:set_iterator"
    |none=>fc (.ref I) 0 (bB 0);fc (.ref I) 2 .none;mW (<- nQ (.type "StopIteration") []))
   (fun fin s'=>∃ v,fin=.done (.ret v)/\Q (some v) s') (fun e s'=>ai (ax prog w) A (zQ e (.type "StopIteration")) (fun b s''=>b=true/\Q none s'') E s') s) :
  ai (ax prog w) A (i8 (.ref I)) Q E s:=by
 unfold i8;refine a6 (hV ?_);refine bP (name:=dm "__next__") ⟨_,hit,rfl⟩ SI.slot_next ?_;refine bz SI.slot_next ⟨_,hit,rfl⟩ SI.entry_next ?_ (SI.args_next _);show ai _ _ (fieldsOf (.ref I) >>= _) _ _ s;refine a6 (zR hit rfl ?_);show ai _ _ (setEntries S >>= _) _ _ s;refine a6 (wpAny_setEntries_of hS.at_ rfl hS.fits ?_);rw [if_neg (by rw [hn];simp)];refine bu h (fun fin s' z=>?_) fun e s' z=>?_
 ·obtain ⟨v,rfl,q⟩:=z;exact ⟨v,rfl,a8 q⟩
 ·refine a6 (bu z (fun b s'' ⟨hb,q⟩=>?_) fun _ _ z=>z);subst hb;exact a8 q
theorem wE {B:aR}{Q:Option a9->ae->Prop}{Q':Fin->ae->Prop}{o:Obj}{vs:Array a9} (hh:B.handled=none) (ho:s.heap.get? I=some o) (hd:o.data=.fields vs) (hz:2<vs.size)
  (h:∀ h',sD I s.heap h'->Q none { s with heap:=h' }) :
  ai (ax prog w) B (do fc (.ref I) 2 .none;mW (<- nQ (.type "StopIteration") []))
   Q' (fun e s'=>ai (ax prog w) A (zQ e (.type "StopIteration")) (fun b s''=>b=true/\Q none s'') E s') s:=by
 refine a6 (ej ho hd hz ?_);show ai _ _ (nQ (.type "StopIteration") [] >>= _) _ _ _;refine a6 ?_;simp only [nQ,Gq];refine a6 (bg ?_ (by size_fits));refine a6 (m:=iG _ _) (cK (a:=cx) ?_ ?_)
 ·first
   |rfl
   |(simp only [iG];rfl)
 refine bg ?_ (by size_fits);simp only [mW];refine a6 (BU ?_);rw [hh];refine a6 (a8 (Gr ?_));refine gR (T:="StopIteration") (b:=true) ⟨_,av _ rfl,rfl⟩ zS ⟨rfl,?_⟩;exact h _ (((bb ..).extBut.push _).push _)
end
end
section
section
variable {prog:aJ}{w:aS}{A:aR}{E:a9->ae->Prop}{s:ae}{I S:ac}{es:Array (Int×a9)}{ep:Nat}{t:iF}{i n:Nat}{first:a9}
theorem bY.keep (x:bY w h S es ep t) (k:∀ o,h.get? S=some o->h'.get? S=some o):bY w h' S es ep t:=⟨k _ x.at_,x.txt,x.nd,x.few,x.fits,x.led,x.pl⟩
theorem wF {Q:a9->ae->Prop} (hit:wD s.heap I S first i n ep) (h:Q (.ref I) s):ai (ax prog w) A (sx (.ref I)) Q E s:=by
 refine uG ⟨_,hit,rfl⟩ SI.slot_iter (bz SI.slot_iter ⟨_,hit,rfl⟩ SI.entry_self ?_ (SI.args_iter _));show ai _ _ (ret (.ref I)) _ _ s;exact a8 ⟨_,rfl,"set_iterator",_,⟨_,hit,rfl⟩,SI.slot_next.lookup,h⟩
theorem dE {Q:Bool->ae->Prop}{B:aR} (h:Q (w.params.followText "set-order") s):ai (ax prog w) B setsByText Q E s:=by
 unfold setsByText;exact a6 (f9 (a8 h))
theorem Ed {B:aR}{Q':Fin->ae->Prop}{x:a9}{nx:Nat}{E':a9->ae->Prop} (hit:wD s.heap I S first i n ep)
  (h:∀ h',wD h' I S (.int nx 0) (i+1) n ep->b9 I s.heap h'->Q' (.done (.ret x)) { s with heap:=h' }) :
  ai (ax prog w) B (do fc (.ref I) 0 (bB nx);fc (.ref I) 1 (bB (i+1));ret x) Q' E' s:=by
 refine a6 (ej hit rfl (by simp) ?_);have h1:wD (s.heap.update I (cZ (·.setIfInBounds 0 (bB nx)))) I S (.int nx 0) i n ep:=hit.put (by simp [bB]);refine a6 (ej h1 rfl (by simp) ?_);have h2:wD ((s.heap.update I (cZ (·.setIfInBounds 0 (bB nx)))).update I (cZ (·.setIfInBounds 1 (bB (i+1))))) I S (.int nx 0) (i+1) n ep:=h1.put (by simp [bB]);exact a8 (h _ h2 ((bb ..).trans (bb ..)))
theorem qg (f:Nat->Nat) (es:Array (Int×a9)):(kG f es).size=es.size:=by
 rw [<- am,(qf f es).length_eq,am]
theorem Ah (hh:A.handled=none) (hw:w.params.followText "set-order"=true) (hne:S≠I) :
  Gm prog w A I [I,S] [I] es.size (fun i v=>((kG (w.params.setOrder S ep) es).toList.map (·.2))[i]?=some v) (fun i h=>wD h I S (.int 0 0) i es.size ep/\bY w h S es ep t) where
 sub:=fun b hb=>by simp at hb;simp [hb]
 frame:=fun i h h' st k=>⟨k I (by simp) _ st.1,st.2.keep fun o e=>k S (by simp) o e⟩
 item:=fun i s Q E hi st hQ=>by
  obtain ⟨hit,hS⟩:=st;refine mH hit hS rfl ?_;dsimp only;unfold Dr setWalk;refine a6 (a6 (aX hS.at_ rfl hS.fits (a6 (dE ?_))));rw [hw];simp only [if_true,bne_self_eq_false,bx,if_false];refine a6 (a6 (aX hS.at_ rfl hS.fits (a6 (dE ?_))));rw [hw];simp only [if_true];refine a6 (f9 (a8 (a8 ?_)));have hi':i<(kG (w.params.setOrder S ep) es).size:=by rw [qg];exact hi
  show ai _ _ (match ((kG (w.params.setOrder S ep) es)[i]?).map fun e=>(e.2,(0:Int).toNat) with
   |some (x,next)=>do fc (.ref I) 0 (bB next);fc (.ref I) 1 (bB (i+1));ret x
   |none=>do fc (.ref I) 2 .none;mW (<- nQ (.type "StopIteration") [])) _ _ s
  rw [getElem?_pos _ i hi'];refine Ed (nx:=0) hit fun h' h1 sb=>⟨_,rfl,hQ _ h' s.toks ?_ ⟨h1,hS.keep fun o e=>(sb.2 S hne).trans e⟩ fun b o hb e=>(sb.2 b fun z=>hb (by simp [z])).trans e⟩;simp [hi']
 done:=fun s Q E st hQ=>by
  obtain ⟨hit,hS⟩:=st;refine mH hit hS rfl ?_;dsimp only;unfold Dr setWalk;refine a6 (a6 (aX hS.at_ rfl hS.fits (a6 (dE ?_))));rw [hw];simp only [if_true,bne_self_eq_false,bx,if_false];refine a6 (a6 (aX hS.at_ rfl hS.fits (a6 (dE ?_))));rw [hw];simp only [if_true];refine a6 (f9 (a8 (a8 ?_)));show ai _ _ (match ((kG (w.params.setOrder S ep) es)[es.size]?).map fun e=>(e.2,(0:Int).toNat) with
   |some (x,next)=>do fc (.ref I) 0 (bB next);fc (.ref I) 1 (bB (es.size+1));ret x
   |none=>do fc (.ref I) 2 .none;mW (<- nQ (.type "StopIteration") [])) _ _ s
  rw [getElem?_neg _ es.size (by rw [qg];exact bX _)];exact wE (by simpa using hh) hit rfl (by simp) fun h' eb=>hQ h' s.toks fun b o hb e=>eb b o (fun z=>hb (by simp [z])) e
 self:=fun i s Q E st h=>wF st.1 h
inductive Nx (h:aW) (T:ac) (ps:List Nat):Prop
 |mk (o k:_) (h0:h.get? T=some o) (h1:o.data=.seq (ps.map fun (p:Nat)=>kJ (p:Int) 0).toArray k):Nx h T ps
theorem yi (hh:A.handled=none)  (hne:S≠I) (hT:T≠I) (hp:∀ p∈ps,p<es.size) (hn:ps.length=es.size) :
  Gm prog w A I [I,S,T] [I] es.size (fun i v=>(ps.map fun p=>(es.getD p (0,.none)).2)[i]?=some v) (fun i h=>wD h I S (.ref T) i es.size ep/\bY w h S es ep t/\Nx h T ps) where
 sub:=fun b hb=>by simp at hb;simp [hb]
 frame:=fun i h h' st k=>⟨k I (by simp) _ st.1,st.2.1.keep fun o e=>k S (by simp) o e,let ⟨o,q,e,d⟩:=st.2.2;⟨o,q,k T (by simp) o e,d⟩⟩
 item:=fun i s Q E hi st hQ=>by
  obtain ⟨hit,hS,o,q,e,d⟩:=st;refine mH hit hS rfl ?_;dsimp only;refine a6 (cr e d ?_);have hi':i<ps.length:=by omega
  dsimp only;rw [show ((ps.map fun (p:Nat)=>kJ (p:Int) 0).toArray)[i]?=some (.int (ps[i] : Nat) 0) by simp [hi']];dsimp only;unfold setNextDrawn;refine a6 (a6 (aX hS.at_ rfl hS.fits ?_));have hlt:=hp ps[i] (ls hi');simp only [bne_self_eq_false,bx,if_false,rE];rw [getElem?_pos es ps[i] hlt];refine a8 ?_;refine a6 (ej hit rfl (by simp) ?_);have h1:wD (s.heap.update I (cZ (·.setIfInBounds 1 (bB (i+1))))) I S (.ref T) (i+1) es.size ep:=hit.put (by simp [bB]);have sb:b9 I s.heap (s.heap.update I (cZ (·.setIfInBounds 1 (bB (i+1))))):=bb ..;refine a8 ⟨_,rfl,hQ _ _ s.toks ?_ ⟨h1,hS.keep fun o e=>(sb.2 S hne).trans e,o,q,(sb.2 T hT).trans e,d⟩ fun b o hb e=>(sb.2 b fun z=>hb (by simp [z])).trans e⟩;simp [hi',hlt]
 done:=fun s Q E st hQ=>by
  obtain ⟨hit,hS,o,q,e,d⟩:=st;refine mH hit hS rfl ?_;dsimp only;refine a6 (cr e d ?_);dsimp only;rw [show ((ps.map fun (p:Nat)=>kJ (p:Int) 0).toArray)[es.size]?=none by simp [<- hn]];dsimp only;refine a6 (ej hit rfl (by simp) ?_);have h1:wD (s.heap.update I (cZ (·.setIfInBounds 0 (bB 0)))) I S (.int 0 0) es.size es.size ep:=hit.put (by simp [bB]);have sb:b9 I s.heap (s.heap.update I (cZ (·.setIfInBounds 0 (bB 0)))):=bb ..;exact wE (s:={ s with heap:=s.heap.update I (cZ (·.setIfInBounds 0 (bB 0))) }) (by simpa using hh) h1 rfl (by simp) fun h' eb=>hQ h' s.toks fun b o hb e=>eb b o (fun z=>hb (by simp [z])) ((sb.2 b fun z=>hb (by simp [z])).trans e)
 self:=fun i s Q E st h=>wF st.1 h
theorem Ee  (h:p=#[j]):fj p 0=0:=by subst h;simp [fj,uH]
theorem Ef {p:Array Nat}{j:Nat} (h:p=#[j]):fj p (j+1)=1:=by subst h;simp [fj,uH]
theorem Cf (h : t.fits 1 = true) : ∃ j, t.place = #[j] := by
  have h1 : t.place.size = 1 := by
    simp only [jt, ay, beq_iff_eq] at h; exact h.1
  exact ⟨t.place[0], by apply Array.ext; · simp [h1]
                        · intro i h2 h3; have : i = 0 := by omega
                          subst this; simp⟩
theorem Ka   (hl:t.led=true) (h:ai (ax prog w) B (k ()) Q E s) :
  ai (ax prog w) B ((if (!t.led && !es.isEmpty)=true then Gp "set:maker-not-led" else pure ()) >>= k) Q E s:=by
 rw [if_neg (by rw [hl];simp)];exact a6 (a8 h)
theorem pc {B:aR}{slot g:Nat}{Q:Option (a9×Nat)->ae->Prop} (hw:w.params.followText "set-order"=false) (hS:bY w s.heap S es ep t) (h1:es.size<=1)
  (h:Q (match es[fj t.place slot]?,t.place[fj t.place slot]? with|some (_,x),some j=>some (x,j+1)|_,_=>none) s):ai (ax prog w) B (Dr S slot g ep) Q E s:=by
 unfold Dr;refine a6 (aX hS.at_ rfl hS.fits (a6 (dE ?_)));rw [hw];simp only [bx,if_false];split
 ·rename_i z
  exact absurd (show (!t.plain&&decide (es.size > 1))=true from z) (by simp;omega)
 ·have hl:t.led=true:=by rw [hS.led,hw];rfl
  exact Ka hl (a8 h)
theorem Cg (hh:A.handled=none) (hw:w.params.followText "set-order"=false) (hne:S≠I) (h1:es.size<=1) :
  Gm prog w A I [I,S] [I] es.size (fun i v=>(es.toList.map (·.2))[i]?=some v)
   (fun i h=>∃ k,wD h I S (.int (k:Nat) 0) i es.size ep/\bY w h S es ep t/\(i=0->k=0)/\(i=1->es.size=1->∃ j,t.place=#[j]/\k=j+1)) where
 sub:=fun b hb=>by simp at hb;simp [hb]
 frame:=fun i h h' st k=>let ⟨c,a1,a2,a3⟩:=st;⟨c,k I (by simp) _ a1,a2.keep fun o e=>k S (by simp) o e,a3⟩
 item:=fun i s Q E hi st hQ=>by
  obtain ⟨c,hit,hS,c0,c1⟩:=st;have hi0:i=0:=by omega
  subst hi0;obtain rfl:c=0:=c0 rfl;have e1:es.size=1:=by omega
  obtain ⟨j,hj⟩:=Cf (t:=t) (by rw [<- e1];exact hS.fits);refine mH hit hS rfl ?_;dsimp only;refine a6 (pc hw hS h1 ?_);rw [show (((0:Nat):Int).toNat)=0 from rfl,Ee hj,getElem?_pos es 0 (by omega),hj];refine Ed (nx:=j+1) hit fun h' h1 sb=>⟨_,rfl,hQ _ h' s.toks ?_ ⟨j+1,h1,hS.keep fun o e=>(sb.2 S hne).trans e,by simp,fun _ _=>⟨j,hj,rfl⟩⟩ fun b o hb e=>(sb.2 b fun z=>hb (by simp [z])).trans e⟩;simp [e1]
 done:=fun s Q E st hQ=>by
  obtain ⟨c,hit,hS,c0,c1⟩:=st;refine mH hit hS rfl ?_;dsimp only;refine a6 (pc hw hS h1 ?_);have hz:es[fj t.place ((c:Nat):Int).toNat]?=none:=by
   rcases Dk es.size with z|z
   ·rw [getElem?_neg];omega
   ·have e1:es.size=1:=by omega
    obtain ⟨j,hj,hc⟩:=c1 e1 e1;rw [hc,show (((j+1:Nat):Int).toNat)=j+1 from rfl,Ef hj,getElem?_neg];omega
  rw [hz];exact wE (by simpa using hh) hit rfl (by simp) fun h' eb=>hQ h' s.toks fun b o hb e=>eb b o (fun z=>hb (by simp [z])) e
 self:=fun i s Q E st h=>let ⟨_,a1,_⟩:=st;wF a1 h
theorem Ai {Q:a9->ae->Prop} (hh:A.handled=none) (hS:bY w s.heap S es ep t)
  (h:∀ (I:ac) (fp:List ac) (ord:List a9) (St:Nat->aW->Prop) (h':aW) (d:D0),s.heap.objs.size<=I->(∀ b∈fp,b=S\/s.heap.objs.size<=b)->(∀ b∈fp,b<h'.objs.size)->ord.Perm (es.toList.map (·.2))->(∀ B:aR,B.handled=none->Gm prog w B I fp [I] ord.length (fun i v=>ord[i]?=some v) St)->St 0 h' ->
   (∀ b o,s.heap.get? b=some o->h'.get? b=some o)->Go { s with heap:=h',drawn:=d } (.ref I) "set_iterator"->Q (.ref I) { s with heap:=h',drawn:=d }):ai (ax prog w) A (sx (.ref S)) Q E s:=by
 have hT:s.TypeIs (.ref S) "set":=⟨_,hS.at_,rfl⟩;have hlt:=al hS.at_;refine uG hT F.slot_set_iter (bz F.slot_set_iter hT SI.entry_iter ?_ (F.args_set_iter_1 _));show ai _ _ (nR S >>= _) _ _ s;unfold nR;refine a6 (a6 (wpAny_setEntries_of hS.at_ rfl hS.fits (a8 ?_)));show ai _ _ (setDrawn S >>= _) _ _ s;unfold setDrawn;refine a6 (a6 (aX hS.at_ rfl hS.fits (a6 (dE (a8 ?_)))));have fin:∀ (first:a9) (fp:List ac) (ord:List a9) (St:Nat->aW->Prop) (h':aW) (d:D0),(∀ b o,s.heap.get? b=some o->h'.get? b=some o)->s.heap.objs.size<=h'.objs.size ->
   (∀ b∈fp,b=S\/b=h'.objs.size\/(s.heap.objs.size<=b/\b<h'.objs.size))->ord.Perm (es.toList.map (·.2))->(∀ B:aR,B.handled=none->Gm prog w B h'.objs.size fp [h'.objs.size] ord.length (fun i v=>ord[i]?=some v) St) ->
   (∀ h'':aW,(∀ b o,h'.get? b=some o->h''.get? b=some o)->wD h'' h'.objs.size S first 0 es.size ep->St 0 h'') ->
   ai (ax prog w) A.in1 (setEpoch S >>= fun e=>newFields "set_iterator" [first,bB 0,.ref S,bB es.size,bB e] >>= fun x=>ret x) (fun fin s'=>∃ v,fin=.done (.ret v)/\∃ T' r,s'.TypeIs v T'/\zH (.type T') "__next__"=pure (some r)/\Q v s') E { s with heap:=h',drawn:=d }:=by
  intro first fp ord St h' d kp hsz hfp pm W st
  have hS':bY w h' S es ep t:=hS.keep fun o e=>kp S o e;refine a6 (wpAny_setEpoch_of (s:={ s with heap:=h',drawn:=d }) hS'.at_ rfl hS'.fits ?_);refine a6 (bg ?_ (by size_fits));have gp:∀ b o,h'.get? b=some o->(h'.push { cls:=.type "set_iterator",dict:=none,data:=.fields #[first,bB 0,.ref S,bB es.size,bB ep] }).get? b=some o:=fun b o e=>ag _ e;have it:(h'.push { cls:=.type "set_iterator",dict:=none,data:=.fields #[first,bB 0,.ref S,bB es.size,bB ep] }).get? h'.objs.size=some { cls:=.type "set_iterator",dict:=none,data:=.fields #[first,bB 0,.ref S,bB es.size,bB ep] }:=av _ rfl;refine a8 ⟨_,rfl,"set_iterator",_,⟨_,it,rfl⟩,SI.slot_next.lookup,h h'.objs.size fp ord St _ d hsz (fun b hb=>?_) (fun b hb=>?_) pm W (st _ gp it) (fun b o e=>gp b o (kp b o e)) ⟨_,it,rfl⟩⟩
  ·rcases hfp b hb with z|z|z
   ·exact .inl z
   ·exact .inr (by rw [z];exact hsz)
   ·exact .inr z.1
  ·rw [bU];rcases hfp b hb with z|z|z
   ·rw [z];exact fJ (au hlt hsz)
   ·rw [z];exact eO _
   ·exact fJ z.2
 dsimp only;split
 ·rename_i z
  have z:(!w.params.followText "set-order" && (!t.plain&&decide (es.size > 1)))=true:=z;refine a6 (p9 _ _ _ _ (by simp) fun ys d pm=>?_);simp only [Gq];have hyl:ys.length=es.size:=by have:=pm.length_eq;rwa [i3] at this
  have zl:=dI hS.few;refine a6 (bg ?_ (by show (ys.map fun (i:Nat)=>bB i).toArray.size<=sizeLine;simp;omega));have tp:∀ ob:Obj,(s.heap.push ob).objs.size=s.heap.objs.size+1:=fun ob=>bU ..;refine fin (.ref s.heap.objs.size) [s.heap.objs.size+1,S,s.heap.objs.size] (ys.map fun p=>(es.getD p (0,.none)).2)
   (fun i h=>wD h (s.heap.objs.size+1) S (.ref s.heap.objs.size) i es.size ep/\bY w h S es ep t/\Nx h s.heap.objs.size ys) (s.heap.push _) d
   (fun b o e=>ag _ e) (by rw [tp];exact Nat.le_succ _) (fun b hb=>?_) ?_ (fun B hB=>?_) (fun h'' k it=>⟨by rw [tp] at it;exact it,hS.keep fun o e=>k S o (ag _ e),_,_,k _ _ (av _ rfl),rfl⟩)
  ·simp only [aM,bv,or_false] at hb;rcases hb with y|y|y
   ·exact .inr (.inl (by rw [tp];exact y))
   ·exact .inl y
   ·exact .inr (.inr ⟨by rw [y];exact aq _,by rw [tp,y];exact eO _⟩)
  ·refine (pm.map _).trans (.of_eq ?_);apply rX
   ·simp
   ·intro k h1 h2;have:k<es.size:=by simpa using h1
    simp [this]
  ·rw [aN,hyl,tp];exact yi hB (aA (fJ hlt)) (aA (eO _)) (fun p hp=>List.mem_range.mp (pm.mem_iff.mp hp)) hyl
 ·rename_i z
  have z:¬ (!w.params.followText "set-order" && (!t.plain&&decide (es.size > 1)))=true:=z;refine a6 (a8 ?_);have hne:S≠s.heap.objs.size:=aA hlt;cases hw:w.params.followText "set-order" with
  |true =>
   refine fin (bB 0) [s.heap.objs.size,S] ((kG (w.params.setOrder S ep) es).toList.map (·.2)) (fun i h=>wD h s.heap.objs.size S (.int 0 0) i es.size ep/\bY w h S es ep t) s.heap s.drawn (fun _ _ e=>e) (aq _) (fun b hb=>?_) ((qf _ es).map _) (fun B hB=>?_) (fun h'' k it=>⟨it,hS.keep fun o e=>k S o e⟩)
   ·simp only [aM,bv,or_false] at hb;exact hb.elim (fun z=>.inr (.inl z)) .inl
   ·rw [aN,am,qg];exact Ah hB hw hne
  |false =>
   have h1:es.size<=1:=by
    rw [hw] at z;rcases hS.pl with y|y
    ·omega
    ·rw [y] at z;simpa using z
   refine fin (bB 0) [s.heap.objs.size,S] (es.toList.map (·.2)) (fun i h=>∃ k,wD h s.heap.objs.size S (.int (k:Nat) 0) i es.size ep/\bY w h S es ep t/\(i=0->k=0)/\(i=1->es.size=1->∃ j,t.place=#[j]/\k=j+1)) s.heap s.drawn (fun _ _ e=>e) (aq _) (fun b hb=>?_) (.refl _) (fun B hB=>?_) (fun h'' k it=>⟨0,it,hS.keep fun o e=>k S o e,fun _=>rfl,fun y=>by cases y⟩)
   ·simp only [aM,bv,or_false] at hb;exact hb.elim (fun z=>.inr (.inl z)) .inl
   ·rw [aN,am];exact Cg hB hw hne h1
end
end
section
section
theorem yj (hh:A.handled=none) (hS:bY w s.heap S es ep t)
  (h:∀ (ord:List a9) (h':aW) (d:D0) (tk:Nat),ord.Perm (es.toList.map (·.2))->(∀ b o,s.heap.get? b=some o->h'.get? b=some o)->s.heap.objs.size<=h'.objs.size->Q ord { s with heap:=h',drawn:=d,toks:=tk }) :
  ai (ax prog w) A (collect (.ref S)) Q E s:=by
 have hlt:=al hS.at_;unfold collect;refine a6 (wpAny_runValue (dk F.entry_proto_collect ?_));rw [cP F.plain_proto_collect _];show ai _ A.in1 (newList [] >>= fun l=>again (.builtin "list.__iadd__" ⟨[l,.ref S],[]⟩)) _ _ s;refine a6 (bg ?_);refine a8 ⟨fR F.plain_list_iadd _,dk F.entry_list_iadd ?_⟩;rw [cP F.plain_list_iadd _];let s1:ae:={ s with heap:=s.heap.push { cls:=.type "list",data:=.seq ([] : List a9).toArray } }
 have sz1:s1.heap.objs.size=s.heap.objs.size+1:=bU ..;have at1:s1.heap.get? s.heap.objs.size=some { cls:=.type "list",data:=.seq ([] : List a9).toArray }:=av _ rfl;have hS1:bY w s1.heap S es ep t:=hS.keep fun o e=>ag _ e;show ai _ A.in1 (oP (.ref s.heap.objs.size) (.ref S) (.ref s.heap.objs.size)) _ _ s1;have hT1:s1.TypeIs (.ref S) "set":=⟨_,hS1.at_,rfl⟩;unfold oP;refine a6 (nO hT1 ?_);have e1:qR (.ref s.heap.objs.size) (.ref S)=false:=by simp [qR,eY hlt]
 have e2:(jk "set" == jk "list")=false:=by decide
 have e3:(jk "set" == jk "tuple")=false:=by decide
 simp only [e1,e2,e3,Bool.or_false,bx,if_false];refine a6 (Ai (A:=A.in1) (by simpa using hh) hS1 fun I fp ord St h' d hI hfp hfl pm W st kp tI=>?_);let s2:ae:={ s1 with heap:=h',drawn:=d }
 have hS2:bY w s2.heap S es ep t:=hS1.keep fun o e=>kp S o e;have hT2:s2.TypeIs (.ref S) "set":=⟨_,hS2.at_,rfl⟩;refine a6 (bw ?_);unfold Builtin.List.listLengthHint;refine a6 (wpAny_specialOf (s:=s2) hT2 F.slot_set_len.lookup ?_);dsimp only;rw [show splitId "set.__len__"=some ("set","__len__") from by decide +kernel];dsimp only;refine a6 (gR (b:=true) (s:=s2) hT2 (by rw [zO];kernel_rfl) ?_);rw [if_neg (by decide),if_pos (by decide)];refine a6 (nO (s:=s2) hT2 (a8 ?_));rw [if_pos (by decide)];refine a6 (eN ?_);have nS:s.heap.objs.size∉fp:=fun z=>by
  rcases hfp _ z with q|q
  ·exact absurd hlt (by rw [<- q];exact bX _)
  ·rw [sz1] at q;exact absurd q (Nat.not_succ_le_self _)
 have at2:s2.heap.get? s.heap.objs.size=some { cls:=.type "list",data:=.seq ([] : List a9).toArray }:=kp _ _ at1;refine a6 ?_;show ai _ A.in1 (D9 s.heap.objs.size (·.push .none) >>= fun _=>D9 s.heap.objs.size (·.pop)) _ _ s2;refine a6 (i4 at2 rfl ?_);have at3:=cC (dB (·.push cx)) at2 rfl;refine i4 at3 rfl ?_;have at4:=cC (dB (·.pop)) at3 rfl;have oth:∀ b o,b≠s.heap.objs.size->s2.heap.get? b=some o->((s2.heap.update s.heap.objs.size (dB (·.push cx))).update s.heap.objs.size (dB (·.pop))).get? b=some o :=
  fun b o hb e=>(ck _ _ (cO hb)).trans ((ck _ _ (cO hb)).trans e)
 have zl:ord.length<=sizeLine:=by rw [pm.length_eq,aN,am];exact dI hS.few
 have W1:=W A.in1 (by simpa using hh);refine a8 ⟨fR F.plain_extend_loop _,codeAny_extend_loopS (A:=A) W1.toS zl _ nS _ ord.length 0 { s2 with heap:=(s2.heap.update s.heap.objs.size (dB (·.push cx))).update s.heap.objs.size (dB (·.pop)) } _ _ rfl (eB _) (W1.frame 0 _ _ st fun b hb o e=>oth b o (fun z=>nS (z ▸ hb)) e) at4 (ItemsOf.nil _) fun s' acc' c' hm hS' hacc=>?_⟩;show ai _ A (load s.heap.objs.size >>= _) _ _ s';refine a6 (wpAny_load hS' (a8 ?_));have hacc':acc'.toList=ord:=by
  apply List.ext_getElem?;intro j;rw [cB];by_cases hj:j<acc'.size
  ·have:=hacc.2 j acc'[j] (by simp [hj]);rw [this];simp [hj]
  ·rw [getElem?_neg acc' j hj,cD (by rw [<- hacc.1];omega)]
 rw [hacc'];obtain ⟨h3,g3,d3,t3,o3⟩:=s';obtain rfl:g3=s.gens:=hm.gens;obtain rfl:d3=d:=hm.drawn;obtain rfl:o3=s.os:=hm.os;have old:∀ b o,s.heap.get? b=some o->h3.get? b=some o:=fun b o e=>by
  have hb:=al e;refine hm.heap b o ?_ (oth b o (aA hb) (kp b o (ag _ e)));simp only [aM,bv,or_false,not_or];exact ⟨aA hb,aA (au hb (by have q:=hI;rw [sz1] at q;exact Nat.le_of_succ_le q))⟩
 refine h ord h3 _ t3 pm old ?_;have:=al (show h3.get? s.heap.objs.size=some _ from hS');exact ba this
theorem yk  (hc:ai (ax prog w) A.in1 (collect x) (fun vs s1=>∃ ss,nU vs ss/\vs.length<64 /\
   ∀ (h':aW) (vs':List a9) (ss':List Str) (e:Nat),(∀ b o,s1.heap.get? b=some o->h'.get? b=some o)->h'.get? s1.heap.objs.size=some (seqObj "list" vs'.toArray e)->nU vs' ss'->ss'.Perm ss->sortedS ss'=true ->
    Q (.ref s1.heap.objs.size) { s1 with heap:=h' }) E s):ai (ax prog w) A (call (.builtin "sorted") [x]) Q E s:=by
 refine vh kind_sorted plain_sorted entry_sorted (args_sorted1 _) ?_;unfold fY.«sorted»;refine a6 (m:=checkCount "sorted" 1 1 _) (a8 ?_);refine a6 (bu hc (fun vs s1 z=>?_) fun _ _ z=>z);obtain ⟨ss,hss,h64,hq⟩:=z;refine a6 (wpAny_newList ?_);have at1:(s1.heap.push (seqObj "list" vs.toArray 0)).get? s1.heap.objs.size=some (seqObj "list" vs.toArray 0):=av _ rfl;show ai _ _ _ _ _ { s1 with heap:=s1.heap.push (seqObj "list" vs.toArray 0) };refine a6 (bw (bz slot_list_sort ⟨_,at1,rfl⟩ entry_list_sort (list_sort_treeK strKind_oneLt at1 hss.keysOf (fun v₁ v₂ b_ e=>keyKind_strs (by rw [<- e];exact hss)) h64 fun st' a1 a2=>⟨_,rfl,?_⟩) (args_list_sort _)));obtain ⟨ss',p1,p2,p3⟩:=sorted_out_str hss a1 a2;obtain ⟨e,at2⟩:=sortedHeap_at (out:=(arrOf st').map (·.2)) at1;refine a8 ⟨_,rfl,hq _ _ ss' e (fun b o q=>?_) at2 p1 p2 p3⟩;have hb:=al q;rw [sortedHeap_old (aA hb) (by rw [bU];exact fJ hb)];exact ag _ q
end
end
section
def xL (x y:Str):Bool:=decide (x.cps.toList<y.cps.toList)
def Aj (x:Str):List Str->List Str
 |[]=>[x]
 |y::r=>if xL y x then y::Aj x r else x::y::r
def pd:List Str->List Str
 |[]=>[]
 |x::r=>Aj x (pd r)
theorem qh (x:Str):∀ l,(Aj x l).Perm (x::l)
 |[]=>.refl _
 |y::r=>by
  rw [Aj];split
  ·exact ((qh x r).cons y).trans (.swap ..)
  ·exact .refl _
theorem nZ:∀ l,(pd l).Perm l
 |[]=>.refl _
 |x::r=>(qh x _).trans ((nZ r).cons x)
theorem Ak (x:Str):xL x x=false:=decide_eq_false (List.lt_irrefl _)
theorem qi (h1:xL x y=true) (h2:xL y z=true):xL x z=true :=
 decide_eq_true (List.lt_trans (of_decide_eq_true h1) (of_decide_eq_true h2))
theorem wG (h1:xL x y=false) (h2:xL y x=false):x=y:=by
 have h1:¬ x.cps.toList<y.cps.toList:=of_decide_eq_false h1;have h2:¬ y.cps.toList<x.cps.toList:=of_decide_eq_false h2;have:x.cps.toList=y.cps.toList:=List.le_antisymm (List.not_lt.mp h2) (List.not_lt.mp h1)
 cases x;cases y;exact congrArg Str.mk (Array.toList_inj.mp this)
abbrev Hk (l:List Str):Prop:=l.Pairwise fun a b=>xL b a=false
theorem Eg (x:Str):∀ l,Hk l->Hk (Aj x l)
 |[],_=>by simp [Aj,Hk]
 |y::r,h=>by
  obtain ⟨h1,h2⟩:=List.pairwise_cons.mp h;rw [Aj];split
  ·rename_i hy
   refine List.pairwise_cons.mpr ⟨fun z hz=>?_,Eg x r h2⟩;rcases List.mem_cons.mp ((qh x r).mem_iff.mp hz) with e|e
   ·subst e;cases q:xL z y with
    |false=>rfl
    |true=>exact absurd (qi q hy) (by rw [Ak];decide)
   ·exact h1 z e
  ·rename_i hy
   have hy:xL y x=false:=by simpa using hy
   refine List.pairwise_cons.mpr ⟨fun z hz=>?_,h⟩;rcases List.mem_cons.mp hz with e|e
   ·subst e;exact hy
   ·cases q:xL z x with
    |false=>rfl
    |true =>
     have hzy:=h1 z e;cases q2:xL x y with
     |true=>rw [qi q q2] at hzy;cases hzy
     |false=>rw [<- wG hy q2,hzy] at q;cases q
theorem ym:∀ l,Hk (pd l)
 |[]=>.nil
 |x::r=>Eg x _ (ym r)
theorem ph:∀ (p:Str) (l:List Str),risingS p l=true->Hk (p::l)
 |p,[],_=>by simp [Hk]
 |p,x::r,h=>by
  rw [risingS,ay] at h;obtain ⟨h1,h2⟩:=h;have h1:xL x p=false:=by
   rw [ltCps_eq] at h1;simpa [xL] using h1
  have ih:=ph x r h2;refine List.pairwise_cons.mpr ⟨fun z hz=>?_,ih⟩;rcases List.mem_cons.mp hz with e|e
  ·rw [e];exact h1
  ·have hzx:=(List.pairwise_cons.mp ih).1 z e;cases q:xL z p with
   |false=>rfl
   |true =>
    cases q2:xL p x with
    |true=>rw [qi q q2] at hzx;cases hzx
    |false=>rw [wG q2 h1,hzx] at q;cases q
theorem wH:∀ (l:List Str),sortedS l=true->Hk l
 |[],_=>.nil
 |x::r,h=>ph x r h
theorem vF:∀ {l l':List Str},l.Perm l'->Hk l->Hk l'->l=l'
 |[],l',p,_,_=>by rw [List.nil_perm.mp p]
 |x::r,[],p,_,_=>by have:=p.length_eq;simp at this
 |x::r,y::r',p,h,h'=>by
  obtain ⟨a1,a2⟩:=List.pairwise_cons.mp h;obtain ⟨b1,b2⟩:=List.pairwise_cons.mp h';have e:x=y:=by
   have hx:x∈y::r':=p.mem_iff.mp ao;have hy:y∈x::r:=p.mem_iff.mpr ao;rcases List.mem_cons.mp hx with e|e
   ·exact e
   ·rcases List.mem_cons.mp hy with e' | e'
    ·exact e'.symm
    ·exact wG (b1 x e) (a1 y e')
  subst e;rw [vF (List.Perm.cons_inv p) a2 b2]
theorem Eh (p:l'.Perm l) (h:sortedS l'=true):l'=pd l:=vF (p.trans (nZ l).symm) (wH _ h) (ym l)
theorem kY:∀ {ss:List Str}{us:List a9},cu (ss.map V.str) us->nU us ss
 |[],_,.nil=>.nil
 |x::r,_,.cons h t=>by obtain ⟨tk,rfl⟩:=h;exact .cons x tk (kY t)
theorem pi:∀ {ss:List Str}{us:List a9},nU us ss->cu (ss.map V.str) us
 |_,_,.nil=>.nil
 |_,_,.cons x t h=>.cons ⟨t,rfl⟩ (pi h)
theorem eF:∀ {ss:List Str}{us:List a9},nU us ss->us.length=ss.length
 |_,_,.nil=>rfl
 |_,_,.cons x t h=>by simp [eF h]
theorem sV  (h:nU us ss) (i:Nat) (v:a9) (e:us[i]?=some v):∃ x t,ss[i]?=some x/\v=gU x t:=by
 induction h generalizing i with
 |nil=>simp at e
 |cons y t _ ih =>
  cases i with
  |zero=>simp at e;exact ⟨y,t,by simp,e.symm⟩
  |succ i=>simp at e;simpa using ih i e
theorem pj:∀ {l:List (Int×a9)},(∀ e∈l,nX w e)->nU (l.map (·.2)) (l.map hZ)
 |[],_=>.nil
 |e::r,h=>by
  obtain ⟨x,tk,rfl⟩:=h e ao;exact .cons x tk (pj fun e he=>h e (ah _ he))
theorem wI  (h:nU us ss) (p:us'.Perm us):∃ ss',nU us' ss'/\ss'.Perm ss:=by
 refine ⟨us'.map strOf,strsAre_map _ fun v hv=>h.all v (p.mem_iff.mp hv),?_⟩;rw [<- h.strs];exact p.map _
def kj (w:aS) (a:ac) (ss:List Str):HO:=.ext fun h=>iL w h a ss
theorem wJ      (x:iL w h a ss):cj P w H h a (kj w a ss) :=
 ⟨x,let ⟨_,_,_,I,_⟩:=x;⟨_,I.at_⟩,fun _ _ y k=>y.keep k⟩
section
theorem yn (hc:X.calm=true):i6 X (.type "set") (fun xs H Q=>∃ p ss,xs=[.ref p]/\(jx X.K H p (ss.map V.str)\/iR X.K H p (ss.map V.str))/\ss.length+1<e_/\∀ a,H a=none->Q (.ref a) (upd H a (kj X.w a (eA [] ss)))):=by
 intro pins s σ H xs us Q I r h;obtain ⟨p,ss,rfl,hq,hz,q⟩:=h;obtain ⟨u,rfl,rx⟩:=jy r;cases rx;have hh:=I.ok.hd hc;have fin:∀ (h':aW) (tk:Nat),iL X.w h' s.heap.objs.size (eA [] ss)->(∀ b o,s.heap.get? b=some o->h'.get? b=some o)->EP X pins σ Q (.ref s.heap.objs.size) { s with heap:=h',toks:=tk }:=fun h' tk hS kp =>
  ⟨.ref s.heap.objs.size,_,I.laid (t':=tk) kp (aq _) (wJ hS),rfl,q _ (I.hok.fresh (aq _))⟩
 rcases hq with hq|hq
 ·obtain ⟨its,r',⟨o,n,ho,h1,h2,h3⟩,_⟩:=I.list hq;have sa:=kY r';exact p7 (Ec (by simpa using hh) h1 ⟨n,h3⟩) ho (fun i v e=>sV sa i v (by simpa using e)) (by simp [eF sa]) (by simp [eF sa];exact hz) fin
 ·obtain ⟨its,r',⟨o,ho,h1,n,h3⟩,_⟩:=I.tuple hq;have sa:=kY r';exact p7 (Hj (by simpa using hh) h1 ⟨n,h3⟩) ho (fun i v e=>sV sa i v (by simpa using e)) (by simp [eF sa]) (by simp [eF sa];exact hz) fin
theorem rL (hc:X.calm=true):i6 X (.builtin "sorted") (fun xs H Q=>∃ p ss,xs=[.ref p]/\H p=some (kj X.w p ss)/\ss.length<64/\∀ l,H l=none->Q (.ref l) (upd H l (.lst ((pd ss).map V.str)))):=by
 intro pins s σ H xs us Q I r h;obtain ⟨p,ss,rfl,hq,hz,q⟩:=h;obtain ⟨u,rfl,rx⟩:=jy r;cases rx;have hh:=I.ok.hd hc;obtain ⟨⟨es,ep,t,S,pm⟩,_⟩:=(show cj X.prog X.w H s.heap p (kj X.w p ss) from I.hok p _ hq);refine yk (yj (by simpa using hh) S fun ord h' d tk po kp sz=>?_);obtain ⟨ss1,sa,p1⟩:=wI (pj S.txt) po;have ln:ss1.length=ss.length:=(p1.trans pm).length_eq;refine ⟨ss1,sa,by rw [eF sa,ln];exact hz,fun h2 vs' ss' e kp2 at2 sa2 p2 s2=>?_⟩;have kk:∀ b o,s.heap.get? b=some o->h2.get? b=some o:=fun b o e=>kp2 b o (kp b o e);have es':ss'=pd ss:=Eh (p2.trans (p1.trans pm)) s2;subst es';have fr:=I.hok.fresh sz;have ok2:cj X.prog X.w (upd H h'.objs.size (.lst ((pd ss).map V.str))) h2 h'.objs.size (.lst ((pd ss).map V.str)) :=
  ⟨by rw [aN,(nZ ss).length_eq];exact cn (ba hz) (by rw [xF];decide),vs',e,pi sa2,at2⟩
 exact ⟨.ref h'.objs.size,_,I.call' (s':={ s with heap:=h2,drawn:=d,toks:=tk }) (ch:=[]) rfl (Un.laid kk sz fr) (I.hok.laid kk sz ok2) I.bare (fun b z=>absurd z (by simp)),rfl,q _ fr⟩
end
end
section
section
theorem qV {prog:aJ}{w:aS}{B:aR}{bs:List Bool}{its:List a9} (r:cu (bs.map V.bl) its):TruthOf prog w B (fun i v=>its.toArray[i]?=some v) (fun i=>bs.getD i false):=by
 intro i v s Q E hv hq;have hv:its[i]?=some v:=by simpa using hv
 have hl:=r.length;rw [aN] at hl;obtain ⟨hi,_⟩:=List.getElem?_eq_some_iff.mp hv;have hb:bs[i]?=some bs[i]:=aY (by omega);obtain ⟨u,hu,ru⟩:=r.get (i:=i) (x:=.bl bs[i]) (by rw [aK,hb];rfl);rw [hv] at hu;cases hu;cases ru;have hq:Q (bs.getD i false) s:=hq;rw [dS,hb] at hq;exact c8 hq
theorem Ei (bs:List Bool):(bR bs.length).all (fun i=>bs.getD i false)=bs.all id:=by
 rw [gO,cU,cU];constructor
 ·intro h b hb;obtain ⟨i,hi,rfl⟩:=iV hb;have:=h i (List.mem_range.mpr hi);simpa [dS,hi] using this
 ·intro h i hi;have hi:=List.mem_range.mp hi;have:=h bs[i] (ls hi);simpa [dS,hi] using this
theorem Ej (bs:List Bool):(bR bs.length).any (fun i=>bs.getD i false)=bs.any id:=by
 rw [gO,rY,rY];constructor
 ·rintro ⟨i,hi,h⟩;have hi:=List.mem_range.mp hi;exact ⟨bs[i],ls hi,by simpa [dS,hi] using h⟩
 ·rintro ⟨b,hb,h⟩;obtain ⟨i,hi,rfl⟩:=iV hb;exact ⟨i,List.mem_range.mpr hi,by simpa [dS,hi] using h⟩
theorem sW (hc:X.calm=true):i6 X (.builtin "all") (fun xs H Q=>∃ p,∃ bs:List Bool,xs=[.ref p]/\jx X.K H p (bs.map V.bl)/\Q (.bl (bs.all id)) H):=by
 intro pins s σ H xs us Q I r h;obtain ⟨p,bs,rfl,hq,q⟩:=h;obtain ⟨u,rfl,rx⟩:=jy r;cases rx;obtain ⟨its,r',pl,hl⟩:=I.list hq;have ln:its.toArray.size=bs.length:=by have:=r'.length;simp at this ⊢;omega
 obtain ⟨o,ho,hk⟩:=pl.isList;refine call_all_walk (iB pl.isList ⟨_,_,_,_,_,_,_,rfl,lz (by simpa using I.ok.hd hc) _ p (aA (al ho)) its.toArray,⟨⟨_,av _ rfl,rfl,rfl⟩,pl.isList.push _⟩,qV r',fun h' tk kp=>?_⟩);rw [ln,Ei];refine ⟨.bl _,H,I.kept (t':=tk) fun b o e=>kp b o ?_ (ag _ e),rfl,q⟩;simp only [dR];exact aA (al e)
theorem sX (hc:X.calm=true):i6 X (.builtin "any") (fun xs H Q=>∃ p,∃ bs:List Bool,xs=[.ref p]/\jx X.K H p (bs.map V.bl)/\Q (.bl (bs.any id)) H):=by
 intro pins s σ H xs us Q I r h;obtain ⟨p,bs,rfl,hq,q⟩:=h;obtain ⟨u,rfl,rx⟩:=jy r;cases rx;obtain ⟨its,r',pl,hl⟩:=I.list hq;have ln:its.toArray.size=bs.length:=by have:=r'.length;simp at this ⊢;omega
 obtain ⟨o,ho,hk⟩:=pl.isList;refine call_any_walk (iB pl.isList ⟨_,_,_,_,_,_,_,rfl,lz (by simpa using I.ok.hd hc) _ p (aA (al ho)) its.toArray,⟨⟨_,av _ rfl,rfl,rfl⟩,pl.isList.push _⟩,qV r',fun h' tk kp=>?_⟩);rw [ln,Ej];refine ⟨.bl _,H,I.kept (t':=tk) fun b o e=>kp b o ?_ (ag _ e),rfl,q⟩;simp only [dR];exact aA (al e)
theorem Ch:mF X (bh .LtE) (fun x y H Q=>∃ i j,x=.str i/\y=.str j/\Q (.bl (!decide (j.cps.toList<i.cps.toList))) H):=by
 intro pins s σ H x y v u Q I rx ry h;obtain ⟨i,j,rfl,rfl,q⟩:=h;obtain ⟨t,rfl⟩:=rx;obtain ⟨t',rfl⟩:=ry;exact PySem.P.le_str (fB I q rfl)
end
end
section
def LR (x:Str):It:=⟨fun i _=>i<x.cps.size,fun i H v H'=>H'=H/\∃ c,x.cps[i]?=some c/\v=.str ⟨#[c]⟩,fun i _=>x.cps.size<=i⟩
theorem Ek {P:aJ}{w:aS}{K:a7}{tg:aQ} (x:Str) (t:Tok) (it:ac):zY P w K tg (LR x) [it] it (fun i h=>h.IsStrIter it (fk x) x t i) where
 mem:=by simp
 obj:=fun i h st b hb=>by
  obtain rfl:b=it:=by simpa using hb
  obtain ⟨o,e,c,d⟩:=st;exact ⟨o,e,fun v z=>by rw [d] at z;cases z⟩
 keep:=fun i h h' st k=>let ⟨o,e,r⟩:=st;⟨o,k it (by simp) o e,r⟩
 item:=by
  intro X hP hw hK hc i pins s σ H E I hf st hg;subst hP hw hK;have hg:i<x.cps.size:=hg;obtain ⟨f0,f1,f2,f3,f4,f5⟩:=hf it (by simp);have hx:x.cps[i]?=some x.cps[i]:=getElem?_pos _ i hg;have go:∀ (h':aW) (tk tk':Nat),h'.IsStrIter it (fk x) x t (i+1)->b9 it s.heap h'->∃ u,some (gU ⟨#[x.cps[i]]⟩ tk)=some u /\
    ai (ax X.prog X.w) X.A (fM tg (.ref it) u) (fun _ s2=>∃ v H',aV X pins σ H' s2/\bW v u/\(LR x).yld i H v H'/\s2.heap.IsStrIter it (fk x) x t (i+1)/\∀ b∈[it],H' b=none) E { s with heap:=h',toks:=tk' }:=fun h' tk tk' st' sb=>by
   have I1:aV X pins σ H { s with heap:=h',toks:=tk' }:=I.turned (fun b o hb e=>(sb.2 b hb).trans e) f0 f1 f3 f4 f5;refine ⟨_,rfl,?_⟩;have q:∃ v H',aV X pins σ H' { s with heap:=h',toks:=tk' }/\bW v (gU ⟨#[x.cps[i]]⟩ tk)/\(LR x).yld i H v H'/\h'.IsStrIter it (fk x) x t (i+1)/\∀ b∈[it],H' b=none :=
    ⟨.str ⟨#[x.cps[i]]⟩,H,I1,⟨tk,rfl⟩,⟨rfl,_,hx,rfl⟩,st',fun b hb=>(hf b hb).1⟩
   unfold fM;cases tg<;>exact a8 q
  cases ha:x.cps.all (·<128)
  ·have ty:fk x="str_iterator":=by unfold fk;rw [ha];rfl
   rw [ty] at st;exact wpAny_pyNext_wide_item st hx fun h' st' sb=>go h' _ _ (by rw [ty];exact st') sb
  ·have ty:fk x="str_ascii_iterator":=by unfold fk;rw [ha];rfl
   rw [ty] at st;exact wpAny_pyNext_ascii_item st hx fun h' st' sb=>go h' _ _ (by rw [ty];exact st') sb
 done:=by
  intro X hP hw hK hc i pins s σ H E I hf st hg;subst hP hw hK;have hg:x.cps.size<=i:=hg;obtain ⟨f0,f1,f2,f3,f4,f5⟩:=hf it (by simp);have hx:x.cps[i]?=none:=getElem?_neg _ i (Nat.not_lt.mpr hg);unfold fk at st;cases ha:x.cps.all (·<128)
  ·rw [ha] at st;exact wpAny_pyNext_wide_end (I.ok.hd hc) st hx fun h' eb=>⟨rfl,I.turned (t':=s.toks) (fun b o hb e=>eb b o hb e) f0 f1 f3 f4 f5⟩
  ·rw [ha] at st;exact wpAny_pyNext_ascii_end (I.ok.hd hc) st hx fun h' eb=>⟨rfl,I.turned (t':=s.toks) (fun b o hb e=>eb b o hb e) f0 f1 f3 f4 f5⟩
 self:=fun _ _ _ _ _ st h=>by
  unfold fk at st;cases ha:x.cps.all (·<128)
  ·rw [ha] at st;exact wpAny_pyIter_striter_wide st h
  ·rw [ha] at st;exact wpAny_pyIter_striter_ascii st h
def Ny (tl:TE):TI:=fun σ H R=>tl σ H fun v H1=>∃ x,v=.str x/\R (LR x) H1
theorem El {X:Cx}{tg l:aQ}{tl:TE} (hl:PE X l tl):PI X tg l (Ny tl):=by
 intro pins s σ H R I h;refine dX (hl pins s σ H _ I h) fun v s1 h_0=>?_;obtain ⟨y,H1,I1,r1,q1⟩:=h_0;obtain ⟨x,rfl,q⟩:=q1;obtain ⟨t,rfl⟩:=r1;refine wpAny_pyIter_strU ?_;refine ⟨s1.heap.objs.size,[s1.heap.objs.size],_,_,H1,rfl,I1.kept (t':=s1.toks) fun b o e=>ag _ e,Ek x t _,⟨_,av _ rfl,rfl,rfl⟩,fun b hb=>?_,q⟩;obtain rfl:b=s1.heap.objs.size:=by simpa using hb
 exact I1.fpOk (aq _) (I1.hok.fresh (aq _))
end
section
section
theorem aV.turnedL {t':Nat}{ch:List ac} (I:aV X pins σ H s) (k:∀ b o,b∉ch->s.heap.get? b=some o->h'.get? b=some o) (hf:∀ b∈ch,n6 X pins H b):aV X pins σ H { s with heap:=h',toks:=t' }:=by
 have nt:∀ b u,H b=some u->b∉ch:=fun b u e z=>by rw [(hf b z).1] at e;cases e
 refine I.step (g':=s.gens) (d':=s.drawn) (ch:=ch) (fun b hb=>?_) (fun b o _ _ hc e _=>k b o hc e) (fun b o _ _ hc e _=>⟨o.slots,k b o hc e⟩) (fun _ _ _ _ n=>n)
  (fun b o hc e=>⟨o,k b o hc e⟩) (fun _ _ e=>e) (fun _ _ _ e=>e) (fun b ps e=>⟨#[],by rw [e];simp⟩) (fun m hm=>?_) (fun b u e=>?_) I.bare
 ·obtain ⟨f0,f1,f2,f3,f4,f5⟩:=hf b hb;exact ⟨f3,f1,f4,f5⟩
 ·obtain ⟨o,es,ep,ho,r⟩:=hm;exact ⟨o,es,ep,k _ o (fun z=>(hf _ z).f1 rfl) ho,r⟩
 ·refine (I.hok b u e).stay (fun c v hc q=>k c v ?_ q) (fun _ q=>q) (fun _ _ q=>q) fun _ _ _ q=>q;rcases hc with z|z
  ·rw [z];exact nt b u e
  ·exact nt c _ z
theorem aV.track  (I:aV X pins σ H s) (hf:n6 X pins H D) (new:cj X.prog X.w (upd H D ho) s.heap D ho):aV X pins σ (upd H D ho) s:=by
 obtain ⟨f0,f1,f2,f3,f4,f5⟩:=hf;have I':aV X pins σ (upd H D ho) { s with heap:=s.heap,gens:=s.gens,drawn:=s.drawn,toks:=s.toks }:=I.step (ch:=[D]) (fun b hb=>by
   obtain rfl:b=D:=by simpa using hb
   exact ⟨f3,f1,f4,f5⟩) (fun b o _ _ _ e _=>e) (fun b o _ _ _ e _=>⟨o.slots,e⟩) (fun b o hc e n=>by rw [aG (fun z=>hc (by simp [z]))];exact n) (fun b o _ e=>⟨o,e⟩)
  (fun b xs e=>by rw [aG (aI e f0)];exact e) (fun b o xs e=>by rw [aG (aI e f0)];exact e) (fun b ps e=>⟨#[],by rw [aG (aI e f0),e];simp⟩) (fun m hm=>hm) (qe I.hok f0 new) I.bare
 exact I'
end
section
theorem sY  (ti:s.heap.IsTupleIter it l i) (tl:s.heap.IsTuple l items) (hx:items[i]?=some x)
  (q:∀ h',h'.IsTupleIter it l (i+1)->b9 it s.heap h'->Q x { s with heap:=h' }):ai (ax prog w) A (bJ (.ref it)) Q E s:=by
 obtain ⟨oi,ei,ci,di⟩:=id ti;obtain ⟨ot,et,_,nt,dt⟩:=tl;unfold bJ;refine a6 (bP (name:=dm "__next__") ti.typeIs g6 ?_);refine bz g6 ti.typeIs xI ?_ (wg _);show ai _ _ (Da (.ref it) 0 >>= _) _ _ s;refine a6 (cY ei di (x:=.ref l) rfl ?_);show ai _ _ (if (bc l==cx)=true then _ else _) _ _ s;rw [if_neg (fun z:(bc l==cx)=true=>aL z)];show ai _ _ (Da (.ref it) 1 >>= _) _ _ s;refine a6 (cY ei di (x:=.int i 0) rfl ?_);show ai _ _ (mX (.ref l) >>= _) _ _ s;refine a6 (cr et dt ?_);simp only [rE,hx];refine a6 (ej ei di (by simp) (a8 ⟨x,rfl,a8 (q _ ?_ (bb ..))⟩));refine ⟨_,cC _ ei (Obj.isFreed_of_fields (Ds di _)),(Obj.cls_mapFields ..).trans ci,?_⟩;rw [Ds di];simp [bB]
theorem yo (hh:A.handled=none) (ti:s.heap.IsTupleIter it l i) (tl:s.heap.IsTuple l items) (hx:items[i]?=none)
  (q:∀ h' e,sD it s.heap h'->(∃ o,h'.get? e=some o/\o.cls=.type "StopIteration")->E (.ref e) { s with heap:=h' }):ai (ax prog w) A (bJ (.ref it)) Q E s:=by
 obtain ⟨oi,ei,ci,di⟩:=id ti;obtain ⟨ot,et,_,nt,dt⟩:=tl;unfold bJ;refine a6 (bP (name:=dm "__next__") ti.typeIs g6 ?_);refine bz g6 ti.typeIs xI ?_ (wg _);show ai _ _ (Da (.ref it) 0 >>= _) _ _ s;refine a6 (cY ei di (x:=.ref l) rfl ?_);show ai _ _ (if (bc l==cx)=true then _ else _) _ _ s;rw [if_neg (fun z:(bc l==cx)=true=>aL z)];show ai _ _ (Da (.ref it) 1 >>= _) _ _ s;refine a6 (cY ei di (x:=.int i 0) rfl ?_);show ai _ _ (mX (.ref l) >>= _) _ _ s;refine a6 (cr et dt ?_);simp only [rE,hx];refine a6 (eN (a6 (ej ei di (by simp) ?_)));show ai _ _ (nQ (.type "StopIteration") [] >>= _) _ _ _;refine a6 ?_;simp only [nQ,Gq];refine a6 (bg ?_ (by size_fits));refine a6 (m:=iG _ _) (cK (a:=cx) ?_ ?_)
 ·first
   |rfl
   |(simp only [iG];rfl)
 refine bg ?_ (by size_fits);simp only [mW];refine a6 (BU ?_);rw [show A.in1.handled=none from hh];refine a6 (a8 (Gr ?_));exact q _ _ (((bb ..).extBut.push _).push _) ⟨_,av _ rfl,rfl⟩
end
end
section
section
end
end
section
section
variable {prog:aJ}{w:aS}{A:aR}{E:a9->ae->Prop}{s:ae}{z TI TO i1 i2 l1 l2:ac}{k1 k2:Nat}{xs ys:Array a9}{x y a b:a9}
theorem gy    (t:h.IsTupleIter it l k) (sb:b9 c h h') (ne:it≠c):h'.IsTupleIter it l k:=t.extBut sb.extBut ne
theorem kZ    (t:h.IsTuple l xs) (sb:b9 c h h') (ne:l≠c):h'.IsTuple l xs:=t.extBut sb.extBut ne
theorem Em {Q:a9->ae->Prop} (D:Gs z TI TO i1 i2 l1 l2) (za:pX s.heap z TI TO .none) (pa:i9 s.heap TI (.ref i1) (.ref i2)) (pb:i9 s.heap TO a b)
  (u1:s.heap.IsTupleIter i1 l1 k1) (u2:s.heap.IsTupleIter i2 l2 k2) (v1:s.heap.IsTuple l1 xs) (v2:s.heap.IsTuple l2 ys) (hx:xs[k1]?=some x) (hy:ys[k2]?=some y)
  (q:∀ h',pX h' z TI TO (bB s.heap.objs.size)->i9 h' TO x y->h'.IsTupleIter i1 l1 (k1+1)->h'.IsTupleIter i2 l2 (k2+1)->i9 h' s.heap.objs.size x y ->
   (∀ c o,c≠z->c≠TO->c≠i1->c≠i2->s.heap.get? c=some o->h'.get? c=some o)->Q (.ref s.heap.objs.size) { s with heap:=h' }) :
  ai (ax prog w) A (fY.«zip.__next__» ⟨[.ref z],[]⟩) (fun fin s'=>∃ v,fin=.done (.ret v)/\Q v s') E s:=by
 show ai _ _ (Da (.ref z) 2 >>= _) _ _ _;refine a6 (cY za rfl (x:=.bool false) rfl ?_);show ai _ _ (Da (.ref z) 3 >>= _) _ _ _;refine a6 (cY za rfl (x:=.ref TI) rfl ?_);refine a6 (cr pa rfl ?_);show ai _ _ (dg (.ref z) >>= _) _ _ _;refine a6 ?_;unfold dg;refine a6 (cY za rfl (x:=.none) rfl (a8 ?_));simp only [if_true];refine a6 (eN ?_);refine a6 (cY za rfl (x:=.ref TO) rfl ?_);refine a6 (fA za (by simp) fun g1 z1 b1=>?_);replace z1:pX g1 z TI TO .ellipsis:=z1;refine a6 ?_;simp only [G9,Gu,gP,js];refine a6 (a6 (rZ ?_));show ai _ _ (bJ (.ref i1) >>= _) _ _ _;refine a6 (sY (gy u1 b1 D.i1z) (kZ v1 b1 D.l1z) hx fun g2 w1 b2=>a8 ?_);have p2:i9 g2 TO a b:=b2.extBut _ _ D.TOi1 (b1.extBut _ _ D.TOz pb);refine a6 (cr p2 rfl (a6 (pY p2 fun g3 p3 b3=>?_)));replace p3:i9 g3 TO x b:=p3;refine a6 (jo (a8 (a6 (a6 (rZ ?_)))));show ai _ _ (bJ (.ref i2) >>= _) _ _ _;refine a6 (sY (gy (gy (gy u2 b1 D.i2z) b2 D.i12.symm) b3 D.TOi2.symm) (kZ (kZ (kZ v2 b1 D.l2z) b2 D.l2i1) b3 D.l2TO) hy fun g4 w2 b4=>a8 ?_);have p4:i9 g4 TO x b:=b4.extBut _ _ D.TOi2 p3;refine a6 (cr p4 rfl (a6 (pY p4 fun g5 p5 b5=>?_)));replace p5:i9 g5 TO x y:=p5;refine a6 (jo (a8 (a8 ?_)));refine a6 (cr p5 rfl (a6 (wpAny_newTuple ?_)));have sz:g5.objs.size=s.heap.objs.size:=by rw [b5.1,b4.1,b3.1,b2.1,b1.1]
 have z5:pX g5 z TI TO .ellipsis:=b5.extBut _ _ D.TOz.symm (b4.extBut _ _ D.i2z.symm (b3.extBut _ _ D.TOz.symm (b2.extBut _ _ D.i1z.symm z1)));have k5:∀ c o,c≠z->c≠TO->c≠i1->c≠i2->s.heap.get? c=some o->g5.get? c=some o:=fun c o n1 n2 n3 n4 e =>
  b5.extBut _ _ n2 (b4.extBut _ _ n4 (b3.extBut _ _ n2 (b2.extBut _ _ n3 (b1.extBut _ _ n1 e))))
 have y1:g5.IsTupleIter i1 l1 (k1+1):=gy (gy (gy w1 b3 D.TOi1.symm) b4 D.i12) b5 D.TOi1.symm;have y2:g5.IsTupleIter i2 l2 (k2+1):=gy w2 b5 D.TOi2.symm;have zl:z<g5.objs.size:=al z5;show ai _ _ (ju (.ref z) (.ref g5.objs.size) >>= _) _ _ _;refine a6 ?_;unfold ju;have z6:pX (g5.push { cls:=.type "tuple",data:=.seq #[x,y] }) z TI TO .ellipsis:=ag _ z5;refine a6 (fA z6 (by simp) fun g7 z7 b7=>?_);replace z7:pX g7 z TI TO (bB g5.objs.size):=z7;refine fA z7 (by simp) fun g8 z8 b8=>?_;replace z8:pX g8 z TI TO (bB g5.objs.size):=z8;have up:∀ c o,c≠z->g5.get? c=some o->g8.get? c=some o:=fun c o n1 e=>b8.extBut _ _ n1 (b7.extBut _ _ n1 (ag _ e));have p8:i9 g8 g5.objs.size x y:=b8.extBut _ _ (eY zl) (b7.extBut _ _ (eY zl) (av _ rfl));rw [sz] at z8 p8;refine a8 ⟨_,rfl,?_⟩;show Q (.ref g5.objs.size) _;rw [sz];exact q g8 z8 (up _ _ D.TOz p5) (let ⟨o,e,r⟩:=y1;⟨o,up _ o D.i1z e,r⟩) (let ⟨o,e,r⟩:=y2;⟨o,up _ o D.i2z e,r⟩) p8 fun c o n1 n2 n3 n4 e=>up c o n1 (k5 c o n1 n2 n3 n4 e)
theorem Eo (hh:A.handled=none) (D:Gs z TI TO i1 i2 l1 l2) (za:pX s.heap z TI TO .none) (pa:i9 s.heap TI (.ref i1) (.ref i2)) (pb:i9 s.heap TO a b)
  (u1:s.heap.IsTupleIter i1 l1 k1) (u2:s.heap.IsTupleIter i2 l2 k2) (v1:s.heap.IsTuple l1 xs) (v2:s.heap.IsTuple l2 ys) (hend:xs[k1]?=none\/ys[k2]?=none)
  (q:∀ h' e,(∀ c o,c≠z->c≠TO->c≠i1->c≠i2->s.heap.get? c=some o->h'.get? c=some o)->(∃ o,h'.get? e=some o/\o.cls=.type "StopIteration")->E (.ref e) { s with heap:=h' }) :
  ai (ax prog w) A (fY.«zip.__next__» ⟨[.ref z],[]⟩) Q E s:=by
 show ai _ _ (Da (.ref z) 2 >>= _) _ _ _;refine a6 (cY za rfl (x:=.bool false) rfl ?_);show ai _ _ (Da (.ref z) 3 >>= _) _ _ _;refine a6 (cY za rfl (x:=.ref TI) rfl ?_);refine a6 (cr pa rfl ?_);show ai _ _ (dg (.ref z) >>= _) _ _ _;refine a6 ?_;unfold dg;refine a6 (cY za rfl (x:=.none) rfl (a8 ?_));simp only [if_true];refine a6 (eN ?_);refine a6 (cY za rfl (x:=.ref TO) rfl ?_);refine a6 (fA za (by simp) fun g1 z1 b1=>?_);replace z1:pX g1 z TI TO .ellipsis:=z1;refine a6 ?_;simp only [G9,Gu,gP,js];refine a6 (a6 (rZ ?_));show ai _ _ (bJ (.ref i1) >>= _) _ _ _;cases hx:xs[k1]? with
 |none =>
  refine a6 (yo hh (gy u1 b1 D.i1z) (kZ v1 b1 D.l1z) hx fun g2 e b2 he=>?_);obtain ⟨oe,ee,ce⟩:=he;have z2:pX g2 z TI TO .ellipsis:=b2 _ _ D.i1z.symm z1;have ez:e≠z:=fun n=>by subst n;rw [z2] at ee;cases ee;simp at ce
  refine fA z2 (by simp) fun g3 _ b3=>q g3 e (fun c o n1 _ n3 _ m=>b3.extBut _ _ n1 (b2 _ _ n3 (b1.extBut _ _ n1 m))) ⟨oe,b3.extBut _ _ ez ee,ce⟩
 |some x =>
  have hy:ys[k2]?=none:=hend.resolve_left fun n=>by rw [hx] at n;cases n
  refine a6 (sY (gy u1 b1 D.i1z) (kZ v1 b1 D.l1z) hx fun g2 w1 b2=>a8 ?_);have p2:i9 g2 TO a b:=b2.extBut _ _ D.TOi1 (b1.extBut _ _ D.TOz pb);refine a6 (cr p2 rfl (a6 (pY p2 fun g3 p3 b3=>?_)));refine a6 (jo (a8 (a6 (a6 (rZ ?_)))));show ai _ _ (bJ (.ref i2) >>= _) _ _ _;refine a6 (yo hh (gy (gy (gy u2 b1 D.i2z) b2 D.i12.symm) b3 D.TOi2.symm) (kZ (kZ (kZ v2 b1 D.l2z) b2 D.l2i1) b3 D.l2TO) hy fun g4 e b4 he=>?_);obtain ⟨oe,ee,ce⟩:=he;have z4:pX g4 z TI TO .ellipsis:=b4 _ _ D.i2z.symm (b3.extBut _ _ D.TOz.symm (b2.extBut _ _ D.i1z.symm z1));have ez:e≠z:=fun n=>by subst n;rw [z4] at ee;cases ee;simp at ce
  refine fA z4 (by simp) fun g5 _ b5=>q g5 e (fun c o n1 n2 n3 n4 m=>b5.extBut _ _ n1 (b4 _ _ n4 (b3.extBut _ _ n2 (b2.extBut _ _ n3 (b1.extBut _ _ n1 m))))) ⟨oe,b5.extBut _ _ ez ee,ce⟩
end
abbrev MV (h:aW) (l1:ac):aW:=h.push { cls:=.type "tuple_iterator",data:=.fields #[.ref l1,.int 0 0] }
abbrev MW (h:aW) (l1 l2:ac):aW:=(MV h l1).push { cls:=.type "tuple_iterator",data:=.fields #[.ref l2,.int 0 0] }
abbrev MX (h:aW) (l1 l2:ac):aW:=(MW h l1 l2).push { cls:=.type "tuple",data:=.seq #[.ref h.objs.size,.ref (MV h l1).objs.size] }
abbrev MY (h:aW) (l1 l2:ac):aW:=(MX h l1 l2).push { cls:=.type "tuple",data:=.seq #[.none,.none] }
abbrev Lb (h:aW) (l1 l2:ac):aW:=(MY h l1 l2).push { cls:=.type "zip",data:=.fields #[.none,.bool false,.bool false,.ref (MW h l1 l2).objs.size,.ref (MX h l1 l2).objs.size] }
theorem uN (l1 l2:ac) (xs ys:Array a9) :
  Meets (fY.«zip.__new__» ⟨[.type "zip",.ref l1,.ref l2],[]⟩) (fun _ R s=>s.heap.IsTuple l1 xs/\s.heap.IsTuple l2 ys/\R (.ok (.ret (.ref (MY s.heap l1 l2).objs.size))) { s with heap:=Lb s.heap l1 l2 }) :=
 .of_wp fun prog w A R s h=>by
  obtain ⟨hp,g,d,tk,os⟩:=s;obtain ⟨v1,v2,h⟩:=h;have hsub:=PySem.sub_zip;have L1:Heap.IsTuple (Shared.heap ⟨hp,g,d,tk,os⟩) l1 xs:=v1;have L2:Heap.IsTuple (Shared.heap ⟨hp.push { cls:=.type "tuple_iterator",data:=.fields #[.ref l1,.int 0 0] },g,d,tk,os⟩) l2 ys:=Heap.IsTuple.push v2 _;wp_walk using kL L1,kL L2;exact ⟨_,rfl,h⟩
section
theorem wK   (v1:s.heap.IsTuple l1 xs) (v2:s.heap.IsTuple l2 ys)
  (h:∀ h',pX h' (s.heap.objs.size+4) (s.heap.objs.size+2) (s.heap.objs.size+3) .none->i9 h' (s.heap.objs.size+2) (.ref s.heap.objs.size) (.ref (s.heap.objs.size+1)) ->
   i9 h' (s.heap.objs.size+3) .none .none->h'.IsTupleIter s.heap.objs.size l1 0->h'.IsTupleIter (s.heap.objs.size+1) l2 0 ->
   (∀ c o,s.heap.get? c=some o->h'.get? c=some o)->Q (.ref (s.heap.objs.size+4)) { s with heap:=h' }):ai (ax prog w) A (call (.type "zip") [.ref l1,.ref l2]) Q E s:=by
 refine callType_new F.called_zip (by decide) (F.typeCall_zip_2 _ _) (F.newCall_zip_2 _ _) (fun obj=>F.args_object_init_3 obj _ _) F.entry_zip_new (uN l1 l2 xs ys) ⟨v1,v2,?_⟩;have n1:(MV s.heap l1).objs.size=s.heap.objs.size+1:=bU ..;have n2:(MW s.heap l1 l2).objs.size=s.heap.objs.size+2:=by rw [bU,n1]
 have n3:(MX s.heap l1 l2).objs.size=s.heap.objs.size+3:=by rw [bU,n2]
 have n4:(MY s.heap l1 l2).objs.size=s.heap.objs.size+4:=by rw [bU,n3]
 have c5:(Lb s.heap l1 l2).get? (MY s.heap l1 l2).objs.size=some _:=av _ rfl;have c4:(Lb s.heap l1 l2).get? (MX s.heap l1 l2).objs.size=some _:=ag _ (av _ rfl);have c3:(Lb s.heap l1 l2).get? (MW s.heap l1 l2).objs.size=some _:=ag _ (ag _ (av _ rfl));have c2:(Lb s.heap l1 l2).get? (MV s.heap l1).objs.size=some _:=ag _ (ag _ (ag _ (av _ rfl)));have c1:(Lb s.heap l1 l2).get? s.heap.objs.size=some _:=ag _ (ag _ (ag _ (ag _ (av _ rfl))));show _/\_;rw [n2,n3,n4] at c5;rw [n1,n2] at c3;rw [n3] at c4;rw [n1] at c2;rw [n4];exact ⟨⟨_,c5,rfl⟩,h _ c5 c3 c4 ⟨_,c1,rfl,rfl⟩ ⟨_,c2,rfl,rfl⟩ fun c o e=>ag _ (ag _ (ag _ (ag _ (ag _ e))))⟩
end
theorem iR.ne_fp       (I:aV X pins σ H s) (hq:iR X.K H a xs) (hf:n6 X pins H b):a≠b:=by
 rintro rfl;rcases hq with (h|⟨o,h⟩)|⟨o,its,n,hk,_⟩
 ·rw [hf.1] at h;cases h
 ·rw [hf.1] at h;cases h
 ·have e:X.base.get? a=some o:=I.mod.kin a o hk;rcases hf.f3 with z|z
  ·exact I.ok.noex a o e z
  ·exact absurd (au (al e) (cn I.ok.bsz z)) (bX _)
def Nz (K:a7) (a b:ac):It :=
 ⟨fun i H=>∃ xs ys x y,iR K H a xs/\iR K H b ys/\xs[i]?=some x/\ys[i]?=some y,
  fun i H v H'=>∃ p,H p=none/\v=.ref p/\∀ xs ys,iR K H a xs->iR K H b ys->∃ x y,xs[i]?=some x/\ys[i]?=some y/\H'=upd H p (.tup [x,y]),
  fun i H=>∃ xs ys,iR K H a xs/\iR K H b ys/\(xs.length<=i\/ys.length<=i)⟩
structure NA (z TI TO i1 i2:ac):Prop where
 d1:TI≠z
 d2:TO≠z
 d3:i1≠z
 d4:i2≠z
 d5:TI≠TO
 d6:TI≠i1
 d7:TI≠i2
 d8:TO≠i1
 d9:TO≠i2
 d0:i1≠i2
theorem Ep {P:aJ}{w:aS}{K:a7}{elts:List aQ}{x1}{pos:Pos} (l1 l2 z TI TO i1 i2:ac) (Z:NA z TI TO i1 i2) :
  zY P w K (.Tuple elts x1 pos) (Nz K l1 l2) [z,TI,TO,i1,i2] z (fun i h=>pX h z TI TO .none/\i9 h TI (.ref i1) (.ref i2)/\(∃ a b,i9 h TO a b)/\h.IsTupleIter i1 l1 i/\h.IsTupleIter i2 l2 i) where
 mem:=by simp
 obj:=fun i h st b hb=>by
  obtain ⟨s1,s2,⟨_,_,s3⟩,⟨o4,e4,_,f4⟩,⟨o5,e5,_,f5⟩⟩:=st;simp only [aM,bv,or_false] at hb;rcases hb with rfl|rfl|rfl|rfl|rfl
  ·exact ⟨_,s1,fun v q=>by cases q⟩
  ·exact ⟨_,s2,fun v q=>by cases q⟩
  ·exact ⟨_,s3,fun v q=>by cases q⟩
  ·exact ⟨o4,e4,fun v q=>by rw [f4] at q;cases q⟩
  ·exact ⟨o5,e5,fun v q=>by rw [f5] at q;cases q⟩
 keep:=fun i h h' st k=>by
  obtain ⟨s1,s2,⟨u,v,s3⟩,⟨o4,e4,r4⟩,⟨o5,e5,r5⟩⟩:=st;exact ⟨k z (by simp) _ s1,k TI (by simp) _ s2,⟨u,v,k TO (by simp) _ s3⟩,⟨o4,k i1 (by simp) _ e4,r4⟩,⟨o5,k i2 (by simp) _ e5,r5⟩⟩
 item:=by
  intro X hP hw hK hc i pins s σ H E I hf st hg;subst hP hw hK;obtain ⟨xs,ys,x,y,hq1,hq2,hx,hy⟩:=hg;obtain ⟨its1,rv1,p1,_⟩:=I.tuple hq1;obtain ⟨its2,rv2,p2,_⟩:=I.tuple hq2;obtain ⟨u,hu,ru⟩:=rv1.get hx;obtain ⟨v,hv,rv⟩:=rv2.get hy;obtain ⟨s1,s2,⟨a,b,s3⟩,s4,s5⟩:=st;have ne1:∀ b∈[z,TI,TO,i1,i2],l1≠b:=fun b hb=>hq1.ne_fp I (hf b hb);have ne2:∀ b∈[z,TI,TO,i1,i2],l2≠b:=fun b hb=>hq2.ne_fp I (hf b hb);have D:Gs z TI TO i1 i2 l1 l2:=⟨Z.d1,Z.d2,Z.d3,Z.d4,Z.d5,Z.d6,Z.d7,Z.d8,Z.d9,Z.d0,ne1 z (by simp),ne1 TO (by simp),ne1 i1 (by simp),ne1 i2 (by simp),ne2 z (by simp),ne2 TO (by simp),ne2 i1 (by simp),ne2 i2 (by simp)⟩;have zl:=al s1;have hT:s.TypeIs (.ref z) "zip":=⟨_,s1,rfl⟩;unfold i8;refine a6 (hV (bP (name:=dm "__next__") hT nl ?_));refine bz nl hT F.entry_zip_next (Em D s1 s2 s3 s4 s5 p1 p2 (by simpa using hu) (by simpa using hv) fun h1 z1 t1 y1 y2 pr k1=>?_) (F.args_zip_next_1 _);refine a8 ⟨_,rfl,wpAny_letOwnedTupleGo_zip z1 fun h2 z2 b2=>?_⟩;have szn:s.heap.objs.size≠z:=eY zl;have TIk:i9 h1 TI (.ref i1) (.ref i2):=k1 TI _ Z.d1 Z.d5 Z.d6 Z.d7 s2;have I2:aV X pins σ H { s with heap:=h2 }:=I.turnedL (t':=s.toks) (ch:=[z,TI,TO,i1,i2]) (fun b o hb q=>by
   simp only [aM,bv,or_false,not_or] at hb;exact (b2.2 b hb.1).trans (k1 b o hb.1 hb.2.2.1 hb.2.2.2.1 hb.2.2.2.2 q)) hf
  have fT:=I.fpOk (H':=H) (aq _) (I.hok.fresh (aq _));have pr2:h2.get? s.heap.objs.size=some { cls:=.type "tuple",data:=.seq #[u,v] }:=(b2.2 _ szn).trans pr;have I3:=I2.track (ho:=.tup [x,y]) fT ⟨by show 2<=sizeLine;decide,[u,v],.cons ru (.cons rv .nil),⟨_,pr2,rfl,0,rfl⟩⟩;refine ⟨.ref s.heap.objs.size,_,I3,rfl,⟨_,fT.1,rfl,fun xs' ys' h1 h2=>?_⟩,⟨z2,(b2.2 TI Z.d1).trans TIk,⟨u,v,(b2.2 TO Z.d2).trans t1⟩,gy y1 b2 Z.d3,gy y2 b2 Z.d4⟩,fun b hb=>?_⟩
  ·rw [I.tuple_inj h1 hq1,I.tuple_inj h2 hq2];exact ⟨x,y,hx,hy,rfl⟩
  ·have bl:b<s.heap.objs.size:=by
    simp only [aM,bv,or_false] at hb;rcases hb with q|q|q|q|q
    ·rw [q];exact zl
    ·rw [q];exact al s2
    ·rw [q];exact al s3
    ·obtain ⟨_,e,_⟩:=s4;rw [q];exact al e
    ·obtain ⟨_,e,_⟩:=s5;rw [q];exact al e
   rw [aG (aA bl)];exact (hf b hb).1
 done:=by
  intro X hP hw hK hc i pins s σ H E I hf st hg;subst hP hw hK;obtain ⟨xs,ys,hq1,hq2,hend⟩:=hg;obtain ⟨its1,rv1,p1,_⟩:=I.tuple hq1;obtain ⟨its2,rv2,p2,_⟩:=I.tuple hq2;obtain ⟨s1,s2,⟨a,b,s3⟩,s4,s5⟩:=st;have ne1:∀ b∈[z,TI,TO,i1,i2],l1≠b:=fun b hb=>hq1.ne_fp I (hf b hb);have ne2:∀ b∈[z,TI,TO,i1,i2],l2≠b:=fun b hb=>hq2.ne_fp I (hf b hb);have D:Gs z TI TO i1 i2 l1 l2:=⟨Z.d1,Z.d2,Z.d3,Z.d4,Z.d5,Z.d6,Z.d7,Z.d8,Z.d9,Z.d0,ne1 z (by simp),ne1 TO (by simp),ne1 i1 (by simp),ne1 i2 (by simp),ne2 z (by simp),ne2 TO (by simp),ne2 i1 (by simp),ne2 i2 (by simp)⟩;have hT:s.TypeIs (.ref z) "zip":=⟨_,s1,rfl⟩;have n1:=rv1.length;have n2:=rv2.length;unfold i8;refine a6 (hV (bP (name:=dm "__next__") hT nl ?_));refine bz nl hT F.entry_zip_next (Eo (by simpa using I.ok.hd hc) D s1 s2 s3 s4 s5 p1 p2 (hend.elim (fun q=>.inl (by simp;omega)) fun q=>.inr (by simp;omega)) fun h' e kp he=>?_) (F.args_zip_next_1 _);obtain ⟨o,eo,co⟩:=he;refine a6 (gR (T:="StopIteration") (b:=true) ⟨o,eo,co⟩ zS ?_);exact a8 ⟨rfl,I.turnedL (t':=s.toks) (ch:=[z,TI,TO,i1,i2]) (fun b o hb q=>by
   simp only [aM,bv,or_false,not_or] at hb;exact kp b o hb.1 hb.2.2.1 hb.2.2.2.1 hb.2.2.2.2 q) hf⟩
 self:=fun _ _ _ _ _ st h=>wpAny_pyIter_zip st.1 h
def NB (K:a7) (ta:TA):TI:=fun σ H R=>ta σ H fun vs H1=>∃ a b xs ys,vs=[.ref a,.ref b]/\iR K H1 a xs/\iR K H1 b ys/\R (Nz K a b) H1
theorem Kb {X:Cx}{elts:List aQ}{x1}{tpos p pos:Pos}{a b:aQ}{ta:TA} (hg:Gl X "zip") (hm:X.mg "zip"=none) (ha:PA X [a,b] ta) (hs:ap [a,b] X.env=[(false,cQ a X.env),(false,cQ b X.env)]:=by rfl)
  (hs2:ap [b] X.env=[(false,cQ b X.env)]:=by rfl):PI X (.Tuple elts x1 tpos) (.Call (.Name "zip" p) [a,b] [] pos) (NB X.K ta):=by
 intro pins s σ H R I h;refine Call_ (sM I hg hm boot_zip (oK (dX (ha pos pins s σ H _ I h) fun us s1 ⟨vs,H1,I1,r1,q1⟩=>?_) (by rw [hs,hs2]) (by rw [hs2];rfl)));obtain ⟨a1,a2,xs,ys,rfl,hq1,hq2,q⟩:=q1;obtain ⟨u1,u2,rfl,rx1,rx2⟩:=DS r1;cases rx1;cases rx2;obtain ⟨its1,rv1,p1,_⟩:=I1.tuple hq1;obtain ⟨its2,rv2,p2,_⟩:=I1.tuple hq2;refine wK (show s1.heap.IsTuple a1 its1.toArray from p1) (show s1.heap.IsTuple a2 its2.toArray from p2) fun h' c1 c2 c3 c4 c5 kp=>?_;refine wpAny_pyIter_zip c1 ?_;have I2:aV X pins σ H1 { s1 with heap:=h' }:=I1.kept (t':=s1.toks) kp;have ad:∀ k j:Nat,k≠j->s1.heap.objs.size+k≠s1.heap.objs.size+j:=fun k j n e=>n (Nat.add_left_cancel e);refine ⟨s1.heap.objs.size+4,[s1.heap.objs.size+4,s1.heap.objs.size+2,s1.heap.objs.size+3,s1.heap.objs.size+0,s1.heap.objs.size+1],_,_,H1,rfl,I2,
  Ep a1 a2 _ _ _ _ _ ⟨ad _ _ (by decide),ad _ _ (by decide),ad _ _ (by decide),ad _ _ (by decide),ad _ _ (by decide),ad _ _ (by decide),ad _ _ (by decide),ad _ _ (by decide),ad _ _ (by decide),ad _ _ (by decide)⟩,
  ⟨c1,c2,⟨_,_,c3⟩,c4,c5⟩,fun b hb=>?_,q⟩
 have:∀ k:Nat,n6 X pins H1 (s1.heap.objs.size+k):=fun k=>I1.fpOk (Gv _ _) (I1.hok.fresh (Gv _ _))
 simp only [aM,bv,or_false] at hb;rcases hb with q|q|q|q|q<;>(rw [q];exact this _)
end
section
mutual
inductive Al (K:a7) (H:Hp):V->wj->Prop
 |none:Al K H .non .none
 |bool (b:Bool):Al K H (.bl b) (.bool b)
 |int (i:Int):Al K H (.int i) (.int i)
 |str (x:Str):Al K H (.str x) (.str x)
 |list {a:ac}{xs:List V}{ds:List wj}:jx K H a xs->Reps K H xs ds->Al K H (.ref a) (.list ds)
 |tuple {a:ac}{xs:List V}{ds:List wj}:iR K H a xs->Reps K H xs ds->Al K H (.ref a) (.tuple ds)
inductive Reps (K:a7) (H:Hp):List V->List wj->Prop
 |nil:Reps K H [] []
 |cons {x:V}{xs:List V}{d:wj}{ds:List wj}:Al K H x d->Reps K H xs ds->Reps K H (x::xs) (d::ds)
end
theorem cb.tup {K:a7}{H H':Hp}{a:ac}{xs:List V} (e:cb H H') (h:iR K H a xs):iR K H' a xs:=by
 rcases h with (h|⟨o,h⟩)|h
 ·exact .inl (.inl (e _ _ h))
 ·exact .inl (.inr ⟨o,e _ _ h⟩)
 ·exact .inr h
section
theorem Hl (I:aV X pins σ H s)    (h:jx X.K H a xs) (ih:∀ {us:List a9},cu xs us->∃ as,ReadsAll s.heap us ds as) (r:bW (.ref a) u):∃ as,Reads s.heap u (.list ds) as:=by
 cases r;obtain ⟨its,rv,⟨o,n,e,c,_,d⟩,_⟩:=I.list h;obtain ⟨as,ra⟩:=ih rv;exact ⟨_,.list e c d (by simpa using ra)⟩
theorem Es (I:aV X pins σ H s)    (h:iR X.K H a xs) (ih:∀ {us:List a9},cu xs us->∃ as,ReadsAll s.heap us ds as) (r:bW (.ref a) u):∃ as,Reads s.heap u (.tuple ds) as:=by
 cases r;obtain ⟨its,rv,⟨o,e,c,n,d⟩,_⟩:=I.tuple h;obtain ⟨as,ra⟩:=ih rv;exact ⟨_,.tuple e c d (by simpa using ra)⟩
theorem mI (I:aV X pins σ H s)  (h:Al X.K H v d):∀ {u:a9},bW v u->∃ as,Reads s.heap u d as :=
 Al.rec (motive_1:=fun v d _=>∀ {u:a9},bW v u->∃ as,Reads s.heap u d as) (motive_2:=fun vs ds _=>∀ {us:List a9},cu vs us->∃ as,ReadsAll s.heap us ds as)
  (fun r=>by cases r;exact ⟨_,.none⟩) (fun b _ r=>by cases r;exact ⟨_,.bool b⟩) (fun i _ r=>by obtain ⟨t,rfl⟩:=r;exact ⟨_,.int i t⟩) (fun x _ r=>by obtain ⟨t,rfl⟩:=r;exact ⟨_,.str x t⟩)
  (fun h _ ih _ r=>Hl I h ih r) (fun h _ ih _ r=>Es I h ih r) (fun r=>by cases r;exact ⟨_,.nil⟩) (fun _ _ a b _ r=>by
   cases r with
   |cons r rs =>
    obtain ⟨as,ra⟩:=a r;obtain ⟨bs,rb⟩:=b rs;exact ⟨_,.cons ra rb⟩) h
end
section
inductive IP (K:a7) (neg:Bool) (x:V) (y:V) (H:Hp) (Q:VK):Prop
 |mk (dx dy:_) (h0:Al K H x dx) (h1:Al K H y dy) (h2:dx.canLay0=true) (h3:dy.canLay0=true) (h4:min dx.depth dy.depth<=60) (h5:Q (.bl (if neg then !bL dx dy else bL dx dy)) H):IP K neg x y H Q
def Kc (K:a7) (neg:Bool):R2:=IP K neg
theorem Kd (hu:X.A.units+64<ik):mF X (bh .Eq) (Kc X.K false):=by
 intro pins s σ H x y v u Q I rx ry h;obtain ⟨dx,dy,hx,hy,lx,ly,dp,q⟩:=h;obtain ⟨as,ra⟩:=mI I hx rx;obtain ⟨bs,rb⟩:=mI I hy ry;exact PySem.SeqAt.compareEq_reads ra rb lx ly (by omega) ⟨.bl _,H,I,rfl,q⟩
theorem Ke (hu:X.A.units+64<ik):mF X (bh .NotEq) (Kc X.K true):=by
 intro pins s σ H x y v u Q I rx ry h;obtain ⟨dx,dy,hx,hy,lx,ly,dp,q⟩:=h;obtain ⟨as,ra⟩:=mI I hx rx;obtain ⟨bs,rb⟩:=mI I hy ry;exact PySem.SeqAt.compareNe_reads ra rb lx ly (by omega) ⟨.bl _,H,I,rfl,q⟩
end
end
section
structure IQ (P:aJ) (w:aS) (l:List Env) (H H':Hp) (h h' B:aW) (ea C t:ac):Prop where
 fly:Heap.FlyingW B l ea (.ref C) (.ref t) h'
 cov:∀ b u,H' b=some u->∃ o,B.get? b=some o
 old:∀ b o,h.get? b=some o->H b=none->b∉nr l->B.get? b=some o
 all:∀ b o,h.get? b=some o->b∉nr l->∃ o',B.get? b=some o'
 un:Un (nr l) [] H H' h h'
 hok:lC P w H' h'
inductive LS (P:aJ) (w:aS) (outer:List Env) (H:Hp) (s:ae) (E:XK) (e:a9) (s':ae):Prop
 |mk (ea C t H' B:_) (h0:e=.ref ea) (h1:s'.os=s.os) (h2:lH s'.gens) (h3:IQ P w outer H H' s.heap s'.heap B ea C t) (h4:E (.ref C) none H'):LS P w outer H s E e s'
def iA (P:aJ) (w:aS):A6:=LS P w
theorem Et      (x:lC P w H h) (e:H b=some u):∃ o,h.get? b=some o:=by
 have y:=x b u e;cases u with
 |lst xs=>obtain ⟨_,_,_,_,k⟩:=y;exact ⟨_,k⟩
 |tup xs=>obtain ⟨_,_,_,o,k,_⟩:=y;exact ⟨o,k⟩
 |dK kvs=>obtain ⟨_,_,_,_,o,_,_,k,_⟩:=y;exact ⟨o,k⟩
 |dT kvs=>obtain ⟨_,_,_,_,o,_,_,k,_⟩:=y;exact ⟨o,k⟩
 |set S n=>obtain ⟨o,_,_,_,k,_⟩:=y;exact ⟨o,k⟩
 |ins C dx fs=>obtain ⟨_,_,_,k,_⟩:=y;exact ⟨_,k⟩
 |own y'=>exact y
 |xd fs=>obtain ⟨_,⟨o,_,_,k,_⟩,_⟩:=y;exact ⟨o,k⟩
 |rng lo hi=>obtain ⟨_,_,_,k⟩:=y;exact ⟨_,k⟩
 |frz o u=>exact ⟨o,y.1⟩
 |tbl ps=>obtain ⟨_,k,_⟩:=y;exact ⟨_,k⟩
 |met f y'=>exact ⟨_,y⟩
 |ext φ=>exact y.2.1
theorem B5   (he:env∈l) (hf:env.frame=some b):b∈nr l:=List.mem_filterMap.mpr ⟨env,he,hf⟩
section
theorem IQ.kp (x:IQ P w l H H' h h' B ea C t) (st:B.StaysIn h'') (b:ac) (u:HO) (o:Obj) (e:H' b=some u) (q:h'.get? b=some o):h''.get? b=some o:=by
 obtain ⟨o',e1⟩:=x.cov b u e;have:=x.fly.1 b o' e1;rw [q] at this;cases this;exact st b o e1
theorem IQ.on (x:IQ P w l H H' h h' B ea C t) (fl:Heap.FlyingW B l ea (.ref C) (.ref t) h'') (up:h'.UpToSlots h''):IQ P w l H H' h h'' B ea C t:=by
 have st:=fl.1;refine ⟨fl,x.cov,x.old,x.all,⟨fun b o q n hb hx=>st b o (x.old b o q n hb),fun b o q n hb hx=>?_,x.un.free,fun b o q hx=>?_,x.un.tups,x.un.frzs,x.un.tbls⟩,fun b u e=>?_⟩
 ·obtain ⟨sl,e1⟩:=x.un.slot b o q n hb hx;obtain ⟨_,o',k1,k2⟩:=dz x.fly.2.2.1 hb;rw [e1] at k1;cases k1;obtain ⟨sl',e2⟩:=up b _ e1 k2;exact ⟨sl',e2⟩
 ·by_cases hb:b∈nr l
  ·obtain ⟨_,o',k1,_⟩:=dz fl.2.2.1 hb;exact ⟨o',k1⟩
  ·obtain ⟨o',k⟩:=x.all b o q hb;exact ⟨o',st b o' k⟩
 ·exact (x.hok b u e).stay (fun c o hc q=>by
   rcases hc with z|z
   ·rw [z] at q ⊢;exact x.kp st b u o e q
   ·exact x.kp st c _ o z q) (fun _ q=>q) (fun _ _ q=>q) fun _ _ _ q=>q
end
section
variable {P:aJ}{w:aS}{K:a7}{mg:Str->Option a9}{base:aW}{N:List Str}{qual:Str}{scope:cf}{f:ac}{cd:a9}{A:aR}{outer:List Env}{s:ae}{H:Hp}{E:XK}
theorem wL       (I:aV (g9 (iA P w) P w K mg base N qual scope f cd A outer s H E) pins σ H1 s1)
  (hx:Heap.MadeExcOf s1.heap h' ea (.ref C) vs) (q:E (.ref C) none H1):(g9 (iA P w) P w K mg base N qual scope f cd A outer s H E).xe (.ref ea) { s1 with heap:=h' }:=by
 let X:=g9 (iA P w) P w K mg base N qual scope f cd A outer s H E
 let B:=C_ s1.heap (nr X.stack)
 have hin:∀ env∈X.stack,∀ a,env.frame=some a->a∈nr X.stack:=fun env he a hf=>B5 he hf;have stB:B.StaysIn s1.heap:=fun b o e=>zA _ e;have nS:∀ b,b∉nr X.stack->∀ o,s1.heap.get? b=some o->B.get? b=some o:=fun b n o e=>zt _ e n;show ai _ X.A (leaving X.env (.ref ea)) _ _ _;refine wpAny_leaves_madeW (s:={ s1 with heap:=h' }) (base:=B) (outer:=outer) (L:=X.env.locals) I.ok.frames rfl stB (PySem.W.funFrames_hide I.stack hin) hx fun h2 t fl tup tn up=>?_;have st2:=fl.1;have bl:∀ b o,s.heap.get? b=some o->b∉nr outer->b∉nr X.stack:=fun b o e n z=>by
  rcases List.mem_cons.mp (I.stkSub b z) with y|y
  ·exact absurd (al e) (by rw [y];exact Nat.not_lt.mpr I.ok.above)
  ·exact n y
 have noex:∀ b:ac,b∉X.ex:=fun b z=>absurd (show b∈([] : List ac) from z) (by simp);have cov:∀ b u,H1 b=some u->∃ o,B.get? b=some o:=fun b u e=>by
  have hb:b∉nr X.stack:=fun z=>by have:=I.stkFree b z;rw [e] at this;cases this
  obtain ⟨o,k⟩:=Et I.hok e;exact ⟨o,nS b hb o k⟩
 refine ⟨ea,C,t,H1,B,rfl,I.os,I.bare,⟨fl,cov,fun b o e n hb=>?_,fun b o e hb=>?_,⟨fun b o e n hb hx'=>?_,fun b o e n hb hx'=>?_,fun b o e n _=>I.base.free b o e n (noex b),fun b o e _=>?_,I.base.tups,I.base.frzs,I.base.tbls⟩,fun b u e=>?_⟩,q⟩
 ·exact nS b (bl b o e hb) o (I.base.keep b o e n hb (noex b))
 ·obtain ⟨o',k⟩:=I.base.there b o e (noex b);exact ⟨o',nS b (bl b o e hb) o' k⟩
 ·exact st2 b o (nS b (bl b o e hb) o (I.base.keep b o e n hb (noex b)))
 ·obtain ⟨sl,k⟩:=I.base.slot b o e n hb (noex b);obtain ⟨_,o',k1,k2⟩:=dz I.funs hb;rw [k] at k1;cases k1;obtain ⟨sl',k3⟩:=up b _ (hx.keeps _ _ k) k2;exact ⟨sl',k3⟩
 ·obtain ⟨o',k⟩:=I.base.there b o e (noex b);by_cases hb:b∈nr outer
  ·obtain ⟨_,o2,k1,_⟩:=dz fl.2.2.1 hb;exact ⟨o2,k1⟩
  ·exact ⟨o',st2 b o' (nS b (bl b o e hb) o' k)⟩
 ·refine (I.hok b u e).stay (fun c o hc k=>?_) (fun _ q=>q) (fun _ _ q=>q) fun _ _ _ q=>q;have hcs:c∉nr X.stack:=fun z=>by
   have:=I.stkFree c z;rcases hc with y|y
   ·rw [y,e] at this;cases this
   ·rw [y] at this;cases this
  exact st2 c o (nS c hcs o k)
theorem yp (hE:∀ c H',E' c none H'->E c none H'):fS (iA P w) (g9 (iA P w) P w K mg base N qual scope f cd A outer s H E) E':=by
 intro pins σ H1 s1 e s' I h;obtain ⟨ea,C,t,H',B,rfl,os,bare,x,q⟩:=h;let X:=g9 (iA P w) P w K mg base N qual scope f cd A outer s H E
 have noex:∀ b:ac,b∉X.ex:=fun b z=>absurd (show b∈([] : List ac) from z) (by simp);have bl:∀ b o,s.heap.get? b=some o->b∉nr outer->b∉nr X.stack:=fun b o e n z=>by
  rcases List.mem_cons.mp (I.stkSub b z) with y|y
  ·exact absurd (al e) (by rw [y];exact Nat.not_lt.mpr I.ok.above)
  ·exact n y
 have sub:∀ b∈nr outer,b∈nr X.stack:=fun b hb=>by
  obtain ⟨env,he,hf⟩:=List.mem_filterMap.mp hb;exact B5 (ah _ he) hf
 show ai _ X.A (leaving X.env (.ref ea)) _ _ _;refine wpAny_leaves_onW (base:=B) (outer:=outer) (L:=X.env.locals) I.ok.frames rfl x.fly fun h2 fl up=>?_;have st2:=fl.1;refine ⟨ea,C,t,H',B,rfl,os.trans I.os,bare,⟨fl,x.cov,fun b o e n hb=>?_,fun b o e hb=>?_,⟨fun b o e n hb hx'=>?_,fun b o e n hb hx'=>?_,fun b o e n _=>?_,fun b o e _=>?_,fun b xs e=>x.un.tups b xs (I.base.tups b xs e),fun b o xs e=>x.un.frzs b o xs (I.base.frzs b o xs e),fun b ps e=>?_⟩,fun b u e=>?_⟩,hE _ _ q⟩
 ·exact x.old b o (I.base.keep b o e n hb (noex b)) (I.base.free b o e n (noex b)) (bl b o e hb)
 ·obtain ⟨o',k⟩:=I.base.there b o e (noex b);exact x.all b o' k (bl b o e hb)
 ·exact st2 b o (x.old b o (I.base.keep b o e n hb (noex b)) (I.base.free b o e n (noex b)) (bl b o e hb))
 ·obtain ⟨sl,k⟩:=I.base.slot b o e n hb (noex b);obtain ⟨sl1,k1⟩:=x.un.slot b _ k (I.base.free b o e n (noex b)) (sub b hb) (by simp);obtain ⟨_,o',k2,k3⟩:=dz x.fly.2.2.1 (sub b hb);rw [k1] at k2;cases k2;obtain ⟨sl2,k4⟩:=up b _ k1 k3;exact ⟨sl2,k4⟩
 ·obtain ⟨o',k⟩:=I.base.there b o e (noex b);exact x.un.free b o' k (I.base.free b o e n (noex b)) (by simp)
 ·obtain ⟨o',k⟩:=I.base.there b o e (noex b);by_cases hb:b∈nr outer
  ·obtain ⟨_,o2,k1,_⟩:=dz fl.2.2.1 hb;exact ⟨o2,k1⟩
  ·obtain ⟨o2,k2⟩:=x.all b o' k (bl b o e hb);exact ⟨o2,st2 b o2 k2⟩
 ·obtain ⟨m1,e1⟩:=I.base.tbls b ps e;obtain ⟨m2,e2⟩:=x.un.tbls b _ e1;exact ⟨m1++m2,by rw [e2,BJ]⟩
 ·exact (x.hok b u e).stay (fun c o hc k=>by
   rcases hc with z|z
   ·rw [z] at k ⊢;exact x.kp st2 b u o e k
   ·exact x.kp st2 c _ o z k) (fun _ q=>q) (fun _ _ q=>q) fun _ _ _ q=>q
end
end
section
section
variable {P:aJ}{w:aS}{K:a7}{mg:Str->Option a9}{base:aW}{N:List Str}{qual:Str}{scope:cf}{f:ac}{cd:a9}{A:aR}{outer:List Env}{s:ae}{H:Hp}{E:XK}
theorem Eu {x:Str}{np cpos pos:Pos}{e0:aQ}{b_:List aQ}{C:ac}{bmB:List a9}{newId initId Bn:String}{ta:TA} (O:OwnCls x C bmB newId mg base) (FB:ExcBaseFacts Bn newId initId bmB)
  (hg:Gl (g9 (iA P w) P w K mg base N qual scope f cd A outer s H E) x) (ha:PA (g9 (iA P w) P w K mg base N qual scope f cd A outer s H E) (e0::b_) ta)
  (he:ap (e0::b_) (g9 (iA P w) P w K mg base N qual scope f cd A outer s H E).env=(false,cQ e0 (g9 (iA P w) P w K mg base N qual scope f cd A outer s H E).env)::ap b_ (g9 (iA P w) P w K mg base N qual scope f cd A outer s H E).env:=by rfl)
  (hdb:(x==("__debug__" : Str))=false:=by decide) (hpl:(cR cpos (ap b_ (g9 (iA P w) P w K mg base N qual scope f cd A outer s H E).env)).any (·.1)=false:=by rfl) :
  PS (g9 (iA P w) P w K mg base N qual scope f cd A outer s H E) (.Raise (some (.Call (.Name x np) (e0::b_) [] cpos)) none pos) (fun D σ H1=>ta σ H1 fun vs H2=>vs.length<=sizeLine/\E (.ref C) none H2):=by
 intro pins s1 σ H1 D I h;obtain ⟨tl,Nn,nm,q,bs,hdct,sn,sub,ab,col,dd,k0,k1,k2,k3,k5,mN,hC,hN,hni,T⟩:=O.obj;refine wpAny_Raise_call_subT (C:=C) (nm:=nm) (q:=q) (N:=Nn) (bs:=bs) (bm:=tl) (hdct:=hdct) (sn:=sn) (sub:=sub) (ab:=ab) (col:=col) (dd:=dd) (k0:=k0) (k1:=k1) (k2:=k2) (k3:=k3) (k5:=k5)
  FB (mN:=mN) (T.hasType FB.hasBase) (I.ok.hd rfl) ?_ hni (s9 I hg O.bound ⟨rfl,?_⟩ hdb)
 ·rw [he];show (false||_)=false;rw [kC];exact hpl
 ·have hx:=ha cpos pins s1 σ H1 _ I h;rw [he] at hx ⊢;refine zI (dX hx fun us s2 ⟨vs,H2,I2,r2,z,qE⟩=>?_);have kb:∀ b o,base.get? b=some o->s2.heap.get? b=some o:=I2.bk;exact ⟨rfl,by show us.length<=sizeLine;rw [<- r2.length];exact z,kb _ _ hC,hN.keeps kb,T.keeps kb,fun h' ea hm=>wL I2 hm qE⟩
end
structure wM (base:aW) (C:ac) (bm:List a9):Prop where
 obj:∃ nm q N bs hdct sn sub ab col dd k0 k1 k2 k3 k5 newId,base.get? C=some (excClassObj nm q C N bs bm hdct sn sub ab col dd k0 k1 k2 k3 k5 newId)
 exc:bm.contains (.type "BaseException")=true
theorem sZ         (kb:∀ b o,base.get? b=some o->s.heap.get? b=some o) (x:wM base C bm) (y:wM base Cp bp)
  (hm:bm.contains (.ref Cp)=true) (he:s.heap.get? ea=some oe) (hcls:oe.cls=.ref C) (h:Q true s):ai M A (excMatches (.ref ea) (.ref Cp)) Q E s:=by
 obtain ⟨⟨nm,q,Nn,bs,hdct,sn,sub,ab,col,dd,k0,k1,k2,k3,k5,newId,o1⟩,x2⟩:=x;obtain ⟨⟨nm',q',Nn',bs',hdct',sn',sub',ab',col',dd',k0',k1',k2',k3',k5',newId',o2⟩,y2⟩:=y;have hC:=kb _ _ o1;have hP:=kb _ _ o2;have c1:(bc C::bm).contains (.ref Cp)=true:=by rw [jv,hm,Bool.or_true]
 have c2:(bc Cp::bp).contains (.type "BaseException")=true:=by rw [jv,y2,Bool.or_true]
 have f:=tc_notTuple;obtain ⟨hp,g,d,tk,os⟩:=s;unfold excMatches;repeat (first
  |(with_reducible refine wpAny_loadPart_at he ?_;rw [hcls])
  |with_reducible refine wpAny_loadPart_at hP ?_
  |(with_reducible refine wpAny_isSubtype_exc hC ?_;rw [c1])
  |(with_reducible refine wpAny_isSubtype_exc hP ?_;rw [c2])
  |wp_step)
 exact h
def s_ (ea C:ac):HO:=.ext fun h=>∃ o,h.get? ea=some o/\o.cls=.ref C
theorem Hm      (e:h.get? ea=some o) (c:o.cls=.ref C):cj P w H h ea (s_ ea C) :=
 ⟨⟨o,e,c⟩,⟨o,e⟩,fun h1 h2 ⟨o,e,c⟩ k=>⟨o,k o e,c⟩⟩
def Lc (X:Cx) (ea:ac):Cx:={ X with A:=X.A.mark (some (.ref ea)),calm:=false,xe:=fun _ _=>False }
theorem aV.inH     (I:aV X pins σ H s) (ea:ac):aV (Lc X ea) pins σ H s :=
 ⟨⟨I.ok.mod,I.ok.kind,I.ok.glob,I.ok.blt,I.ok.above,I.ok.inj,I.ok.has,I.ok.cab,(fun z=>cm z),I.ok.frames,I.ok.stk,I.ok.exf,I.ok.bs,I.ok.bsz,I.ok.noex,I.ok.exfs,I.ok.funs,I.ok.frf,I.ok.tb⟩,I.os,I.bare,I.base,I.loc,I.cell,I.free,I.freeC,I.pin,I.hok,I.len⟩
theorem aV.outH      (ok:X.Ok) (I:aV (Lc X ea) pins σ H s):aV X pins σ H s :=
 ⟨ok,I.os,I.bare,I.base,I.loc,I.cell,I.free,I.freeC,I.pin,I.hok,I.len⟩
def t5 (X:Cx):St:=jq X.N.length none
theorem aV.forget        (I:aV X pins σ H s) (hn:h'.Ns X.env.locals m') (sb:b9 X.env.locals s.heap h'):aV X pins (t5 X) H { s with heap:=h',toks:=t' }:=by
 have ne0:∀ b o,X.s₀.heap.get? b=some o->b≠X.env.locals:=fun b o e=>aA (au (al e) I.ok.above);refine ⟨I.ok,I.os,I.bare,⟨fun b o e n hb hx=>(sb.2 b (ne0 b o e)).trans (I.base.keep b o e n hb hx),fun b o e n hb hx=>?_,I.base.free,fun b o e hx=>?_,I.base.tups,I.base.frzs,I.base.tbls⟩,⟨m',hn,fun i x v h1 h2 h3=>?_⟩,fun x c e=>?_,I.free,I.freeC,fun p hp=>?_,yd I.hok I.free sb,by simp [t5]⟩
 ·obtain ⟨sl,k⟩:=I.base.slot b o e n hb hx;exact ⟨sl,(sb.2 b (ne0 b o e)).trans k⟩
 ·obtain ⟨o',k⟩:=I.base.there b o e hx;exact ⟨o',(sb.2 b (ne0 b o e)).trans k⟩
 ·have h2:(t5 X)[i]?=some (some v):=h2;unfold t5 at h2;rw [bn] at h2;split at h2<;>cases h2
 ·obtain ⟨v,z⟩:=I.cell x c e;exact ⟨v,z.sameBut sb (I.cne x c e)⟩
 ·obtain ⟨e,n,ne,nf,d⟩:=I.pin p hp;exact ⟨(sb.2 p.1 ne).trans e,n,ne,nf,d⟩
def IR (X:Cx) (Cp:ac) (i:Nat) (ts:TS) (D:oQ):XK:=fun c _ H'=>∃ C bm,c=.ref C/\wM X.base C bm/\bm.contains (.ref Cp)=true /\
 ∀ ea,H' ea=none->ts { nx:=fun _ H=>D.nx (t5 X) H,rt:=D.rt } ((t5 X).set i (some (.ref ea))) (upd H' ea (s_ ea C))
def NC (X:Cx) (Cp:ac) (i:Nat) (tb:XK->TS) (ts:TS):TS:=fun D σ H=>tb (IR X Cp i ts D) D σ H
theorem Ev           (I:aV X pins σ H s) (hg:Gl X x) (hm:X.mg x=some u) (h:Q u s)
  (hd:(x==("__debug__" : Str))=false:=by decide):ai (ax X.prog X.w) A (cQ (.Name x pos) X.env) Q E s :=
 jl I.ok.kind hg (xE (by rw [I.ok.glob];exact I.mod.glob.keeps I.bk) hm h) hd
def IT (X:Cx) (xe:a9->ae->Prop) (pn:List (ac×Obj)):Cx:={ X with xe:=xe,pn:=pn }
theorem aV.inT     (I:aV X pins σ H s) (xe:a9->ae->Prop):aV (IT X xe (X.pn++pins)) [] σ H s :=
 ⟨⟨I.ok.mod,I.ok.kind,I.ok.glob,I.ok.blt,I.ok.above,I.ok.inj,I.ok.has,I.ok.cab,I.ok.hd,I.ok.frames,I.ok.stk,I.ok.exf,I.ok.bs,I.ok.bsz,I.ok.noex,I.ok.exfs,I.ok.funs,I.ok.frf,I.ok.tb⟩,I.os,I.bare,I.base,I.loc,I.cell,I.free,I.freeC,
  fun p hp=>I.pin p ((List.mem_append.mp hp).elim id fun z=>absurd z (by simp)),I.hok,I.len⟩
theorem aV.outT      (ok:X.Ok) (I:aV (IT X xe (X.pn++pins)) pins' σ H s):aV X pins σ H s :=
 ⟨ok,I.os,I.bare,I.base,I.loc,I.cell,I.free,I.freeC,fun p hp=>I.pin p (iK _ hp),I.hok,I.len⟩
theorem aV.track0       (I:aV X pins σ H s) (h0:X.s₀.heap.get? D=none) (f0:H D=none) (f1:D≠X.env.locals) (f4:∀ x c,X.env.cells.lookup x=some c->c≠D) (f5:∀ p∈X.pn++pins,p.1≠D)
  (new:cj X.prog X.w (upd H D ho) s.heap D ho):aV X pins σ (upd H D ho) s :=
 ⟨I.ok,I.os,I.bare,⟨I.base.keep,I.base.slot,fun b o e n hx=>by rw [aG (fun z=>by rw [z,h0] at e;cases e)];exact I.base.free b o e n hx,I.base.there,fun b xs e=>by have q:=I.base.tups b xs e;rw [aG (aI q f0)];exact q,
  fun b o xs e=>by have q:=I.base.frzs b o xs e;rw [aG (aI q f0)];exact q,fun b ps e=>by obtain ⟨m,q⟩:=I.base.tbls b ps e;exact ⟨m,by rw [aG (aI q f0)];exact q⟩⟩,I.loc,I.cell,
  by rw [aG (cO f1)];exact I.free,fun x c e=>by rw [aG (f4 x c e)];exact I.freeC x c e,fun p hp=>by
  obtain ⟨e,n,r⟩:=I.pin p hp;exact ⟨e,by rw [aG (f5 p hp)];exact n,r⟩,qe I.hok f0 new,I.len⟩
theorem Kf          (hg:Gl X x) (hm:X.mg x=some (.ref Cp)) (y:wM X.base Cp bp)
  (hN:X.N.Nodup) (hi:X.N[i]?=some n) (hn:X.env.scope.names.lookup n=some .local) (hst:∃ l,X.stack=X.env::l/\X.env.frame=some X.env.locals) (hex:X.ex=[])
  (hb:∀ (E:XK) (xe:a9->ae->Prop) (pn:List (ac×Obj)),fS (iA X.prog X.w) (IT X xe pn) E->uA (IT X xe pn) body (tb E)) (hs:∀ ea,uA (Lc X ea) (b0::suite) ts) (hdb:(x==("__debug__" : Str))=false:=by decide) :
  PS X (.Try body [.ExceptHandler (some (.Name x np)) (some n) (b0::suite) hpos] [] [] pos) (NC X Cp i tb ts):=by
 intro pins s σ H D I h;obtain ⟨l,hl,hfr⟩:=hst;have ok:=I.ok;refine wpAny_Try_except ?_;let xe:a9->ae->Prop:=fun e s₁=>ai (ax X.prog X.w) X.A (D6 e X.env) (fun _ s₂=>ai (ax X.prog X.w) X.A (setFlight e none) (fun _ s₃ =>
  ai (ax X.prog X.w) X.A (handleBy e X.env [.ExceptHandler (some (.Name x np)) (some n) (b0::suite) hpos]) (SP X pins D) X.xe s₃) X.xe s₂) X.xe s₁
 have hp:fS (iA X.prog X.w) (IT X xe (X.pn++pins)) (IR X Cp i ts D):=by
  intro pins' σ' H1 s1 e s' I' hx;have I1:aV X pins σ' H1 s1:=I'.outT ok;obtain ⟨ea,C,t,H',B,rfl,os,bare,air,C',bm,hCe,ox,hcp,hts⟩:=hx;cases hCe;have air:IQ X.prog X.w X.stack H1 H' s1.heap s'.heap B ea C t:=air;have land:∀ h2,IQ X.prog X.w X.stack H1 H' s1.heap h2 B ea C t->aV X pins σ' H' { s' with heap:=h2 }:=fun h2 a =>
   I1.call' (s':={ s' with heap:=h2 }) (ch:=[]) os a.un a.hok bare (fun b z=>absurd z (by simp))
  have fly:=air.fly;rw [hl] at fly;show ai _ X.A (D6 (.ref ea) X.env) _ _ s';refine wpAny_looks_onW (base:=B) (outer:=l) (L:=X.env.locals) (by rw [ok.frames,hl]) hfr fly fun h2 hd2 up2=>?_;refine wpAny_landsW hd2 fun h3 fl3 up3=>?_;have up3':=up2.trans up3;have a3:=air.on (by rw [hl];exact fl3) up3';have I3:=land h3 a3;obtain ⟨oe,he,hcl⟩:=fl3.there;refine wpAny_handleBy_cons (codeAny_handlers_test (Ev I3 hg hm ?_ hdb)) (by intro q;cases q);refine sZ (base:=X.base) (s:={ s' with heap:=h3 }) I3.bk ox y hcp he hcl (codeAny_handlers_suite_as ?_);refine lands_againW (s:={ s' with heap:=h3 }) fl3 fun h4 fl4 up4=>?_;have a4:=air.on (by rw [hl];exact fl4) (up3'.trans up4);have I4:=land h4 a4;obtain ⟨oe4,ws,he4,hcl4,hd4,_⟩:=fl4.first;have nB:B.get? ea=none:=fl4.2.1;have nfr:ea∉nr X.stack:=fun z=>by
   obtain ⟨_,o',k1,k2⟩:=dz fl4.2.2.1 (by rw [<- hl];exact z);rw [he4] at k1;cases k1;exact k2 _ hd4
  have n1:s1.heap.get? ea=none:=by
   cases q:s1.heap.get? ea with
   |none=>rfl
   |some o =>
    obtain ⟨o',k⟩:=air.all ea o q nfr;rw [nB] at k;cases k
  have nH:H' ea=none:=by
   cases q:H' ea with
   |none=>rfl
   |some u =>
    obtain ⟨o',k⟩:=air.cov ea u q;rw [nB] at k;cases k
  have nloc:ea≠X.env.locals:=fun z=>by
   obtain ⟨m,⟨o,_,_,k,_⟩,_⟩:=I1.loc;rw [<- z,n1] at k;cases k
  have ncell:∀ x c,X.env.cells.lookup x=some c->c≠ea:=fun x c e z=>by
   obtain ⟨v,o,k,_⟩:=I1.cell x c e;rw [z,n1] at k;cases k
  have npin:∀ p∈X.pn++pins,p.1≠ea:=fun p hp z=>by
   have k:=(I1.pin p hp).1;rw [z,n1] at k;cases k
  have n0:X.s₀.heap.get? ea=none:=by
   cases q:X.s₀.heap.get? ea with
   |none=>rfl
   |some o =>
    by_cases hx:ea∈X.ex
    ·rw [hex] at hx;cases hx
    ·obtain ⟨o',k⟩:=I1.base.there ea o q hx;rw [n1] at k;cases k
  have I5:=(I4.weak (σ':=t5 X) (by rw [I4.len];simp [t5]) (fun j v z=>by
   unfold t5 at z;rw [bn] at z;split at z<;>cases z)).track0 (ho:=s_ ea C) n0 nH nloc ncell npin (Hm he4 hcl4)
  refine lS I5 hN hi (.inl hn) (v:=.ref ea) rfl (fun s6 I6=>?_) (.inr hn);refine bu (hs ea pins s6 _ _ _ (I6.inH ea) (hts ea nH)) (fun f s7 q7=>?_) fun _ _ z=>z.elim;have fin:∀ {σ7:St}{H7:Hp}{Q':St->Hp->Prop},aV (Lc X ea) pins σ7 H7 s7->(∀ s8,aV X pins (t5 X) H7 s8->SP X pins D f s8)->ai (ax X.prog X.w) X.A (do zC X.env n .none;unbindBehindTheSuite X.env n hpos) (fun _ s8=>SP X pins D f s8) X.xe s7:=fun {σ7 H7 Q'} J k=>by
   have J:=J.outH ok;obtain ⟨m,hm7,_⟩:=J.loc;exact wpAny_nameGoes hn hm7 (by rw [ok.kind];rfl) fun h8 m8 hn8 sb8=>k _ (J.forget hn8 sb8)
  cases f with
  |next=>obtain ⟨σ7,H7,J,q⟩:=q7;exact fin (Q':=fun _ _=>True) J fun s8 I8=>⟨_,_,I8,q⟩
  |brk=>obtain ⟨σ7,H7,J,q⟩:=q7;exact q.elim
  |cont=>obtain ⟨σ7,H7,J,q⟩:=q7;exact q.elim
  |ret v=>obtain ⟨z,σ7,H7,J,r,q⟩:=q7;exact fin (Q':=fun _ _=>True) J fun s8 I8=>⟨z,_,_,I8,r,q⟩
 refine bu (hb _ xe (X.pn++pins) hp [] s σ H D (I.inT xe) h) (fun f s1 q=>?_) fun e s1 q=>q;have q:SP X pins D f s1:=by
  cases f with
  |next=>obtain ⟨σ',H',J,q⟩:=q;exact ⟨σ',H',J.outT ok,q⟩
  |brk=>obtain ⟨σ',H',J,q⟩:=q;exact ⟨σ',H',J.outT ok,q⟩
  |cont=>obtain ⟨σ',H',J,q⟩:=q;exact ⟨σ',H',J.outT ok,q⟩
  |ret v=>obtain ⟨z,σ',H',J,r,q⟩:=q;exact ⟨z,σ',H',J.outT ok,r,q⟩
 cases f with
 |next=>exact jH q
 |brk=>exact q
 |cont=>exact q
 |ret v=>exact q
end
section
structure Ew (K:a7) (C:ac):Prop where
 ga:eD K (.ref C) "__getattribute__"=some (some (.builtin "BaseException.__getattribute__"))
 gn:eD K (.ref C) "__getattr__"=some none
 ca:eD K (.ref C) "__class__"=some (some (.builtin "object.__class__"))
 gg:oH K (.builtin "object.__class__") "__get__"=some (some (.builtin "getset_descriptor.__get__"))
 tk:rq K (.builtin "object.__class__")=some true
 mo:bH K C (.type "object")=some true
 be:bH K C (.type "BaseException")=some true
 cl:(el K C).isSome=true
def vG (x C:ac) (h:aW):Prop:=∃ o,h.get? x=some o/\o.cls=.ref C
theorem vG.type   (p:vG x C h):Ga M h (typeOf (.ref x)) (.ref C):=by
 obtain ⟨o,e,c⟩:=p;exact c ▸ (PySem.W.Looks.ld e).andThen .now
section
variable {prog:aJ}{w:aS}{A:aR}{E:a9->ae->Prop}{s:ae}{K:a7}{x C:ac}{R:sA->ae->Prop}
open PySem.W Builtin Builtin.ObjectAttr Builtin.Getset_descriptor in
theorem Ho (Z:Ew K C) (X:K.In s.heap) (p:vG x C s.heap) (q:R (.ok (.ret (.ref C))) s):em (ax prog w) A (.call (.builtin "getset_descriptor.__get__") ⟨[.builtin "object.__class__",.ref x,tp],[]⟩) R s:=by
 obtain ⟨hp,gs,dr,tt,os⟩:=s;have T0:=p.type (M:=ax prog w);have T1:=looks_mroIn (M:=ax prog w) X Z.mo;refine jn KF.slot_gs.plain KF.entry_gs ?_;refine KF.slot_gs.check _ _ _ _ _ _ _ _ KF.type_class (KF.args_gs _ _ _) ?_;unfold fY.«getset_descriptor.__get__» descrGet;rw [dga_obj];refine a6 (a8 ?_);unfold descrGetter descrCheckInstance descrNameAndClass zQ;simp only [KF.owner_class];repeat lk
 refine ⟨D8 _ (by decide +kernel),dk KF.entry_class ?_⟩;unfold fY.«object.__class__» shownTypeOf;repeat lk
 exact q
theorem Ci (Z:Ew K C) (X:K.In s.heap) (p:vG x C s.heap) (h:Q (some (.ref C)) { s with toks:=s.toks+1 }):ai (ax prog w) A (getAttr? (.ref x) "__class__") Q E s:=by
 obtain ⟨hh,g,d,t,os⟩:=s;have L0:=p.type (M:=ax prog w);have L1:=lR (M:=ax prog w) X Z.ga;have L2:=lR (M:=ax prog w) X Z.gn;have F1:=lR (M:=ax prog w) X Z.ca;have F2:=PySem.W.looks_specialIn (M:=ax prog w) X Z.gg;have F3:=PySem.W.looks_takesIn (M:=ax prog w) X Z.tk;have L4:=PySem.W.looks_mroIn (M:=ax prog w) X Z.be;unfold getAttr? getAttrBy? getAttrBy;refine a6 (wpAny_mkText (a6 (hV (bw (a6 (L0.at (a6 (L1.at ?_))))))));show ai _ _ (getAttrByItsOwn (.ref x) (.str "__class__" t) (.ref C) (.builtin "BaseException.__getattribute__") false false) _ _ _;unfold getAttrByItsOwn;show ai _ _ (zH (.ref C) "__getattr__" >>= _) _ _ _;refine a6 (L2.at (a6 (hV (bw ?_))));show ai _ _ (boundAndCalled (.builtin "BaseException.__getattribute__") (.ref x) (.str "__class__" t)) _ _ _;unfold boundAndCalled;refine a6 (cK (F.excAttr_ValueError.ga.bind (.ref x)) ?_);show ai _ _ (call (.builtin "BaseException.__getattribute__") [.ref x,.str "__class__" t]) _ _ _;refine kO (jn F.excAttr_ValueError.ga.plain F.entry_bexc_ga ?_);have hk:builtinKind "BaseException.__getattribute__"=some .slot:=by decide +kernel
 have hsp:splitId "BaseException.__getattribute__"=some ("BaseException","__getattribute__"):=by decide +kernel
 have hao:=F.args_bexc_ga (.ref x) (.str "__class__" t);simp only [we,hk,hsp];have LI:Ga (ax prog w) hh (zQ (.ref x) (.type "BaseException")) true:=L0.andThen L4;refine a6 (LI.at ?_);rw [if_neg (by decide)];refine cK (a:=()) (by unfold argsOk at hao;exact hao) ?_;unfold fY.«object.__getattribute__»;refine a6 (m:=slotArgs "__getattribute__" 1 _) (a8 ?_);refine a6 (m:=Gb _) (a8 ?_);refine a6 (L0.at (a6 ?_));unfold Gc;refine a6 (F1.at (a6 (F2.at (a6 ?_))));refine a6 (F3.at ?_);refine a8 (a6 (eN (a8 ?_)));show ai _ _ (qN [.builtin "object.__class__"] (call (.builtin "getset_descriptor.__get__") [.builtin "object.__class__",.ref x,.ref C]) >>= fun v=>ret v) _ _ _;refine a6 (bw (kO (Ho (s:=⟨hh,g,d,t+1,os⟩) Z X p ?_)));exact a8 (PySem.W.handed_on rfl (a8 h))
theorem Ex (Z:Ew K C):PySem.W.KitX K (.ref x) (.ref C) (vG x C) where
 ty:=fun _ _ _ p=>p.type
 it:=fun M h X _=>by
  obtain ⟨cd,hc⟩:=Option.isSome_iff_exists.mp Z.cl;unfold el at hc;split at hc
  ·rename_i c' d' cd' sl' ho
   intro A' Q' E' s' k q;unfold isType loadHead;exact a6 (wpAny_loadPart (k _ _ (X _ _ ho)) (a8 q))
  ·cases hc
 ne:=fun h tp dd its n sl X htp=>by
  refine Bool.eq_false_iff.mpr fun q=>?_;obtain rfl:C=tp:=Value.ref.inj (beq_iff_eq.mp q);obtain ⟨cd,hc⟩:=Option.isSome_iff_exists.mp Z.cl;unfold el at hc;split at hc
  ·rename_i c' d' cd' sl' ho
   have z:=(X _ _ ho).symm.trans htp;cases z
  ·cases hc
 ca:=fun X p k=>Ci Z X p k
end
section
theorem qW:i6 X (.builtin "isinstance") (fun xs H Q=>∃ x c cv b,xs=[x,c]/\((∃ n,c=.ty n/\cv=.type n)\/∃ C',c=.ref C'/\cv=.ref C')/\((∃ t,qc X.K H x t/\cz X.K t cv=some b) \/
  ∃ ea C,x=.ref ea/\H ea=some (s_ ea C)/\Ew X.K C/\cz X.K (.ref C) cv=some b)/\Q (.bl b) H):=by
 intro pins s σ H xs us Q I r h;obtain ⟨x,c,cv,b,rfl,rc,h,q⟩:=h;obtain ⟨u,v,rfl,ru,rv⟩:=DS r;obtain rfl:v=cv:=by
  rcases rc with ⟨n,rfl,rfl⟩|⟨C',rfl,rfl⟩
  ·exact rv
  ·exact rv
 rcases h with ⟨t,ty,e⟩|⟨ea,C,rfl,hH,Z,e⟩
 ·exact ke I ru ty e fun tk=>⟨.bl b,H,I.tok tk,rfl,q⟩
 ·cases ru;have p:vG ea C s.heap:=(show cj X.prog X.w H s.heap ea (s_ ea C) from I.hok ea _ hH).1;exact bK (Ex Z) I.kIn p e (fun z=>nomatch z) fun tk=>⟨.bl b,H,I.tok tk,rfl,q⟩
end
end
section
structure iZ (k:Nat) (A:aR):Prop where
 dp:A.depth+3*k+5<kM
 un:A.units+16*k+200<ik
theorem eL.h  (r:eL k A):iZ k A:=⟨r.dp,r.un⟩
theorem iZ.mark  (r:iZ k A) (v:Option a9):iZ k (A.mark v):=⟨r.dp,r.un⟩
theorem iZ.deeper  (r:iZ (k+1) A) (env:Env):iZ k (A.deeper env):=⟨by have:=r.dp;show A.depth+1+3*k+5<_;omega,by have:=r.un;show A.units+3+16*k+200<_;omega⟩
structure yq (P:aJ) (w:aS) (K:a7) (mg:Str->Option a9) (base:aW) (k:Nat) (f:ac) (fd:cp) (ps:List Str) (sp:Sp):Prop where
 len:∀ vs H Q E,sp vs H Q E->vs.length=ps.length
 run:∀ (A:aR) (outer:List Env) (s:ae) (H:Hp) (args:Args) (us:List a9) (vs:List V) (Q:VK) (E:XK),iZ k A->A7 P w K mg base A outer s H->qO s fd args (ps.zip us)->cu vs us->sp vs H Q E ->
  em (ax P w) A (.call (.ref f) args) (CR Oj outer P w H s Q E) s
def LU (P:aJ) (w:aS) (K:a7) (mg:Str->Option a9) (base:aW) (N:List Str) (qual:Str) (scope:cf) (f:ac) (cd:a9) (A:aR) (outer:List Env) (s:ae) (H:Hp):Cx where
 prog:=P
 w:=w
 K:=K
 mg:=mg
 base:=base
 A:=A.deeper (envOfC qual scope s.heap.objs.size f cd)
 N:=N
 s₀:=s
 H₀:=H
 env:=envOfC qual scope s.heap.objs.size f cd
 outer:=outer
 stack:=envOfC qual scope s.heap.objs.size f cd::outer
 ex:=[]
 calm:=false
 fn:=fun _=>true
 pn:=[]
 xe:=fun _ _=>False
section
variable {P:aJ}{w:aS}{K:a7}{mg:Str->Option a9}{base:aW}
theorem Am
  (S:bq N ps scope) (e0:A7 P w K mg base A outer s H) (hl:vs.length=ps.length) (r:cu vs us)
  (x:InCallC s s.heap.objs.size (zE (envOfC qual scope s.heap.objs.size f cd).kindOf (ps.zip us) fun _=>none) (bi (s.heap.objs.size+1) scope.names []) (zF (envOfC qual scope s.heap.objs.size f cd).kindOf (ps.zip us) fun _=>none) s1) :
  aV (LU P w K mg base N qual scope f cd A outer s H) [] (start N vs) H s1:=by
 have e1:A7 P w K mg base { A with handled:=none } outer s H:=⟨e0.frames,e0.mod,e0.bs,e0.bsz,e0.funs,e0.frf,e0.hok,e0.bare,e0.tb⟩;have I:=vw (CX:=Oj) (E:=E0) S (A:={ A with handled:=none }) rfl e1 hl r x;exact ⟨⟨I.ok.mod,I.ok.kind,I.ok.glob,I.ok.blt,I.ok.above,I.ok.inj,I.ok.has,I.ok.cab,(fun z=>cm z),I.ok.frames,I.ok.stk,I.ok.exf,I.ok.bs,I.ok.bsz,I.ok.noex,I.ok.exfs,I.ok.funs,I.ok.frf,I.ok.tb⟩,I.os,I.bare,I.base,I.loc,I.cell,I.free,I.freeC,I.pin,I.hok,I.len⟩
theorem Kg {k:Nat}{f:ac}{name qual:Str}{params:mV}{body:List cy}{scope:cf}{dV kV doc pm cdv ct oc:a9}{an od:Option ac}
  {osl:Array (Option a9)}{N ps:List Str}{sp:Sp} (lk:K.lookup f=some ⟨oc,od,.func (cc name qual params body scope dV kV doc pm an cdv ct),osl⟩) (hcd:c6 K cdv qual=true) (S:bq N ps scope)
  (len:∀ vs H Q E,sp vs H Q E->vs.length=ps.length)
  (hbody:∀ (A:aR) (outer:List Env) (s:ae) (H:Hp) (vs:List V) (Q:VK) (E:XK),iZ k (A.deeper (envOfC qual scope s.heap.objs.size f cdv))->sp vs H Q E ->
   ∃ t,uA (LU P w K mg base N qual scope f cdv A outer s H) body t/\t { nx:=fun _ H'=>Q .non H',rt:=Q } (start N vs) H) :
  yq P w K mg base (k+1) f (cc name qual params body scope dV kV doc pm an cdv ct) ps sp:=by
 refine ⟨len,fun A outer s H args us vs Q E hr e0 hb r hsp=>?_⟩;have hl:=len _ _ _ _ hsp;have KX:K.In s.heap:=e0.mod.kin.keeps fun b o e=>(e0.bs b o e).1;have lim:s.heap.NoLimit:=e0.mod.nolimit.keeps fun b o e=>(e0.bs b o e).1;have hkind:∀ y∈ps.zip us,scope.names.lookup y.1=some .local\/(scope.names.lookup y.1=some .cell/\((bi (s.heap.objs.size+1) scope.names []).lookup y.1).isSome=true):=fun ⟨n,v⟩ hy=>by
  rcases S.par n (lN hy).1 with q|q
  ·exact .inl q
  ·exact .inr ⟨q,dA _ _ _ (.inl q)⟩
 refine G4 (by have:=hr.dp;omega) (KX _ _ lk) rfl S.co S.gen rfl (nN KX hcd) (hb _ _ _ _ ?_);refine zG S.kind hkind fun env he s1 x=>?_;subst he;refine ⟨lim.keeps x.toInCall.keep,codeAny_func ?_⟩;obtain ⟨t,ht,hq⟩:=hbody A outer s H vs Q E (hr.deeper _) hsp;have I:aV (LU P w K mg base N qual scope f cdv A outer s H) [] (start N vs) H s1:=Am S e0 hl r x;refine bu (ht [] s1 (start N vs) H _ I hq) (fun fl s' hs=>?_) fun e s' hs=>(show False from hs).elim;have fin:∀ {σ':St}{H':Hp}{v:V}{u:a9},aV (LU P w K mg base N qual scope f cdv A outer s H) [] σ' H' s'->bW v u->Q v H'->CE outer P w H s Q u s' :=
  fun {σ' H' v u} J rv q=>⟨v,H',J.os,J.bare,J.base,J.hok,rv,q⟩
 cases fl with
 |ret u =>
  obtain ⟨v,σ',H',J,rv,q⟩:=hs;exact fin J rv q
 |next =>
  obtain ⟨σ',H',J,q⟩:=hs;exact fin (v:=V.non) (u:=cx) J rfl q
 |brk =>
  obtain ⟨_,_,_,q⟩:=hs;exact df q
 |cont =>
  obtain ⟨_,_,_,q⟩:=hs;exact df q
theorem wz.okH {x qual:Str}{st:cy}{f:ac}{fd:cp}{N ps:List Str}{k:Nat}{sp:Sp} (F:wz K x qual st f fd) (S:bq N ps (aw st)) (len:∀ vs H Q E,sp vs H Q E->vs.length=ps.length)
  (hbody:∀ (cdv:a9) (A:aR) (outer:List Env) (s:ae) (H:Hp) (vs:List V) (Q:VK) (E:XK),iZ k (A.deeper (envOfC qual (aw st) s.heap.objs.size f cdv))->sp vs H Q E ->
   ∃ t,uA (LU P w K mg base N qual (aw st) f cdv A outer s H) (du st) t/\t { nx:=fun _ H'=>Q .non H',rt:=Q } (start N vs) H):yq P w K mg base (k+1) f fd ps sp:=by
 obtain ⟨oc,od,kV,doc,pm,an,cdv,ct,osl,rfl,lk,hcd⟩:=F.ex;exact Kg lk hcd S len fun A outer s H vs Q E hr hsp=>hbody cdv A outer s H vs Q E hr hsp
end
section
theorem Ey (F:yq X.prog X.w X.K X.mg X.base k f fd ps sp) (hr:iZ k X.A) (hg:Gl X x) (hm:X.mg x=some (.ref f)) (hk:bC X.K (.ref f)=true) (hb:fD X.K fd ps [])
  (ha:PA X (e::es) t) (hdb:(x==("__debug__" : Str))=false:=by decide) (he:ap (e::es) X.env=(false,cQ e X.env)::ap es X.env:=by rfl) (hpl:(cR pos (ap es X.env)).any (·.1)=false:=by rfl) :
  PE X (.Call (.Name x p) (e::es) [] pos) (xV sp [] E0 t):=by
 intro pins s σ H Q I h;refine fv (s9 I hg hm ?_ hdb);refine nM (h₀:=X.base) I.ok.mod.kin hk (dX (ha pos pins s σ H _ I h) fun us s1 ⟨vs,H1,I1,r,q⟩=>⟨I1.kIn,?_⟩) he hpl;have q:sp (vs++[]) H1 Q E0:=q;rw [bT] at q;have hl:us.length=ps.length:=by rw [<- r.length];exact F.len _ _ _ _ q
 have hb':=hb s1 us I1.kIn (by rw [bT];exact hl);rw [bT] at hb';refine kO (iC (F.run X.A X.stack s1 H1 ⟨us,[]⟩ us vs Q E0 hr I1.env0 hb' r q) fun r s' hq=>?_);cases r with
 |error e=>exact (show False from hq).elim
 |ok fl =>
  cases fl with
  |ret u=>exact I1.after hq
  |next=>exact df hq
  |brk=>exact df hq
  |cont=>exact df hq
end
end
section
section
def ND:wj->String
 |.none=>"NoneType" | .bool _=>"bool" | .int _=>"int" | .str _=>"str" | .list _=>"list" | .tuple _=>"tuple" | .dict _=>"dict"
theorem An            (I:aV X pins σ H s) (rx:bW x u) (r:Al X.K H x d) (e:cz X.K (.type (ND d)) c=some b) (h:∀ tk,Q (.bool b) { s with toks:=tk }) :
  ai (ax X.prog X.w) A (call (.builtin "isinstance") [u,c]) Q E s:=by
 cases r with
 |none=>exact ke I rx .non e h
 |bool y=>exact ke I rx (.bl y) e h
 |int i=>exact ke I rx (.int i) e h
 |str y=>exact ke I rx (.str y) e h
 |list hq _ =>
  cases rx;obtain ⟨its,rv,⟨o,n,ho,c,_,dd⟩,_⟩:=I.list hq;exact bK oJ I.kIn ⟨o,ho,c⟩ e (fun z=>nomatch z) h
 |tuple hq _ =>
  cases rx;obtain ⟨its,rv,⟨o,ho,c,n,dd⟩,_⟩:=I.tuple hq;exact bK zD I.kIn ⟨o,ho,c⟩ e (fun z=>nomatch z) h
theorem Ez:i6 X (.builtin "isinstance") (fun xs H Q=>∃ x d T b,xs=[x,.ty T]/\Al X.K H x d/\cz X.K (.type (ND d)) (.type T)=some b/\Q (.bl b) H):=by
 intro pins s σ H xs us Q I r h;obtain ⟨x,d,T,b,rfl,rp,e,q⟩:=h;obtain ⟨u,v,rfl,ru,rv⟩:=DS r;obtain rfl:v=.type T:=rv;exact An I ru rp e fun tk=>⟨.bl b,H,I.tok tk,rfl,q⟩
end
end
end L2
section
namespace HT
open PySem PyProof.Rows
section
theorem yr {t sl:ac}{items:Array a9}{vl vu:a9}{lo hi:Option Int}{Q:a9->ae->Prop} (ht:IsTup s.heap t items) (hs:s.heap.IsSliceOf sl vl vu .none) (pl:pU vl lo) (pu:pU vu hi)
  (hw:f_ items.size 0 lo=0/\f_ items.size items.size hi=items.size) (h:Q (.ref t) s):ai (ax prog w) A (lJ (.ref t) (.ref sl)) Q E s:=by
 obtain ⟨os,hos,hcs,hds⟩:=id hs;have hTs:s.TypeIs (.ref sl) "slice":=⟨os,hos,hcs⟩;unfold lJ;try with_reducible refine bw ?_
 first|refine a6 (a8 ?_)|skip
 refine a6 (wpAny_sequenceKey ht.typeIs (by decide) ?_);refine a6 (bP (name:=dm "__getitem__") ht.typeIs dW
  (bz dW ht.typeIs entry_tuple_getitem ?_ (args_tuple_getitem _ _)))
 show ai _ _ (oN (.ref t) >>= _) _ _ s;refine a6 (tupleItemsOf_ ht ?_);refine a6 (nO hTs ?_);rw [if_pos (by decide)];refine a6 (kh hs pl pu ?_);have hyes:((((f_ items.size 0 lo:Nat):Int)==0&&(1:Int)==1&&(f_ items.size items.size hi-f_ items.size 0 lo)==items.size)=true):=by
  rw [hw.1,hw.2];simp
 show ai _ _ (if (((f_ items.size 0 lo:Nat):Int)==0&&(1:Int)==1&&(f_ items.size items.size hi-f_ items.size 0 lo)==items.size)=true then _ else _) _ _ s;rw [if_pos hyes];refine a6 ?_;unfold Builtin.Tuple.tupleIsExact;refine a6 (nO ht.typeIs (a8 ?_));rw [if_pos (by decide)];refine a6 (eN ?_);first
  |exact a8 (a8 ⟨_,rfl,h⟩)
  |exact a8 ⟨_,rfl,a8 h⟩
  |exact a6 (a8 (a8 ⟨_,rfl,a8 h⟩))
  |exact a6 (a8 (a8 ⟨_,rfl,h⟩))
end
end HT
namespace L2
open PySem PySem.Spec PyProof.Rows
section
inductive EA (K:a7) (x:V) (lo:Option Int) (hi:Option Int) (H:Hp) (Q:VK):Prop
 |mk (a xs:_) (h0:x=.ref a) (h1:iR K H a xs) (h2:(HT.f_ xs.length 0 lo=0/\HT.f_ xs.length xs.length hi=xs.length)) (h3:Q (.ref a) H):EA K x lo hi H Q
def LV (K:a7):V->Option Int->Option Int->Hp->VK->Prop:=EA K
theorem Hq:LC X (LV X.K):=by
 intro pins s σ H x v vl vu lo hi sl Q I rx hs pl pu h;obtain ⟨a,xs,rfl,hx,hw,q⟩:=h;cases rx;obtain ⟨its,r,ht,hz⟩:=I.tuple hx;have hlen:its.toArray.size=xs.length:=by rw [aB];exact r.length.symm
 exact ⟨"tuple",_,PyProof.Rows.slot_tuple_getitem.lookup,ht.typeIs,HT.yr ht hs pl pu (by rw [hlen];exact hw) ⟨.ref a,H,I,rfl,q⟩⟩
theorem gX   (h:H p=none):cb H (upd H p o):=fun b u e=>by rw [aG (aI e h)];exact e
theorem n_:∀ {bs:List Bool}{us:List a9},cu (bs.map V.bl) us->us=bs.map fK
 |[],_,.nil=>rfl
 |b::r,_,.cons h t=>by cases h;rw [n_ t];rfl
theorem t6 {A:aR}{s:ae}{bs:List Bool}:∀ y,y∈(bs.map fK).toArray->BP A s y (.bool true) (pZ true y):=fun y hy=>by
 have hy:y∈bs.map fK:=by simpa using hy
 obtain ⟨b,_,rfl⟩:=List.mem_map.mp hy;exact vd b true
def Hr (K:a7):V->List V->Hp->VK->Prop:=fun x vs H Q=>∃ l,∃ bs:List Bool,x=.ref l/\vs=[.bl true]/\jx K H l (bs.map V.bl)/\Q (.int (bs.countP id:Nat)) H
theorem Cj:No X "list.count" (Hr X.K):=by
 intro pins s σ H x vs v us Q I rx rv h;obtain ⟨l,bs,rfl,rfl,hq,q⟩:=h;cases rx;obtain ⟨u,rfl,ru⟩:=rv.one;cases ru;obtain ⟨its,r,⟨o,n,ho,c,hd,dt⟩,hz⟩:=I.list hq;rw [n_ r] at dt;obtain ⟨cls,dd,data,sl⟩:=o;simp only at c dt;subst c dt;refine sB vi ⟨_,ho,rfl⟩ PySem.F.entry_list_count (PySem.F.args_list_count_2 _ _) (SeqAt.list_countAt l (bs.map fK).toArray n dd sl (.bool true) (pZ true)) ⟨ho,fun y hy=>t6 y hy,?_⟩;refine ⟨.int _,H,I.tok _,⟨_,rfl⟩,?_⟩;have e:(bs.map fK).toArray.toList.countP (pZ true)=bs.countP id:=by
  show (bs.map fK).countP (pZ true)=_;rw [List.countP_map];congr 1;funext b;cases b<;>rfl
 rw [e];exact q
def Ht (K:a7):V->List V->Hp->VK->Prop:=fun x vs H Q=>∃ l,∃ bs:List Bool,∃ j:Nat,x=.ref l/\vs=[.bl true]/\jx K H l (bs.map V.bl)/\bs[j]?=some true/\(∀ m,m<j->bs[m]?=some false)/\j<=1000/\Q (.int (j:Nat)) H
theorem Ck:No X "list.index" (Ht X.K):=by
 intro pins s σ H x vs v us Q I rx rv h;obtain ⟨l,bs,j,rfl,rfl,hq,hj,hno,hsm,q⟩:=h;cases rx;obtain ⟨u,rfl,ru⟩:=rv.one;cases ru;obtain ⟨its,r,⟨o,n,ho,c,hd,dt⟩,hz⟩:=I.list hq;rw [n_ r] at dt;obtain ⟨cls,dd,data,sl⟩:=o;simp only at c dt;subst c dt;obtain ⟨hjl,hjv⟩:=List.getElem?_eq_some_iff.mp hj;refine sB vj ⟨_,ho,rfl⟩ PySem.F.entry_list_index (PySem.F.args_list_index_2 _ _) (SeqAt.list_indexAt l (bs.map fK).toArray n dd sl (.bool true) (pZ true) j (by simpa using hjl) (by omega) ?_ ?_) ⟨ho,fun y hy=>t6 y hy,?_⟩
 ·simp [pZ,hjv]
 ·intro m hm hlt;have:=hno m hlt;obtain ⟨_,hv⟩:=List.getElem?_eq_some_iff.mp this;simp [pZ,hv]
 ·exact ⟨.int _,H,I.tok _,⟨_,rfl⟩,q⟩
theorem tf (hc:X.calm=true):i6 X (.type "list") (fun xs H Q=>∃ a kvs,xs=[.ref a]/\H a=some (.dK kvs)/\∀ l,H l=none->Q (.ref l) (upd H l (.lst (kvs.map fun p=>kV p.1)))):=by
 intro pins s σ H xs us Q I r h;obtain ⟨a,kvs,rfl,hH,q⟩:=h;obtain ⟨u,rfl,rx⟩:=jy r;cases rx;obtain ⟨hz,hs,vs,rk,hd⟩:=(show cj X.prog X.w H s.heap a (.dK kvs) from I.hok a _ hH);obtain ⟨ep,hat⟩:∃ ep,s.heap.DictAt (dZ X.prog X.w) a vs ep:=by
  obtain ⟨o,es,ep,h1,h2,h3,h4⟩:=hd;exact ⟨ep,o,es,h1,h2,h3,h4⟩
 have hlen:kvs.length=vs.length:=gm rk;refine PySem.W.kdl_call (PySem.W.kdl_dict hs) (I.ok.hd hc) hat (by omega) fun h' tk acc' c' kp e hacc=>?_;have rv:cu (kvs.map fun p=>kV p.1) acc'.toList:=by
  have key:∀ {kvs:List (dQ×V)}{vs:List (dQ×a9)} (acc:List a9),KV kvs vs->acc.length=vs.length->(∀ (j:Nat) (v:a9),acc[j]?=some v->∃ k x,vs[j]?=some (k,x)/\sJ k v=true)->cu (kvs.map fun p=>kV p.1) acc:=by
   intro kvs;induction kvs with
   |nil=>intro vs acc rk hl _;cases rk;cases acc with
    |nil=>exact .nil
    |cons _ _=>simp at hl
   |cons p kvs ih =>
    intro vs acc rk hl hv;cases rk with
    |cons h1 t1 =>
     cases acc with
     |nil=>simp at hl
     |cons v acc =>
      refine .cons ?_ (ih acc t1 (by simpa using hl) fun j v hj=>by simpa using hv (j+1) v (by simpa using hj));obtain ⟨k,x,e1,e2⟩:=hv 0 v rfl;simp only [xP,xJ] at e1;subst e1;have hk:p.1=k:=h1.1;rcases dD e2 with ⟨i,t,e,rfl⟩|⟨i,t,e,rfl⟩
      ·show bW (kV p.1) _;rw [hk,e];exact ⟨t,rfl⟩
      ·show bW (kV p.1) _;rw [hk,e];exact ⟨t,rfl⟩
  exact key acc'.toList rk (by rw [am];exact hacc.1) fun j v hj=>hacc.2 j v (by rw [<- cB];exact hj)
 exact ⟨.ref s.heap.objs.size,_,I.laid (t':=tk) kp (aq _) (show cj X.prog X.w _ h' _ (.lst _) from ⟨by simpa using hz,acc'.toList,c',rv,by rw [zT];exact e⟩),rfl,q _ (I.hok.fresh (aq _))⟩
def tj (x:Str):List V:=x.cps.toList.map fun c=>V.str ⟨#[c]⟩
theorem rM (hc:X.calm=true):i6 X (.type "tuple") (fun xs H Q=>∃ x,xs=[.str x]/\x.cps.size<=sizeLine/\∀ l,H l=none->Q (.ref l) (upd H l (.tup (tj x)))):=by
 intro pins s σ H xs us Q I r h;obtain ⟨x,rfl,hz,q⟩:=h;obtain ⟨u,rfl,rx⟩:=jy r;obtain ⟨t,rfl⟩:=rx;refine call_tuple_str (I.ok.hd hc) x t (fun h' tk acc kp hacc=>?_) hz;have I1:aV X pins σ H { s with heap:=h',toks:=tk }:=I.kept (t':=tk) kp;have rv:cu (tj x) acc.toList:=by
  have key:∀ (cs:List Nat) (acc:List a9),acc.length=cs.length->(∀ (j:Nat) (v:a9),acc[j]?=some v->∃ c u,cs[j]?=some c/\v=.str ⟨#[c]⟩ u)->cu (cs.map fun c=>V.str ⟨#[c]⟩) acc:=by
   intro cs;induction cs with
   |nil=>intro acc hl _;cases acc with
    |nil=>exact .nil
    |cons _ _=>simp at hl
   |cons c cs ih =>
    intro acc hl hv;cases acc with
    |nil=>simp at hl
    |cons v acc =>
     obtain ⟨c',u,e1,rfl⟩:=hv 0 v rfl;simp only [xP,xJ] at e1;subst e1;exact .cons ⟨u,rfl⟩ (ih acc (by simpa using hl) fun j v hj=>by simpa using hv (j+1) v (by simpa using hj))
  refine key x.cps.toList acc.toList (by rw [am,am];exact hacc.1) fun j v hj=>?_;obtain ⟨c,u,e1,e2⟩:=hacc.2 j v (by rw [<- cB];exact hj);exact ⟨c,u,by rw [cB];exact e1,e2⟩
 have I2:aV X pins σ (upd H h'.objs.size (.tup (tj x))) { s with heap:=h'.push { cls:=.type "tuple",data:=.seq acc },toks:=tk } :=
  I1.laid (t':=tk) (fun b o e=>ag _ e) (aq _) (show cj X.prog X.w _ _ _ (.tup (tj x)) from ⟨by unfold tj;simpa using hz,acc.toList,rv,by rw [zT];exact ro _ _⟩)
 exact ⟨.ref h'.objs.size,_,I2,rfl,q _ (I1.hok.fresh (aq _))⟩
end
end L2
end
namespace L2
open PySem PySem.Spec PyProof.Rows
section
section
theorem lD {elt target iter ifs b_ scope pos it acc env}
  (h0:em (ax prog w) A (.compLoop (.SetComp elt (⟨target,iter,ifs,0⟩::b_) scope pos) 0 it acc env) R s)
  (h:ai (ax prog w) A (sx it) (fun it' s'=>em (ax prog w) A (.compLoop (.SetComp elt (⟨target,iter,ifs,0⟩::b_) scope pos) 0 it' acc env) R s')
   (notedBy (ax prog w) A env fun x s'=>R (.error x) s') s) :
  em (ax prog w) A (.compStart (.SetComp elt (⟨target,iter,ifs,0⟩::b_) scope pos) 0 it acc env) R s:=by
 refine xO ?_;show ai _ _ ((compStart (.SetComp elt (⟨target,iter,ifs,0⟩::b_) scope pos) 0 it acc env).onRaise (fun x=>do D6 x env;qM theWindowsPlace)) _ _ s;refine wpAny_notedAt ?_;unfold compStart;show ai _ _ (ask >>= _) _ _ s;refine a6 (f9 (wpAny_ite ?_));split
 ·first
   |exact a6 (a8 (a8 (zx rfl h0)))
   |exact a8 (zx rfl h0)
 ·first
   |exact a6 (eN (a6 (hU (a6 (bu h (fun it' s' hq=>a8 (zx rfl hq)) fun _ _ x=>x)))))
   |(refine a6 (eN ?_);show ai _ _ (qM iter.pos >>= _) _ _ s;exact a6 (hU (a6 (bu h (fun it' s' hq=>a8 (zx rfl hq)) fun _ _ x=>x))))
theorem nw (h:Q (.ref s.heap.objs.size) { s with heap:=s.heap.push (e8 w) }):ai (ax prog w) A (newSet (.type "set")) Q E s:=by
 unfold newSet setsByText;refine a6 (a6 (f9 (a8 ?_)));dsimp only;simp only [newObj];exact a6 (Gk (a8 h))
theorem uO     (hS:iL w s.heap a ss) (hr:ss.length+1<e_)
  (h:∀ h' tk',b9 a s.heap h'->iL w h' a (if x∈ss then ss else ss++[x])->Q .none { s with heap:=h',toks:=tk' }) :
  ai (ax prog w) A (call (.builtin "set.add") [.ref a,.str x tk]) Q E s:=by
 have hT:s.TypeIs (.ref a) "set":=by obtain ⟨es,ep,t,I,_⟩:=id hS;exact ⟨_,I.at_,rfl⟩
 refine bz F.slot_set_add hT F.entry_set_add ?_ (F.args_set_add_2 _ _);unfold fY.«set.add» Gw;simp only [List.isEmpty_nil,bind_assoc];unfold Gx;refine a6 (a8 ?_);try dsimp only
 refine a6 (a8 ?_);try dsimp only
 refine a6 ?_;refine yg hS hr fun h' tk' sb hS'=>?_;exact a8 ⟨_,rfl,h h' tk' sb hS'⟩
end
def NE (w:aS) (D:ac) (o:Obj) (acc:List Str):Prop:=∀ h:aW,h.get? D=some o->iL w h D acc
def Kh (X:Cx) (elt:aQ) (env:Env) (D:ac) (K:ae->Prop) (s:ae):Prop:=ai (ax X.prog X.w) X.A (cQ elt env) (fun x s₄=>ai (ax X.prog X.w) X.A (call (.builtin "set.add") [.ref D,x]) (fun _ s₅=>K s₅) (fun _ _=>False) s₄) (fun _ _=>False) s
abbrev LW (te:TE) (σ:St) (H:Hp) (acc:List Str) (m:Nat) (V:Nat->List Str->Hp->Prop):Prop:=te σ H fun y H4=>∃ z m',y=.str z/\m'<m/\V m' (if z∈acc then acc else acc++[z]) H4
theorem EB {X:Cx}{elt:aQ}{te:TE}{N':List Str}{scope:cf}{M:St->Prop} (pe:∀ cl C s₀ H₀ ex pn,PE (cS X N' scope cl C s₀ H₀ ex pn) elt te) :
  E7 X N' scope M (fun D o acc=>(∀ v,o.data≠.cell v)/\NE X.w D o acc) (fun acc=>acc.length+1<e_) (LW te) (Kh X elt):=by
 intro cl C s₀ H₀ ex pn D pl o acc σ6 H7 s7 K m V h1 h2 h3 _ hl hP I7 q7 fin
 refine dX (pe cl C s₀ H₀ ex pn _ s7 σ6 H7 _ I7 q7) fun u8 s8 h_5=>?_
 obtain ⟨y,H8,I8,r8,z,m',hy,hm,q8⟩:=h_5
 obtain ⟨pD,pN,_⟩:=I8.pin (D,_) (ak _ ao)
 subst hy
 obtain ⟨tz,rfl⟩:=r8
 refine uO (hP.2 _ pD) hl fun h9 tk9 sb9 hS9=>?_
 obtain ⟨es9,ep9,t9,is9,pm9⟩:=id hS9
 have e9':=is9.at_
 exact fin _ _ H8 _ m' ((I8.swap sb9 e9' (fun _ z=>nomatch z) h1 h2 h3).tok _) ⟨fun _ z=>(nomatch z),fun h e=>hS9.keep fun o eo=>by rw [e9'] at eo;cases eo;exact e⟩ hm q8
theorem EC {X:Cx}{elt:aQ}{f:Sem Fin}{a:Code} (hf:f=pure (.again a)) (env:Env) (D:ac) (K:ae->Prop) (s:ae) (h:Kh X elt env D K s):ai (ax X.prog X.w) X.A ((do let v <- cQ elt env;qM elt.pos;let _ <- call (.builtin "set.add") [.ref D,v]) >>= fun _=>f) (fun f s5=>f=.again a/\K s5) (fun _ _=>False) s:=by
 subst hf;exact a6 (a6 (dX h fun x s4 h4=>a6 (hU (a6 (dX h4 fun _ _ q=>a8 (a8 ⟨rfl,q⟩))))))
theorem Hu {X:Cx}{elt tg iter:aQ}{ifs:List aQ}{scope:cf}{pos:Pos}{te:TE}{N':List Str}{nt:Nat}{ix:List Nat} (pe:∀ cl C s₀ H₀ ex pn,PE (cS X N' scope cl C s₀ H₀ ex pn) elt te) :
  Hh X N' scope nt nt ix (.SetComp elt [⟨tg,iter,ifs,0⟩] scope pos) tg ifs (newSet (.type "set")) (kj X.w) [] (fun acc=>acc.length+1<e_) (LW te) :=
 ⟨_,_,fun _=>Kh X elt,fun _=>True,fun h=>h.1,rfl,fun _=>⟨fun _ z=>(nomatch z),fun _ e=>vD X.w e⟩,fun _ h e=>wJ (h.2 _ e),nw,fun _=>IN (iter:=iter) (fun _ _=>rfl) fun a b c d h=>EC rfl a b c d h,lD,⟨aq _,fun _ _ _=>trivial⟩,fun _=>EB pe⟩
inductive IU (w:aS) (nt:Nat) (ix:List Nat) (g:TG) (tt:TT) (te:TE) (σ:St) (Q:VK) (J:It) (H1:Hp):Prop
 |mk (W:Nat->Nat->List Str->Hp->Prop) (w0:∃ m,W 0 m [] H1) (turn:∀ i m acc H,W i m acc H ->
 (J.stop i H/\∀ p,H p=none->Q (.ref p) (upd H p (kj w p acc))) \/
 (J.go i H/\acc.length+1<e_/\∀ x H',J.yld i H x H'->g x (iI nt ix σ) H' fun σ2 H2=>tt σ2 H2 fun b H3 =>
  if b=true then te σ2 H3 fun y H4=>∃ z m',y=.str z/\m'<m/\W (i+1) m' (if z∈acc then acc else acc++[z]) H4 else ∃ m',m'<m/\W (i+1) m' acc H3)):IU w nt ix g tt te σ Q J H1
def ED (w:aS) (nt:Nat) (ix:List Nat) (wi:TI) (g:TG) (tt:TT) (te:TE):TE:=fun σ H Q=>wi σ H (IU w nt ix g tt te σ Q)
theorem Ao {X:Cx}{elt tg iter:aQ}{ifs:List aQ}{scope:cf}{pos:Pos}{wi:TI}{g:TG}{tt:TT}{te:TE}{N':List Str}{nt:Nat}{ix:List Nat}
  (hc:X.calm=true) (S:kX X scope N' nt ix) (lo:K7 nt g) (hi:PI X tg iter wi)
  (hb:∀ cl C s₀ H₀ ex pn,PG (cS X N' scope cl C s₀ H₀ ex pn) tg g/\Hc (cS X N' scope cl C s₀ H₀ ex pn) ifs tt/\PE (cS X N' scope cl C s₀ H₀ ex pn) elt te)
  (hs:∀ x,cJ iter X.env x=pure x:=by intro _;rfl):PE X (.SetComp elt [⟨tg,iter,ifs,0⟩] scope pos) (ED X.w nt ix wi g tt te):=by
 intro pins s σ H Q I h;obtain ⟨cl,hcl,c1,c2⟩:=kW (scope:=scope) (env:=X.env) fun y hy hf=>I.ok.has y.1 (S.free y hy hf);show ai _ _ (comprehension (.SetComp elt [⟨tg,iter,ifs,0⟩] scope pos) scope X.env (firstIterPos [⟨tg,iter,ifs,0⟩] pos) (newSet (.type "set")) (firstAsync [⟨tg,iter,ifs,0⟩]) (firstIter [⟨tg,iter,ifs,0⟩] X.env)) _ _ _;refine lP (use:=none) rfl hs hcl S.kind S.loc (dX (hi pins s σ H _ I h) fun v s1 h1=>dX h1 fun itv s2 h2=>?_);obtain ⟨it,fp,tn,J,H2,e,I2,T,st2,f2,W,w0,turn⟩:=h2;subst e;refine Ae (RR:=fun acc C=>compPost (ax X.prog X.w) X.A X.xe none (EP X pins σ Q) acc C) (Hu fun a b c d e f=>(hb a b c d e f).2.2) hc S lo (fun a b c d e f=>⟨(hb a b c d e f).1,(hb a b c d e f).2.1⟩) c1 c2 I2 T st2 f2 w0 turn ?_;intro D C m s' acc H' hD _ q hn hI;exact ⟨m,hn,fun h' sb=>⟨.ref D,_,hI h' sb,rfl,q⟩⟩
section
theorem uP:i6 X (.builtin "len") (fun xs H Q=>∃ p ss,xs=[.ref p]/\H p=some (kj X.w p ss)/\Q (.int ss.length) H):=by
 intro pins s σ H xs us Q I r h;obtain ⟨p,ss,rfl,hq,q⟩:=h;obtain ⟨u,rfl,rx⟩:=jy r;cases rx;obtain ⟨es,ep,t,is,pm⟩:=(show cj X.prog X.w H s.heap p (kj X.w p ss) from I.hok p _ hq).1;have hlen:es.size=ss.length:=by rw [<- pm.length_eq,aN,am]
 have hsm:(es.size:Int)<2 ^ 63:=by
  have h1:=is.few;have h2:e_<=2 ^ 62:=by decide
  omega
 refine vh kind_len plain_len entry_len (args_len1 _) (wpAny_len_body_set is.at_ ⟨rfl,rfl,rfl⟩ rfl is.fits hsm ?_);refine ⟨.int _,H,I.tok _,⟨_,rfl⟩,?_⟩;rw [hlen];exact q
end
end
end L2
section
namespace L2
open PySem PySem.Spec PyProof.Rows
section
variable {K:a7}{nt:Nat}{ix:List Nat}{te:TE}{σ:St}{H1:Hp}{Q:VK}{a:ac}{xs:List V}{i:Nat}
end
end L2
namespace L2
open PySem PySem.Spec PyProof.Rows
def B6 (so:cf) (N:List Str) (scope:cf) (N':List Str) (nt:Nat) (ix:List Nat):Bool :=
 (scope.kind == .function)&&(scope.names.all fun y=>y.2 != .cell||scope.names.lookup y.1==some .cell)&&(scope.names.all fun y=>y.2 != .local||scope.names.lookup y.1==some .local) &&
 (scope.names.all fun y=>y.2 != .free||so.names.lookup y.1==some .cell||so.names.lookup y.1==some .free) &&
 ((bR ix.length).all fun k=>match ix[k]? with
  |none=>false
  |some i=>match N[i]? with
   |none=>false
   |some x=>N'[nt+k]? == some x&&scope.names.lookup x==some .free)&&(N'.length==nt+ix.length)
theorem da       (h:B6 so N scope N' nt ix=true) (h1:X.env.scope=so:=by rfl) (h2:X.N=N:=by rfl):kX X scope N' nt ix:=by
 unfold B6 at h;simp only [ay,cU] at h;obtain ⟨⟨⟨⟨⟨a,b⟩,c⟩,d⟩,e⟩,l⟩:=h;refine ⟨by simpa using a,fun y hy z=>?_,fun y hy z=>?_,fun y hy z=>?_,fun k i hk=>?_,by simpa using l⟩
 ·have:=b y hy;simpa [z] using this
 ·have:=c y hy;simpa [z] using this
 ·have:=d y hy;rw [h1];simpa [z] using this
 ·have hl:k<ix.length:=(List.getElem?_eq_some_iff.mp hk).1;have:=e k (List.mem_range.mpr hl);rw [hk] at this;rw [h2];simp only at this;split at this
  ·cases this
  ·rename_i x hx
   simp only [ay] at this;exact ⟨x,hx,by simpa using this.1,by simpa using this.2⟩
end L2
end
namespace L2
open PySem PySem.Spec PyProof.Rows
section
section
variable {K:a7}{nt:Nat}{ix:List Nat}{te:TE}{σ:St}{H1:Hp}{Q:VK}{a b:ac}{xs ys:List V}{i k:Nat}
end
end
end L2
namespace J
open PySem L2
section
abbrev D:=wj
inductive R (α:Type) where
 |ok (a:α)
 |ex (c:Str) (n:Option D)
 |no
def R.bind {α β:Type}:R α->(α->R β)->R β
 |.ok a,f=>f a
 |.ex c n,_=>.ex c n
 |.no,_=>.no
@[simp] theorem bind_ok {α β:Type} (a:α) (f:α->R β):(R.ok a).bind f=f a:=rfl
@[simp] theorem bind_ex {α β:Type} (c:Str) (n:Option D) (f:α->R β):(R.ex c n).bind f=.ex c n:=rfl
@[simp] theorem bind_no {α β:Type} (f:α->R β):(R.no:R α).bind f=.no:=rfl
def kD:dQ->D
 |.inl i=>.int i
 |.inr x=>.str x
def tD (ks:List dQ):D:=.tuple (ks.map kD)
mutual
inductive RD (K:a7) (H:Hp):V->D->Prop
 |none:RD K H .non .none
 |bool (b:Bool):RD K H (.bl b) (.bool b)
 |int (i:Int):RD K H (.int i) (.int i)
 |str (x:Str):RD K H (.str x) (.str x)
 |list {a:ac}{xs:List V}{ds:List D}:jx K H a xs->RDs K H xs ds->RD K H (.ref a) (.list ds)
 |tuple {a:ac}{xs:List V}{ds:List D}:H a=some (.tup xs)->RDs K H xs ds->RD K H (.ref a) (.tuple ds)
 |dictK {a:ac}{kvs:List (dQ×V)}{ds:List (D×D)}:H a=some (.dK kvs)->RDk K H kvs ds->RD K H (.ref a) (.dict ds)
 |dictT {a:ac}{kvs:List (List dQ×V)}{ds:List (D×D)}:H a=some (.dT kvs)->kvs≠[]->RDt K H kvs ds->RD K H (.ref a) (.dict ds)
 |dictF {a:ac}{o:Obj}{kvs:List (List dQ×V)}{ds:List (D×D)}:H a=some (.frz o (.dT kvs))->kvs≠[]->RDt K H kvs ds->RD K H (.ref a) (.dict ((.none,.none)::ds))
inductive RDs (K:a7) (H:Hp):List V->List D->Prop
 |nil:RDs K H [] []
 |cons {x:V}{xs:List V}{d:D}{ds:List D}:RD K H x d->RDs K H xs ds->RDs K H (x::xs) (d::ds)
inductive RDk (K:a7) (H:Hp):List (dQ×V)->List (D×D)->Prop
 |nil:RDk K H [] []
 |cons {k:dQ}{x:V}{xs:List (dQ×V)}{d:D}{ds:List (D×D)}:RD K H x d->RDk K H xs ds->RDk K H ((k,x)::xs) ((kD k,d)::ds)
inductive RDt (K:a7) (H:Hp):List (List dQ×V)->List (D×D)->Prop
 |nil:RDt K H [] []
 |cons {k:List dQ}{x:V}{xs:List (List dQ×V)}{d:D}{ds:List (D×D)}:RD K H x d->RDt K H xs ds->RDt K H ((k,x)::xs) ((tD k,d)::ds)
end
section
theorem RD.same (e:cb H H')  (h:RD K H v d):RD K H' v d:=RD.rec (motive_1:=fun v d _=>RD K H' v d) (motive_2:=fun v d _=>RDs K H' v d) (motive_3:=fun v d _=>RDk K H' v d) (motive_4:=fun v d _=>RDt K H' v d) .none .bool .int .str (fun h _ r=>.list (e.seq h) r) (fun h _ r=>.tuple (e _ _ h) r) (fun h _ r=>.dictK (e _ _ h) r) (fun h n _ r=>.dictT (e _ _ h) n r) (fun h n _ r=>.dictF (e _ _ h) n r) .nil (fun _ _ a b=>.cons a b) .nil (fun _ _ a b=>.cons a b) .nil (fun _ _ a b=>.cons a b) h
theorem RDs.same (e:cb H H')  (h:RDs K H v d):RDs K H' v d:=RDs.rec (motive_1:=fun v d _=>RD K H' v d) (motive_2:=fun v d _=>RDs K H' v d) (motive_3:=fun v d _=>RDk K H' v d) (motive_4:=fun v d _=>RDt K H' v d) .none .bool .int .str (fun h _ r=>.list (e.seq h) r) (fun h _ r=>.tuple (e _ _ h) r) (fun h _ r=>.dictK (e _ _ h) r) (fun h n _ r=>.dictT (e _ _ h) n r) (fun h n _ r=>.dictF (e _ _ h) n r) .nil (fun _ _ a b=>.cons a b) .nil (fun _ _ a b=>.cons a b) .nil (fun _ _ a b=>.cons a b) h
theorem RDk.same (e:cb H H')  (h:RDk K H v d):RDk K H' v d:=RDk.rec (motive_1:=fun v d _=>RD K H' v d) (motive_2:=fun v d _=>RDs K H' v d) (motive_3:=fun v d _=>RDk K H' v d) (motive_4:=fun v d _=>RDt K H' v d) .none .bool .int .str (fun h _ r=>.list (e.seq h) r) (fun h _ r=>.tuple (e _ _ h) r) (fun h _ r=>.dictK (e _ _ h) r) (fun h n _ r=>.dictT (e _ _ h) n r) (fun h n _ r=>.dictF (e _ _ h) n r) .nil (fun _ _ a b=>.cons a b) .nil (fun _ _ a b=>.cons a b) .nil (fun _ _ a b=>.cons a b) h
theorem RDt.same (e:cb H H')  (h:RDt K H v d):RDt K H' v d:=RDt.rec (motive_1:=fun v d _=>RD K H' v d) (motive_2:=fun v d _=>RDs K H' v d) (motive_3:=fun v d _=>RDk K H' v d) (motive_4:=fun v d _=>RDt K H' v d) .none .bool .int .str (fun h _ r=>.list (e.seq h) r) (fun h _ r=>.tuple (e _ _ h) r) (fun h _ r=>.dictK (e _ _ h) r) (fun h n _ r=>.dictT (e _ _ h) n r) (fun h n _ r=>.dictF (e _ _ h) n r) .nil (fun _ _ a b=>.cons a b) .nil (fun _ _ a b=>.cons a b) .nil (fun _ _ a b=>.cons a b) h
mutual
def Gf:D->Bool
 |.dict _=>false
 |.list xs=>noDs xs
 |.tuple xs=>noDs xs
 |_=>true
def noDs:List D->Bool
 |[]=>true
 |x::r=>Gf x&&noDs r
end
theorem LX (h:(a&&b)=true):a=true:=(Bool.and_eq_true_iff.mp h).1
theorem LY (h:(a&&b)=true):b=true:=(Bool.and_eq_true_iff.mp h).2
theorem RD.rep  (h:RD K H v d):Gf d=true->Al K H v d:=RD.rec (motive_1:=fun v d _=>Gf d=true->Al K H v d) (motive_2:=fun v d _=>noDs d=true->Reps K H v d) (motive_3:=fun _ _ _=>True) (motive_4:=fun _ _ _=>True) (fun _=>.none) (fun b _=>.bool b) (fun i _=>.int i) (fun x _=>.str x) (fun h _ r e=>.list h (r e)) (fun h _ r e=>.tuple (.of h) (r e)) (fun _ _ _ e=>cm e) (fun _ _ _ _ e=>cm e) (fun _ _ _ _ e=>cm e) (fun _=>.nil) (fun _ _ a b e=>.cons (a (LX e)) (b (LY e))) trivial (fun _ _ _ _=>trivial) trivial (fun _ _ _ _=>trivial) h
theorem RDs.length:∀ {ds:List D},RDs K H vs ds->vs.length=ds.length:=by
 induction vs with
 |nil=>intro ds h;cases h;rfl
 |cons x r ih=>intro ds h;cases h with|cons a b=>exact congrArg (· + 1) (ih b)
theorem RDs.get:∀ {ds:List D}{i:Nat}{v:V},RDs K H vs ds->vs[i]?=some v->∃ d,ds[i]?=some d/\RD K H v d:=by
 induction vs with
 |nil=>intro ds i v _ e;cases e
 |cons x r ih =>
  intro ds i v h e;cases h with
  |cons a b =>
   cases i with
   |zero=>cases e;exact ⟨_,rfl,a⟩
   |succ i=>have q:=ih (i:=i) b e;exact q
theorem RDs.get':∀ {ds:List D}{i:Nat}{d:D},RDs K H vs ds->ds[i]?=some d->∃ v,vs[i]?=some v/\RD K H v d:=by
 induction vs with
 |nil=>intro ds i v h e;cases h;cases e
 |cons x r ih =>
  intro ds i v h e;cases h with
  |cons a b =>
   cases i with
   |zero=>cases e;exact ⟨_,rfl,a⟩
   |succ i=>have q:=ih (i:=i) b e;exact q
theorem RDs.append  : ∀ {ds:List D},RDs K H vs ds->RDs K H ws es->RDs K H (vs++ws) (ds++es):=by
 induction vs with
 |nil=>intro ds h s;cases h;exact s
 |cons x r ih=>intro ds h s;cases h with|cons a b=>exact .cons a (ih b s)
theorem RDs.drop:∀ {ds:List D} (n:Nat),RDs K H vs ds->RDs K H (vs.drop n) (ds.drop n):=by
 induction vs with
 |nil=>intro ds n h;cases h;cases n<;>exact .nil
 |cons x r ih =>
  intro ds n h;cases n with
  |zero=>exact h
  |succ n=>cases h with|cons a b=>exact ih n b
theorem RDs.take:∀ {ds:List D} (n:Nat),RDs K H vs ds->RDs K H (vs.take n) (ds.take n):=by
 induction vs with
 |nil=>intro ds n h;cases h;cases n<;>exact .nil
 |cons x r ih =>
  intro ds n h;cases n with
  |zero=>exact .nil
  |succ n=>cases h with|cons a b=>exact .cons a (ih n b)
theorem yt:∀ (ss:List Str),RDs K H (ss.map V.str) (ss.map uy)
 |[]=>.nil
 |x::r=>.cons (.str x) (yt r)
theorem RD.str_inv  (h:RD K H v (.str x)):v=.str x:=by cases h;rfl
theorem RD.bool_inv  (h:RD K H v (.bool x)):v=.bl x:=by cases h;rfl
theorem RD.int_inv  (h:RD K H v (.int x)):v=.int x:=by cases h;rfl
theorem sf {α:Type}{c:α->D}{k:α->V} (hc:∀ {v x},RD K H v (c x)->v=k x) {ss:List α}:∀ {vs:List V},RDs K H vs (ss.map c)->vs=ss.map k:=by
 induction ss with
 |nil=>intro vs h;cases h;rfl
 |cons x r ih=>intro vs h;cases h with|cons a b=>rw [hc a,ih b];rfl
theorem pk {ss:List Str}{vs:List V}:RDs K H vs (ss.map uy)->vs=ss.map V.str:=sf RD.str_inv
theorem uQ {ss:List Bool}{vs:List V}:RDs K H vs (ss.map PyData.bool)->vs=ss.map V.bl:=sf RD.bool_inv
theorem wN {ss:List Int}{vs:List V}:RDs K H vs (ss.map oF)->vs=ss.map V.int:=sf RD.int_inv
end
def nt:HO->Bool
 |.tup _=>false
 |_=>true
structure bN (H Hs H' Hs':Hp):Prop where
 all:cb H H'
 sh:cb Hs Hs'
 sub:cb Hs' H'
 out:∀ a o,H a=some o->nt o=true->Hs a=none->Hs' a=none
theorem bN.refl (h:cb Hs H):bN H Hs H Hs:=⟨.refl _,.refl _,h,fun _ _ _ _ e=>e⟩
theorem bN.trans (a:bN H Hs H1 Hs1) (b:bN H1 Hs1 H2 Hs2):bN H Hs H2 Hs2 :=
 ⟨a.all.trans b.all,a.sh.trans b.sh,b.sub,fun c o e t n=>b.out c o (a.all c o e) t (a.out c o e t n)⟩
theorem bN.new   (h:cb Hs H) (n:H p=none):bN H Hs (upd H p o) (upd Hs p o):=by
 have n':Hs p=none:=h.free n;refine ⟨gX n,gX n',fun b u e=>?_,fun a u e t z=>?_⟩
 ·by_cases hb:b=p
  ·subst hb;rw [aH] at e ⊢;exact e
  ·rw [aG hb] at e ⊢;exact h b u e
 ·rw [aG (aI e n)];exact z
theorem bN.mine   (h:cb Hs H) (n:H p=none):bN H Hs (upd H p o) Hs:=by
 refine ⟨gX n,.refl _,fun b u e=>?_,fun a u e t z=>z⟩;have e':=h b u e;rw [aG (aI e' n)];exact e'
inductive jp (K:a7) (Hs:Hp):HO->D->Prop
 |lst {vs:List V}{ds:List D}:RDs K Hs vs ds->jp K Hs (.lst vs) (.list ds)
 |dK {kvs:List (dQ×V)}{ds:List (D×D)}:RDk K Hs kvs ds->jp K Hs (.dK kvs) (.dict ds)
 |dT {kvs:List (List dQ×V)}{ds:List (D×D)}:kvs≠[]->RDt K Hs kvs ds->jp K Hs (.dT kvs) (.dict ds)
 |dF {o:Obj}{kvs:List (List dQ×V)}{ds:List (D×D)}:kvs≠[]->RDt K Hs kvs ds->jp K Hs (.frz o (.dT kvs)) (.dict ((.none,.none)::ds))
theorem jp.same    (e:cb Hs Hs') (h:jp K Hs o d):jp K Hs' o d:=by
 cases h with
 |lst r=>exact .lst (r.same e)
 |dK r=>exact .dK (r.same e)
 |dT n r=>exact .dT n (r.same e)
 |dF n r=>exact .dF n (r.same e)
theorem jp.nt    (h:jp K Hs o d):J.nt o=true:=by cases h<;>rfl
theorem jp.share     (n:Hs a=none) (h:jp K Hs o d):RD K (upd Hs a o) (.ref a) d:=by
 have e:cb Hs (upd Hs a o):=gX n;cases h with
 |lst r=>exact .list (.of aH) (r.same e)
 |dK r=>exact .dictK aH (r.same e)
 |dT n r=>exact .dictT aH n (r.same e)
 |dF n r=>exact .dictF aH n (r.same e)
inductive Sl where
 |no
 |shr (d:D)
 |own (d:D)
 |lck (d:D)
 |ow2 (dss:List (List D))
abbrev aD:=List Sl
inductive Cm (K:a7) (H Hs:Hp):List ac->List (List D)->Prop
 |nil:Cm K H Hs [] []
 |cons {a:ac}{as:List ac}{vs:List V}{ds:List D}{dss:List (List D)}:H a=some (.lst vs)->RDs K Hs vs ds->Cm K H Hs as dss->Cm K H Hs (a::as) (ds::dss)
theorem Cm.step  (e:cb H H') (e':cb Hs Hs')  (h:Cm K H Hs as dss):Cm K H' Hs' as dss:=by
 induction h with
 |nil=>exact .nil
 |cons h r t ih=>exact .cons (e _ _ h) (r.same e') ih
theorem Cm.upd      (n:b∉as) (h:Cm K H Hs as dss):Cm K (upd H b o) Hs as dss:=by
 induction h with
 |nil=>exact .nil
 |cons h r t ih=>exact .cons (by rw [aG (fun z=>n (by rw [<- z];exact ao))];exact h) r (ih fun z=>n (ah _ z))
theorem Cm.there     (h:Cm K H Hs as dss) (hb:b∈as):∃ o,H b=some o/\nt o=true:=by
 induction h with
 |nil=>cases hb
 |cons h r t ih =>
  rcases List.mem_cons.mp hb with e|hb
  ·exact ⟨_,e ▸ h,rfl⟩
  ·exact ih hb
structure O2 (K:a7) (H0 H Hs:Hp) (ρ:aD) (σ:St) (i:Nat) (dss:List (List D)) (a:ac) (as:List ac):Prop where
 at_:σ[i]?=some (some (V.ref a))
 ob:H a=some (.lst (as.map V.ref))
 nd:(a::as).Nodup
 out:∀ b∈a::as,Hs b=none/\H0 b=none
 dj:∀ b∈a::as,∀ (j:Nat) (e:D),ρ[j]?=some (Sl.own e)->σ[j]?≠some (some (V.ref b))
 inn:Cm K H Hs as dss
structure Fr (K:a7) (H0 Hs0:Hp) (la:Nat->Option ac) (ρ:aD) (σ:St) (H Hs:Hp):Prop where
 st:bN H0 Hs0 H Hs
 len:ρ.length=σ.length
 sh:∀ (i:Nat) (d:D),ρ[i]?=some (Sl.shr d)->∃ v,σ[i]?=some (some v)/\RD K Hs v d
 ow:∀ (i:Nat) (d:D),ρ[i]?=some (Sl.own d)->∃ a o,σ[i]?=some (some (V.ref a))/\H a=some o/\Hs a=none/\H0 a=none/\jp K Hs o d
 lk:∀ (i:Nat) (d:D),ρ[i]?=some (Sl.lck d)->∃ a o,σ[i]?=some (some (V.ref a))/\la i=some a/\H a=some o/\Hs a=none/\H0 a=some o/\jp K Hs o d
 dj:∀ (i j:Nat) (d e:D) (a:ac),ρ[i]?=some (Sl.own d)->ρ[j]?=some (Sl.own e)->σ[i]?=some (some (V.ref a))->σ[j]?=some (some (V.ref a))->i=j
 lh:∀ (i:Nat) (a:ac),la i=some a->∃ o,H0 a=some o
 o2:∀ (i:Nat) (dss:List (List D)),ρ[i]?=some (Sl.ow2 dss)->∃ a as,O2 K H0 H Hs ρ σ i dss a as
 u2:∀ (i j:Nat) (d e:List (List D)),ρ[i]?=some (Sl.ow2 d)->ρ[j]?=some (Sl.ow2 e)->i=j
theorem Fr.step     (f:Fr K H0 Hs0 la ρ σ H Hs) (s:bN H Hs H' Hs'):Fr K H0 Hs0 la ρ σ H' Hs':=by
 refine ⟨f.st.trans s,f.len,fun i d e=>?_,fun i d e=>?_,fun i d e=>?_,f.dj,f.lh,fun i dss e=>?_,f.u2⟩
 ·obtain ⟨v,h1,h2⟩:=f.sh i d e;exact ⟨v,h1,h2.same s.sh⟩
 ·obtain ⟨a,o,h1,h2,h3,h4,h5⟩:=f.ow i d e;exact ⟨a,o,h1,s.all _ _ h2,s.out _ _ h2 h5.nt h3,h4,h5.same s.sh⟩
 ·obtain ⟨a,o,h1,h2,h3,h4,h5,h6⟩:=f.lk i d e;exact ⟨a,o,h1,h2,s.all _ _ h3,s.out _ _ h3 h6.nt h4,h5,h6.same s.sh⟩
 ·obtain ⟨a,as,h⟩:=f.o2 i dss e;refine ⟨a,as,h.at_,s.all _ _ h.ob,h.nd,fun b hb=>⟨?_,(h.out b hb).2⟩,h.dj,h.inn.step s.all s.sh⟩;have there:∃ o,H b=some o/\nt o=true:=by
   rcases List.mem_cons.mp hb with rfl|hb
   ·exact ⟨_,h.ob,rfl⟩
   ·exact h.inn.there hb
  obtain ⟨o,ho,hn⟩:=there;exact s.out b o ho hn (h.out b (by assumption)).1
inductive LZ (K:a7) (H Hs:Hp) (v:V) (d:D):Prop
 |mk (a:ac) (o:HO) (h0:v=.ref a) (h1:H a=some o) (h2:Hs a=none) (h3:jp K Hs o d):LZ K H Hs v d
def RB (K:a7) (H Hs:Hp) (v:V) (d:D):Prop:=RD K Hs v d\/LZ K H Hs v d
theorem RB.step    (h:RB K H Hs v d) (s:bN H Hs H' Hs'):RB K H' Hs' v d:=by
 rcases h with h|⟨a,o,h1,h2,h3,h4⟩
 ·exact .inl (h.same s.sh)
 ·exact .inr ⟨a,o,h1,s.all _ _ h2,s.out _ _ h2 h4.nt h3,h4.same s.sh⟩
theorem RB.full    (sub:cb Hs H) (h:RB K H Hs v d):RD K H v d:=by
 rcases h with h|⟨a,o,rfl,h2,h3,h4⟩
 ·exact h.same sub
 ·have e:cb (upd Hs a o) H:=fun b u q=>by
   by_cases hb:b=a
   ·subst hb;rw [aH] at q;cases q;exact h2
   ·rw [aG hb] at q;exact sub b u q
  exact (h4.share h3).same e
theorem RB.list    (sub:cb Hs H) (h:RB K H Hs v (.list ds)):∃ a vs,v=.ref a/\jx K H a vs/\RDs K Hs vs ds:=by
 rcases h with h|⟨a,o,rfl,h2,h3,h4⟩
 ·cases h with|list q r=>exact ⟨_,_,rfl,sub.seq q,r⟩
 ·cases h4 with|lst r=>exact ⟨a,_,rfl,.of h2,r⟩
theorem RB.tuple    (sub:cb Hs H) (h:RB K H Hs v (.tuple ds)):∃ a vs,v=.ref a/\iR K H a vs/\RDs K Hs vs ds/\Hs a=some (.tup vs):=by
 rcases h with h|⟨a,o,rfl,h2,h3,h4⟩
 ·cases h with|tuple q r=>exact ⟨_,_,rfl,.of (sub _ _ q),r,q⟩
 ·cases h4
theorem RB.str    (h:RB K H Hs v (.str x)):v=.str x:=by
 rcases h with h|⟨a,o,rfl,h2,h3,h4⟩
 ·exact h.str_inv
 ·cases h4
theorem RB.int    (h:RB K H Hs v (.int i)):v=.int i:=by
 rcases h with h|⟨a,o,rfl,h2,h3,h4⟩
 ·exact h.int_inv
 ·cases h4
def XW (K:a7) (cls:Str->ac) (E:XK) (c:Str) (n:Option D) (H Hs:Hp):Prop:=match n with
 |none=>E (.ref (cls c)) none H
 |some d=>∀ dx v,H dx=some (.xd [("number",v)])->RD K Hs v d->E (.ref (cls c)) (some dx) H
def Fin {α:Type} (K:a7) (cls:Str->ac) (E:XK) (H Hs:Hp) (r:R α) (q:α->Prop):Prop:=match r with
 |.ok d=>q d
 |.ex c n=>∀ H' Hs',bN H Hs H' Hs'->XW K cls E c n H' Hs'
 |.no=>False
inductive Om (K:a7) (cls:Str->ac) (E:XK) (ρ:aD) (r:R D) (σ:St) (H:Hp) (Q:VK):Prop
 |mk (H0 Hs0:Hp) (la:Nat->Option ac) (Hs:Hp) (f:Fr K H0 Hs0 la ρ σ H Hs) (q:Fin K cls E H Hs r fun d=>∀ v H' Hs',bN H Hs H' Hs'->RD K Hs' v d->Q v H'):Om K cls E ρ r σ H Q
def TR (K:a7) (cls:Str->ac) (E:XK) (ρ:aD) (r:R D):TE:=Om K cls E ρ r
inductive On (K:a7) (cls:Str->ac) (E:XK) (ρ:aD) (r:R D) (σ:St) (H:Hp) (Q:VK):Prop
 |mk (H0 Hs0:Hp) (la:Nat->Option ac) (Hs:Hp) (f:Fr K H0 Hs0 la ρ σ H Hs) (q:Fin K cls E H Hs r fun d=>∀ v H' Hs',bN H Hs H' Hs'->RB K H' Hs' v d->Q v H'):On K cls E ρ r σ H Q
def TB (K:a7) (cls:Str->ac) (E:XK) (ρ:aD) (r:R D):TE:=On K cls E ρ r
inductive L_ (K:a7) (cls:Str->ac) (E:XK) (ρ:aD) (r:R Bool) (σ:St) (H:Hp) (Q:Bool->Hp->Prop):Prop
 |mk (H0 Hs0:Hp) (la:Nat->Option ac) (Hs:Hp) (f:Fr K H0 Hs0 la ρ σ H Hs) (q:Fin K cls E H Hs r fun b=>∀ H' Hs',bN H Hs H' Hs'->Q b H'):L_ K cls E ρ r σ H Q
def Co (K:a7) (cls:Str->ac) (E:XK) (ρ:aD) (r:R Bool):TT:=L_ K cls E ρ r
inductive IV (K:a7) (H Hs:Hp):List V->List D->Prop
 |nil:IV K H Hs [] []
 |cons {x:V}{xs:List V}{d:D}{ds:List D}:RB K H Hs x d->IV K H Hs xs ds->IV K H Hs (x::xs) (d::ds)
inductive M0 (K:a7) (cls:Str->ac) (E:XK) (ρ:aD) (r:R (List D)) (σ:St) (H:Hp) (Q:List V->Hp->Prop):Prop
 |mk (H0 Hs0:Hp) (la:Nat->Option ac) (Hs:Hp) (f:Fr K H0 Hs0 la ρ σ H Hs) (q:Fin K cls E H Hs r fun d=>∀ v H' Hs',bN H Hs H' Hs'->RDs K Hs' v d->Q v H'):M0 K cls E ρ r σ H Q
def Ki (K:a7) (cls:Str->ac) (E:XK) (ρ:aD) (r:R (List D)):TA:=M0 K cls E ρ r
inductive M1 (K:a7) (cls:Str->ac) (E:XK) (ρ:aD) (r:R (List D)) (σ:St) (H:Hp) (Q:List V->Hp->Prop):Prop
 |mk (H0 Hs0:Hp) (la:Nat->Option ac) (Hs:Hp) (f:Fr K H0 Hs0 la ρ σ H Hs) (q:Fin K cls E H Hs r fun d=>∀ v H' Hs',bN H Hs H' Hs'->IV K H' Hs' v d->Q v H'):M1 K cls E ρ r σ H Q
def M2 (K:a7) (cls:Str->ac) (E:XK) (ρ:aD) (r:R (List D)):TA:=M1 K cls E ρ r
structure C where
 X:Cx
 cls:Str->ac
 E:XK
structure JE (c:C) (e:aQ) (g:aD->R D):Prop where of ::
 run:∀ ρ,PE c.X e (TR c.X.K c.cls c.E ρ (g ρ))
instance {c:C}{e:aQ}{g:aD->R D}:CoeFun (JE c e g) (fun _=>∀ ρ,PE c.X e (TR c.X.K c.cls c.E ρ (g ρ))):=⟨JE.run⟩
structure JB (c:C) (e:aQ) (g:aD->R D):Prop where of ::
 run:∀ ρ,PE c.X e (TB c.X.K c.cls c.E ρ (g ρ))
instance {c:C}{e:aQ}{g:aD->R D}:CoeFun (JB c e g) (fun _=>∀ ρ,PE c.X e (TB c.X.K c.cls c.E ρ (g ρ))):=⟨JB.run⟩
structure JT (c:C) (e:aQ) (g:aD->R Bool):Prop where of ::
 run:∀ ρ,PT c.X e (Co c.X.K c.cls c.E ρ (g ρ))
instance {c:C}{e:aQ}{g:aD->R Bool}:CoeFun (JT c e g) (fun _=>∀ ρ,PT c.X e (Co c.X.K c.cls c.E ρ (g ρ))):=⟨JT.run⟩
structure JW (c:C) (e:aQ) (g:aD->R Bool):Prop where of ::
 run:∀ ρ,PW c.X e (Co c.X.K c.cls c.E ρ (g ρ))
instance {c:C}{e:aQ}{g:aD->R Bool}:CoeFun (JW c e g) (fun _=>∀ ρ,PW c.X e (Co c.X.K c.cls c.E ρ (g ρ))):=⟨JW.run⟩
structure xM (c:C) (es:List aQ) (g:aD->R (List D)):Prop where of ::
 run:∀ ρ,PA c.X es (Ki c.X.K c.cls c.E ρ (g ρ))
instance {c:C}{es:List aQ}{g:aD->R (List D)}:CoeFun (xM c es g) (fun _=>∀ ρ,PA c.X es (Ki c.X.K c.cls c.E ρ (g ρ))):=⟨xM.run⟩
structure IW (c:C) (es:List aQ) (g:aD->R (List D)):Prop where of ::
 run:∀ ρ,PA c.X es (M2 c.X.K c.cls c.E ρ (g ρ))
instance {c:C}{es:List aQ}{g:aD->R (List D)}:CoeFun (IW c es g) (fun _=>∀ ρ,PA c.X es (M2 c.X.K c.cls c.E ρ (g ρ))):=⟨IW.run⟩
section
theorem lM   (h:PE X e t) (m:∀ σ H Q,t' σ H Q->t σ H Q):PE X e t':=fun pins s σ H Q I q=>h pins s σ H Q I (m σ H Q q)
theorem M3   (h:PT X e t) (m:∀ σ H Q,t' σ H Q->t σ H Q):PT X e t':=fun pins s σ H Q I q=>h pins s σ H Q I (m σ H Q q)
theorem P1   (h:PW X e t) (m:∀ σ H Q,t' σ H Q->t σ H Q):PW X e t':=fun wh pins s σ H Q I q=>h wh pins s σ H Q I (m σ H Q q)
theorem MZ {X:Cx}{e:List aQ}{t t':TA} (h:PA X e t) (m:∀ σ H Q,t' σ H Q->t σ H Q):PA X e t':=fun pos pins s σ H Q I q=>h pos pins s σ H Q I (m σ H Q q)
theorem tm {X:Cx}{e:cy}{t t':TS} (h:PS X e t) (m:∀ D σ H,t' D σ H->t D σ H):PS X e t':=fun pins s σ H Q I q=>h pins s σ H Q I (m Q σ H q)
theorem NF {X:Cx}{e:List cy}{t t':TS} (h:uA X e t) (m:∀ D σ H,t' D σ H->t D σ H):uA X e t':=fun pins s σ H Q I q=>h pins s σ H Q I (m Q σ H q)
theorem JE.bor (h:JE c e g):JB c e g:=.of fun ρ=>lM (h ρ) fun σ H Q ⟨H0,Hs0,la,Hs,f,q⟩=>⟨H0,Hs0,la,Hs,f,by
 cases hr:g ρ with
 |ok d=>rw [hr] at q;exact fun v H' Hs' s r=>q v H' Hs' s (.inl r)
 |ex c n=>rw [hr] at q;exact q
 |no=>rw [hr] at q;exact q⟩
theorem one {K:a7}{cls:Str->ac}{E:XK}{ρ:aD}{r:R D}{β:Type}{k:D->R β}{σ:St}{H:Hp}{H0 Hs0 Hs:Hp}{la:Nat->Option ac}{Q:V->Hp->Prop}{q:β->Prop} (f:Fr K H0 Hs0 la ρ σ H Hs)
  (h:Fin K cls E H Hs (r.bind k) q) (m:∀ d v H' Hs',r=.ok d->bN H Hs H' Hs'->Fr K H0 Hs0 la ρ σ H' Hs'->RB K H' Hs' v d->Q v H'):TB K cls E ρ r σ H Q:=by
 refine ⟨H0,Hs0,la,Hs,f,?_⟩;cases r with
 |ok d=>exact fun v H' Hs' s r=>m d v H' Hs' rfl s (f.step s) r
 |ex c n=>exact h
 |no=>exact h
theorem uR {K:a7}{cls:Str->ac}{E:XK}{ρ:aD}{r:R D}{β:Type}{k:D->R β}{σ:St}{H:Hp}{H0 Hs0 Hs:Hp}{la:Nat->Option ac}{Q:V->Hp->Prop}{q:β->Prop} (f:Fr K H0 Hs0 la ρ σ H Hs)
  (h:Fin K cls E H Hs (r.bind k) q) (m:∀ d v H' Hs',r=.ok d->bN H Hs H' Hs'->Fr K H0 Hs0 la ρ σ H' Hs'->RD K Hs' v d->Q v H'):TR K cls E ρ r σ H Q:=by
 refine ⟨H0,Hs0,la,Hs,f,?_⟩;cases r with
 |ok d=>exact fun v H' Hs' s r=>m d v H' Hs' rfl s (f.step s) r
 |ex c n=>exact h
 |no=>exact h
theorem Hv {K:a7}{cls:Str->ac}{E:XK}{ρ:aD}{r:R Bool}{β:Type}{k:Bool->R β}{σ:St}{H:Hp}{H0 Hs0 Hs:Hp}{la:Nat->Option ac}{Q:Bool->Hp->Prop}{q:β->Prop} (f:Fr K H0 Hs0 la ρ σ H Hs)
  (h:Fin K cls E H Hs (r.bind k) q) (m:∀ d H' Hs',r=.ok d->bN H Hs H' Hs'->Fr K H0 Hs0 la ρ σ H' Hs'->Q d H'):Co K cls E ρ r σ H Q:=by
 refine ⟨H0,Hs0,la,Hs,f,?_⟩;cases r with
 |ok d=>exact fun H' Hs' s=>m d H' Hs' rfl s (f.step s)
 |ex c n=>exact h
 |no=>exact h
theorem wO {K:a7}{cls:Str->ac}{E:XK}{ρ:aD}{r:R (List D)}{β:Type}{k:List D->R β}{σ:St}{H:Hp}{H0 Hs0 Hs:Hp}{la:Nat->Option ac}{Q:List V->Hp->Prop}{q:β->Prop} (f:Fr K H0 Hs0 la ρ σ H Hs)
  (h:Fin K cls E H Hs (r.bind k) q) (m:∀ d v H' Hs',r=.ok d->bN H Hs H' Hs'->Fr K H0 Hs0 la ρ σ H' Hs'->RDs K Hs' v d->Q v H'):Ki K cls E ρ r σ H Q:=by
 refine ⟨H0,Hs0,la,Hs,f,?_⟩;cases r with
 |ok d=>exact fun v H' Hs' s r=>m d v H' Hs' rfl s (f.step s) r
 |ex c n=>exact h
 |no=>exact h
theorem EE {K:a7}{cls:Str->ac}{E:XK}{ρ:aD}{r:R (List D)}{β:Type}{k:List D->R β}{σ:St}{H:Hp}{H0 Hs0 Hs:Hp}{la:Nat->Option ac}{Q:List V->Hp->Prop}{q:β->Prop} (f:Fr K H0 Hs0 la ρ σ H Hs)
  (h:Fin K cls E H Hs (r.bind k) q) (m:∀ d v H' Hs',r=.ok d->bN H Hs H' Hs'->Fr K H0 Hs0 la ρ σ H' Hs'->IV K H' Hs' v d->Q v H'):M2 K cls E ρ r σ H Q:=by
 refine ⟨H0,Hs0,la,Hs,f,?_⟩;cases r with
 |ok d=>exact fun v H' Hs' s r=>m d v H' Hs' rfl s (f.step s) r
 |ex c n=>exact h
 |no=>exact h
theorem Fin.on {α:Type}{K:a7}{cls:Str->ac}{E:XK}{H Hs H' Hs':Hp}{r:R α}{q q':α->Prop} (h:Fin K cls E H Hs r q) (s:bN H Hs H' Hs') (m:∀ a,q a->q' a):Fin K cls E H' Hs' r q':=by
 cases r with
 |ok a=>exact m a h
 |ex c n=>exact fun H2 Hs2 s2=>h H2 Hs2 (s.trans s2)
 |no=>exact h
end
end
section
def Ap (ρ:aD) (i:Nat):R D:=match ρ[i]? with
 |some (Sl.shr d)=>.ok d
 |_=>.no
def Cq (ρ:aD) (i:Nat):R D:=match ρ[i]? with
 |some (Sl.shr d)=>.ok d
 |some (Sl.own d)=>.ok d
 |some (Sl.lck d)=>.ok d
 |_=>.no
section
variable {c:C}{e a b:aQ}{g ga gb:aD->R D}{pos:Pos}
theorem ar (i:Nat) (hN:c.X.N[i]?=some x:=by rfl) (hv:C1 c.X.env.scope x:=by first|exact eu rfl|exact cX (eu rfl)|exact cX (cX rfl)) (hd:(x==("__debug__" : Str))=false:=by decide)
  (hcd:(x==("__classdict__" : Str))=false:=by decide):JE c (.Name x pos) (fun ρ=>Ap ρ i):=.of fun ρ=>lM (jO hN hv hd hcd) fun σ H Q h_0=>by
 obtain ⟨H0,Hs0,la,Hs,f,q⟩:=h_0;cases hr:ρ[i]? with
 |none=>simp only [Ap,hr] at q;exact q.elim
 |some s =>
  cases s with
  |shr d =>
   obtain ⟨v,h1,h2⟩:=f.sh i d hr;simp only [Ap,hr] at q;exact ⟨v,h1,q v H Hs (.refl f.st.sub) h2⟩
  |no=>simp only [Ap,hr] at q;exact q.elim
  |own d=>simp only [Ap,hr] at q;exact q.elim
  |lck d=>simp only [Ap,hr] at q;exact q.elim
  |ow2 d=>simp only [Ap,hr] at q;exact q.elim
theorem az (i:Nat) (hN:c.X.N[i]?=some x:=by rfl) (hv:C1 c.X.env.scope x:=by first|exact eu rfl|exact cX (eu rfl)|exact cX (cX rfl)) (hd:(x==("__debug__" : Str))=false:=by decide)
  (hcd:(x==("__classdict__" : Str))=false:=by decide):JB c (.Name x pos) (fun ρ=>Cq ρ i):=.of fun ρ=>lM (jO hN hv hd hcd) fun σ H Q h_1=>by
 obtain ⟨H0,Hs0,la,Hs,f,q⟩:=h_1;cases hr:ρ[i]? with
 |none=>simp only [Cq,hr] at q;exact q.elim
 |some s =>
  cases s with
  |shr d =>
   obtain ⟨v,h1,h2⟩:=f.sh i d hr;simp only [Cq,hr] at q;exact ⟨v,h1,q v H Hs (.refl f.st.sub) (.inl h2)⟩
  |no=>simp only [Cq,hr] at q;exact q.elim
  |own d =>
   obtain ⟨a,o,h1,h2,h3,h4,h5⟩:=f.ow i d hr;simp only [Cq,hr] at q;exact ⟨_,h1,q _ H Hs (.refl f.st.sub) (.inr ⟨a,o,rfl,h2,h3,h5⟩)⟩
  |lck d =>
   obtain ⟨a,o,h1,h2,h3,h4,h5,h6⟩:=f.lk i d hr;simp only [Cq,hr] at q;exact ⟨_,h1,q _ H Hs (.refl f.st.sub) (.inr ⟨a,o,rfl,h3,h4,h6⟩)⟩
  |ow2 d=>simp only [Cq,hr] at q;exact q.elim
theorem lW  (h:PE c.X e (tC v)) (r:∀ Hs,RD c.X.K Hs v d):JE c e (fun _=>.ok d):=.of fun ρ=>lM h fun σ H Q h_2=>by obtain ⟨H0,Hs0,la,Hs,f,q⟩:=h_2;exact q v H Hs (.refl f.st.sub) (r Hs)
theorem bd  : JE c (.Constant (.int i) j pos) (fun _=>.ok (.int i)):=lW DC fun _=>.int i
theorem gf  : JE c (.Constant (.bool i) j pos) (fun _=>.ok (.bool i)):=lW DD fun _=>.bool i
theorem jQ:JE c (.Constant .none j pos) (fun _=>.ok .none):=lW Jv fun _=>.none
theorem bQ  : JE c (.Constant (.str i) j pos) (fun _=>.ok (.str i)):=lW DE fun _=>.str i
theorem i_  (hg:Gl c.X x) (hm:∃ t,c.X.mg x=some (.int i t)) (hd:(x==("__debug__" : Str))=false:=by decide):JE c (.Name x pos) (fun _=>.ok (.int i)):=by
 obtain ⟨t,hm⟩:=hm;exact lW (oR hg hm (v:=.int i) ⟨t,rfl⟩ hd) fun _=>.int i
inductive Oo (K:a7) (h:D->D->R D) (x:V) (y:V) (H:Hp) (Q:VK):Prop
 |mk (Hs dx dy:_) (h0:cb Hs H) (h1:RB K H Hs x dx) (h2:RB K H Hs y dy) (h3:∃ d,h dx dy=.ok d/\∀ v H' Hs',bN H Hs H' Hs'->RD K Hs' v d->Q v H'):Oo K h x y H Q
def rD (K:a7) (h:D->D->R D):R2:=Oo K h
def uB (X:Cx) (f:a9->a9->Sem a9) (h:D->D->R D):Prop:=mF X f (rD X.K h)/\∀ x y c n,h x y≠.ex c n
def g2 (ga gb:aD->R D) (h:D->D->R D):aD->R D:=fun ρ=>(ga ρ).bind fun x=>(gb ρ).bind fun y=>h x y
theorem two        (hx:∀ x y c n,h x y≠.ex c n) (q:TR K cls E ρ (g2 ga gb h ρ) σ H Q):Lr (rD K h) (TB K cls E ρ (ga ρ)) (TB K cls E ρ (gb ρ)) σ H Q:=by
 obtain ⟨H0,Hs0,la,Hs,f,q⟩:=q;refine one f q fun x v H1 Hs1 e1 s1 f1 r1=>?_;unfold g2 at q;rw [e1,bind_ok] at q;refine one f1 (q.on s1 (q':=fun _=>True) fun _ _=>trivial) fun y u H2 Hs2 e2 s2 f2 r2=>?_;rw [e2,bind_ok] at q;cases hr:h x y with
 |ok d =>
  rw [hr] at q;exact ⟨Hs2,x,y,f2.st.sub,r1.step s2,r2,d,hr,fun w H3 Hs3 s3 r3=>q w H3 Hs3 (s1.trans (s2.trans s3)) r3⟩
 |ex c n=>exact (hx x y c n hr).elim
 |no=>rw [hr] at q;exact q.elim
theorem gz  (ho:uB c.X (eZ op) h) (ha:JB c a ga) (hb:JB c b gb):JE c (.BinOp a op b pos) (g2 ga gb h):=.of fun ρ=>lM (ID ho.1 (ha ρ) (hb ρ)) fun σ H Q q=>two ho.2 q
theorem o6  (ho:uB c.X (bh op) h) (ha:JB c a ga) (hb:JB c b gb) (hm:dY op b=false:=by first|exact wq _|rfl):JE c (.Compare a [op] [b] pos) (g2 ga gb h):=.of fun ρ=>lM (GM ho.1 (ha ρ) (hb ρ) hm) fun σ H Q q=>two ho.2 q
def gW (g:aD->R D):aD->R Bool:=fun ρ=>(g ρ).bind fun d=>match d with
 |.bool b=>.ok b
 |_=>.no
theorem Ld       (q:Co K cls E ρ (gW g ρ) σ H Q):TR K cls E ρ (g ρ) σ H fun x H'=>∃ k,x=.bl k/\Q k H':=by
 obtain ⟨H0,Hs0,la,Hs,f,q⟩:=q;refine uR f q fun d v H1 Hs1 e1 s1 f1 r1=>?_;unfold gW at q;rw [e1,bind_ok] at q;cases r1 with
 |bool b=>exact ⟨b,rfl,q H1 Hs1 s1⟩
 |_=>exact q.elim
theorem ie  (ho:uB c.X (bh op) h) (ha:JB c a ga) (hb:JB c b gb) (hm:dY op b=false:=by first|exact wq _|rfl):JT c (.Compare a [op] [b] pos) (gW (g2 ga gb h)):=.of fun ρ=>M3 (wt ho.1 (ha ρ) (hb ρ) hm) fun σ H Q q=>two ho.2 (Ld q)
theorem eG (h:JE c e g) (he:∀ whole,sv e c.X.env whole=(do let v <- whole;qM e.pos;qN [v] (truthy v)):=by intro _;rfl):JT c e (gW g):=.of fun ρ=>M3 (DG (h ρ) he) fun σ H Q q=>Ld q
def jR (g:aD->R Bool):aD->R Bool:=fun ρ=>(g ρ).bind fun b=>.ok (!b)
def Df (g h:aD->R Bool):aD->R Bool:=fun ρ=>(g ρ).bind fun b=>if b then .ok true else h ρ
variable {gt gu:aD->R Bool}{b_:List aQ}
theorem eQ (h:JT c e gt):JT c (.UnaryOp .Not e pos) (jR gt):=.of fun ρ=>M3 (DI (h ρ)) fun σ H Q q=>by
 obtain ⟨H0,Hs0,la,Hs,f,q⟩:=q;refine Hv f q fun d H1 Hs1 e1 s1 f1=>?_;unfold jR at q;rw [e1,bind_ok] at q;exact q H1 Hs1 s1
theorem jS (h:JT c a gt):JW c (.BoolOp .Or [a] pos) gt:=.of fun ρ=>DH (h ρ)
theorem ny (h:JT c a gt) (h2:JW c (.BoolOp .Or (b::b_) pos) gu):JW c (.BoolOp .Or (a::b::b_) pos) (Df gt gu):=.of fun ρ=>P1 (IA (h ρ) (h2 ρ)) fun σ H Q q=>by
 obtain ⟨H0,Hs0,la,Hs,f,q⟩:=q;refine Hv f q fun d H1 Hs1 e1 s1 f1=>?_;unfold Df at q;rw [e1,bind_ok] at q;cases d with
 |false=>exact uL ⟨H0,Hs0,la,Hs1,f1,q.on s1 fun b k H2 Hs2 s2=>k H2 Hs2 (s1.trans s2)⟩
 |true=>exact y6 (q H1 Hs1 s1)
theorem JW.t (h:JW c e gt):JT c e gt:=.of fun ρ=>(h ρ).pt
def EF (g:aD->R D):aD->R D:=fun ρ=>(gW g ρ).bind fun b=>.ok (.bool (!b))
theorem Kj (h:JE c e g):JE c (.UnaryOp .Not e pos) (EF g):=.of fun ρ=>lM (Jy (h ρ)) fun σ H Q q=>by
 refine Ld ?_;obtain ⟨H0,Hs0,la,Hs,f,q⟩:=q;refine Hv f q fun d H1 Hs1 e1 s1 f1=>?_;unfold EF at q;rw [e1,bind_ok] at q;exact q _ H1 Hs1 s1 (.bool _)
def tu (g h:aD->R D):aD->R D:=fun ρ=>(gW g ρ).bind fun b=>if b then h ρ else .ok (.bool false)
theorem wP (h:JE c a g):JE c (.BoolOp op [a] pos) g:=.of fun ρ=>Jw (h ρ)
theorem tw (h:JE c a ga) (h2:JE c (.BoolOp .And (b::b_) pos) gb):JE c (.BoolOp .And (a::b::b_) pos) (tu ga gb):=.of fun ρ=>lM (Jx (h ρ) (h2 ρ)) fun σ H Q q=>by
 refine Ld ?_;obtain ⟨H0,Hs0,la,Hs,f,q⟩:=q;refine Hv f q fun d H1 Hs1 e1 s1 f1=>?_;unfold tu at q;rw [e1,bind_ok] at q;cases d with
 |true=>exact y6 ⟨H0,Hs0,la,Hs1,f1,q.on s1 fun b k v H2 Hs2 s2 r2=>k v H2 Hs2 (s1.trans s2) r2⟩
 |false=>exact uL (q _ H1 Hs1 s1 (.bool _))
def o7 (ga gb gc:aD->R D) (h h':D->D->R D):aD->R D:=fun ρ=>(ga ρ).bind fun x=>(gb ρ).bind fun y=>(h x y).bind fun z=>match z with
 |.bool true=>(gc ρ).bind fun w=>h' y w
 |.bool false=>.ok (.bool false)
 |_=>.no
def aa (g:aD->R D) (gs:aD->R (List D)):aD->R (List D):=fun ρ=>(g ρ).bind fun d=>(gs ρ).bind fun ds=>.ok (d::ds)
def aF:aD->R (List D):=fun _=>.ok []
theorem aC:xM c [] aF:=.of fun ρ=>MZ eE fun σ H Q h_3=>by obtain ⟨H0,Hs0,la,Hs,f,q⟩:=h_3;exact q [] H Hs (.refl f.st.sub) .nil
theorem dw:IW c [] aF:=.of fun ρ=>MZ eE fun σ H Q h_4=>by obtain ⟨H0,Hs0,la,Hs,f,q⟩:=h_4;exact q [] H Hs (.refl f.st.sub) .nil
theorem af (h:JE c e g) (hr:xM c es gs) (hs:ap (e::es) c.X.env=(false,cQ e c.X.env)::ap es c.X.env:=by rfl):xM c (e::es) (aa g gs):=.of fun ρ=>MZ (bD (h ρ) (hr ρ) hs) fun σ H Q h_5=>by
 obtain ⟨H0,Hs0,la,Hs,f,q⟩:=h_5;refine uR f q fun d v H1 Hs1 e1 s1 f1 r1=>?_;unfold aa at q;rw [e1,bind_ok] at q;refine wO f1 (q.on s1 (q':=fun _=>True) fun _ _=>trivial) fun ds vs H2 Hs2 e2 s2 f2 r2=>?_;rw [e2,bind_ok] at q;exact q _ H2 Hs2 (s1.trans s2) (.cons (r1.same s2.sh) r2)
theorem cG (h:JB c e g) (hr:IW c es gs) (hs:ap (e::es) c.X.env=(false,cQ e c.X.env)::ap es c.X.env:=by rfl):IW c (e::es) (aa g gs):=.of fun ρ=>MZ (bD (h ρ) (hr ρ) hs) fun σ H Q h_6=>by
 obtain ⟨H0,Hs0,la,Hs,f,q⟩:=h_6;refine one f q fun d v H1 Hs1 e1 s1 f1 r1=>?_;unfold aa at q;rw [e1,bind_ok] at q;refine EE f1 (q.on s1 (q':=fun _=>True) fun _ _=>trivial) fun ds vs H2 Hs2 e2 s2 f2 r2=>?_;rw [e2,bind_ok] at q;exact q _ H2 Hs2 (s1.trans s2) (.cons (r1.step s2) r2)
def bf (gs:aD->R (List D)) (k:List D->D):aD->R D:=fun ρ=>(gs ρ).bind fun ds=>if ds.length<=1000 then .ok (k ds) else .no
theorem bA {x1} (h:xM c es gs):JE c (.Tuple es x1 pos) (bf gs .tuple):=.of fun ρ=>lM (A5 (h ρ)) fun σ H Q h_7=>by
 obtain ⟨H0,Hs0,la,Hs,f,q⟩:=h_7;refine wO f q fun ds vs H1 Hs1 e1 s1 f1 r1=>?_;unfold bf at q;rw [e1,bind_ok] at q;by_cases hl:ds.length<=1000
 ·rw [if_pos hl] at q;refine ⟨ba (bS (by rw [r1.length];exact hl)),fun p hp=>q _ _ _ (s1.trans (.new f1.st.sub hp)) (.tuple aH (r1.same (bN.new f1.st.sub hp).sh))⟩
 ·rw [if_neg hl] at q;exact q.elim
theorem lX (h:xM c es gs):JE c (.List es pos) (bf gs .list):=.of fun ρ=>lM (sQ (h ρ)) fun σ H Q h_8=>by
 obtain ⟨H0,Hs0,la,Hs,f,q⟩:=h_8;refine wO f q fun ds vs H1 Hs1 e1 s1 f1 r1=>?_;unfold bf at q;rw [e1,bind_ok] at q;by_cases hl:ds.length<=1000
 ·rw [if_pos hl] at q;refine ⟨ba (bS (by rw [r1.length];exact hl)),fun p hp=>q _ _ _ (s1.trans (.new f1.st.sub hp)) (.list (.of aH) (r1.same (bN.new f1.st.sub hp).sh))⟩
 ·rw [if_neg hl] at q;exact q.elim
end
end
end J
namespace J
open PySem PySem.Spec PyProof.Rows L2
section
section
def tE:D->D->R D
 |.int i,.int j=>.ok (.int (i+j))
 |.str x,.str y=>if x.length+y.length<=1000 then .ok (.str (x++y)) else .no
 |.tuple xs,.tuple ys=>if xs.length+ys.length<=1000 then .ok (.tuple (xs++ys)) else .no
 |.list xs,.list ys=>if xs.length+ys.length<=1000 then .ok (.list (xs++ys)) else .no
 |_,_=>.no
inductive EG (K:a7) (x:V) (y:V) (H:Hp) (Q:VK):Prop
 |mk (l b xs zs:_) (h0:x=.ref l) (h1:y=.ref b) (h2:jx K H l xs) (h3:jx K H b zs) (h4:xs.length+zs.length<=sizeLine) (h5:∀ p,H p=none->Q (.ref p) (upd H p (.lst (xs++zs)))):EG K x y H Q
def M4 (K:a7):R2:=EG K
theorem Hw:mF X (eZ .Add) (M4 X.K):=by
 intro pins s σ H x y v u Q I rx ry h;obtain ⟨l,b,xs,zs,rfl,rfl,h1,h2,hz,q⟩:=h;cases rx;cases ry;obtain ⟨its,r,⟨o,n,e,c1,c2,c3⟩,z⟩:=I.list h1;obtain ⟨its2,r2,⟨o2,n2,e2,d1,d2,d3⟩,z2⟩:=I.list h2;obtain ⟨k1,k2,k3,k4⟩:=o;obtain ⟨m1,m2,m3,m4⟩:=o2;simp only at c1 c2 c3 d1 d2 d3;subst c1 c2 c3 d1 d2 d3;refine uD ⟨_,e,rfl⟩ ⟨_,e2,rfl⟩ noFill_list_add seq_list_add PySem.F.slot_list_add PySem.F.entry_list_add (PySem.F.args_list_add_2 _ _) (PyProof.Rows.list_addW l b _ _ n n2 _ _ k4 m4 (by rw [aB,aB,<- r.length,<- r2.length];exact hz)) ⟨e,e2,?_⟩;have ea:its.toArray++its2.toArray=(its++its2).toArray:=by simp
 rw [ea];exact ⟨.ref _,_,I.lnew (t':=s.toks) (r.append r2) (by rw [bo];omega),rfl,q _ I.fresh⟩
inductive EH (K:a7) (x:V) (y:V) (H:Hp) (Q:VK):Prop
 |mk (a b ys:_) (h0:x=.ref a) (h1:y=.ref b) (h2:iR K H a []) (h3:iR K H b ys) (h4:Q (.ref b) H):EH K x y H Q
def M5 (K:a7):R2:=EH K
theorem Hx:mF X (eZ .Add) (M5 X.K):=by
 intro pins s σ H x y v u Q I rx ry h;obtain ⟨a,b,ys,rfl,rfl,h1,h2,q⟩:=h;cases rx;cases ry;obtain ⟨its,r,⟨⟨k1,k2,k3,k4⟩,e,c1,n,c3⟩,z⟩:=I.tuple h1;obtain ⟨its2,r2,⟨⟨m1,m2,m3,m4⟩,e2,d1,n2,d3⟩,z2⟩:=I.tuple h2;simp only at c1 c3 d1 d3;subst c1 c3 d1 d3;cases r;exact uD ⟨_,e,rfl⟩ ⟨_,e2,rfl⟩ wb BN kP kc (jI _ _)
  (PyProof.Rows.tuple_addW0 a b _ _ n n2 _ _ k4 m4 rfl) ⟨e,e2,⟨.ref b,H,I,rfl,q⟩⟩
theorem qj:uB X (eZ .Add) tE:=by
 refine ⟨fun pins s σ H x y v u Q I rv ru ⟨Hs,dx,dy,sub,rx,ry,d,hd,q⟩=>?_,fun x y c n=>?_⟩
 ·unfold tE at hd;split at hd
  ·cases hd;exact JM pins s σ H x y v u Q I rv ru ⟨_,_,rx.int,ry.int,q _ H Hs (.refl sub) (.int _)⟩
  ·split at hd
   ·rename_i hz
    cases hd;exact A4 pins s σ H x y v u Q I rv ru ⟨_,_,rx.str,ry.str,ba (bS hz),q _ H Hs (.refl sub) (.str _)⟩
   ·cases hd
  ·split at hd
   ·rename_i xs ys hz
    cases hd;obtain ⟨a,vs,rfl,qa,ra,_⟩:=rx.tuple sub;obtain ⟨b,ws,rfl,qb,rb,_⟩:=ry.tuple sub;have hz':vs.length+ws.length<=sizeLine:=by rw [ra.length,rb.length];exact ba (bS hz)
    have big:∀ p,H p=none->Q (.ref p) (upd H p (.tup (vs++ws))):=fun p hp=>q _ _ _ (.new sub hp) (.tuple aH ((ra.append rb).same (bN.new sub hp).sh));cases vs with
    |nil =>
     cases ra;refine Hx pins s σ H _ _ v u Q I rv ru ⟨a,b,ws,rfl,rfl,qa,qb,?_⟩;rcases ry with ry|⟨_,_,_,_,_,ow⟩
     ·exact q _ H Hs (.refl sub) (by simpa using ry)
     ·cases ow
    |cons v0 vr =>
     refine GT pins s σ H _ _ v u Q I rv ru ⟨a,b,_,ws,rfl,rfl,qa,qb,by simp,hz',fun e=>?_,fun _=>big⟩;subst e;cases rb;rcases rx with rx|⟨_,_,_,_,_,ow⟩
     ·exact q _ H Hs (.refl sub) (by simpa using rx)
     ·cases ow
   ·cases hd
  ·split at hd
   ·rename_i xs ys hz
    cases hd;obtain ⟨a,vs,rfl,qa,ra⟩:=rx.list sub;obtain ⟨b,ws,rfl,qb,rb⟩:=ry.list sub;have hz':vs.length+ws.length<=sizeLine:=by rw [ra.length,rb.length];exact ba (bS hz)
    exact Hw pins s σ H _ _ v u Q I rv ru ⟨a,b,vs,ws,rfl,rfl,qa,qb,hz',fun p hp=>q _ _ _ (.new sub hp) (.list (.of aH) ((ra.append rb).same (bN.new sub hp).sh))⟩
   ·cases hd
  ·cases hd
 ·unfold tE;split<;>(try split)<;>exact fun h=>by cases h
def Cr (C:Int->Int->Bool) (k:Int->Int->D):D->D->R D
 |.int i,.int j=>if C i j then .ok (k i j) else .no
 |_,_=>.no
theorem EI {f:a9->a9->Sem a9}{C:Int->Int->Bool}{P:Int->Int->Prop}{k:Int->Int->D}{kv:Int->Int->V} (h:mF X f (rI P kv)) (hC:∀ i j,C i j=true->P i j) (hk:∀ Hs i j,RD X.K Hs (kv i j) (k i j)):uB X f (Cr C k):=by
 refine ⟨fun pins s σ H x y v u Q I rv ru ⟨Hs,dx,dy,sub,rx,ry,d,hd,q⟩=>?_,fun x y c n=>?_⟩
 ·unfold Cr at hd;split at hd
  ·split at hd
   ·rename_i hc
    cases hd;exact h pins s σ H x y v u Q I rv ru ⟨_,_,rx.int,ry.int,hC _ _ hc,q _ H Hs (.refl sub) (hk _ _ _)⟩
   ·cases hd
  ·cases hd
 ·unfold Cr;split<;>(try split)<;>exact fun h=>by cases h
def vH (i j:Int):Bool:=(decide (-(2 ^ 64)<i)&&decide (i<2 ^ 64))||(decide (-(2 ^ 64)<j)&&decide (j<2 ^ 64))
def Aq:=Cr vH fun i j=>.int (i*j)
def Ct:=Cr (fun _ j=>decide (0<j)) fun i j=>.int (i % j)
theorem tF:uB X (eZ .Mult) Aq:=EI JQ (fun i j h=>by
 unfold vH at h;simp only [gT,ay,decide_eq_true_eq] at h;exact h) fun _ _ _=>.int _
theorem wQ:uB X (eZ .Mod) Ct:=EI JR (fun i j h=>of_decide_eq_true h) fun _ _ _=>.int _
def lY (neg:Bool) (x y:D):R D:=if x.canLay0&&y.canLay0&&decide (min x.depth y.depth<=60) then .ok (.bool (if neg then !bL x y else bL x y)) else .no
mutual
theorem wR:∀ d:D,d.canLay0=true->Gf d=true
 |.none,_=>rfl
 |.bool _,_=>rfl
 |.int _,_=>rfl
 |.str _,_=>rfl
 |.list xs,h=>by
  simp only [jj] at h;simp only [Gf];exact lays_noD xs h
 |.tuple xs,h=>by
  simp only [jj] at h;simp only [Gf];exact lays_noD xs h
 |.dict _,h=>by simp [jj] at h
theorem lays_noD:∀ d:List D,jJ d=true->noDs d=true
 |[],_=>rfl
 |x::r,h=>by
  simp only [jJ,ay] at h;simp only [noDs,ay];exact ⟨wR x h.1,lays_noD r h.2⟩
end
theorem EJ  (h:mF X f (Kc X.K neg)):uB X f (lY neg):=by
 refine ⟨fun pins s σ H x y v u Q I rv ru ⟨Hs,dx,dy,sub,rx,ry,d,hd,q⟩=>?_,fun x y c n=>?_⟩
 ·unfold lY at hd;split at hd
  ·rename_i hc
   simp only [ay,decide_eq_true_eq] at hc;cases hd;exact h pins s σ H x y v u Q I rv ru ⟨dx,dy,(rx.full sub).rep (wR _ hc.1.1),(ry.full sub).rep (wR _ hc.1.2),hc.1.1,hc.1.2,hc.2,q _ H Hs (.refl sub) (.bool _)⟩
  ·cases hd
 ·unfold lY;split<;>exact fun h=>by cases h
theorem EK (hu:X.A.units+64<ik):uB X (bh .Eq) (lY false):=EJ (Kd hu)
theorem vI (hu:X.A.units+64<ik):uB X (bh .NotEq) (lY true):=EJ (Ke hu)
def Cu (k:Int->Int->Bool) (t:Str->Str->Bool):D->D->R D
 |.int i,.int j=>.ok (.bool (k i j))
 |.str x,.str y=>.ok (.bool (t x y))
 |_,_=>.no
theorem EL   (h1:mF X f (JF fun i j=>.bl (k i j))) (h2:mF X f (fun x y H Q=>∃ i j,x=.str i/\y=.str j/\Q (.bl (t i j)) H)):uB X f (Cu k t):=by
 refine ⟨fun pins s σ H x y v u Q I rv ru ⟨Hs,dx,dy,sub,rx,ry,d,hd,q⟩=>?_,fun x y c n=>?_⟩
 ·unfold Cu at hd;split at hd
  ·cases hd;exact h1 pins s σ H x y v u Q I rv ru ⟨_,_,rx.int,ry.int,q _ H Hs (.refl sub) (.bool _)⟩
  ·cases hd;exact h2 pins s σ H x y v u Q I rv ru ⟨_,_,rx.str,ry.str,q _ H Hs (.refl sub) (.bool _)⟩
  ·cases hd
 ·unfold Cu;split<;>exact fun h=>by cases h
def M6:=Cu (fun i j=>decide (i<j)) xL
def Hy:=Cu (fun i j=>decide (i<=j)) fun x y=>!xL y x
def Le:D->D->R D
 |.int i,.int j=>.ok (.bool (decide (j<i)))
 |_,_=>.no
theorem EM:uB X (bh .Lt) M6:=EL Lw C3
theorem tG:uB X (bh .LtE) Hy:=EL Lx Ch
theorem IX:uB X (bh .Gt) Le:=by
 refine ⟨fun pins s σ H x y v u Q I rv ru ⟨Hs,dx,dy,sub,rx,ry,d,hd,q⟩=>?_,fun x y c n=>?_⟩
 ·unfold Le at hd;split at hd
  ·cases hd;exact Ly pins s σ H x y v u Q I rv ru ⟨_,_,rx.int,ry.int,q _ H Hs (.refl sub) (.bool _)⟩
  ·cases hd
 ·unfold Le;split<;>exact fun h=>by cases h
def lZ:D->Bool
 |.none=>true
 |.bool _=>true
 |.int _=>true
 |.str _=>true
 |_=>false
def EN (neg:Bool):D->D->R D
 |x,.list ys=>if lZ x&&ys.all lZ then .ok (.bool (if neg then !(ys.any fun y=>bL y x) else ys.any fun y=>bL y x)) else .no
 |x,.tuple ys=>if lZ x&&ys.all lZ then .ok (.bool (if neg then !(ys.any fun y=>bL y x) else ys.any fun y=>bL y x)) else .no
 |_,_=>.no
theorem B7 {K:a7}{H:Hp}{v:V}{d:D} (h:RD K H v d) (f:lZ d=true):lT v=true:=by
 cases h<;>first|rfl|cases f
theorem yu {K:a7}{H Hs:Hp}{v:V}{d:D} (h:RB K H Hs v d) (f:lZ d=true):lT v=true:=by
 rcases h with h|⟨a,o,rfl,_,_,h⟩
 ·exact B7 h f
 ·cases h<;>cases f
theorem yv {K:a7}{H:Hp}{vs:List V}:∀ {ds:List D},RDs K H vs ds->ds.all lZ=true->vs.all lT=true:=by
 induction vs with
 |nil=>intro ds _ _;rfl
 |cons x r ih =>
  intro ds h f;cases h with
  |cons h t =>
   rw [oO,ay] at f ⊢;exact ⟨B7 h f.1,ih t f.2⟩
theorem Kk {K:a7}{H H2 Hs:Hp}{v u:V}{d e:D} (h:RD K H v d) (h2:RB K H2 Hs u e) (f:lZ d=true) (f2:lZ e=true):GX v u=bL d e:=by
 have h2':RD K Hs u e:=by
  rcases h2 with h2|⟨a,o,rfl,_,_,h2⟩
  ·exact h2
  ·cases h2<;>cases f2
 cases h with
 |list _ _=>cases f
 |tuple _ _=>cases f
 |dictK _ _=>cases f
 |dictT _ _ _=>cases f
 |dictF _ _ _=>cases f
 |none=>cases h2'<;>first|rfl|cases f2
 |bool b=>cases h2'<;>first|rfl|cases f2
 |int i=>cases h2'<;>first|rfl|cases f2
 |str x=>cases h2'<;>first|rfl|cases f2
theorem Ar {K:a7}{H H2 Hs:Hp}{u:V}{e:D} (h2:RB K H2 Hs u e) (f2:lZ e=true):∀ {vs:List V}{ds:List D},RDs K H vs ds->ds.all lZ=true->MT u vs=ds.any fun y=>bL y e
 |_,_,.nil,_=>rfl
 |_,_,.cons h t,f=>by
  rw [oO,ay] at f;have:=Ar h2 f2 t f.2;unfold MT at this ⊢;rw [eC,eC,this,Kk h h2 f.1 f2]
theorem EO  (h:mF X f (Nt X.K neg)):uB X f (EN neg):=by
 refine ⟨fun pins s σ H x y v u Q I rv ru ⟨Hs,dx,dy,sub,rx,ry,d,hd,q⟩=>?_,fun x y c n=>?_⟩
 ·unfold EN at hd;split at hd
  ·split at hd
   ·rename_i hc
    simp only [ay] at hc;cases hd;obtain ⟨b,ws,rfl,qb,rb⟩:=ry.list sub;refine h pins s σ H _ _ v u Q I rv ru ⟨b,ws,rfl,.inl qb,yu rx hc.1,yv rb hc.2,?_⟩;rw [Ar rx hc.1 rb hc.2];exact q _ H Hs (.refl sub) (.bool _)
   ·cases hd
  ·split at hd
   ·rename_i hc
    simp only [ay] at hc;cases hd;obtain ⟨b,ws,rfl,qb,rb,_⟩:=ry.tuple sub;refine h pins s σ H _ _ v u Q I rv ru ⟨b,ws,rfl,.inr qb,yu rx hc.1,yv rb hc.2,?_⟩;rw [Ar rx hc.1 rb hc.2];exact q _ H Hs (.refl sub) (.bool _)
   ·cases hd
  ·cases hd
 ·unfold EN;split<;>(try split)<;>exact fun h=>by cases h
theorem yw:uB X (bh .In) (EN false):=EO C5
theorem EQ:uB X (bh .NotIn) (EN true):=EO wx
end
end
end J
namespace J
open PySem L2
section
section
variable {c:C}{e a b:aQ}{g ga gb:aD->R D}{pos:Pos}
def Hz:D->D->R D
 |.list xs,.int i=>match Aa xs i with
  |some d=>.ok d
  |none=>.no
 |.tuple xs,.int i=>match Aa xs i with
  |some d=>.ok d
  |none=>.no
 |.str x,.int i=>if x.length<=1000 then (match Aa x.cps.toList i with
  |some k=>.ok (.str ⟨#[k]⟩)
  |none=>.no) else .no
 |_,_=>.no
theorem B8    (h:RDs K H vs ds)  (e:Aa ds i=some d):∃ v,Aa vs i=some v/\RD K H v d:=by
 unfold Aa at e ⊢;rw [h.length];cases hx:K0 ds.length i with
 |none=>rw [hx] at e;cases e
 |some j =>
  rw [hx] at e;exact h.get' e
theorem NG:LF X (rD X.K Hz):=by
 intro va sl pins s σ H x y v u Q I rv ru h;obtain ⟨Hs,dx,dy,sub,rx,ry,d,hd,q⟩:=h;unfold Hz at hd;split at hd
 ·split at hd
  ·rename_i d' he
   cases hd;obtain ⟨p,vs,rfl,qa,ra⟩:=rx.list sub;obtain ⟨w,hw,rw'⟩:=B8 ra he;exact GV va sl pins s σ H _ _ v u Q I rv ru ⟨p,vs,_,w,rfl,ry.int,qa,hw,q _ H Hs (.refl sub) rw'⟩
  ·cases hd
 ·split at hd
  ·rename_i d' he
   cases hd;obtain ⟨p,vs,rfl,qa,ra,_⟩:=rx.tuple sub;obtain ⟨w,hw,rw'⟩:=B8 ra he;exact K1 va sl pins s σ H _ _ v u Q I rv ru ⟨p,vs,_,w,rfl,ry.int,qa,hw,q _ H Hs (.refl sub) rw'⟩
  ·cases hd
 ·split at hd
  ·rename_i hz
   split at hd
   ·rename_i k he
    cases hd;exact K2 va sl pins s σ H _ _ v u Q I rv ru ⟨_,_,k,rx.str,ry.int,ba (bS hz),he,q _ H Hs (.refl sub) (.str _)⟩
   ·cases hd
  ·cases hd
 ·cases hd
theorem Kl (x y:D) (c:Str) (n:Option D):Hz x y≠.ex c n:=by
 unfold Hz;split<;>(try split)<;>(try split)<;>exact fun h=>by cases h
theorem M7 (ha:JB c a ga) (hb:JB c b gb) (hs:se b:=by exact fun _ _=>rfl):JE c (.Subscript a b pos) (g2 ga gb Hz):=.of fun ρ=>lM (LG NG (ha ρ) (hb ρ) hs) fun σ H Q q=>two Kl q
def ES (ds:List D) (lo hi:Option Int):List D:=(ds.drop (HT.f_ ds.length 0 lo)).take (HT.f_ ds.length ds.length hi-HT.f_ ds.length 0 lo)
theorem B9    (h:RDs K H vs ds) (lo hi:Option Int):RDs K H (xX vs lo hi) (ES ds lo hi):=by
 unfold xX ES;rw [h.length];exact (h.drop _).take _
def M8:D->Option Int->Option Int->R D
 |.list xs,lo,hi=>.ok (.list (ES xs lo hi))
 |.tuple xs,lo,hi=>.ok (.tuple (ES xs lo hi))
 |_,_,_=>.no
inductive IY (K:a7) (x:V) (lo:Option Int) (hi:Option Int) (H:Hp) (Q:VK):Prop
 |mk (Hs dx:_) (h0:cb Hs H) (h1:RB K H Hs x dx) (h2:∃ d,M8 dx lo hi=.ok d/\∀ v H' Hs',bN H Hs H' Hs'->RD K Hs' v d->Q v H'):IY K x lo hi H Q
def NH (K:a7):V->Option Int->Option Int->Hp->VK->Prop:=IY K
theorem NI {X:Cx}:LC X (NH X.K):=by
 intro pins s σ H x v vl vu lo hi sl Q I rx hs pl pu h;obtain ⟨Hs,dx,sub,rb,d,hd,q⟩:=h;unfold M8 at hd;split at hd
 ·cases hd;obtain ⟨p,vs,rfl,qa,ra⟩:=rb.list sub;exact GW pins s σ H _ v vl vu lo hi sl Q I rx hs pl pu ⟨p,vs,rfl,qa,fun l hl=>q _ _ _ (.new sub hl) (.list (.of aH) ((B9 ra lo hi).same (bN.new sub hl).sh))⟩
 ·cases hd;obtain ⟨p,vs,rfl,qa,ra,_⟩:=rb.tuple sub;by_cases hw:HT.f_ vs.length 0 lo=0/\HT.f_ vs.length vs.length hi=vs.length
  ·refine Hq pins s σ H _ v vl vu lo hi sl Q I rx hs pl pu ⟨p,vs,rfl,qa,hw,?_⟩;rcases rb with rb|⟨_,_,_,_,_,ow⟩
   ·refine q _ H Hs (.refl sub) ?_;unfold ES;rw [<- ra.length,hw.1,hw.2,ra.length];simpa using rb
   ·cases ow
  ·exact J_ pins s σ H _ v vl vu lo hi sl Q I rx hs pl pu ⟨p,vs,rfl,qa,hw,fun l hl=>q _ _ _ (.new sub hl) (.tuple aH ((B9 ra lo hi).same (bN.new sub hl).sh))⟩
 ·cases hd
inductive M9 (K:a7) (cls:Str->ac) (E:XK) (ρ:aD) (r:R (Option Int)) (σ:St) (H:Hp) (Q:Option Int->Hp->Prop):Prop
 |mk (H0 Hs0:Hp) (la:Nat->Option ac) (Hs:Hp) (f:Fr K H0 Hs0 la ρ σ H Hs) (q:Fin K cls E H Hs r fun d=>∀ H' Hs',bN H Hs H' Hs'->Q d H'):M9 K cls E ρ r σ H Q
def NJ (K:a7) (cls:Str->ac) (E:XK) (ρ:aD) (r:R (Option Int)):TO:=M9 K cls E ρ r
structure JO (c:C) (e:Option aQ) (g:aD->R (Option Int)):Prop where of ::
 run:∀ ρ,PO c.X e (NJ c.X.K c.cls c.E ρ (g ρ))
instance {c:C}{e:Option aQ}{g:aD->R (Option Int)}:CoeFun (JO c e g) (fun _=>∀ ρ,PO c.X e (NJ c.X.K c.cls c.E ρ (g ρ))):=⟨JO.run⟩
theorem Op {X:Cx}{e:Option aQ}{t t':TO} (h:PO X e t) (m:∀ σ H Q,t' σ H Q->t σ H Q):PO X e t':=fun pins s σ H Q I q=>h pins s σ H Q I (m σ H Q q)
def Oq:aD->R (Option Int):=fun _=>.ok none
def NK (g:aD->R D):aD->R (Option Int):=fun ρ=>(g ρ).bind fun d=>match d with
 |.int i=>.ok (some i)
 |_=>.no
theorem HA:JO c none Oq:=.of fun ρ=>Op GR fun σ H Q h_0=>by obtain ⟨H0,Hs0,la,Hs,f,q⟩:=h_0;exact q H Hs (.refl f.st.sub)
theorem HB (h:JE c e g):JO c (some e) (NK g):=.of fun ρ=>Op (GS (h ρ)) fun σ H Q h_1=>by
 obtain ⟨H0,Hs0,la,Hs,f,q⟩:=h_1;refine uR f q fun d v H1 Hs1 e1 s1 f1 r1=>?_;unfold NK at q;rw [e1,bind_ok] at q;cases r1 with
 |int i=>exact ⟨i,rfl,q H1 Hs1 s1⟩
 |_=>exact q.elim
theorem Ma {K:a7}{cls:Str->ac}{E:XK}{ρ:aD}{r:R (Option Int)}{β:Type}{k:Option Int->R β}{σ:St}{H:Hp}{H0 Hs0 Hs:Hp}{la:Nat->Option ac}{Q:Option Int->Hp->Prop}{q:β->Prop} (f:Fr K H0 Hs0 la ρ σ H Hs)
  (h:Fin K cls E H Hs (r.bind k) q) (m:∀ d H' Hs',r=.ok d->bN H Hs H' Hs'->Fr K H0 Hs0 la ρ σ H' Hs'->Q d H'):NJ K cls E ρ r σ H Q:=by
 refine ⟨H0,Hs0,la,Hs,f,?_⟩;cases r with
 |ok d=>exact fun H' Hs' s=>m d H' Hs' rfl s (f.step s)
 |ex c n=>exact h
 |no=>exact h
def NL (g:aD->R D) (gl gh:aD->R (Option Int)):aD->R D:=fun ρ=>(g ρ).bind fun x=>(gl ρ).bind fun l=>(gh ρ).bind fun h=>M8 x l h
theorem ET {lo hi:Option aQ}{gl gh:aD->R (Option Int)}{p2:Pos} (he:JB c e g) (hl:JO c lo gl) (hh:JO c hi gh):JE c (.Subscript e (.Slice lo hi none p2) pos) (NL g gl gh):=.of fun ρ=>lM (DW NI (he ρ) (hl ρ) (hh ρ)) fun σ H Q h_2=>by
 obtain ⟨H0,Hs0,la,Hs,f,q⟩:=h_2;refine one f q fun d v H1 Hs1 e1 s1 f1 r1=>?_;unfold NL at q;rw [e1,bind_ok] at q;refine Ma f1 (q.on s1 (q':=fun _=>True) fun _ _=>trivial) fun l H2 Hs2 e2 s2 f2=>?_;rw [e2,bind_ok] at q;refine Ma f2 (q.on (s1.trans s2) (q':=fun _=>True) fun _ _=>trivial) fun h H3 Hs3 e3 s3 f3=>?_;rw [e3,bind_ok] at q;cases hr:M8 d l h with
 |ok z=>rw [hr] at q;exact ⟨Hs3,d,f3.st.sub,(r1.step s2).step s3,z,hr,fun w H4 Hs4 s4 r4=>q w H4 Hs4 (s1.trans (s2.trans (s3.trans s4))) r4⟩
 |ex c n=>unfold M8 at hr;split at hr<;>cases hr
 |no=>rw [hr] at q;exact q.elim
inductive Os (K:a7) (h:List D->R D) (xs:List V) (H:Hp) (Q:VK):Prop
 |mk (Hs ds:_) (h0:cb Hs H) (h1:IV K H Hs xs ds) (h2:∃ d,h ds=.ok d/\∀ v H' Hs',bN H Hs H' Hs'->RD K Hs' v d->Q v H'):Os K h xs H Q
def rC (K:a7) (h:List D->R D):List V->Hp->VK->Prop:=Os K h
def EU (X:Cx) (f:a9) (h:List D->R D):Prop:=i6 X f (rC X.K h)/\∀ x c n,h x≠.ex c n
def dU (gs:aD->R (List D)) (h:List D->R D):aD->R D:=fun ρ=>(gs ρ).bind h
theorem IZ {K:a7}{cls:Str->ac}{E:XK}{h:List D->R D}{gs:aD->R (List D)}{ρ:aD}{σ:St}{H:Hp}{Q:VK} (hx:∀ x c n,h x≠.ex c n) (q:TR K cls E ρ (dU gs h ρ) σ H Q):LA (rC K h) (M2 K cls E ρ (gs ρ)) σ H Q:=by
 obtain ⟨H0,Hs0,la,Hs,f,q⟩:=q;refine EE f q fun ds vs H1 Hs1 e1 s1 f1 r1=>?_;unfold dU at q;rw [e1,bind_ok] at q;cases hr:h ds with
 |ok d =>
  rw [hr] at q;exact ⟨Hs1,ds,f1.st.sub,r1,d,hr,fun w H3 Hs3 s3 r3=>q w H3 Hs3 (s1.trans s3) r3⟩
 |ex c n=>exact (hx ds c n hr).elim
 |no=>rw [hr] at q;exact q.elim
variable {es:List aQ}{gs:aD->R (List D)}{x:Str}{p:Pos}{id T:String}{h:List D->R D}
theorem cA (hc:EU c.X (.builtin id) h) (hg:Gl c.X x) (hm:c.X.mg x=none) (hv:ft x=some (.builtin id)) (ha:IW c (e::es) gs) (hn:x≠"__name__":=by decide) (hdb:(x==("__debug__" : Str))=false:=by decide)
  (he:ap (e::es) c.X.env=(false,cQ e c.X.env)::ap es c.X.env:=by rfl) (hpl:(cR pos (ap es c.X.env)).any (·.1)=false:=by rfl):JE c (.Call (.Name x p) (e::es) [] pos) (dU gs h):=.of fun ρ=>lM (kg hc.1 hg hm hv (ha ρ) hn hdb he hpl) fun σ H Q q=>IZ hc.2 q
theorem qk (hc:EU c.X (.type T) h) (hg:Gl c.X x) (hm:c.X.mg x=none) (hv:ft x=some (.type T)) (ha:IW c (e::es) gs) (hn:x≠"__name__":=by decide) (hdb:(x==("__debug__" : Str))=false:=by decide)
  (he:ap (e::es) c.X.env=(false,cQ e c.X.env)::ap es c.X.env:=by rfl) (hpl:(cR pos (ap es c.X.env)).any (·.1)=false:=by rfl):JE c (.Call (.Name x p) (e::es) [] pos) (dU gs h):=.of fun ρ=>lM (vy hc.1 hg hm hv (ha ρ) hn hdb he hpl) fun σ H Q q=>IZ hc.2 q
end
end
section
section
theorem IV.one    (h:IV K H Hs xs [d]):∃ x,xs=[x]/\RB K H Hs x d:=by
 cases h with|cons a t=>cases t;exact ⟨_,rfl,a⟩
def lE (h:D->R D):List D->R D
 |[d]=>h d
 |_=>.no
theorem ql  (hx:∀ d c n,h d≠.ex c n)
  (hr:∀ pins s σ H x u Q Hs d d',aV X pins σ H s->bW x u->cb Hs H->RB X.K H Hs x d->h d=.ok d'->(∀ v H' Hs',bN H Hs H' Hs'->RD X.K Hs' v d'->Q v H')->ai (ax X.prog X.w) X.A (call f [u]) (EP X pins σ Q) X.xe s):EU X f (lE h):=by
 refine ⟨fun pins s σ H xs us Q I r ⟨Hs,ds,sub,rb,d,hd,q⟩=>?_,fun x c n=>?_⟩
 ·unfold lE at hd;split at hd
  ·obtain ⟨x,rfl,rx⟩:=rb.one;obtain ⟨u,rfl,ru⟩:=jy r;exact hr pins s σ H x u Q Hs _ _ I ru sub rx hd q
  ·cases hd
 ·unfold lE;split
  ·exact hx _ _ _
  ·exact fun h=>by cases h
def ng:D->R D
 |.list xs=>.ok (.int xs.length)
 |.tuple xs=>.ok (.int xs.length)
 |.str x=>if x.length<=1000 then .ok (.int x.length) else .no
 |_=>.no
theorem RDt.length  : ∀ {vs:List (List dQ×V)}{ds:List (D×D)},RDt K H vs ds->vs.length=ds.length
 |_,_,.nil=>rfl
 |_,_,.cons _ t=>by simp [RDt.length t]
theorem RB.dict    (sub:cb Hs H) (h:RB K H Hs v (.dict ds)):∃ a,v=.ref a/\((∃ kvs,H a=some (.dK kvs)/\RDk K Hs kvs ds)\/(∃ kvs,H a=some (.dT kvs)/\kvs≠[]/\RDt K Hs kvs ds)\/∃ o kvs es,ds=(.none,.none)::es/\H a=some (.frz o (.dT kvs))/\kvs≠[]/\RDt K Hs kvs es):=by
 rcases h with h|⟨a,o,rfl,h2,h3,h4⟩
 ·cases h with
  |dictK q r=>exact ⟨_,rfl,.inl ⟨_,sub _ _ q,r⟩⟩
  |dictT q n r=>exact ⟨_,rfl,.inr (.inl ⟨_,sub _ _ q,n,r⟩)⟩
  |dictF q n r=>exact ⟨_,rfl,.inr (.inr ⟨_,_,_,rfl,sub _ _ q,n,r⟩)⟩
 ·cases h4 with
  |dK r=>exact ⟨a,rfl,.inl ⟨_,h2,r⟩⟩
  |dT n r=>exact ⟨a,rfl,.inr (.inl ⟨_,h2,n,r⟩)⟩
  |dF n r=>exact ⟨a,rfl,.inr (.inr ⟨_,_,_,rfl,h2,n,r⟩)⟩
theorem j3:EU X (.builtin "len") (lE ng):=by
 refine ql (fun d c n=>?_) fun pins s σ H x u Q Hs d d' I ru sub rx hd q=>?_
 ·unfold ng;split<;>(try split)<;>exact fun h=>by cases h
 ·unfold ng at hd;split at hd
  ·cases hd;obtain ⟨a,vs,rfl,qa,ra⟩:=rx.list sub;refine oX pins s σ H _ _ Q I (.cons ru .nil) ⟨a,vs,rfl,.inl qa,?_⟩;rw [ra.length];exact q _ H Hs (.refl sub) (.int _)
  ·cases hd;obtain ⟨a,vs,rfl,qa,ra,_⟩:=rx.tuple sub;refine oX pins s σ H _ _ Q I (.cons ru .nil) ⟨a,vs,rfl,.inr qa,?_⟩;rw [ra.length];exact q _ H Hs (.refl sub) (.int _)
  ·split at hd
   ·rename_i hz
    cases hd;exact wy pins s σ H _ _ Q I (.cons ru .nil) ⟨_,by rw [rx.str],ba (bS hz),q _ H Hs (.refl sub) (.int _)⟩
   ·cases hd
  ·cases hd
def Mb (T:String) (d:D):Bool:=match T,d with
 | "str",.str _=>true
 | "int",.int _=>true
 | "int",.bool _=>true
 | "bool",.bool _=>true
 | "list",.list _=>true
 | "tuple",.tuple _=>true
 |_,_=>false
def rN (g:aD->R D) (T:String):aD->R D:=fun ρ=>(g ρ).bind fun d=>if Gf d then .ok (.bool (Mb T d)) else .no
theorem HC  (T:String) (hT:T="str"\/T="int"\/T="bool"\/T="list"\/T="tuple") (h:Gf d=true):cz K (.type (ND d)) (.type T)=some (Mb T d):=by
 rcases hT with rfl|rfl|rfl|rfl|rfl<;>cases d<;>first|rfl|simp [Gf] at h
theorem jT      (h:JB c e g) (hgi:Gl c.X "isinstance") (hi:c.X.mg "isinstance"=none) (hgT:Gl c.X T) (hT:c.X.mg T=none) (hv:ft T=some (.type Ts))
  (hTs:Ts="str"\/Ts="int"\/Ts="bool"\/Ts="list"\/Ts="tuple")
  (hn:T≠"__name__":=by decide) (hdb:(T==("__debug__" : Str))=false:=by decide)
  (he:ap [e,.Name T p2] c.X.env=(false,cQ e c.X.env)::ap [.Name T p2] c.X.env:=by rfl) (hpl:(cR pos (ap [.Name T p2] c.X.env)).any (·.1)=false:=by rfl) :
  JE c (.Call (.Name "isinstance" p) [e,.Name T p2] [] pos) (rN g Ts):=.of fun ρ=>by
 refine lM (kg Ez hgi hi i5 (bD (h ρ) (bD (AZ hgT hT hv (v:=.ty Ts) rfl hn hdb) eE) he) (by decide) (by decide) he hpl) fun σ H Q h_0=>?_;obtain ⟨H0,Hs0,la,Hs,f,q⟩:=h_0;refine one f q fun d v H1 Hs1 e1 s1 f1 r1=>?_;unfold rN at q;rw [e1,bind_ok] at q;by_cases hd:Gf d=true
 ·rw [if_pos hd] at q;exact ⟨v,d,Ts,_,rfl,(r1.full f1.st.sub).rep hd,HC Ts hTs hd,q _ H1 Hs1 s1 (.bool _)⟩
 ·rw [if_neg hd] at q;exact q.elim
def pp:List D->Option (List Bool)
 |[]=>some []
 |.bool b::r=>(pp r).map (b::·)
 |_::_=>none
theorem wS:∀ {bs:List Bool},pp ds=some bs->ds=bs.map PyData.bool:=by
 induction ds with
 |nil=>intro bs h;cases h;rfl
 |cons d r ih =>
  intro bs h;cases d with
  |bool b =>
   have h:(pp r).map (b::·)=some bs:=h;cases hr:pp r with
   |none=>rw [hr] at h;cases h
   |some z=>rw [hr] at h;cases h;rw [ih hr];rfl
  |_=>cases h
def gY (k:List Bool->Bool):D->R D
 |.list ds=>match pp ds with
  |some bs=>.ok (.bool (k bs))
  |none=>.no
 |_=>.no
theorem yx {id:String}{k:List Bool->Bool} (h:i6 X (.builtin id) (fun xs H Q=>∃ p,∃ bs:List Bool,xs=[.ref p]/\jx X.K H p (bs.map V.bl)/\Q (.bl (k bs)) H)):EU X (.builtin id) (lE (gY k)):=by
 refine ql (fun d c n=>?_) fun pins s σ H x u Q Hs d d' I ru sub rx hd q=>?_
 ·unfold gY;split<;>(try split)<;>exact fun h=>by cases h
 ·unfold gY at hd;split at hd
  ·split at hd
   ·rename_i bs hb
    cases hd;obtain ⟨a,vs,rfl,qa,ra⟩:=rx.list sub;rw [wS hb] at ra;rw [uQ ra] at qa;exact h pins s σ H _ _ Q I (.cons ru .nil) ⟨a,bs,rfl,qa,q _ H Hs (.refl sub) (.bool _)⟩
   ·cases hd
  ·cases hd
theorem l_ (hc:X.calm=true):EU X (.builtin "all") (lE (gY fun bs=>bs.all id)):=yx (sW hc)
theorem Km (hc:X.calm=true):EU X (.builtin "any") (lE (gY fun bs=>bs.any id)):=yx (sX hc)
def m5 (x:Str):List D:=x.cps.toList.map fun c=>uy ⟨#[c]⟩
theorem Cv  (x:Str):RDs K H (tj x) (m5 x):=by
 unfold tj m5;induction x.cps.toList with
 |nil=>exact .nil
 |cons a r ih=>exact .cons (.str _) ih
def tH:D->R D
 |.list xs=>.ok (.tuple xs)
 |.tuple xs=>.ok (.tuple xs)
 |.str x=>if x.cps.size<=1000 then .ok (.tuple (m5 x)) else .no
 |_=>.no
theorem yy (hc:X.calm=true):EU X (.type "tuple") (lE tH):=by
 refine ql (fun d c n=>?_) fun pins s σ H x u Q Hs d d' I ru sub rx hd q=>?_
 ·unfold tH;split<;>(try split)<;>exact fun h=>by cases h
 ·unfold tH at hd;split at hd
  ·cases hd;obtain ⟨a,vs,rfl,qa,ra⟩:=rx.list sub;exact nu pins s σ H _ _ Q I (.cons ru .nil) ⟨a,vs,rfl,.inl ⟨qa,fun l hl=>q _ _ _ (.new sub hl) (.tuple aH (ra.same (bN.new sub hl).sh))⟩⟩
  ·cases hd;obtain ⟨a,vs,rfl,qa,ra,_⟩:=rx.tuple sub;refine nu pins s σ H _ _ Q I (.cons ru .nil) ⟨a,vs,rfl,.inr ⟨qa,?_⟩⟩;rcases rx with rx|⟨_,_,_,_,_,ow⟩
   ·exact q _ H Hs (.refl sub) rx
   ·cases ow
  ·split at hd
   ·rename_i hz
    cases hd;exact rM hc pins s σ H _ _ Q I (.cons ru .nil) ⟨_,by rw [rx.str],ba (bS hz),fun l hl=>q _ _ _ (.new sub hl) (.tuple aH (Cv _))⟩
   ·cases hd
  ·cases hd
def vJ:D->R D
 |.list xs=>.ok (.list xs)
 |.tuple xs=>.ok (.list xs)
 |_=>.no
theorem HD:EU X (.type "list") (lE vJ):=by
 refine ql (fun d c n=>?_) fun pins s σ H x u Q Hs d d' I ru sub rx hd q=>?_
 ·unfold vJ;split<;>exact fun h=>by cases h
 ·unfold vJ at hd;split at hd
  ·cases hd;obtain ⟨a,vs,rfl,qa,ra⟩:=rx.list sub;exact oY pins s σ H _ _ Q I (.cons ru .nil) ⟨a,vs,rfl,.inl qa,fun l hl=>q _ _ _ (.new sub hl) (.list (.of aH) (ra.same (bN.new sub hl).sh))⟩
  ·cases hd;obtain ⟨a,vs,rfl,qa,ra,_⟩:=rx.tuple sub;exact oY pins s σ H _ _ Q I (.cons ru .nil) ⟨a,vs,rfl,.inr qa,fun l hl=>q _ _ _ (.new sub hl) (.list (.of aH) (ra.same (bN.new sub hl).sh))⟩
  ·cases hd
def gC:List D->Option (List Str)
 |[]=>some []
 |.str b::r=>(gC r).map (b::·)
 |_::_=>none
theorem qX:∀ {bs:List Str},gC ds=some bs->ds=bs.map uy:=by
 induction ds with
 |nil=>intro bs h;cases h;rfl
 |cons d r ih =>
  intro bs h;cases d with
  |str b =>
   have h:(gC r).map (b::·)=some bs:=h;cases hr:gC r with
   |none=>rw [hr] at h;cases h
   |some z=>rw [hr] at h;cases h;rw [ih hr];rfl
  |_=>cases h
end
end
section
inductive Mc (K:a7) (cls:Str->ac) (n:Nat) (F:List D->R D) (vs:List V) (H:Hp) (Q:VK) (E:XK):Prop
 |mk (Hs ds:_) (h0:cb Hs H) (h1:ds.length=n) (h2:RDs K Hs vs ds) (h3:Fin K cls E H Hs (F ds) fun d=>∀ v H' Hs',bN H Hs H' Hs'->RD K Hs' v d->Q v H'):Mc K cls n F vs H Q E
def EV (K:a7) (cls:Str->ac) (n:Nat) (F:List D->R D):Sp:=Mc K cls n F
structure Fn (P:aJ) (w:aS) (K:a7) (mg:Str->Option a9) (base:aW) (cls:Str->ac) (x:Str) (k n:Nat) (F:List D->R D):Prop where
 ex:∃ f fd ps,kS P w K mg base (iA P w) k f fd ps (EV K cls n F)/\mg x=some (.ref f)/\bC K (.ref f)=true/\fD K fd ps []
section
def eV (n:Nat) (F:List D->R D) (gs:aD->R (List D)):aD->R D:=fun ρ=>(gs ρ).bind fun ds=>if ds.length=n then F ds else .no
theorem HE  (G:Fn c.X.prog c.X.w c.X.K c.X.mg c.X.base c.cls x k n F) (hr:eL k c.X.A) (hg:Gl c.X x) (hx:fS (iA c.X.prog c.X.w) c.X c.E) (ha:xM c (e::es) gs)
  (hdb:(x==("__debug__" : Str))=false:=by decide) (he:ap (e::es) c.X.env=(false,cQ e c.X.env)::ap es c.X.env:=by rfl) (hpl:(cR pos (ap es c.X.env)).any (·.1)=false:=by rfl) :
  JE c (.Call (.Name x p) (e::es) [] pos) (eV n F gs):=.of fun ρ=>by
 obtain ⟨f,fd,ps,hf,hm,hk,hb⟩:=G.ex;refine lM (wu (E:=c.E) hf hr hg hm hk hb .nil hx (ha ρ) hdb he hpl) fun σ H Q h_0=>?_;obtain ⟨H0,Hs0,la,Hs,fr,q⟩:=h_0;refine wO fr q fun ds vs H1 Hs1 e1 s1 f1 r1=>?_;unfold eV at q;rw [e1,bind_ok] at q;by_cases hn:ds.length=n
 ·rw [if_pos hn] at q;show EV _ _ _ _ (vs++[]) _ _ _;rw [bT];exact ⟨Hs1,ds,f1.st.sub,hn,r1,q.on s1 fun d k v H2 Hs2 s2 r2=>k v H2 Hs2 (s1.trans s2) r2⟩
 ·rw [if_neg hn] at q;exact q.elim
end
inductive Fl where
 |nx (ρ:aD)
 |rt (d:D)
 |bk (ρ:aD)
 |ct (ρ:aD)
def kl (K:a7) (cls:Str->ac) (E:XK) (H0 Hs0:Hp) (la:Nat->Option ac) (D:oQ) (r:R Fl):Prop:=match r with
 |.ok (.nx ρ')=>∀ σ' H' Hs',Fr K H0 Hs0 la ρ' σ' H' Hs'->D.nx σ' H'
 |.ok (.bk ρ')=>∀ σ' H' Hs',Fr K H0 Hs0 la ρ' σ' H' Hs'->D.bk σ' H'
 |.ok (.ct ρ')=>∀ σ' H' Hs',Fr K H0 Hs0 la ρ' σ' H' Hs'->D.ct σ' H'
 |.ok (.rt d)=>∀ v H' Hs',bN H0 Hs0 H' Hs'->RD K Hs' v d->D.rt v H'
 |.ex c n=>∀ H' Hs',bN H0 Hs0 H' Hs'->XW K cls E c n H' Hs'
 |.no=>False
inductive Ot (K:a7) (cls:Str->ac) (E:XK) (ρ:aD) (r:R Fl) (D:oQ) (σ:St) (H:Hp):Prop
 |mk (H0 Hs0:Hp) (la:Nat->Option ac) (Hs:Hp) (f:Fr K H0 Hs0 la ρ σ H Hs) (q:kl K cls E H0 Hs0 la D r):Ot K cls E ρ r D σ H
def SR (K:a7) (cls:Str->ac) (E:XK) (ρ:aD) (r:R Fl):TS:=Ot K cls E ρ r
structure JS (c:C) (s:cy) (g:aD->R Fl):Prop where of ::
 run:∀ ρ,PS c.X s (SR c.X.K c.cls c.E ρ (g ρ))
instance {c:C}{s:cy}{g:aD->R Fl}:CoeFun (JS c s g) (fun _=>∀ ρ,PS c.X s (SR c.X.K c.cls c.E ρ (g ρ))):=⟨JS.run⟩
structure zy (c:C) (s:List cy) (g:aD->R Fl):Prop where of ::
 run:∀ ρ,uA c.X s (SR c.X.K c.cls c.E ρ (g ρ))
instance {c:C}{s:List cy}{g:aD->R Fl}:CoeFun (zy c s g) (fun _=>∀ ρ,uA c.X s (SR c.X.K c.cls c.E ρ (g ρ))):=⟨zy.run⟩
theorem Fr.set     (f:Fr K H0 Hs0 la ρ σ H Hs) (i:Nat)  (r:RD K Hs v d):Fr K H0 Hs0 la (ρ.set i (.shr d)) (σ.set i (some v)) H Hs:=by
 have hl:=f.len;have nx:∀ {j:Nat}{s:Sl},(∀ d,s≠.shr d)->(ρ.set i (.shr d))[j]?=some s->ρ[j]?=some s/\i≠j:=fun {j s} hs e=>by
  by_cases hj:i=j
  ·subst hj;by_cases hi:i<ρ.length
   ·rw [aE hi] at e;exact absurd (a_ e).symm (hs d)
   ·rw [cD (by simpa using hi)] at e;cases e
  ·rw [aj hj] at e;exact ⟨e,hj⟩
 refine ⟨f.st,by simp [hl],fun j e h=>?_,fun j e h=>?_,fun j e h=>?_,fun j k d1 d2 a h1 h2 h3 h4=>?_,f.lh,fun j e h=>?_,fun j k d1 d2 h1 h2=>?_⟩
 ·by_cases hj:i=j
  ·subst hj;by_cases hi:i<ρ.length
   ·rw [aE hi] at h;cases h;exact ⟨v,aE (by omega),r⟩
   ·rw [cD (by simpa using hi)] at h;cases h
  ·rw [aj hj] at h ⊢;exact f.sh j e h
 ·obtain ⟨h,hj⟩:=nx (fun _ z=>by cases z) h;rw [aj hj];exact f.ow j e h
 ·obtain ⟨h,hj⟩:=nx (fun _ z=>by cases z) h;rw [aj hj];exact f.lk j e h
 ·obtain ⟨h1,n1⟩:=nx (fun _ z=>by cases z) h1;obtain ⟨h2,n2⟩:=nx (fun _ z=>by cases z) h2;rw [aj n1] at h3;rw [aj n2] at h4;exact f.dj j k d1 d2 a h1 h2 h3 h4
 ·obtain ⟨h,hj⟩:=nx (fun _ z=>by cases z) h;obtain ⟨a,as,O⟩:=f.o2 j e h;refine ⟨a,as,by rw [aj hj];exact O.at_,O.ob,O.nd,O.out,fun b hb k e' hk=>?_,O.inn⟩;obtain ⟨hk,nk⟩:=nx (fun _ z=>by cases z) hk;rw [aj nk];exact O.dj b hb k e' hk
 ·exact f.u2 j k d1 d2 (nx (fun _ z=>by cases z) h1).1 (nx (fun _ z=>by cases z) h2).1
theorem Fr.setO     (f:Fr K H0 Hs0 la ρ σ H Hs) (i:Nat)   (n:H a=none) (r:jp K Hs o d):Fr K H0 Hs0 la (ρ.set i (.own d)) (σ.set i (some (.ref a))) (upd H a o) Hs:=by
 have f':=f.step (bN.mine (o:=o) f.st.sub n);have hl:=f.len;have n0:H0 a=none:=f.st.all.free n;have ns:Hs a=none:=f.st.sub.free n;have nx:∀ {j:Nat}{s:Sl},(∀ d,s≠.own d)->(ρ.set i (.own d))[j]?=some s->ρ[j]?=some s/\i≠j:=fun {j s} hs e=>by
  by_cases hj:i=j
  ·subst hj;by_cases hi:i<ρ.length
   ·rw [aE hi] at e;exact absurd (a_ e).symm (hs d)
   ·rw [cD (by simpa using hi)] at e;cases e
  ·rw [aj hj] at e;exact ⟨e,hj⟩
 have ne:∀ j e,ρ[j]?=some (Sl.own e)->σ[j]?≠some (some (V.ref a)):=fun j e h z=>by
  obtain ⟨b,o',h1,h2,_⟩:=f.ow j e h;rw [z] at h1;cases h1;rw [n] at h2;cases h2
 refine ⟨f'.st,by simp [hl],fun j e h=>?_,fun j e h=>?_,fun j e h=>?_,fun j k d1 d2 b h1 h2 h3 h4=>?_,f.lh,fun j e h=>?_,fun j k d1 d2 h1 h2=>?_⟩
 ·obtain ⟨h,hj⟩:=nx (fun _ z=>by cases z) h;rw [aj hj];exact f'.sh j e h
 ·by_cases hj:i=j
  ·subst hj;by_cases hi:i<ρ.length
   ·rw [aE hi] at h;cases h;exact ⟨a,o,aE (by omega),aH,ns,n0,r⟩
   ·rw [cD (by simpa using hi)] at h;cases h
  ·rw [aj hj] at h ⊢;exact f'.ow j e h
 ·obtain ⟨h,hj⟩:=nx (fun _ z=>by cases z) h;rw [aj hj];exact f'.lk j e h
 ·by_cases hj:i=j
  ·by_cases hk:i=k
   ·exact hj.symm.trans hk
   ·rw [aj hk] at h2 h4;subst hj;by_cases hi:i<ρ.length
    ·rw [aE (by omega)] at h3;cases h3;exact (ne k d2 h2 h4).elim
    ·rw [cD (by simpa using hi)] at h1;cases h1
  ·rw [aj hj] at h1 h3;by_cases hk:i=k
   ·subst hk;by_cases hi:i<ρ.length
    ·rw [aE (by omega)] at h4;cases h4;exact (ne j d1 h1 h3).elim
    ·rw [cD (by simpa using hi)] at h2;cases h2
   ·rw [aj hk] at h2 h4;exact f.dj j k d1 d2 b h1 h2 h3 h4
 ·obtain ⟨h,hj⟩:=nx (fun _ z=>by cases z) h;obtain ⟨b,as,O⟩:=f.o2 j e h;have nb:∀ c∈b::as,c≠a:=fun c hc z=>by
   subst z;rcases List.mem_cons.mp hc with z|z
   ·have:=O.ob;rw [<- z,n] at this;cases this
   ·obtain ⟨o,ho,_⟩:=O.inn.there z;rw [n] at ho;cases ho
  refine ⟨b,as,by rw [aj hj];exact O.at_,by rw [aG (nb b ao)];exact O.ob,O.nd,O.out,fun c hc k e' hk=>?_,O.inn.upd fun z=>nb a (ah _ z) rfl⟩;by_cases nk:i=k
  ·subst nk;intro z;by_cases hi:i<ρ.length
   ·rw [aE (by omega)] at z;cases z;exact nb _ hc rfl
   ·rw [cD (by simp;omega)] at hk;cases hk
  ·rw [aj nk] at hk ⊢;exact O.dj c hc k e' hk
 ·exact f.u2 j k d1 d2 (nx (fun _ z=>by cases z) h1).1 (nx (fun _ z=>by cases z) h2).1
theorem Fr.write     (f:Fr K H0 Hs0 la ρ σ H Hs) (i:Nat)   (hi:ρ[i]?=some (Sl.own d)) (hs:σ[i]?=some (some (V.ref a))) (r:jp K Hs o d'):Fr K H0 Hs0 la (ρ.set i (.own d')) σ (upd H a o) Hs:=by
 obtain ⟨a',o',h1,h2,h3,h4,h5⟩:=f.ow i d hi;rw [hs] at h1;cases h1;have hl:=f.len;have hil:i<ρ.length:=(List.getElem?_eq_some_iff.mp hi).1;have nx:∀ {j:Nat}{s:Sl},(∀ d,s≠.own d)->(ρ.set i (.own d'))[j]?=some s->ρ[j]?=some s/\i≠j:=fun {j s} hs e=>by
  by_cases hj:i=j
  ·subst hj;rw [aE hil] at e;exact absurd (a_ e).symm (hs d')
  ·rw [aj hj] at e;exact ⟨e,hj⟩
 refine ⟨⟨fun b u e=>?_,f.st.sh,fun b u e=>?_,f.st.out⟩,by simp [hl],fun j e h=>?_,fun j e h=>?_,fun j e h=>?_,fun j k d1 d2 b h1 h2 h3 h4=>?_,f.lh,fun j e h=>?_,fun j k d1 d2 h1 h2=>?_⟩
 ·rw [aG (aI e h4)];exact f.st.all b u e
 ·rw [aG (aI e h3)];exact f.st.sub b u e
 ·obtain ⟨h,hj⟩:=nx (fun _ z=>by cases z) h;exact f.sh j e h
 ·by_cases hj:i=j
  ·subst hj;rw [aE hil] at h;cases h;exact ⟨a,o,hs,aH,h3,h4,r⟩
  ·rw [aj hj] at h;obtain ⟨b,u,k1,k2,k3,k4,k5⟩:=f.ow j e h;refine ⟨b,u,k1,?_,k3,k4,k5⟩;rw [aG (fun z=>hj ?_)]
   ·exact k2
   ·subst z;exact f.dj i j d e b hi h hs k1
 ·obtain ⟨h,hj⟩:=nx (fun _ z=>by cases z) h;obtain ⟨b,u,k1,k2,k3,k4,k5,k6⟩:=f.lk j e h;refine ⟨b,u,k1,k2,?_,k4,k5,k6⟩;rw [aG (aI k5 h4)];exact k3
 ·have own:∀ {j:Nat}{e:D},(ρ.set i (.own d'))[j]?=some (Sl.own e)->∃ e',ρ[j]?=some (Sl.own e'):=fun {j e} h=>by
   by_cases hj:i=j
   ·subst hj;exact ⟨d,hi⟩
   ·rw [aj hj] at h;exact ⟨e,h⟩
  obtain ⟨e1,h1⟩:=own h1;obtain ⟨e2,h2⟩:=own h2;exact f.dj j k e1 e2 b h1 h2 h3 h4
 ·obtain ⟨h,hj⟩:=nx (fun _ z=>by cases z) h;obtain ⟨b,as,O⟩:=f.o2 j e h;have nb:∀ c∈b::as,c≠a:=fun c hc z=>by
   subst z;exact O.dj c hc i d hi hs
  refine ⟨b,as,O.at_,by rw [aG (nb b ao)];exact O.ob,O.nd,O.out,fun c hc k e' hk=>?_,O.inn.upd fun z=>nb a (ah _ z) rfl⟩;by_cases nk:i=k
  ·subst nk;exact O.dj c hc i d hi
  ·rw [aj nk] at hk;exact O.dj c hc k e' hk
 ·exact f.u2 j k d1 d2 (nx (fun _ z=>by cases z) h1).1 (nx (fun _ z=>by cases z) h2).1
def cL (ρ:aD):aD:=ρ.map fun s=>match s with
 |.own d=>.shr d
 |.ow2 dss=>.shr (.list (dss.map .list))
 |s=>s
open Classical in
theorem Fr.share     (f:Fr K H0 Hs0 la ρ σ H Hs):∃ Hs',Fr K H0 Hs0 la (cL ρ) σ H Hs'/\bN H Hs H Hs'\/Fr K H0 Hs0 la (cL ρ) σ H Hs':=by
 let P:ac->Prop:=fun b=>(∃ (i:Nat) (d:D),ρ[i]?=some (Sl.own d)/\σ[i]?=some (some (V.ref b)))\/∃ (i:Nat) (dss:List (List D)) (a:ac) (as:List ac),ρ[i]?=some (Sl.ow2 dss)/\O2 K H0 H Hs ρ σ i dss a as/\b∈a::as
 let Hs':Hp:=fun b=>if P b then H b else Hs b
 have pos:∀ b,P b->Hs' b=H b:=fun b h=>if_pos h;have neg:∀ b,¬ P b->Hs' b=Hs b:=fun b h=>if_neg h;have up:cb Hs Hs':=fun b o e=>by
  by_cases h:P b
  ·rw [pos b h];exact f.st.sub b o e
  ·rw [neg b h];exact e
 have none0:∀ b o,H0 b=some o->¬ P b:=fun b o e hP=>by
  rcases hP with ⟨i,d,h1,h2⟩|⟨i,dss,a,as,h1,O,hb⟩
  ·obtain ⟨a,o',k1,_,_,k4,_⟩:=f.ow i d h1;rw [h2] at k1;cases k1;rw [e] at k4;cases k4
  ·have:=(O.out b hb).2;rw [e] at this;cases this
 have un:∀ {j:Nat}{s:Sl},(cL ρ)[j]?=some s->(∃ d,s=.shr d/\ρ[j]?=some (Sl.own d))\/(∃ dss:List (List D),s=.shr (.list (dss.map .list))/\ρ[j]?=some (Sl.ow2 dss))\/((∀ d,s≠.own d)/\(∀ d,s≠.ow2 d)/\ρ[j]?=some s):=fun {j s} e=>by
  unfold cL at e;rw [aK] at e;cases h:ρ[j]? with
  |none=>rw [h] at e;cases e
  |some t =>
   rw [h] at e;cases t with
   |own d=>cases e;exact .inl ⟨d,rfl,rfl⟩
   |no=>cases e;exact .inr (.inr ⟨fun _ z=>(by cases z),fun _ z=>(by cases z),rfl⟩)
   |shr d=>cases e;exact .inr (.inr ⟨fun _ z=>(by cases z),fun _ z=>(by cases z),rfl⟩)
   |lck d=>cases e;exact .inr (.inr ⟨fun _ z=>(by cases z),fun _ z=>(by cases z),rfl⟩)
   |ow2 d=>cases e;exact .inr (.inl ⟨d,rfl,rfl⟩)
 refine ⟨Hs',.inr ⟨⟨f.st.all,f.st.sh.trans up,fun b o e=>?_,fun a o e t z=>?_⟩,by simp [cL,f.len],fun j d h=>?_,fun j d h=>?_,fun j d h=>?_,fun j k d1 d2 a h1 h2 _ _=>?_,f.lh,fun j d h=>?_,fun j k d1 d2 h1 h2=>?_⟩⟩
 ·by_cases h:P b
  ·rw [pos b h] at e;exact e
  ·rw [neg b h] at e;exact f.st.sub b o e
 ·rw [neg a (none0 a o e)];exact f.st.out a o e t z
 ·rcases un h with ⟨d',e,h'⟩|⟨dss,e,h'⟩|⟨_,_,h'⟩
  ·cases e;obtain ⟨a,o,k1,k2,k3,k4,k5⟩:=f.ow j d h';refine ⟨_,k1,?_⟩;have hp:Hs' a=some o:=by rw [pos a (.inl ⟨j,d,h',k1⟩)];exact k2
   have e:cb (upd Hs a o) Hs':=fun b u q=>by
    by_cases hb:b=a
    ·subst hb;rw [aH] at q;cases q;exact hp
    ·rw [aG hb] at q;exact up b u q
   exact (k5.share k3).same e
  ·cases e;obtain ⟨a,as,O⟩:=f.o2 j dss h';refine ⟨_,O.at_,?_⟩;have hp:∀ b∈a::as,∀ o,H b=some o->Hs' b=some o:=fun b hb o ho=>by rw [pos b (.inr ⟨j,dss,a,as,h',O,hb⟩)];exact ho
   refine .list (.of (hp a ao _ O.ob)) ?_;have go:∀ {as':List ac}{dss':List (List D)},(∀ b∈as',b∈a::as)->Cm K H Hs as' dss'->RDs K Hs' (as'.map V.ref) (dss'.map .list):=fun {as' dss'} hs hi=>by
    induction hi with
    |nil=>exact .nil
    |cons h1 h2 _ ih=>exact .cons (.list (.of (hp _ (hs _ ao) _ h1)) (h2.same up)) (ih fun b hb=>hs b (ah _ hb))
   exact go (fun b hb=>ah _ hb) O.inn
  ·obtain ⟨v,k1,k2⟩:=f.sh j d h';exact ⟨v,k1,k2.same up⟩
 ·rcases un h with ⟨d',e,h'⟩|⟨d',e,h'⟩|⟨n,_,h'⟩
  ·cases e
  ·cases e
  ·exact (n d rfl).elim
 ·rcases un h with ⟨d',e,h'⟩|⟨d',e,h'⟩|⟨_,_,h'⟩
  ·cases e
  ·cases e
  ·obtain ⟨a,o,k1,k2,k3,k4,k5,k6⟩:=f.lk j d h';exact ⟨a,o,k1,k2,k3,by rw [neg a (none0 a o k5)];exact k4,k5,k6.same up⟩
 ·rcases un h1 with ⟨d',e,h'⟩|⟨d',e,h'⟩|⟨n,_,h'⟩
  ·cases e
  ·cases e
  ·exact (n d1 rfl).elim
 ·rcases un h with ⟨d',e,h'⟩|⟨d',e,h'⟩|⟨_,n,h'⟩
  ·cases e
  ·cases e
  ·exact (n d rfl).elim
 ·rcases un h1 with ⟨d',e,h'⟩|⟨d',e,h'⟩|⟨_,n,h'⟩
  ·cases e
  ·cases e
  ·exact (n d1 rfl).elim
theorem Fr.shared     (f:Fr K H0 Hs0 la ρ σ H Hs):∃ Hs',Fr K H0 Hs0 la (cL ρ) σ H Hs':=by
 obtain ⟨Hs',h|h⟩:=f.share
 ·exact ⟨Hs',h.1⟩
 ·exact ⟨Hs',h⟩
section
variable {c:C}{e a b:aQ}{g ga gb:aD->R D}{pos:Pos}{x:Str}{st:cy}{b_:List cy}{gs gr:aD->R Fl}
def bj (g h:aD->R Fl):aD->R Fl:=fun ρ=>(g ρ).bind fun fl=>match fl with
 |.nx ρ'=>h ρ'
 |fl=>.ok fl
theorem dv:zy c [] (fun ρ=>.ok (.nx ρ)):=.of fun ρ=>NF wm fun D σ H h_1=>by obtain ⟨H0,Hs0,la,Hs,f,q⟩:=h_1;exact q σ H Hs f
theorem aU (h:JS c st gs):zy c [st] gs:=.of fun ρ=>mE (h ρ)
theorem aZ (h:JS c st gs) (hr:zy c b_ gr):zy c (st::b_) (bj gs gr):=.of fun ρ pins s σ H D I h_2=>by
 obtain ⟨H0,Hs0,la,Hs,f,q⟩:=h_2;unfold bj at q;cases hg:gs ρ with
 |no=>rw [hg] at q;exact q.elim
 |ex x n =>
  rw [hg] at q;refine d_ (h ρ) (fN (X:=c.X) (sts:=b_)) pins s σ H D I ⟨H0,Hs0,la,Hs,f,?_⟩;rw [hg];exact q
 |ok fl =>
  rw [hg,bind_ok] at q;cases fl with
  |nx ρ' =>
   refine d_ (h ρ) (hr ρ') pins s σ H D I ⟨H0,Hs0,la,Hs,f,?_⟩;rw [hg];exact fun σ' H' Hs' f'=>⟨H0,Hs0,la,Hs',f',q⟩
  |rt d =>
   refine d_ (h ρ) (fN (X:=c.X) (sts:=b_)) pins s σ H D I ⟨H0,Hs0,la,Hs,f,?_⟩;rw [hg];exact q
  |bk ρ' =>
   refine d_ (h ρ) (fN (X:=c.X) (sts:=b_)) pins s σ H D I ⟨H0,Hs0,la,Hs,f,?_⟩;rw [hg];exact q
  |ct ρ' =>
   refine d_ (h ρ) (fN (X:=c.X) (sts:=b_)) pins s σ H D I ⟨H0,Hs0,la,Hs,f,?_⟩;rw [hg];exact q
theorem sE            (f:Fr K H0 Hs0 la ρ σ H Hs)
  (h:kl K cls E H0 Hs0 la D' (r.bind k)) (m:∀ d v H' Hs',r=.ok d->bN H Hs H' Hs'->Fr K H0 Hs0 la ρ σ H' Hs'->RD K Hs' v d->Q v H'):TR K cls E ρ r σ H Q:=by
 refine ⟨H0,Hs0,la,Hs,f,?_⟩;cases r with
 |ok d=>exact fun v H' Hs' s r=>m d v H' Hs' rfl s (f.step s) r
 |ex c n=>exact fun H' Hs' s=>h H' Hs' (f.st.trans s)
 |no=>exact h
theorem sT            (f:Fr K H0 Hs0 la ρ σ H Hs)
  (h:kl K cls E H0 Hs0 la D' (r.bind k)) (m:∀ d H' Hs',r=.ok d->bN H Hs H' Hs'->Fr K H0 Hs0 la ρ σ H' Hs'->Q d H'):Co K cls E ρ r σ H Q:=by
 refine ⟨H0,Hs0,la,Hs,f,?_⟩;cases r with
 |ok d=>exact fun H' Hs' s=>m d H' Hs' rfl s (f.step s)
 |ex c n=>exact fun H' Hs' s=>h H' Hs' (f.st.trans s)
 |no=>exact h
def cH (g:aD->R D):aD->R Fl:=fun ρ=>(g (cL ρ)).bind fun d=>.ok (.rt d)
theorem bI (h:JE c e g):JS c (.Return (some e) pos) (cH g):=.of fun ρ=>tm (wn (h (cL ρ))) fun D σ H h_3=>by
 obtain ⟨H0,Hs0,la,Hs,f,q⟩:=h_3;obtain ⟨Hs',f'⟩:=f.shared;refine sE f' q fun d v H1 Hs1 e1 s1 f1 r1=>?_;unfold cH at q;rw [e1,bind_ok] at q;exact q v H1 Hs1 f1.st r1
def eM (t:aD->R Bool) (g h:aD->R Fl):aD->R Fl:=fun ρ=>(t ρ).bind fun b=>if b then g ρ else h ρ
theorem gH    (ht:JT c t gt) (hA:zy c A gA) (hB:zy c B gB):JS c (.If t A B pos) (eM gt gA gB):=.of fun ρ=>tm (DJ (ht ρ) (hA ρ) (hB ρ)) fun D σ H h_5=>by
 obtain ⟨H0,Hs0,la,Hs,f,q⟩:=h_5;refine sT f q fun d H1 Hs1 e1 s1 f1=>?_;unfold eM at q;rw [e1,bind_ok] at q;cases d with
 |true=>exact y6 ⟨H0,Hs0,la,Hs1,f1,q⟩
 |false=>exact uL ⟨H0,Hs0,la,Hs1,f1,q⟩
def iM (i:Nat) (g:aD->R D):aD->R Fl:=fun ρ=>(g ρ).bind fun d=>.ok (.nx (ρ.set i (.shr d)))
theorem m6 (i:Nat) (h:JE c e g) (hN:c.X.N.Nodup) (hi:c.X.N[i]?=some x:=by rfl) (hx:GH c.X.env.scope x:=by first|exact eu rfl|exact cX rfl) (hs:fP e (some (.Name x pos')) pos.line c.X.env=pure false:=by rfl)
  (hf:c.X.fn x=true\/c.X.env.scope.names.lookup x=some .local:=by first|exact .inl rfl|exact .inr rfl|assumption):JS c (.Assign [.Name x pos'] e pos) (iM i g):=.of fun ρ=>tm (wp hN hi hx (h ρ) hs hf) fun D σ H h_6=>by
 obtain ⟨H0,Hs0,la,Hs,f,q⟩:=h_6;refine sE f q fun d v H1 Hs1 e1 s1 f1 r1=>?_;unfold iM at q;rw [e1,bind_ok] at q;exact q _ H1 Hs1 (f1.set i r1)
def tJ (g:aD->R D):aD->R Fl:=fun ρ=>(g ρ).bind fun _=>.ok (.nx ρ)
theorem pq (h:JE c e g) (hs:fP e none pos.line c.X.env=pure false:=by rfl):JS c (.Expr e pos) (tJ g):=.of fun ρ=>tm (oS (h ρ) hs) fun D σ H h_7=>by
 obtain ⟨H0,Hs0,la,Hs,f,q⟩:=h_7;refine sE f q fun d v H1 Hs1 e1 s1 f1 r1=>?_;unfold tJ at q;rw [e1,bind_ok] at q;exact q _ H1 Hs1 f1
def Ou (K:a7) (H0 Hs0:Hp) (la:Nat->Option ac) (H Hs:Hp) (Q:St->Hp->Prop) (r:R aD):Prop:=match r with
 |.ok ρ'=>∀ σ',Fr K H0 Hs0 la ρ' σ' H Hs->Q σ' H
 |_=>False
inductive Md (K:a7) (ρ:aD) (d:D) (r:R aD) (v:V) (σ:St) (H:Hp) (Q:St->Hp->Prop):Prop
 |mk (H0 Hs0:Hp) (la:Nat->Option ac) (Hs:Hp) (f:Fr K H0 Hs0 la ρ σ H Hs) (rd:RD K Hs v d) (q:Ou K H0 Hs0 la H Hs Q r):Md K ρ d r v σ H Q
def Kn (K:a7) (ρ:aD) (d:D) (r:R aD):TG:=Md K ρ d r
inductive I_ (K:a7) (ρ:aD) (ds:List D) (r:R aD) (vs:List V) (σ:St) (H:Hp) (Q:St->Hp->Prop):Prop
 |mk (H0 Hs0:Hp) (la:Nat->Option ac) (Hs:Hp) (f:Fr K H0 Hs0 la ρ σ H Hs) (rd:RDs K Hs vs ds) (q:Ou K H0 Hs0 la H Hs Q r):I_ K ρ ds r vs σ H Q
def Me (K:a7) (ρ:aD) (ds:List D) (r:R aD):DK:=I_ K ρ ds r
structure JG (c:C) (t:aQ) (k:D->aD->R aD):Prop where of ::
 run:∀ ρ d,PG c.X t (Kn c.X.K ρ d (k d ρ))
instance {c:C}{t:aQ}{k:D->aD->R aD}:CoeFun (JG c t k) (fun _=>∀ ρ d,PG c.X t (Kn c.X.K ρ d (k d ρ))):=⟨JG.run⟩
structure Lf (c:C) (t:List aQ) (k:List D->aD->R aD):Prop where of ::
 run:∀ ρ d,IB c.X t (Me c.X.K ρ d (k d ρ))
instance {c:C}{t:List aQ}{k:List D->aD->R aD}:CoeFun (Lf c t k) (fun _=>∀ ρ d,IB c.X t (Me c.X.K ρ d (k d ρ))):=⟨Lf.run⟩
theorem Ov   (h:PG X e t) (m:∀ v σ H Q,t' v σ H Q->t v σ H Q):PG X e t':=fun pins s σ H v u Q I r q=>h pins s σ H v u Q I r (m v σ H Q q)
theorem NM {X:Cx}{e:List aQ}{t t':DK} (h:IB X e t) (m:∀ v σ H Q,t' v σ H Q->t v σ H Q):IB X e t':=fun pins s σ H v u Q I r q=>h pins s σ H v u Q I r (m v σ H Q q)
def gZ (i:Nat):D->aD->R aD:=fun d ρ=>.ok (ρ.set i (.shr d))
theorem eR (i:Nat) (hN:c.X.N.Nodup) (hi:c.X.N[i]?=some x:=by rfl) (hx:GH c.X.env.scope x:=by first|exact eu rfl|exact cX rfl) (hf:c.X.fn x=true\/c.X.env.scope.names.lookup x=some .local:=by first|exact .inl rfl|exact .inr rfl|assumption) :
  JG c (.Name x pos) (gZ i):=.of fun ρ d=>Ov (dq hN hi hx hf) fun v σ H Q h_11=>by obtain ⟨H0,Hs0,la,Hs,f,r,q⟩:=h_11;exact q _ (f.set i r)
def As:List D->aD->R aD:=fun ds ρ=>match ds with
 |[]=>.ok ρ
 |_=>.no
def i7 (k:D->aD->R aD) (ks:List D->aD->R aD):List D->aD->R aD:=fun ds ρ=>match ds with
 |d::r=>(k d ρ).bind fun ρ'=>ks r ρ'
 |_=>.no
theorem pw:Lf c [] As:=.of fun ρ ds=>NM sd fun vs σ H Q h_12=>by
 obtain ⟨H0,Hs0,la,Hs,f,r,q⟩:=h_12;cases r with
 |nil=>exact ⟨rfl,q σ f⟩
 |cons _ _=>exact q.elim
theorem ed (h:JG c t kt) (hr:Lf c ts kts) (hs:(fu (t::ts) c.X.env).map (·.2)=nL t c.X.env::(fu ts c.X.env).map (·.2):=by rfl):Lf c (t::ts) (i7 kt kts):=.of fun ρ ds pins s σ H vs us Q I rv h_13=>by
 obtain ⟨H0,Hs0,la,Hs,f,r,q⟩:=h_13;cases r with
 |nil=>exact q.elim
 | @cons v vr d dr r1 r2 =>
  unfold i7 at q;cases hk:kt d ρ with
  |ok ρ' =>
   simp only [hk,bind_ok] at q;refine iX (h ρ d) (hr ρ' dr) hs pins s σ H _ us Q I rv ⟨v,vr,rfl,H0,Hs0,la,Hs,f,r1,?_⟩;rw [hk];exact fun σ' f'=>⟨H0,Hs0,la,Hs,f',r2,q⟩
  |ex x n=>simp only [hk,bind_ex] at q;exact q.elim
  |no=>simp only [hk,bind_no] at q;exact q.elim
def wT (n:Nat) (ks:List D->aD->R aD):D->aD->R aD:=fun d ρ=>match d with
 |.tuple ds=>if ds.length=n then ks ds ρ else .no
 |_=>.no
theorem tK (hc:c.X.calm=true) (h:Lf c ts kts) (hn:(fu ts c.X.env).length=n:=by rfl) (hst:(fu ts c.X.env).findIdx? (·.1)=none:=by rfl):JG c (.Tuple ts k pos) (wT n kts):=.of fun ρ d=>by
 cases d with
 |tuple ds =>
  refine Ov (wo hc (h ρ ds) hn hst) fun v σ H Q h_14=>?_;obtain ⟨H0,Hs0,la,Hs,f,r,q⟩:=h_14;cases r with
  | @tuple p xs _ hq rs =>
   unfold wT at q;by_cases hl:ds.length=n
   ·simp only [if_pos hl] at q;exact ⟨p,xs,rfl,(iR.of (f.st.sub _ _ hq)),by rw [rs.length];exact hl,H0,Hs0,la,Hs,f,rs,q⟩
   ·simp only [if_neg hl] at q;exact q.elim
 |_=>exact fun pins s σ H v u Q I rv h_15=>by obtain ⟨H0,Hs0,la,Hs,f,r,q⟩:=h_15;exact q.elim
def yz (g:aD->R D) (k:D->aD->R aD):aD->R Fl:=fun ρ=>(g ρ).bind fun d=>match k d ρ with
 |.ok ρ'=>.ok (.nx ρ')
 |_=>.no
theorem wU (h:JE c e g) (hg:JG c t kt) (hs:rT [t] e pos.line c.X.env=pure false:=by rfl) (hw:rV [t] e c.X.env=pure none:=by rfl) (h1:(fu [t] c.X.env).map (·.2)=[nL t c.X.env]:=by rfl) :
  JS c (.Assign [t] e pos) (yz g kt):=.of fun ρ=>by
 cases hr:g ρ with
 |ok d =>
  refine tm (DM (h ρ) (hg ρ d) hs hw h1) fun D σ H h_16=>?_;obtain ⟨H0,Hs0,la,Hs,f,q⟩:=h_16;refine sE (k:=fun d=>match kt d ρ with | .ok ρ'=>.ok (.nx ρ')|_=>.no) f q fun d' v H1 Hs1 e1 s1 f1 r1=>?_;rw [hr] at e1;cases e1;unfold yz at q;rw [hr,bind_ok] at q;refine ⟨H0,Hs0,la,Hs1,f1,r1,?_⟩;cases hk:kt d ρ with
  |ok ρ'=>rw [hk] at q;exact fun σ' f'=>q σ' H1 Hs1 f'
  |ex x n=>rw [hk] at q;exact q.elim
  |no=>rw [hk] at q;exact q.elim
 |ex x n =>
  refine tm (DM (h ρ) (hg ρ .none) hs hw h1) fun D σ H h_17=>?_;obtain ⟨H0,Hs0,la,Hs,f,q⟩:=h_17;refine sE (k:=fun _=>.no) (D':=D) f (by unfold yz at q;rw [hr] at q ⊢;exact q) fun d' v H1 Hs1 e1 s1 f1 r1=>?_;rw [hr] at e1;cases e1
 |no =>
  refine fun pins s σ H D I h_18=>?_;obtain ⟨H0,Hs0,la,Hs,f,q⟩:=h_18;unfold yz at q;rw [hr] at q;exact q.elim
end
end
section
def J4 (K:a7) (J:It) (ds:List D) (Hn Hs:Hp):Prop:=∀ H2 Hs2,cb Hn H2->cb Hs Hs2->cb Hs2 H2 ->
 (∀ i,i<ds.length->J.go i H2)/\(∀ i,ds.length<=i->J.stop i H2)/\∀ i x H3,i<ds.length->J.yld i H2 x H3->∃ d Hs3,ds[i]?=some d/\bN H2 Hs2 H3 Hs3/\RD K Hs3 x d
theorem wV     (h:jx K Hn a vs) (r:RDs K Hs vs ds):J4 K (L9 K a) ds Hn Hs:=fun H2 Hs2 e1 e2 e3=>by
 have q:=e1.seq h;refine ⟨fun i hi=>?_,fun i hi=>⟨vs,q,by rw [r.length];exact hi⟩,fun i x H3 hi y=>?_⟩
 ·have hi':i<vs.length:=by rw [r.length];exact hi
  exact ⟨vs,vs[i],q,aY hi'⟩
 ·obtain ⟨rfl,y⟩:=y;obtain ⟨d,k1,k2⟩:=r.get (y vs q);exact ⟨d,Hs2,k1,.refl e3,k2.same e2⟩
theorem EW     (h:iR K Hn a vs) (r:RDs K Hs vs ds):J4 K (La K a) ds Hn Hs:=fun H2 Hs2 e1 e2 e3=>by
 have q:=e1.tup h;refine ⟨fun i hi=>?_,fun i hi=>⟨vs,q,by rw [r.length];exact hi⟩,fun i x H3 hi y=>?_⟩
 ·have hi':i<vs.length:=by rw [r.length];exact hi
  exact ⟨vs,vs[i],q,aY hi'⟩
 ·obtain ⟨rfl,y⟩:=y;obtain ⟨d,k1,k2⟩:=r.get (y vs q);exact ⟨d,Hs2,k1,.refl e3,k2.same e2⟩
theorem EX  (x:Str):J4 K (LR x) (m5 x) Hn Hs:=fun H2 Hs2 e1 e2 e3=>by
 have hl:(m5 x).length=x.cps.size:=by simp [m5]
 refine ⟨fun i hi=>by rw [hl] at hi;exact hi,fun i hi=>by rw [hl] at hi;exact hi,fun i v H3 hi y=>?_⟩;obtain ⟨rfl,c,k1,rfl⟩:=y;refine ⟨.str ⟨#[c]⟩,Hs2,?_,.refl e3,.str _⟩;unfold m5;rw [aK,cB,k1];rfl
def Ko (lo:Int) (n:Nat):List D:=(bR n).map fun (k:Nat)=>oF (lo+k)
def J5 (n:Nat):List D->List D
 |[]=>[]
 |d::r=>.tuple [.int n,d]::J5 (n+1) r
def wW:List D->List D->List D
 |x::xs,y::ys=>.tuple [x,y]::wW xs ys
 |_,_=>[]
theorem yA:∀ (xs ys:List D) (i:Nat) (x y:D),xs[i]?=some x->ys[i]?=some y->(wW xs ys)[i]?=some (.tuple [x,y])
 |x::xs,y::ys,0,_,_,h1,h2=>by simp at h1 h2;subst h1 h2;rfl
 |_::xs,_::ys,i+1,x,y,h1,h2=>by
  simp only [xQ] at h1 h2;simp only [wW,xQ];exact yA xs ys i x y h1 h2
 |[],_,_,_,_,h1,_=>by simp at h1
 |_::_,[],_,_,_,_,h2=>by simp at h2
theorem yB:∀ (xs ys:List D),(wW xs ys).length=min xs.length ys.length
 |x::xs,y::ys=>by simp [wW,yB xs ys]
 |[],_=>by simp [wW]
 |_::_,[]=>by simp [wW]
theorem Kp     (h:iR K Hn a vs) (r:RDs K Hs vs ds) (h':iR K Hn b ws) (r':RDs K Hs ws es):J4 K (Nz K a b) (wW ds es) Hn Hs:=fun H2 Hs2 e1 e2 e3=>by
 have q:=e1.tup h;have q':=e1.tup h';have hl:=yB ds es;refine ⟨fun i hi=>?_,fun i hi=>⟨vs,ws,q,q',by rw [r.length,r'.length];omega⟩,fun i x H3 hi y=>?_⟩
 ·have h1:i<vs.length:=by rw [r.length];omega
  have h2:i<ws.length:=by rw [r'.length];omega
  exact ⟨vs,ws,vs[i],ws[i],q,q',aY h1,aY h2⟩
 ·obtain ⟨p,hp,rfl,y⟩:=y;obtain ⟨x,z,k0,k0',rfl⟩:=y vs ws q q';obtain ⟨d,k1,k2⟩:=r.get k0;obtain ⟨d',k1',k2'⟩:=r'.get k0';have st:=bN.new (o:=.tup [x,z]) e3 hp;exact ⟨.tuple [d,d'],_,yA ds es i d d' k1 k1',st,.tuple aH (.cons ((k2.same e2).same st.sh) (.cons ((k2'.same e2).same st.sh) .nil))⟩
inductive Mf (K:a7) (cls:Str->ac) (E:XK) (ρ:aD) (r:R (List D)) (σ:St) (H:Hp) (Q:It->Hp->Prop):Prop
 |mk (H0 Hs0:Hp) (la:Nat->Option ac) (Hs:Hp) (f:Fr K H0 Hs0 la ρ σ H Hs) (q:Fin K cls E H Hs r fun ds=>∀ J H' Hs' Hn,bN H Hs H' Hs'->cb Hn H'->J4 K J ds Hn Hs'->Q J H'):Mf K cls E ρ r σ H Q
def M_ (K:a7) (cls:Str->ac) (E:XK) (ρ:aD) (r:R (List D)):TI:=Mf K cls E ρ r
inductive Mh (K:a7) (cls:Str->ac) (E:XK) (ρ:aD) (r:R (List D)) (σ:St) (H:Hp) (Q:It->Hp->Prop):Prop
 |mk (H0 Hs0:Hp) (la:Nat->Option ac) (Hs:Hp) (f:Fr K H0 Hs0 la ρ σ H Hs) (q:Fin K cls E H Hs r fun ds=>∀ J H' Hs',bN H Hs H' Hs'->J4 K J ds Hs' Hs'->Q J H'):Mh K cls E ρ r σ H Q
def Ow (K:a7) (cls:Str->ac) (E:XK) (ρ:aD) (r:R (List D)):TI:=Mh K cls E ρ r
structure JI (c:C) (tg it:aQ) (g:aD->R (List D)):Prop where of ::
 run:∀ ρ,PI c.X tg it (M_ c.X.K c.cls c.E ρ (g ρ))
instance {c:C}{tg it:aQ}{g:aD->R (List D)}:CoeFun (JI c tg it g) (fun _=>∀ ρ,PI c.X tg it (M_ c.X.K c.cls c.E ρ (g ρ))):=⟨JI.run⟩
structure J6 (c:C) (tg it:aQ) (g:aD->R (List D)):Prop where of ::
 run:∀ ρ,PI c.X tg it (Ow c.X.K c.cls c.E ρ (g ρ))
instance {c:C}{tg it:aQ}{g:aD->R (List D)}:CoeFun (J6 c tg it g) (fun _=>∀ ρ,PI c.X tg it (Ow c.X.K c.cls c.E ρ (g ρ))):=⟨J6.run⟩
theorem EY   (h:PI X tg e t) (m:∀ σ H Q,t' σ H Q->t σ H Q):PI X tg e t':=fun pins s σ H Q I q=>h pins s σ H Q I (m σ H Q q)
section
def Kq:D->R (List D)
 |.list ds=>.ok ds
 |.tuple ds=>.ok ds
 |.str x=>.ok (m5 x)
 |_=>.no
def mJ (g:aD->R D):aD->R (List D):=fun ρ=>(g ρ).bind Kq
theorem ig (h:JB c l g):JI c tg l (mJ g):=.of fun ρ=>by
 cases hr:g ρ with
 |no=>exact fun pins s σ H Q I h_0=>by obtain ⟨H0,Hs0,la,Hs,f,q⟩:=h_0;exact by unfold mJ at q;rw [hr] at q;exact q.elim
 |ex x n =>
  refine EY (oU (h ρ)) fun σ H Q h_1=>?_;obtain ⟨H0,Hs0,la,Hs,f,q⟩:=h_1;refine one f q fun d v H1 Hs1 e1 s1 f1 r1=>?_;rw [hr] at e1;cases e1
 |ok d =>
  cases d with
  |list ds =>
   refine EY (oU (h ρ)) fun σ H Q h_2=>?_;obtain ⟨H0,Hs0,la,Hs,f,q⟩:=h_2;refine one f q fun d v H1 Hs1 e1 s1 f1 r1=>?_;rw [hr] at e1;cases e1;unfold mJ at q;rw [hr,bind_ok] at q;obtain ⟨a,vs,rfl,qa,ra⟩:=r1.list f1.st.sub;exact ⟨a,rfl,⟨vs,qa⟩,q _ H1 Hs1 H1 s1 (.refl _) (wV qa ra)⟩
  |tuple ds =>
   refine EY (z_ (h ρ)) fun σ H Q h_3=>?_;obtain ⟨H0,Hs0,la,Hs,f,q⟩:=h_3;refine one f q fun d v H1 Hs1 e1 s1 f1 r1=>?_;rw [hr] at e1;cases e1;unfold mJ at q;rw [hr,bind_ok] at q;obtain ⟨a,vs,rfl,qa,ra,_⟩:=r1.tuple f1.st.sub;exact ⟨a,rfl,⟨vs,qa⟩,q _ H1 Hs1 H1 s1 (.refl _) (EW qa ra)⟩
  |str x =>
   refine EY (El (h ρ)) fun σ H Q h_4=>?_;obtain ⟨H0,Hs0,la,Hs,f,q⟩:=h_4;refine one f q fun d v H1 Hs1 e1 s1 f1 r1=>?_;rw [hr] at e1;cases e1;unfold mJ at q;rw [hr,bind_ok] at q;exact ⟨x,r1.str,q _ H1 Hs1 H1 s1 (.refl _) (EX x)⟩
  |none=>exact fun pins s σ H Q I h_5=>by obtain ⟨H0,Hs0,la,Hs,f,q⟩:=h_5;exact by unfold mJ at q;rw [hr] at q;exact q.elim
  |bool _=>exact fun pins s σ H Q I h_6=>by obtain ⟨H0,Hs0,la,Hs,f,q⟩:=h_6;exact by unfold mJ at q;rw [hr] at q;exact q.elim
  |int _=>exact fun pins s σ H Q I h_7=>by obtain ⟨H0,Hs0,la,Hs,f,q⟩:=h_7;exact by unfold mJ at q;rw [hr] at q;exact q.elim
  |dict _=>exact fun pins s σ H Q I h_8=>by obtain ⟨H0,Hs0,la,Hs,f,q⟩:=h_8;exact by unfold mJ at q;rw [hr] at q;exact q.elim
theorem Ba (h:JE c l g):J6 c tg l (mJ g):=.of fun ρ=>by
 cases hr:g ρ with
 |no=>exact fun pins s σ H Q I h_9=>by obtain ⟨H0,Hs0,la,Hs,f,q⟩:=h_9;exact by unfold mJ at q;rw [hr] at q;exact q.elim
 |ex x n =>
  refine EY (oU (h ρ)) fun σ H Q h_10=>?_;obtain ⟨H0,Hs0,la,Hs,f,q⟩:=h_10;refine uR f q fun d v H1 Hs1 e1 s1 f1 r1=>?_;rw [hr] at e1;cases e1
 |ok d =>
  cases d with
  |list ds =>
   refine EY (oU (h ρ)) fun σ H Q h_11=>?_;obtain ⟨H0,Hs0,la,Hs,f,q⟩:=h_11;refine uR f q fun d v H1 Hs1 e1 s1 f1 r1=>?_;rw [hr] at e1;cases e1;unfold mJ at q;rw [hr,bind_ok] at q;cases r1 with
   |list qa ra=>exact ⟨_,rfl,⟨_,f1.st.sub.seq qa⟩,q _ H1 Hs1 s1 (wV qa ra)⟩
  |tuple ds =>
   refine EY (z_ (h ρ)) fun σ H Q h_12=>?_;obtain ⟨H0,Hs0,la,Hs,f,q⟩:=h_12;refine uR f q fun d v H1 Hs1 e1 s1 f1 r1=>?_;rw [hr] at e1;cases e1;unfold mJ at q;rw [hr,bind_ok] at q;cases r1 with
   |tuple qa ra=>exact ⟨_,rfl,⟨_,(iR.of (f1.st.sub _ _ qa))⟩,q _ H1 Hs1 s1 (EW (.of qa) ra)⟩
  |str x =>
   refine EY (El (h ρ)) fun σ H Q h_13=>?_;obtain ⟨H0,Hs0,la,Hs,f,q⟩:=h_13;refine uR f q fun d v H1 Hs1 e1 s1 f1 r1=>?_;rw [hr] at e1;cases e1;unfold mJ at q;rw [hr,bind_ok] at q;cases r1 with
   |str _=>exact ⟨x,rfl,q _ H1 Hs1 s1 (EX x)⟩
  |none=>exact fun pins s σ H Q I h_14=>by obtain ⟨H0,Hs0,la,Hs,f,q⟩:=h_14;exact by unfold mJ at q;rw [hr] at q;exact q.elim
  |bool _=>exact fun pins s σ H Q I h_15=>by obtain ⟨H0,Hs0,la,Hs,f,q⟩:=h_15;exact by unfold mJ at q;rw [hr] at q;exact q.elim
  |int _=>exact fun pins s σ H Q I h_16=>by obtain ⟨H0,Hs0,la,Hs,f,q⟩:=h_16;exact by unfold mJ at q;rw [hr] at q;exact q.elim
  |dict _=>exact fun pins s σ H Q I h_17=>by obtain ⟨H0,Hs0,la,Hs,f,q⟩:=h_17;exact by unfold mJ at q;rw [hr] at q;exact q.elim
theorem J6.i (h:J6 c tg l gs):JI c tg l gs:=.of fun ρ=>EY (h ρ) fun σ H Q ⟨H0,Hs0,la,Hs,f,q⟩=>⟨H0,Hs0,la,Hs,f,by
 cases hr:gs ρ with
 |ok ds=>rw [hr] at q;exact fun J H' Hs' s i=>q J H' Hs' Hs' s s.sub i
 |ex x n=>rw [hr] at q;exact q
 |no=>rw [hr] at q;exact q⟩
def P2:List D->R (List D)
 |[.int j]=>if -(2 ^ 62)<=j/\j<2 ^ 62 then .ok (Ko 0 j.toNat) else .no
 |_=>.no
def Pe:List D->R (List D)
 |[.tuple ds]=>.ok (J5 0 ds)
 |_=>.no
theorem RDs.two {K:a7}{H:Hp}{xs:List V}{d e:D} (h:RDs K H xs [d,e]):∃ x y,xs=[x,y]/\RD K H x d/\RD K H y e:=by
 cases h with|cons a t=>cases t with|cons b t=>cases t;exact ⟨_,_,rfl,a,b⟩
def zp:List D->R (List D)
 |[.tuple ds,.tuple es]=>.ok (wW ds es)
 |_=>.no
def Kr (gs:aD->R (List D)):aD->R (List D):=fun ρ=>(gs ρ).bind zp
theorem HF {x1} (hg:Gl c.X "zip") (hm:c.X.mg "zip"=none) (ha:xM c [a,b] gs) (hs:ap [a,b] c.X.env=[(false,cQ a c.X.env),(false,cQ b c.X.env)]:=by rfl) (hs2:ap [b] c.X.env=[(false,cQ b c.X.env)]:=by rfl) :
  J6 c (.Tuple elts x1 tpos) (.Call (.Name "zip" p) [a,b] [] pos) (Kr gs):=.of fun ρ=>EY (Kb hg hm (ha ρ) hs hs2) fun σ H Q h_21=>by
 obtain ⟨H0,Hs0,la,Hs,f,q⟩:=h_21;refine wO f q fun ds vs H1 Hs1 e1 s1 f1 r1=>?_;unfold Kr at q;rw [e1,bind_ok] at q;unfold zp at q;split at q
 ·obtain ⟨x,y,rfl,rx,ry⟩:=r1.two;cases rx with
  |tuple qa ra =>
   cases ry with
   |tuple qb rb=>exact ⟨_,_,_,_,rfl,(iR.of (f1.st.sub _ _ qa)),(iR.of (f1.st.sub _ _ qb)),q _ H1 Hs1 s1 (Kp (.of qa) ra (.of qb) rb)⟩
 ·exact q.elim
end
end
section
inductive Ox (K:a7) (cls:Str->ac) (E:XK) (ρ:aD) (r:R D) (σ:St) (H:Hp) (Q:VK):Prop
 |mk (H0 Hs0:Hp) (la:Nat->Option ac) (Hs:Hp) (f:Fr K H0 Hs0 la ρ σ H Hs) (q:Fin K cls E H Hs r fun d=>∀ a o H' Hs',bN H Hs H' Hs'->H' a=none->jp K Hs' o d->Q (.ref a) (upd H' a o)):Ox K cls E ρ r σ H Q
def TN (K:a7) (cls:Str->ac) (E:XK) (ρ:aD) (r:R D):TE:=Ox K cls E ρ r
structure JN (c:C) (e:aQ) (g:aD->R D):Prop where of ::
 run:∀ ρ,PE c.X e (TN c.X.K c.cls c.E ρ (g ρ))
instance {c:C}{e:aQ}{g:aD->R D}:CoeFun (JN c e g) (fun _=>∀ ρ,PE c.X e (TN c.X.K c.cls c.E ρ (g ρ))):=⟨JN.run⟩
section
variable {c:C}{e a b l tg:aQ}{g ga gb:aD->R D}{pos p:Pos}{gs:aD->R (List D)}{es:List aQ}{x:Str}
theorem NN        (q:TR K cls E ρ r σ H Q):TN K cls E ρ r σ H Q:=by
 obtain ⟨H0,Hs0,la,Hs,f,q⟩:=q;refine ⟨H0,Hs0,la,Hs,f,?_⟩;cases r with
 |ok d=>exact fun a o H' Hs' s n r=>q _ _ _ (s.trans (.new s.sub n)) (r.share (s.sub.free n))
 |ex x n=>exact q
 |no=>exact q
theorem JN.je (h:JN c e g):JE c e g:=.of fun ρ=>lM (h ρ) fun σ H Q q=>NN q
theorem Au (h:xM c es gs):JN c (.List es pos) (bf gs .list):=.of fun ρ=>lM (sQ (h ρ)) fun σ H Q h_0=>by
 obtain ⟨H0,Hs0,la,Hs,f,q⟩:=h_0;refine wO f q fun ds vs H1 Hs1 e1 s1 f1 r1=>?_;unfold bf at q;rw [e1,bind_ok] at q;by_cases hl:ds.length<=1000
 ·rw [if_pos hl] at q;exact ⟨ba (bS (by rw [r1.length];exact hl)),fun p hp=>q p _ H1 Hs1 s1 hp (.lst r1)⟩
 ·rw [if_neg hl] at q;exact q.elim
def nz (i:Nat) (g:aD->R D):aD->R Fl:=fun ρ=>(g ρ).bind fun d=>.ok (.nx (ρ.set i (.own d)))
theorem sN            (f:Fr K H0 Hs0 la ρ σ H Hs)
  (h:kl K cls E H0 Hs0 la D' (r.bind k)) (m:∀ d a o H' Hs',r=.ok d->Fr K H0 Hs0 la ρ σ H' Hs'->H' a=none->jp K Hs' o d->Q (.ref a) (upd H' a o)):TN K cls E ρ r σ H Q:=by
 refine ⟨H0,Hs0,la,Hs,f,?_⟩;cases r with
 |ok d=>exact fun a o H' Hs' s n r=>m d a o H' Hs' rfl (f.step s) n r
 |ex c n=>exact fun H' Hs' s=>h H' Hs' (f.st.trans s)
 |no=>exact h
theorem sg (i:Nat) (h:JN c e g) (hN:c.X.N.Nodup) (hi:c.X.N[i]?=some x:=by rfl) (hx:GH c.X.env.scope x:=by first|exact eu rfl|exact cX rfl) (hs:fP e (some (.Name x pos')) pos.line c.X.env=pure false:=by rfl)
  (hf:c.X.fn x=true\/c.X.env.scope.names.lookup x=some .local:=by first|exact .inl rfl|exact .inr rfl|assumption):JS c (.Assign [.Name x pos'] e pos) (nz i g):=.of fun ρ=>tm (wp hN hi hx (h ρ) hs hf) fun D σ H h_2=>by
 obtain ⟨H0,Hs0,la,Hs,f,q⟩:=h_2;refine sN f q fun d a o H1 Hs1 e1 f1 n1 r1=>?_;unfold nz at q;rw [e1,bind_ok] at q;exact q _ _ Hs1 (f1.setO i n1 r1)
def Ks {α:Type}:R α->R α
 |.ex _ _=>.no
 |r=>r
theorem Bb {α:Type}{r:R α}{a:α} (h:Ks r=.ok a):r=.ok a:=by
 cases r<;>first|exact h|cases h
def jz (f:D->R (Option D)):List D->R (List D)
 |[]=>.ok []
 |d::r=>(f d).bind fun o=>(jz f r).bind fun ys=>.ok (match o with
  |some y=>y::ys
  |none=>ys)
theorem tL   (h:jz f (d::r)=.ok ys):∃ o zs,f d=.ok o/\jz f r=.ok zs/\ys=o.toList++zs:=by
 unfold jz at h;cases hf:f d with
 |ok o =>
  rw [hf,bind_ok] at h;cases hm:jz f r with
  |ok zs =>
   rw [hm,bind_ok] at h;cases h;cases o<;>exact ⟨_,zs,rfl,rfl,rfl⟩
  |ex x n=>rw [hm] at h;cases h
  |no=>rw [hm] at h;cases h
 |ex x n=>rw [hf] at h;cases h
 |no=>rw [hf] at h;cases h
def Lg:Sl->Sl
 |.own d=>.lck d
 |.ow2 _=>.no
 |s=>s
def j4 (nt:Nat) (ix:List Nat) (ρ:aD):aD:=jq nt Sl.no++ix.map fun i=>Lg ((ρ[i]?).getD .no)
def Mi (nt:Nat):D->aD->R aD:=match nt with
 | 1=>gZ 0
 | 2=>wT 2 (i7 (gZ 0) (i7 (gZ 1) As))
 |_=>fun _ _=>.no
def qY (nt:Nat) (ρ:aD) (gt:aD->R Bool) (ge:aD->R D):D->R (Option D):=fun d=>Ks ((Mi nt d ρ).bind fun ρ'=>(gt ρ').bind fun b=>if b then (ge ρ').bind fun y=>.ok (some y) else .ok none)
def iw (nt:Nat) (ix:List Nat) (gi:aD->R (List D)) (gt:aD->R Bool) (ge:aD->R D):aD->R D:=fun ρ=>(gi ρ).bind fun ds=>if ds.length<=1000 then (jz (qY nt (j4 nt ix ρ) gt ge) ds).bind fun ys=>.ok (.list ys) else .no
structure Mj (c:C) (ifs:List aQ) (g:aD->R Bool):Prop where of ::
 run:∀ ρ,Hc c.X ifs (Co c.X.K c.cls c.E ρ (g ρ))
instance {c:C}{ifs:List aQ}{g:aD->R Bool}:CoeFun (Mj c ifs g) (fun _=>∀ ρ,Hc c.X ifs (Co c.X.K c.cls c.E ρ (g ρ))):=⟨Mj.run⟩
theorem g_:Mj c [] (fun _=>.ok true):=.of fun ρ pins s σ H Q I h_3=>by obtain ⟨H0,Hs0,la,Hs,f,q⟩:=h_3;exact Hd pins s σ H Q I (q H Hs (.refl f.st.sub))
theorem si (h:JT c e gt):Mj c [e] gt:=.of fun ρ=>He (h ρ)
def Cy (K:a7) (nt:Nat):TG:=match nt with
 | 1=>oT 0
 |_=>JA K 2 (L2.aa (oT 0) (L2.aa (oT 1) L2.aF))
theorem wX {K:a7}{nt:Nat} (h:nt=1\/nt=2):K7 nt (Cy K nt):=by
 rcases h with rfl|rfl
 ·exact E6 (by decide)
 ·exact Hg (by decide) (by decide)
theorem yC {K:a7}{nt:Nat}{H0 Hs0 H Hs:Hp}{la:Nat->Option ac}{ρ ρ':aD}{σ:St}{v:V}{d:D}{Q:St->Hp->Prop} (hnt:nt=1\/nt=2) (f:Fr K H0 Hs0 la ρ σ H Hs) (r:RD K Hs v d) (hb:Mi nt d ρ=.ok ρ')
  (q:∀ σ',Fr K H0 Hs0 la ρ' σ' H Hs->Q σ' H):Cy K nt v σ H Q:=by
 rcases hnt with rfl|rfl
 ·cases hb;exact q _ (f.set 0 r)
 ·unfold Mi wT at hb;simp only at hb;cases r with
  | @tuple p xs ds hq rs =>
   simp only at hb;split at hb
   ·rename_i hl
    cases rs with
    |nil=>cases hl
    |cons r1 rs =>
     cases rs with
     |nil=>cases hl
     |cons r2 rs =>
      cases rs with
      |nil =>
       cases hb;exact ⟨p,_,rfl,(iR.of (f.st.sub _ _ hq)),rfl,_,_,rfl,_,_,rfl,rfl,q _ ((f.set 0 r1).set 1 r2)⟩
      |cons _ _=>simp at hl
   ·cases hb
  |none=>cases hb
  |bool _=>cases hb
  |int _=>cases hb
  |str _=>cases hb
  |list _ _=>cases hb
  |dictK _ _=>cases hb
  |dictT _ _ _=>cases hb
  |dictF _ _ _=>cases hb
theorem Fr.block     (f:Fr K H0 Hs0 la ρ σ H Hs) (nt:Nat) (ix:List Nat):∃ la',Fr K H Hs la' (j4 nt ix ρ) (L2.iI nt ix σ) H Hs:=by
 have lk:∀ (j:Nat) (d:D),(j4 nt ix ρ)[j]?=some (Sl.lck d)->∃ a o,(L2.iI nt ix σ)[j]?=some (some (V.ref a))/\H a=some o/\Hs a=none/\jp K Hs o d:=fun j d h=>by
  unfold j4 at h;by_cases hj:j<nt
  ·rw [br (by simpa using hj),bn,if_pos hj] at h;cases h
  ·have hj:nt<=j:=by omega
   rw [aT (by simpa using hj),bZ,aK] at h;cases hi:ix[j-nt]? with
   |none=>rw [hi] at h;cases h
   |some i =>
    rw [hi] at h;have at_:∀ v,σ[i]?=some (some v)->(L2.iI nt ix σ)[j]?=some (some v):=fun v k1=>by
     unfold L2.iI;rw [aT (by simpa using hj),bZ,aK,hi];simp [k1]
    cases hr:ρ[i]? with
    |none=>simp only [c9,hr,eK,Lg] at h;cases h
    |some s =>
     simp only [c9,hr,il] at h;cases s with
     |own d' =>
      cases h;obtain ⟨a,o,k1,k2,k3,k4,k5⟩:=f.ow i d hr;exact ⟨a,o,at_ _ k1,k2,k3,k5⟩
     |lck d' =>
      cases h;obtain ⟨a,o,k1,k2,k3,k4,k5,k6⟩:=f.lk i d hr;exact ⟨a,o,at_ _ k1,k3,k4,k6⟩
     |no=>cases h
     |shr _=>cases h
     |ow2 _=>cases h
 have no2:∀ (j:Nat) (d:List (List D)),¬ (j4 nt ix ρ)[j]?=some (Sl.ow2 d):=fun j d h=>by
  unfold j4 at h;by_cases hj:j<nt
  ·rw [br (by simpa using hj),bn,if_pos hj] at h;cases h
  ·have hj:nt<=j:=by omega
   rw [aT (by simpa using hj),bZ,aK] at h;cases hi:ix[j-nt]? with
   |none=>rw [hi] at h;cases h
   |some i =>
    rw [hi] at h;cases hr:ρ[i]? with
    |none=>simp only [c9,hr,eK,Lg] at h;cases h
    |some s =>
     simp only [c9,hr,il] at h;cases s<;>cases h
 refine ⟨fun j=>match (j4 nt ix ρ)[j]?,(L2.iI nt ix σ)[j]? with
  |some (Sl.lck _),some (some (V.ref a))=>some a
  |_,_=>none,.refl f.st.sub,by simp [j4,L2.iI],fun j d h=>?_,fun j d h=>?_,fun j d h=>?_,fun j k d1 d2 a h1 h2 _ _=>?_,fun j a h=>?_,fun j d h=>(no2 j d h).elim,fun j k d1 d2 h1 _=>(no2 j d1 h1).elim⟩
 case refine_3 =>
  obtain ⟨a,o,k1,k2,k3,k4⟩:=lk j d h;exact ⟨a,o,k1,by rw [h,k1],k2,k3,k2,k4⟩
 case refine_5 =>
  split at h
  ·rename_i d a' h1 h2
   cases h;obtain ⟨a',o,k1,k2,_⟩:=lk j d h1;rw [h2] at k1;cases k1;exact ⟨o,k2⟩
  ·cases h
 all_goals
  unfold j4 at *
 ·have h:=h;by_cases hj:j<nt
  ·rw [br (by simpa using hj),bn,if_pos hj] at h;cases h
  ·have hj:nt<=j:=by omega
   rw [aT (by simpa using hj),bZ,aK] at h;cases hi:ix[j-nt]? with
   |none=>rw [hi] at h;cases h
   |some i =>
    rw [hi] at h;cases hr:ρ[i]? with
    |none=>simp only [c9,hr,eK,Lg] at h;cases h
    |some s =>
     simp only [c9,hr,il] at h;cases s with
     |shr d' =>
      cases h;obtain ⟨v,k1,k2⟩:=f.sh i d hr;refine ⟨v,?_,k2⟩;unfold L2.iI;rw [aT (by simpa using hj),bZ,aK,hi];simp [k1]
     |no=>cases h
     |own _=>cases h
     |lck _=>cases h
     |ow2 _=>cases h
 ·have h:=h;by_cases hj:j<nt
  ·rw [br (by simpa using hj),bn,if_pos hj] at h;cases h
  ·have hj:nt<=j:=by omega
   rw [aT (by simpa using hj),bZ,aK] at h;cases hi:ix[j-nt]? with
   |none=>rw [hi] at h;cases h
   |some i =>
    rw [hi] at h;cases hr:ρ[i]? with
    |none=>simp only [c9,hr,eK,Lg] at h;cases h
    |some s =>
     simp only [c9,hr,il] at h;cases s<;>cases h
 ·have h1:=h1;by_cases hj:j<nt
  ·rw [br (by simpa using hj),bn,if_pos hj] at h1;cases h1
  ·have hj:nt<=j:=by omega
   rw [aT (by simpa using hj),bZ,aK] at h1;cases hi:ix[j-nt]? with
   |none=>rw [hi] at h1;cases h1
   |some i =>
    rw [hi] at h1;cases hr:ρ[i]? with
    |none=>simp only [c9,hr,eK,Lg] at h1;cases h1
    |some s =>
     simp only [c9,hr,il] at h1;cases s<;>cases h1
theorem tM (h:∀ d c n,f d≠.ex c n):∀ (ds:List D) (c:Str) (n:Option D),jz f ds≠.ex c n
 |[],c,n=>fun e=>by cases e
 |d::r,c,n=>fun e=>by
  unfold jz at e;cases hf:f d with
  |ok o =>
   rw [hf,bind_ok] at e;cases hm:jz f r with
   |ok zs=>rw [hm,bind_ok] at e;cases e
   |ex x k=>exact tM h r x k hm
   |no=>rw [hm] at e;cases e
  |ex x k=>exact h d x k hf
  |no=>rw [hf] at e;cases e
theorem yD (nt:Nat) (ρ:aD) (gt:aD->R Bool) (ge:aD->R D) (d:D) (c:Str) (n:Option D):qY nt ρ gt ge d≠.ex c n:=by
 unfold qY Ks;split<;>first|exact fun e=>by cases e|skip
 rename_i h
 exact fun e=>h c n e
inductive Oy (K:a7) (f:D->R (Option D)) (ds ys:List D) (H1 Hs1:Hp) (i m:Nat) (acc:List V) (H':Hp):Prop
 |mk (done b_ zs ya Hs':_) (h0:ds=done++b_) (h1:done.length=i) (h2:b_.length=m) (h3:bN H1 Hs1 H' Hs') (h4:RDs K Hs' acc ya) (h5:ya.length<=i) (h6:jz f b_=.ok zs) (h7:ys=ya++zs):Oy K f ds ys H1 Hs1 i m acc H'
theorem Bc {K:a7}{cls:Str->ac}{E:XK}{nt:Nat}{ix:List Nat}{gi:aD->R (List D)}{gt:aD->R Bool}{ge:aD->R D}{ρ:aD}{σ:St}{H:Hp}{Q:VK} (hnt:nt=1\/nt=2)
  (q:TN K cls E ρ (iw nt ix gi gt ge ρ) σ H Q) :
  E4 nt ix (M_ K cls E ρ (gi ρ)) (Cy K nt) (fun σ H Q=>∃ ρ',Co K cls E0 ρ' (gt ρ') σ H Q) (fun σ H Q=>∃ ρ',TR K cls E0 ρ' (ge ρ') σ H Q) σ H Q:=by
 obtain ⟨H0,Hs0,la,Hs,f,q⟩:=q;refine ⟨H0,Hs0,la,Hs,f,?_⟩;unfold iw at q;cases hi:gi ρ with
 |no=>rw [hi] at q;exact q
 |ex x n=>rw [hi] at q;exact q
 |ok ds =>
  rw [hi,bind_ok] at q;intro J H1 Hs1 Hn s1 sn it;by_cases hl:ds.length<=1000
  ·rw [if_pos hl] at q;cases hm:jz (qY nt (j4 nt ix ρ) gt ge) ds with
   |no=>rw [hm] at q;exact q.elim
   |ex x n=>exact (tM (yD _ _ _ _) _ _ _ hm).elim
   |ok ys =>
    rw [hm,bind_ok] at q;obtain ⟨lb,fb⟩:=(f.step s1).block nt ix;refine ⟨Oy K (qY nt (j4 nt ix ρ) gt ge) ds ys H1 Hs1,
     ⟨ds.length,[],ds,ys,[],Hs1,rfl,rfl,rfl,.refl s1.sub,.nil,eB _,hm,rfl⟩,?_⟩
    rintro i m acc H' ⟨done,b_,zs,ya,Hs',hds,hdl,hrl,st,ra,yl,hz,hy⟩;obtain ⟨igo,istop,iyld⟩:=it H' Hs' (sn.trans st.all) st.sh st.sub;cases b_ with
    |nil =>
     left;cases hz;rw [bT] at hds hy;subst hy hds;exact ⟨istop i (by omega),fun p hp=>q p _ H' Hs' (s1.trans st) hp (.lst ra)⟩
    |cons d b_ =>
     right;have hil:i<ds.length:=by rw [hds,bo,bE];omega
     refine ⟨igo i hil,bS (by rw [ra.length];omega),fun x H2 hyl=>?_⟩;obtain ⟨d',Hs2,hd,s2,r2⟩:=iyld i x H2 hil hyl;have hdd:d'=d:=by
      rw [hds,aT (by omega)] at hd;simp [hdl] at hd;exact hd.symm
     subst hdd;obtain ⟨o,zs',hf,hz',rfl⟩:=tL hz;have hf:=Bb hf;cases hb:Mi nt d' (j4 nt ix ρ) with
     |no=>rw [hb] at hf;cases hf
     |ex x n=>rw [hb] at hf;cases hf
     |ok ρ' =>
      rw [hb,bind_ok] at hf;refine yC hnt ((fb.step st).step s2) r2 hb fun σ2 f2=>⟨ρ',?_⟩;refine ⟨_,_,_,Hs2,f2,?_⟩;cases ht:gt ρ' with
      |no=>rw [ht] at hf;cases hf
      |ex x n=>rw [ht] at hf;cases hf
      |ok b =>
       rw [ht,bind_ok] at hf;intro H3 Hs3 s3;cases b with
       |false =>
        rw [if_neg aL] at hf;cases hf;refine uL ⟨b_.length,by rw [<- hrl];simp,done++[d'],b_,zs',ya,Hs3,by rw [hds];simp,by simp [hdl],rfl,(st.trans s2).trans s3,ra.same (s2.trans s3).sh,by omega,hz',by simpa using hy⟩
       |true =>
        rw [if_pos rfl] at hf;refine y6 ⟨ρ',_,_,_,Hs3,f2.step s3,?_⟩;cases he:ge ρ' with
        |no=>rw [he] at hf;cases hf
        |ex x n=>rw [he] at hf;cases hf
        |ok y =>
         rw [he,bind_ok] at hf;cases hf;intro v H4 Hs4 s4 r4;exact ⟨b_.length,by rw [<- hrl];simp,done++[d'],b_,zs',ya++[y],Hs4,by rw [hds];simp,by simp [hdl],rfl,((st.trans s2).trans s3).trans s4,(ra.same ((s2.trans s3).trans s4).sh).append (.cons r4 .nil),by simp;omega,hz',by rw [hy];simp⟩
  ·rw [if_neg hl] at q;exact q.elim
def C.comp (c:C) (N':List Str) (scope:cf) (cl:List (Str×ac)) (A:ac) (s₀:ae) (H₀:Hp) (ex:List ac) (pn:List (ac×Obj)):C:=⟨cS c.X N' scope cl A s₀ H₀ ex pn,c.cls,E0⟩
variable {elt iter:aQ}{ifs:List aQ}{scope:cf}{N':List Str}{nt:Nat}{ix:List Nat}{gi:aD->R (List D)}{gt:aD->R Bool}{ge:aD->R D}
def pz (c:C) (N':List Str) (scope:cf) (nt:Nat) (tg:aQ) (ifs:List aQ) (elt:aQ) (gt:aD->R Bool) (ge:aD->R D):Prop :=
 ∀ cl A s₀ H₀ ex pn,PG (c.comp N' scope cl A s₀ H₀ ex pn).X tg (Cy c.X.K nt)/\Mj (c.comp N' scope cl A s₀ H₀ ex pn) ifs gt/\JE (c.comp N' scope cl A s₀ H₀ ex pn) elt ge
theorem pz.at (h:pz c N' scope nt tg ifs elt gt ge):∀ cl A s₀ H₀ ex pn,PG (cS c.X N' scope cl A s₀ H₀ ex pn) tg (Cy c.X.K nt)/\Hc (cS c.X N' scope cl A s₀ H₀ ex pn) ifs (fun σ H Q=>∃ ρ',Co c.X.K c.cls E0 ρ' (gt ρ') σ H Q) /\
  PE (cS c.X N' scope cl A s₀ H₀ ex pn) elt (fun σ H Q=>∃ ρ',TR c.X.K c.cls E0 ρ' (ge ρ') σ H Q):=fun cl A s₀ H₀ ex pn=>by
 obtain ⟨h1,h2,h3⟩:=h cl A s₀ H₀ ex pn;exact ⟨h1,fun pins s σ H Q I h_4=>by obtain ⟨ρ',q⟩:=h_4;exact h2 ρ' pins s σ H Q I q,fun pins s σ H Q I h_5=>by obtain ⟨ρ',q⟩:=h_5;exact h3 ρ' pins s σ H Q I q⟩
theorem gq (nt:Nat) (hnt:nt=1\/nt=2) (hc:c.X.calm=true) (S:kX c.X scope N' nt ix) (hi:JI c tg iter gi) (hb:pz c N' scope nt tg ifs elt gt ge) (hs:∀ x,cJ iter c.X.env x=pure x:=by intro _;rfl) :
  JN c (.ListComp elt [⟨tg,iter,ifs,0⟩] scope pos) (iw nt ix gi gt ge):=.of fun ρ=>lM (ye hc S (wX hnt) (hi ρ) hb.at hs) fun σ H Q q=>Bc hnt q
theorem Av (i:Nat) {spos py:Pos} (nt:Nat) (hnt:nt=1\/nt=2) (hN:c.X.N.Nodup) (hc:c.X.calm=true) (S:kX c.X scope N' nt ix) (hi:JI c tg iter gi) (hb:pz c N' scope nt tg ifs elt gt ge)
  (hiN:c.X.N[i]?=some x:=by rfl) (hy:c.X.env.scope.names.lookup x=some .local:=by rfl)
  (hsw:fP (.ListComp elt [⟨tg,iter,ifs,0⟩] scope pos) (some (.Name x py)) spos.line c.X.env=pure true:=by rfl)
  (hs:∀ x,cJ iter c.X.env x=pure x:=by intro _;rfl):JS c (.Assign [.Name x py] (.ListComp elt [⟨tg,iter,ifs,0⟩] scope pos) spos) (nz i (iw nt ix gi gt ge)):=.of fun ρ=>tm (Af hN hiN hy hc S (wX hnt) (hi ρ) hb.at hsw hs) fun D σ H h_6=>by
 obtain ⟨H0,Hs0,la,Hs,f,q⟩:=h_6;refine Bc (Q:=fun x H1=>D.nx (σ.set i (some x)) H1) hnt (sN f q fun d a o H1 Hs1 e1 f1 n1 r1=>?_);unfold nz at q;rw [e1,bind_ok] at q;exact q _ _ Hs1 (f1.setO i n1 r1)
end
end
section
theorem Be   (h:PS X.nox st t):PS X st t:=fun pins s σ H D I hw =>
 bu (h pins s σ H D (I.wish _) hw) (fun _ _ q=>q.unwish) fun _ _ z=>df z
def C.nox (c:C):C:=⟨c.X.nox,c.cls,E0⟩
def qm (k:D->aD->R aD) (b:aD->R Fl):List D->aD->R Fl
 |[],ρ=>.ok (.nx ρ)
 |d::r,ρ=>match k d ρ with
  |.ok ρ1=>match b ρ1 with
   |.ok (.nx ρ')=>qm k b r ρ'
   |.ok (.ct ρ')=>qm k b r ρ'
   |.ok (.bk ρ')=>.ok (.nx ρ')
   |.ok (.rt d)=>.ok (.rt d)
   |_=>.no
  |_=>.no
def wY (i:Nat) (ρ:aD):aD:=match ρ[i]? with
 |some (Sl.own d)=>ρ.set i (.lck d)
 |_=>ρ
def tN (i:Nat) (ρ0 ρ:aD):aD:=match ρ0[i]?,ρ[i]? with
 |some (Sl.own _),some (Sl.lck d)=>ρ.set i (.own d)
 |_,_=>ρ
def P3 (i:Nat) (ρ0:aD):R Fl->R Fl
 |.ok (.nx ρ)=>.ok (.nx (tN i ρ0 ρ))
 |.ok (.bk ρ)=>.no
 |.ok (.ct ρ)=>.no
 |r=>r
section
inductive Oz (K:a7) (cls:Str->ac) (E:XK) (H0 Hs0:Hp) (la:Nat->Option ac) (D':oQ) (kt:D->aD->R aD) (gb:aD->R Fl) (ds:List D) (i m:Nat) (σ:St) (H:Hp):Prop
 |mk (done b_ ρ Hs:_) (h0:ds=done++b_) (h1:done.length=i) (h2:b_.length=m) (h3:Fr K H0 Hs0 la ρ σ H Hs) (h4:kl K cls E H0 Hs0 la D' (qm kt gb b_ ρ)):Oz K cls E H0 Hs0 la D' kt gb ds i m σ H
theorem EZ
  (it:J4 K J ds Hn Hs0) (hn:cb Hn H0) (f:Fr K H0 Hs0 la ρ σ H Hs)
  (htg:∀ ρ d v σ H Q,Kn K ρ d (kt d ρ) v σ H Q->tg v σ H Q) (htb:∀ ρ D σ H,SR K cls E0 ρ (gb ρ) D σ H->tb D σ H)
  (q:kl K cls E H0 Hs0 la D' (qm kt gb ds ρ)) :
  Nc tg tb D' σ J H:=by
 refine ⟨Oz K cls E H0 Hs0 la D' kt gb ds,⟨ds.length,[],ds,ρ,Hs,rfl,rfl,rfl,f,q⟩,?_⟩;rintro i m σ H ⟨done,b_,ρ,Hs,hds,hdl,hrl,f,q⟩;obtain ⟨igo,istop,iyld⟩:=it H Hs (hn.trans f.st.all) f.st.sh f.st.sub;cases b_ with
 |nil =>
  rw [bT] at hds;subst hds;exact .inl ⟨istop i (by omega),q σ H Hs f⟩
 |cons d b_ =>
  have hil:i<ds.length:=by rw [hds,bo,bE];omega
  refine .inr ⟨igo i hil,fun σ' H'=>∃ ρ' Hs',Fr K H0 Hs0 la ρ' σ' H' Hs'/\kl K cls E H0 Hs0 la D' (qm kt gb b_ ρ'),fun σ' H' ⟨ρ',Hs',f',q'⟩=>⟨b_.length,by rw [<- hrl];simp,done++[d],b_,ρ',Hs',by rw [hds];simp,by simp [hdl],rfl,f',q'⟩,fun x H2 hyl=>?_⟩;obtain ⟨d',Hs2,hd,s2,r2⟩:=iyld i x H2 hil hyl;have hdd:d'=d:=by
   rw [hds,aT (by omega)] at hd;simp [hdl] at hd;exact hd.symm
  subst hdd;unfold qm at q;refine htg ρ d' x σ H2 _ ⟨H0,Hs0,la,Hs2,f.step s2,r2,?_⟩;cases hk:kt d' ρ with
  |ex c n=>rw [hk] at q;exact q
  |no=>rw [hk] at q;exact q
  |ok ρ1 =>
   rw [hk] at q;intro σ2 f2;refine htb ρ1 _ σ2 H2 ⟨H0,Hs0,la,Hs2,f2,?_⟩;cases hg:gb ρ1 with
   |no=>simp only [hg] at q;exact q.elim
   |ex c n=>simp only [hg] at q;exact q.elim
   |ok fl =>
    simp only [hg] at q;cases fl with
    |nx ρ'=>exact fun σ' H' Hs' f'=>⟨ρ',Hs',f',q⟩
    |ct ρ'=>exact fun σ' H' Hs' f'=>⟨ρ',Hs',f',q⟩
    |bk ρ'=>exact fun σ' H' Hs' f'=>q σ' H' Hs' f'
    |rt d=>exact q
def lF (A B:Hp):Hp:=fun b=>match A b with
 |some o=>some o
 |none=>B b
theorem hG:cb A (lF A B):=fun b o e=>by unfold lF;rw [e]
theorem gJ  (h:A b=none):lF A B b=B b:=by unfold lF;rw [h]
theorem yE (h1:cb A H) (h2:cb B H):cb (lF A B) H:=fun b o e=>by
 cases h:A b with
 |some u=>unfold lF at e;rw [h] at e;cases e;exact h1 b o h
 |none=>rw [gJ h] at e;exact h2 b o e
theorem E_ (h1:cb A H) (h2:cb B H):cb B (lF A B):=fun b o e=>by
 cases h:A b with
 |some u =>
  unfold lF;rw [h];have:=h1 b u h;rw [h2 b o e] at this;exact this.symm
 |none=>rw [gJ h];exact e
theorem Fr.into    (f:Fr K H0 Hs0 la ρ σ H Hs):Fr K (lF H0 Hs) Hs la ρ σ H Hs:=by
 have sub:=yE f.st.all f.st.sub;refine ⟨⟨sub,.refl _,f.st.sub,fun a o e _ z=>z⟩,f.len,f.sh,fun i d h=>?_,fun i d h=>?_,f.dj,fun i a e=>let ⟨o,k⟩:=f.lh i a e;⟨o,hG _ _ k⟩,fun i d h=>?_,f.u2⟩
 ·obtain ⟨a,o,h1,h2,h3,h4,h5⟩:=f.ow i d h;exact ⟨a,o,h1,h2,h3,by rw [gJ h4];exact h3,h5⟩
 ·obtain ⟨a,o,h1,h2,h3,h4,h5,h6⟩:=f.lk i d h;exact ⟨a,o,h1,h2,h3,h4,hG _ _ h5,h6⟩
 ·obtain ⟨a,as,O⟩:=f.o2 i d h;exact ⟨a,as,O.at_,O.ob,O.nd,fun b hb=>⟨(O.out b hb).1,by rw [gJ (O.out b hb).2];exact (O.out b hb).1⟩,O.dj,O.inn⟩
theorem bN.outof (s:bN H0 Hs0 H1 Hs1) (t:bN (lF H0 Hs1) Hs1 H' Hs'):bN H0 Hs0 H' Hs' :=
 ⟨hG.trans t.all,s.sh.trans t.sh,t.sub,fun a o e n z=>t.out a o (hG _ _ e) n (s.out a o e n z)⟩
theorem Fr.outof    (f1:Fr K H0 Hs0 la ρ1 σ1 H1 Hs1) (f:Fr K (lF H0 Hs1) Hs1 la ρ σ H' Hs'):Fr K H0 Hs0 la ρ σ H' Hs':=by
 refine ⟨f1.st.outof f.st,f.len,f.sh,fun i d h=>?_,fun i d h=>?_,f.dj,f1.lh,fun i d h=>?_,f.u2⟩
 ·obtain ⟨a,o,h1,h2,h3,h4,h5⟩:=f.ow i d h;exact ⟨a,o,h1,h2,h3,hG.free h4,h5⟩
 ·obtain ⟨a,o,h1,h2,h3,h4,h5,h6⟩:=f.lk i d h;obtain ⟨o',e⟩:=f1.lh i a h2;have e':=hG (B:=Hs1) _ _ e;rw [h5] at e';cases e';exact ⟨a,o,h1,h2,h3,h4,e,h6⟩
 ·obtain ⟨a,as,O⟩:=f.o2 i d h;exact ⟨a,as,O.at_,O.ob,O.nd,fun b hb=>⟨(O.out b hb).1,hG.free (O.out b hb).2⟩,O.dj,O.inn⟩
end
end
section
section
theorem kl.into      (f1:Fr K H0 Hs0 la ρ1 σ1 H1 Hs1) (q:kl K cls E H0 Hs0 la D' r):kl K cls E (lF H0 Hs1) Hs1 la D' r:=by
 cases r with
 |no=>exact q
 |ex c n=>exact fun H' Hs' s=>q H' Hs' (f1.st.outof s)
 |ok fl =>
  cases fl with
  |nx ρ=>exact fun σ' H' Hs' f=>q σ' H' Hs' (f1.outof f)
  |bk ρ=>exact fun σ' H' Hs' f=>q σ' H' Hs' (f1.outof f)
  |ct ρ=>exact fun σ' H' Hs' f=>q σ' H' Hs' (f1.outof f)
  |rt d=>exact fun v H' Hs' s r=>q v H' Hs' (f1.st.outof s) r
theorem Fr.lock    (f:Fr K H0 Hs0 la ρ σ H Hs)    (hi:ρ[i]?=some (Sl.own d)) (k1:σ[i]?=some (some (V.ref a))) (k2:H a=some o) (k3:Hs a=none) (k4:H0 a=none) (k5:jp K Hs o d) :
  Fr K (lF H0 (upd Hs a o)) Hs (fun j=>if j=i then some a else la j) (ρ.set i (.lck d)) σ H Hs:=by
 have hil:i<ρ.length:=(List.getElem?_eq_some_iff.mp hi).1;have sub:cb (upd Hs a o) H:=fun b u q=>by
  by_cases hb:b=a
  ·subst hb;rw [aH] at q;cases q;exact k2
  ·rw [aG hb] at q;exact f.st.sub b u q
 have nx:∀ {j:Nat}{s:Sl},(∀ d,s≠.lck d)->(ρ.set i (.lck d))[j]?=some s->ρ[j]?=some s/\i≠j:=fun {j s} hs e=>by
  by_cases hj:i=j
  ·subst hj;rw [aE hil] at e;exact absurd (a_ e).symm (hs d)
  ·rw [aj hj] at e;exact ⟨e,hj⟩
 refine ⟨⟨yE f.st.all sub,.refl _,f.st.sub,fun a o e _ z=>z⟩,by simp [f.len],fun j e h=>?_,fun j e h=>?_,fun j e h=>?_,fun j k d1 d2 b h1 h2 h3 h4=>?_,fun j b h=>?_,fun j e h=>?_,fun j k d1 d2 h1 h2=>?_⟩
 ·obtain ⟨h,_⟩:=nx (fun _ z=>by cases z) h;exact f.sh j e h
 ·obtain ⟨h,hj⟩:=nx (fun _ z=>by cases z) h;obtain ⟨b,u,q1,q2,q3,q4,q5⟩:=f.ow j e h;refine ⟨b,u,q1,q2,q3,?_,q5⟩;rw [gJ q4,aG (fun z=>hj ?_)]
  ·exact q3
  ·subst z;exact f.dj i j d e b hi h k1 q1
 ·by_cases hj:i=j
  ·subst hj;rw [aE hil] at h;cases h;exact ⟨a,o,k1,if_pos rfl,k2,k3,by rw [gJ k4,aH],k5⟩
  ·rw [aj hj] at h;obtain ⟨b,u,q1,q2,q3,q4,q5,q6⟩:=f.lk j e h;exact ⟨b,u,q1,by rw [if_neg (cO hj)];exact q2,q3,q4,hG _ _ q5,q6⟩
 ·obtain ⟨h1,_⟩:=nx (fun _ z=>by cases z) h1;obtain ⟨h2,_⟩:=nx (fun _ z=>by cases z) h2;exact f.dj j k d1 d2 b h1 h2 h3 h4
 ·by_cases hj:j=i
  ·simp only [if_pos hj] at h;cases h;exact ⟨o,by rw [gJ k4,aH]⟩
  ·simp only [if_neg hj] at h;obtain ⟨u,e⟩:=f.lh j b h;exact ⟨u,hG _ _ e⟩
 ·obtain ⟨h,hj⟩:=nx (fun _ z=>by cases z) h;obtain ⟨b,as,O⟩:=f.o2 j e h;refine ⟨b,as,O.at_,O.ob,O.nd,fun c hc=>⟨(O.out c hc).1,?_⟩,fun c hc k e' hk=>O.dj c hc k e' (nx (fun _ z=>by cases z) hk).1,O.inn⟩;rw [gJ (O.out c hc).2,aG (fun z=>?_)]
  ·exact (O.out c hc).1
  ·subst z;exact O.dj c hc i d hi k1
 ·exact f.u2 j k d1 d2 (nx (fun _ z=>by cases z) h1).1 (nx (fun _ z=>by cases z) h2).1
theorem bN.unlock   (s:bN H0 Hs0 H Hs) (t:bN (lF H0 (upd Hs a o)) Hs H' Hs'):bN H0 Hs0 H' Hs' :=
 ⟨hG.trans t.all,s.sh.trans t.sh,t.sub,fun b u e n z=>t.out b u (hG _ _ e) n (s.out b u e n z)⟩
theorem Fr.unlock    (f:Fr K H0 Hs0 la ρ σ H Hs)    (hi:ρ[i]?=some (Sl.own d)) (k4:H0 a=none)
  (f':Fr K (lF H0 (upd Hs a o)) Hs (fun j=>if j=i then some a else la j) ρ' σ' H' Hs'):Fr K H0 Hs0 la (tN i ρ ρ') σ' H' Hs':=by
 have st:=f.st.unlock f'.st;have own:∀ (j:Nat) (e:D),ρ'[j]?=some (Sl.own e)->∃ b u,σ'[j]?=some (some (V.ref b))/\H' b=some u/\Hs' b=none/\H0 b=none/\jp K Hs' u e/\(lF H0 (upd Hs a o)) b=none:=fun j e h=>by
  obtain ⟨b,u,q1,q2,q3,q4,q5⟩:=f'.ow j e h;exact ⟨b,u,q1,q2,q3,hG.free q4,q5,q4⟩
 have lck:∀ (j:Nat) (e:D),j≠i->ρ'[j]?=some (Sl.lck e)->∃ b u,σ'[j]?=some (some (V.ref b))/\la j=some b/\H' b=some u/\Hs' b=none/\H0 b=some u/\jp K Hs' u e:=fun j e hj h=>by
  obtain ⟨b,u,q1,q2,q3,q4,q5,q6⟩:=f'.lk j e h;simp only [if_neg hj] at q2;obtain ⟨u',e'⟩:=f.lh j b q2;have:=hG (B:=upd Hs a o) _ _ e';rw [q5] at this;cases this;exact ⟨b,u,q1,q2,q3,q4,e',q6⟩
 have two:∀ (j:Nat) (e:List (List D)),ρ'[j]?=some (Sl.ow2 e)->∃ b as,O2 K H0 H' Hs' ρ' σ' j e b as:=fun j e h=>by
  obtain ⟨b,as,O⟩:=f'.o2 j e h;exact ⟨b,as,O.at_,O.ob,O.nd,fun c hc=>⟨(O.out c hc).1,hG.free (O.out c hc).2⟩,O.dj,O.inn⟩
 unfold tN;cases hl:ρ'[i]? with
 |none =>
  simp only [hi];refine ⟨st,f'.len,f'.sh,fun j e h=>let ⟨b,u,q1,q2,q3,q4,q5,_⟩:=own j e h;⟨b,u,q1,q2,q3,q4,q5⟩,fun j e h=>lck j e (fun z=>by rw [z,hl] at h;cases h) h,f'.dj,f.lh,two,f'.u2⟩
 |some s =>
  cases s with
  |no=>simp only [hi];exact ⟨st,f'.len,f'.sh,fun j e h=>let ⟨b,u,q1,q2,q3,q4,q5,_⟩:=own j e h;⟨b,u,q1,q2,q3,q4,q5⟩,fun j e h=>lck j e (fun z=>by rw [z,hl] at h;cases h) h,f'.dj,f.lh,two,f'.u2⟩
  |shr _=>simp only [hi];exact ⟨st,f'.len,f'.sh,fun j e h=>let ⟨b,u,q1,q2,q3,q4,q5,_⟩:=own j e h;⟨b,u,q1,q2,q3,q4,q5⟩,fun j e h=>lck j e (fun z=>by rw [z,hl] at h;cases h) h,f'.dj,f.lh,two,f'.u2⟩
  |own _=>simp only [hi];exact ⟨st,f'.len,f'.sh,fun j e h=>let ⟨b,u,q1,q2,q3,q4,q5,_⟩:=own j e h;⟨b,u,q1,q2,q3,q4,q5⟩,fun j e h=>lck j e (fun z=>by rw [z,hl] at h;cases h) h,f'.dj,f.lh,two,f'.u2⟩
  |ow2 _=>simp only [hi];exact ⟨st,f'.len,f'.sh,fun j e h=>let ⟨b,u,q1,q2,q3,q4,q5,_⟩:=own j e h;⟨b,u,q1,q2,q3,q4,q5⟩,fun j e h=>lck j e (fun z=>by rw [z,hl] at h;cases h) h,f'.dj,f.lh,two,f'.u2⟩
  |lck d' =>
   simp only [hi];have hil:i<ρ'.length:=(List.getElem?_eq_some_iff.mp hl).1;have nx:∀ {j:Nat}{s:Sl},(∀ d,s≠.own d)->(ρ'.set i (.own d'))[j]?=some s->ρ'[j]?=some s/\i≠j:=fun {j s} hs e=>by
    by_cases hj:i=j
    ·subst hj;rw [aE hil] at e;exact absurd (a_ e).symm (hs d')
    ·rw [aj hj] at e;exact ⟨e,hj⟩
   obtain ⟨b,u,q1,q2,q3,q4,q5,q6⟩:=f'.lk i d' hl;simp only [if_pos rfl] at q2;cases q2;have ne:∀ (j:Nat) (e:D),ρ'[j]?=some (Sl.own e)->σ'[j]?≠some (some (V.ref a)):=fun j e h z=>by
    obtain ⟨b,u,p1,_,_,_,_,p6⟩:=own j e h;rw [z] at p1;cases p1;rw [q5] at p6;cases p6
   refine ⟨st,by simp [f'.len],fun j e h=>?_,fun j e h=>?_,fun j e h=>?_,fun j k d1 d2 c h1 h2 h3 h4=>?_,f.lh,fun j e h=>?_,fun j k d1 d2 h1 h2=>?_⟩
   ·obtain ⟨h,_⟩:=nx (fun _ z=>by cases z) h;exact f'.sh j e h
   ·by_cases hj:i=j
    ·subst hj;rw [aE hil] at h;cases h;exact ⟨a,u,q1,q3,q4,k4,q6⟩
    ·rw [aj hj] at h;obtain ⟨b,u,p1,p2,p3,p4,p5,_⟩:=own j e h;exact ⟨b,u,p1,p2,p3,p4,p5⟩
   ·obtain ⟨h,hj⟩:=nx (fun _ z=>by cases z) h;exact lck j e (cO hj) h
   ·by_cases hj:i=j
    ·by_cases hk:i=k
     ·exact hj.symm.trans hk
     ·rw [aj hk] at h2;subst hj;rw [q1] at h3;cases h3;exact (ne k d2 h2 h4).elim
    ·rw [aj hj] at h1;by_cases hk:i=k
     ·subst hk;rw [q1] at h4;cases h4;exact (ne j d1 h1 h3).elim
     ·rw [aj hk] at h2;exact f'.dj j k d1 d2 c h1 h2 h3 h4
   ·obtain ⟨h,hj⟩:=nx (fun _ z=>by cases z) h;obtain ⟨b,as,O⟩:=two j e h;refine ⟨b,as,O.at_,O.ob,O.nd,O.out,fun c hc k e' hk=>?_,O.inn⟩;by_cases nk:i=k
    ·subst nk;intro z;rw [q1] at z;cases z;obtain ⟨b',as',O'⟩:=f'.o2 j e h;have hh:=O.at_;rw [O'.at_] at hh;cases hh;have hs:as'=as:=by
      have h1:=O.ob;rw [O'.ob] at h1;injection h1 with h1;injection h1 with h1;exact List.map_inj_right (fun x y z=>by cases z;rfl) |>.mp h1
     subst hs;have:=(O'.out _ hc).2;rw [q5] at this;cases this
    ·rw [aj nk] at hk;exact O.dj c hc k e' hk
   ·exact f'.u2 j k d1 d2 (nx (fun _ z=>by cases z) h1).1 (nx (fun _ z=>by cases z) h2).1
end
section
def F4 (gi:aD->R (List D)) (kt:D->aD->R aD) (gb:aD->R Fl):aD->R Fl:=fun ρ=>match gi ρ with
 |.ok ds=>qm kt gb ds ρ
 |_=>.no
theorem F5 (hc:c.X.calm=true) (hi:J6 c.nox tg iter gi) (hg:JG c.nox tg kt) (hb:zy c.nox body gbd) (hs:∀ x,cJ iter c.X.env x=pure x:=by intro _;rfl):JS c (.For tg iter body [] pos) (F4 gi kt gbd):=.of fun ρ=>by
 refine Be (tm (A1 kH hc (hi ρ) (g:=fun v σ H Q=>∃ ρ d,Kn c.X.K ρ d (kt d ρ) v σ H Q) (tb:=fun D σ H=>∃ ρ,SR c.X.K c.cls E0 ρ (gbd ρ) D σ H) ?_ ?_ hs) fun D σ H ⟨H0,Hs0,la,Hs,f,q⟩=>?_)
 ·exact fun pins s σ H v u Q I r h_0=>by obtain ⟨ρ,d,q⟩:=h_0;exact hg ρ d pins s σ H v u Q I r q
 ·exact fun pins s σ H D I h_1=>by obtain ⟨ρ,q⟩:=h_1;exact hb ρ pins s σ H D I q
 ·refine ⟨H0,Hs0,la,Hs,f,?_⟩;unfold F4 at q;cases hr:gi ρ with
  |no=>rw [hr] at q;exact q
  |ex x n=>rw [hr] at q;exact q.elim
  |ok ds =>
   rw [hr] at q;intro J H1 Hs1 s1 it;have f1:=f.step s1;exact EZ (E:=c.E) (cls:=c.cls) (kt:=kt) (gb:=gbd) (tg:=fun v σ H Q=>∃ ρ d,Kn c.X.K ρ d (kt d ρ) v σ H Q) (tb:=fun D σ H=>∃ ρ,SR c.X.K c.cls E0 ρ (gbd ρ) D σ H) it (E_ f1.st.all f1.st.sub) f1.into (fun ρ d v σ H Q h=>⟨ρ,d,h⟩) (fun ρ D σ H h=>⟨ρ,h⟩) (kl.into f1 q)
def yF (i:Nat) (kt:D->aD->R aD) (gb:aD->R Fl):aD->R Fl:=fun ρ=>match ρ[i]? with
 |some (Sl.own (.list ds))=>P3 i ρ (qm kt gb ds (wY i ρ))
 |_=>F4 (mJ fun ρ=>Ap ρ i) kt gb ρ
theorem tO {kt:D->aD->R aD}{gb:aD->R Fl}:∀ (ds:List D) (ρ:aD) (fl:Fl),qm kt gb ds ρ=.ok fl->(∃ ρ',fl=.nx ρ')\/∃ d,fl=.rt d
 |[],ρ,fl,h=>by cases h;exact .inl ⟨_,rfl⟩
 |d::r,ρ,fl,h=>by
  unfold qm at h;split at h
  ·split at h
   ·exact tO r _ _ h
   ·exact tO r _ _ h
   ·cases h;exact .inl ⟨_,rfl⟩
   ·cases h;exact .inr ⟨_,rfl⟩
   ·cases h
  ·cases h
theorem wZ {kt:D->aD->R aD}{gb:aD->R Fl}:∀ (ds:List D) (ρ:aD) (c:Str) (n:Option D),qm kt gb ds ρ≠.ex c n
 |[],ρ,c,n,h=>by cases h
 |d::r,ρ,c,n,h=>by
  unfold qm at h;split at h
  ·split at h
   ·exact wZ r _ _ _ h
   ·exact wZ r _ _ _ h
   ·cases h
   ·cases h
   ·cases h
  ·cases h
theorem HG (i:Nat) (hc:c.X.calm=true) (hg:JG c.nox tg kt) (hb:zy c.nox body gbd) (hN:c.X.N[i]?=some x:=by rfl) (hv:C1 c.X.env.scope x:=by first|exact eu rfl|exact cX (eu rfl)|exact cX (cX rfl)) (hd:(x==("__debug__" : Str))=false:=by decide)
  (hcd:(x==("__classdict__" : Str))=false:=by decide) (hs:∀ y,cJ (.Name x p) c.X.env y=pure y:=by intro _;rfl):JS c (.For tg (.Name x p) body [] pos) (yF i kt gbd):=.of fun ρ=>by
 by_cases ho:∃ ds,ρ[i]?=some (Sl.own (.list ds))
 ·obtain ⟨ds,ho⟩:=ho;refine Be (tm (A1 (tg:=tg) kH hc (oU (X:=c.nox.X) (jO hN hv hd hcd)) (g:=fun v σ H Q=>∃ ρ d,Kn c.X.K ρ d (kt d ρ) v σ H Q) (tb:=fun D σ H=>∃ ρ,SR c.X.K c.cls E0 ρ (gbd ρ) D σ H) ?_ ?_ hs) fun D σ H ⟨H0,Hs0,la,Hs,f,q⟩=>?_)
  ·exact fun pins s σ H v u Q I r h_2=>by obtain ⟨ρ,d,q⟩:=h_2;exact hg ρ d pins s σ H v u Q I r q
  ·exact fun pins s σ H D I h_3=>by obtain ⟨ρ,q⟩:=h_3;exact hb ρ pins s σ H D I q
  ·obtain ⟨a,o,k1,k2,k3,k4,k5⟩:=f.ow i _ ho;cases k5 with
   | @lst vs _ r =>
    refine ⟨_,k1,a,rfl,⟨_,.of k2⟩,?_⟩;have hn:jx c.X.K (upd Hs a (.lst vs)) a vs:=.of aH;unfold yF at q;simp only [ho] at q;have fl:=f.lock ho k1 k2 k3 k4 (.lst r);have sub:cb (upd Hs a (.lst vs)) H:=fun b u q=>by
     by_cases hb:b=a
     ·subst hb;rw [aH] at q;cases q;exact k2
     ·rw [aG hb] at q;exact f.st.sub b u q
    refine EZ (E:=c.E) (cls:=c.cls) (kt:=kt) (gb:=gbd) (ρ:=wY i ρ) (Hs:=Hs) (la:=fun i'=>if i'=i then some a else la i') (tg:=fun v σ H Q=>∃ ρ d,Kn c.X.K ρ d (kt d ρ) v σ H Q) (tb:=fun D σ H=>∃ ρ,SR c.X.K c.cls E0 ρ (gbd ρ) D σ H) (wV hn r) (E_ f.st.all sub) ?_ (fun ρ d v σ H Q h=>⟨ρ,d,h⟩) (fun ρ D σ H h=>⟨ρ,h⟩) ?_
    ·unfold wY;rw [ho];exact fl
    ·cases hr:qm kt gbd ds (wY i ρ) with
     |no=>rw [hr] at q;exact q
     |ex c n=>exact (wZ _ _ _ _ hr).elim
     |ok fl =>
      rw [hr] at q;rcases tO _ _ _ hr with ⟨ρ',rfl⟩|⟨d,rfl⟩
      ·exact fun σ' H' Hs' f'=>q σ' H' Hs' (f.unlock ho k4 f')
      ·exact fun v H' Hs' s r=>q v H' Hs' (f.st.unlock s) r
 ·have e:yF i kt gbd ρ=F4 (mJ fun ρ=>Ap ρ i) kt gbd ρ:=by
   unfold yF;split
   ·rename_i ds h;exact (ho ⟨ds,h⟩).elim
   ·rfl
  rw [e];exact F5 hc (Ba (c:=c.nox) (ar (c:=c.nox) i hN hv hd hcd)) hg hb hs ρ
def o8 (t:aD->R Bool) (b:aD->R Fl):Nat->aD->R Fl
 | 0,_=>.no
 |n+1,ρ=>match t ρ with
  |.ok true=>match b ρ with
   |.ok (.nx ρ')=>o8 t b n ρ'
   |.ok (.ct ρ')=>o8 t b n ρ'
   |.ok (.bk ρ')=>.ok (.nx ρ')
   |.ok (.rt d)=>.ok (.rt d)
   |_=>.no
  |.ok false=>.ok (.nx ρ)
  |_=>.no
theorem F6 (n:Nat)  (ht:JT c.nox t gt) (hb:zy c.nox body gbd):JS c (.While t body [] pos) (o8 gt gbd n):=.of fun ρ=>by
 refine Be (tm (DN kH (tc:=fun σ H Q=>∃ ρ,Co c.X.K c.cls E0 ρ (gt ρ) σ H Q) (tb:=fun D σ H=>∃ ρ,SR c.X.K c.cls E0 ρ (gbd ρ) D σ H) ?_ ?_) fun D σ H ⟨H0,Hs0,la,Hs,f,q⟩=>?_)
 ·exact fun pins s σ H Q I h_4=>by obtain ⟨ρ,q⟩:=h_4;exact ht ρ pins s σ H Q I q
 ·exact fun pins s σ H D I h_5=>by obtain ⟨ρ,q⟩:=h_5;exact hb ρ pins s σ H D I q
 ·refine ⟨fun m σ H=>∃ ρ Hs,Fr c.X.K H0 Hs0 la ρ σ H Hs/\kl c.X.K c.cls c.E H0 Hs0 la D (o8 gt gbd m ρ),⟨n,ρ,Hs,f,q⟩,?_⟩;rintro m σ H ⟨ρ,Hs,f,q⟩;cases m with
  |zero=>exact q.elim
  |succ m =>
   unfold o8 at q;refine ⟨ρ,H0,Hs0,la,Hs,f,?_⟩;cases hg:gt ρ with
   |no=>rw [hg] at q;exact q
   |ex x n=>rw [hg] at q;exact q.elim
   |ok b =>
    rw [hg] at q;intro H1 Hs1 s1;cases b with
    |false=>exact uL (q σ H1 Hs1 (f.step s1))
    |true =>
     refine y6 ⟨fun σ' H'=>∃ ρ' Hs',Fr c.X.K H0 Hs0 la ρ' σ' H' Hs'/\kl c.X.K c.cls c.E H0 Hs0 la D (o8 gt gbd m ρ'),fun σ' H' h=>⟨m,eO _,h⟩,ρ,H0,Hs0,la,Hs1,f.step s1,?_⟩;cases hb':gbd ρ with
     |no=>simp only [hb'] at q;exact q
     |ex x n=>simp only [hb'] at q;exact q.elim
     |ok fl =>
      simp only [hb'] at q;cases fl with
      |nx ρ'=>exact fun σ' H' Hs' f'=>⟨ρ',Hs',f',q⟩
      |ct ρ'=>exact fun σ' H' Hs' f'=>⟨ρ',Hs',f',q⟩
      |bk ρ'=>exact fun σ' H' Hs' f'=>q σ' H' Hs' f'
      |rt d=>exact q
end
end
section
section
def HH (i:Nat) (g:aD->R D):aD->R Fl:=fun ρ=>match ρ[i]? with
 |some (Sl.own (.list ds))=>(g ρ).bind fun d=>if ds.length<1000 then .ok (.nx (ρ.set i (.own (.list (ds++[d]))))) else .no
 |_=>.no
theorem Cz (i:Nat) (h:JE c e g) (hN:c.X.N[i]?=some x:=by rfl) (hv:C1 c.X.env.scope x:=by first|exact eu rfl|exact cX (eu rfl)|exact cX (cX rfl)) (hd:(x==("__debug__" : Str))=false:=by decide)
  (hcd:(x==("__classdict__" : Str))=false:=by decide)
  (hbase:BQ (.Name x p) "append" c.X.env (cQ (.Name x p) c.X.env)=cQ (.Name x p) c.X.env:=by rfl)
  (hfew:((cR cpos (ap [e] c.X.env)).all (fun x=>!x.1)&&(backToKw cpos (Gh [] c.X.env)).all (fun x=>x.1.isSome)
   && decide ([e].length+([] : List uC).length+(if ([] : List uC).isEmpty then 0 else 1)<30))=true:=by rfl)
  (hline:(apos.endLine==cpos.line)=true:=by rfl) (hst:ap [e] c.X.env=(false,cQ e c.X.env)::ap [] c.X.env:=by rfl) (hplain:(cR cpos (ap [] c.X.env)).any (·.1)=false:=by rfl)
  (hs:fP (.Call (.Attribute (.Name x p) "append" apos) [e] [] cpos) none pos.line c.X.env=pure false:=by rfl) :
  JS c (.Expr (.Call (.Attribute (.Name x p) "append" apos) [e] [] cpos) pos) (HH i g):=.of fun ρ=>by
 refine tm (oS (vz dn PySem.F.slot_list_append PySem.F.type_list_append C6 (jO hN hv hd hcd) (bD (h ρ) eE hst) hbase hfew hline hst hplain) hs) fun D σ H h_0=>?_;obtain ⟨H0,Hs0,la,Hs,f,q⟩:=h_0;replace q:kl c.X.K c.cls c.E H0 Hs0 la D (HH i g ρ):=q;unfold HH at q;split at q
 ·rename_i ds ho
  obtain ⟨a,o,k1,k2,k3,k4,k5⟩:=f.ow i _ ho;cases k5 with
  | @lst vs _ r =>
   refine ⟨_,k1,.inl ⟨rfl,_,.of k2⟩,?_⟩;refine sE f q fun d v H1 Hs1 e1 s1 f1 r1=>?_;rw [e1,bind_ok] at q;by_cases hl:ds.length<1000
   ·rw [if_pos hl] at q;have r':=r.same s1.sh;exact ⟨a,vs,v,rfl,rfl,s1.all _ _ k2,bS (by rw [r.length];omega),q _ _ Hs1 (f1.write i ho k1 (.lst (r'.append (.cons r1 .nil))))⟩
   ·rw [if_neg hl] at q;exact q.elim
 ·exact q.elim
def qZ:D->Option dQ
 |.int i=>some (.inl i)
 |.str x=>some (.inr x)
 |_=>none
theorem yG  (h:qZ d=some y):d=kD y:=by
 cases d<;>cases h<;>rfl
@[simp] theorem keyOf_of (y:dQ):qZ (kD y)=some y:=by cases y<;>rfl
def HI (kvs:List (D×D)) (k d:D):List (D×D):=if kvs.any (fun kv=>bL kv.1 k) then kvs.map (fun kv=>if bL kv.1 k then (kv.1,d) else kv) else kvs++[(k,d)]
theorem F7 (a b:dQ):bL (kD a) (kD b)=decide (a=b):=by
 cases a<;>cases b<;>simp [kD,bL,Bool.beq_eq_decide_eq]
theorem RDk.snoc  (y:dQ)  (rv:RD K H v d):∀ {kvs:List (dQ×V)}{ds:List (D×D)},RDk K H kvs ds->RDk K H (kvs++[(y,v)]) (ds++[(kD y,d)])
 |_,_,.nil=>.cons rv .nil
 |_,_,.cons h t=>.cons h (RDk.snoc y rv t)
def kn (kvs:List (D×D)):Bool:=kvs.all fun kv=>(qZ kv.1).isSome
def P4 (i:Nat) (gk g:aD->R D):aD->R Fl:=fun ρ=>match ρ[i]? with
 |some (Sl.own (.dict kvs))=>(g ρ).bind fun d=>(gk ρ).bind fun k=>match qZ k with
  |some _=>if kvs.length<1000/\kn kvs=true then .ok (.nx (ρ.set i (.own (.dict (HI kvs k d))))) else .no
  |none=>.no
 |_=>.no
theorem F8    (h:RD K H v (kD y)):v=kV y:=by
 cases y<;>cases h<;>rfl
theorem RDt.flat    (h:RDt K H kvs ds) (f:kn ds=true):kvs=[]/\ds=[]:=by
 cases h with
 |nil=>exact ⟨rfl,rfl⟩
 |cons h t=>simp [kn,tD,qZ] at f
def m7 (kvs:List (D×D)) (k:D):Option D:=(kvs.find? fun kv=>bL kv.1 k).map (·.2)
theorem RDk.val  : ∀ {kvs:List (dQ×V)}{ds:List (D×D)},RDk K H kvs ds->∀ (y:dQ),(ki kvs y=none/\m7 ds (kD y)=none)\/∃ v d,ki kvs y=some v/\m7 ds (kD y)=some d/\RD K H v d
 |_,_,.nil,y=>.inl ⟨rfl,rfl⟩
 |_,_,.cons (k:=k) h t,y=>by
  unfold ki m7;rw [c_,c_,F7];by_cases hk:k=y
  ·simp only [hk,decide_true,c9];exact .inr ⟨_,_,rfl,rfl,h⟩
  ·simp only [hk,decide_false];exact RDk.val t y
def eI:D->D->R D
 |.dict kvs,k=>match qZ k with
  |some _=>if kn kvs=true then (match m7 kvs k with
   |some d=>.ok d
   |none=>.no) else .no
  |none=>.no
 |x,k=>Hz x k
theorem fU (hu:c.X.A.units+1<ik) (ha:JB c a ga) (hb:JB c b gb) (hs:se b:=by exact fun _ _=>rfl):JE c (.Subscript a b pos) (g2 ga gb eI):=.of fun ρ=>by
 by_cases hx:∃ kvs,ga ρ=.ok (.dict kvs)
 ·obtain ⟨kvs,hx⟩:=hx;refine lM (B2 hu (ha ρ) (hb ρ) hs) fun σ H Q h_2=>?_;obtain ⟨H0,Hs0,la,Hs,f,q⟩:=h_2;refine one f q fun d v H1 Hs1 e1 s1 f1 r1=>?_;rw [hx] at e1;cases e1;unfold g2 at q;rw [hx,bind_ok] at q;refine one f1 (q.on s1 (q':=fun _=>True) fun _ _=>trivial) fun y w H2 Hs2 e2 s2 f2 r2=>?_;rw [e2,bind_ok] at q;unfold eI at q;simp only at q;split at q
  ·rename_i ky hy
   obtain rfl:=yG hy;by_cases hf:kn kvs=true
   ·rw [if_pos hf] at q;obtain ⟨p,rfl,h⟩:=(r1.step s2).dict f2.st.sub;have rk:w=kV ky:=by
     rcases r2 with r2|⟨_,o,rfl,_,_,ow⟩
     ·exact F8 r2
     ·cases ky<;>cases ow
    subst rk;rcases h with ⟨vs,h1,h2⟩|⟨vs,h1,hn,h2⟩|⟨o,vs,es,rfl,h1,hn,h2⟩
    ·rcases h2.val ky with ⟨_,h3⟩|⟨u,d,h3,h4,h5⟩
     ·rw [h3] at q;exact q.elim
     ·rw [h4] at q;exact ⟨p,u,rfl,by rw [<- h3];exact rK.k h1,q _ H2 Hs2 (s1.trans s2) h5⟩
    ·exact (hn (h2.flat hf).1).elim
    ·cases hf
   ·rw [if_neg hf] at q;exact q.elim
  ·exact q.elim
 ·refine lM (M7 ha hb hs ρ) fun σ H Q q=>?_;have e:g2 ga gb eI ρ=g2 ga gb Hz ρ:=by
   unfold g2;cases hr:ga ρ with
   |ok d =>
    cases d with
    |dict kvs=>exact (hx ⟨kvs,hr⟩).elim
    |_=>rfl
   |_=>rfl
  rw [e] at q;exact q
def mK:D->R D
 |.dict kvs=>if kn kvs=true then .ok (.list (kvs.map (·.1))) else .no
 |x=>vJ x
theorem yH  : ∀ {kvs:List (dQ×V)}{ds:List (D×D)},RDk K H kvs ds->RDs K H (kvs.map fun p=>kV p.1) (ds.map (·.1))
 |_,_,.nil=>.nil
 |_,_,.cons (k:=k) h t=>.cons (by cases k<;>constructor) (yH t)
theorem F9 (hc:X.calm=true):EU X (.type "list") (lE mK):=by
 refine ql (fun d c n=>?_) fun pins s σ H x u Q Hs d d' I ru sub rx hd q=>?_
 ·unfold mK vJ;split<;>(try split)<;>(try split)<;>exact fun h=>by cases h
 ·by_cases hx:∃ kvs,d=.dict kvs
  ·obtain ⟨kvs,rfl⟩:=hx;unfold mK at hd;simp only at hd;split at hd
   ·rename_i hf
    cases hd;obtain ⟨a,rfl,⟨vs,h1,h2⟩|⟨vs,h1,n,h2⟩|⟨o,vs,es,rfl,h1,n,h2⟩⟩:=rx.dict sub
    ·exact tf hc pins s σ H _ _ Q I (.cons ru .nil) ⟨a,vs,rfl,h1,fun l hl=>q _ _ _ (.new sub hl) (.list (.of aH) ((yH h2).same (bN.new sub hl).sh))⟩
    ·exact (n (h2.flat hf).1).elim
    ·cases hf
   ·cases hd
  ·have e:mK d=vJ d:=by
    cases d with
    |dict kvs=>exact (hx ⟨kvs,rfl⟩).elim
    |_=>rfl
   rw [e] at hd;exact (HD (X:=X)).1 pins s σ H [x] [u] Q I (.cons ru .nil) ⟨Hs,[d],sub,.cons rx .nil,d',hd,q⟩
end
end
section
open PyProof.Rows (envOfC)
section
variable {c:C}{e a b d:aQ}{g ga gb gc:aD->R D}{pos p cpos:Pos}{x:Str}
theorem Fa        (hx:∀ x y c n,h x y≠.ex c n) (hx':∀ x y c n,h' x y≠.ex c n) (q:TR K cls E ρ (o7 ga gb gc h h' ρ) σ H Q) :
  A2 (rD K h) (rD K h') (TB K cls E ρ (ga ρ)) (TB K cls E ρ (gb ρ)) (TB K cls E ρ (gc ρ)) σ H Q:=by
 obtain ⟨H0,Hs0,la,Hs,f,q⟩:=q;refine one f q fun x v H1 Hs1 e1 s1 f1 r1=>?_;unfold o7 at q;rw [e1,bind_ok] at q;refine one f1 (q.on s1 (q':=fun _=>True) fun _ _=>trivial) fun y u H2 Hs2 e2 s2 f2 r2=>?_;rw [e2,bind_ok] at q;cases hr:h x y with
 |ex c n=>exact (hx x y c n hr).elim
 |no=>rw [hr] at q;exact q.elim
 |ok z =>
  rw [hr,bind_ok] at q;refine ⟨Hs2,x,y,f2.st.sub,r1.step s2,r2,z,hr,fun w H3 Hs3 s3 r3=>?_⟩;cases r3 with
  |bool k =>
   refine ⟨k,rfl,?_⟩;have f3:=f2.step s3;cases k with
   |false=>exact uL (q _ H3 Hs3 (s1.trans (s2.trans s3)) (.bool _))
   |true =>
    refine y6 (one f3 (q.on (s1.trans (s2.trans s3)) (q':=fun _=>True) fun _ _=>trivial) fun t u' H4 Hs4 e4 s4 f4 r4=>?_);simp only [e4,bind_ok] at q;cases hr':h' y t with
    |ex c n=>exact (hx' y t c n hr').elim
    |no=>rw [hr'] at q;exact q.elim
    |ok z' =>
     rw [hr'] at q;exact ⟨Hs4,y,t,f4.st.sub,(r2.step s3).step s4,r4,z',hr',fun w H5 Hs5 s5 r5=>q w H5 Hs5 (s1.trans (s2.trans (s3.trans (s4.trans s5)))) r5⟩
  |none=>exact q.elim
  |int _=>exact q.elim
  |str _=>exact q.elim
  |list _ _=>exact q.elim
  |tuple _ _=>exact q.elim
  |dictK _ _=>exact q.elim
  |dictT _ _ _=>exact q.elim
  |dictF _ _ _=>exact q.elim
theorem yI  (ho:uB c.X (bh op) h) (ho':uB c.X (bh op') h') (ha:JB c a ga) (hb:JB c b gb) (hc:JB c d gc) (hm:D3 [op,op'] [b,d]=false:=by with_unfolding_all rfl):JE c (.Compare a [op,op'] [b,d] pos) (o7 ga gb gc h h') :=
 .of fun ρ=>lM (DP ho.1 ho'.1 (ha ρ) (hb ρ) (hc ρ) hm) fun σ H Q q=>Fa ho.2 ho'.2 q
theorem Fb  (ho:uB c.X (bh op) h) (ho':uB c.X (bh op') h') (ha:JB c a ga) (hb:JB c b gb) (hc:JB c d gc) (hm:D3 [op,op'] [b,d]=false:=by with_unfolding_all rfl):JT c (.Compare a [op,op'] [b,d] pos) (gW (o7 ga gb gc h h')) :=
 .of fun ρ=>M3 (DQ ho.1 ho'.1 (ha ρ) (hb ρ) (hc ρ) hm) fun σ H Q q=>Fa ho.2 ho'.2 (Ld q)
def NO:D->R D
 |.int i=>.ok (.int (-i))
 |_=>.no
def qo (g:aD->R D):aD->R D:=fun ρ=>(g ρ).bind NO
theorem tP (h:JE c e g):JE c (.UnaryOp .USub e pos) (qo g):=.of fun ρ=>lM (Lu JU (h ρ)) fun σ H Q h_0=>by
 obtain ⟨H0,Hs0,la,Hs,f,q⟩:=h_0;refine uR f q fun d v H1 Hs1 e1 s1 f1 r1=>?_;unfold qo at q;rw [e1,bind_ok] at q;cases r1 with
 |int i=>exact ⟨i,rfl,q _ H1 Hs1 s1 (.int _)⟩
 |_=>exact q.elim
inductive Mk (K:a7) (w:aS) (cls:Str->ac) (E:XK) (ρ:aD) (r:R (List Str)) (σ:St) (H:Hp) (Q:VK):Prop
 |mk (H0 Hs0:Hp) (la:Nat->Option ac) (Hs:Hp) (f:Fr K H0 Hs0 la ρ σ H Hs) (q:Fin K cls E H Hs r fun ss=>∀ p H' Hs',bN H Hs H' Hs'->H' p=none->Q (.ref p) (upd H' p (kj w p ss))):Mk K w cls E ρ r σ H Q
def N0 (K:a7) (w:aS) (cls:Str->ac) (E:XK) (ρ:aD) (r:R (List Str)):TE:=Mk K w cls E ρ r
structure HJ (c:C) (e:aQ) (g:aD->R (List Str)):Prop where of ::
 run:∀ ρ,PE c.X e (N0 c.X.K c.X.w c.cls c.E ρ (g ρ))
instance {c:C}{e:aQ}{g:aD->R (List Str)}:CoeFun (HJ c e g) (fun _=>∀ ρ,PE c.X e (N0 c.X.K c.X.w c.cls c.E ρ (g ρ))):=⟨HJ.run⟩
theorem Bf {K:a7}{w:aS}{cls:Str->ac}{E:XK}{ρ:aD}{r:R (List Str)}{β:Type}{k:List Str->R β}{σ:St}{H:Hp}{H0 Hs0 Hs:Hp}{la:Nat->Option ac}{Q:V->Hp->Prop}{q:β->Prop} (f:Fr K H0 Hs0 la ρ σ H Hs)
  (h:Fin K cls E H Hs (r.bind k) q) (m:∀ ss p H' Hs',r=.ok ss->bN H Hs H' Hs'->Fr K H0 Hs0 la ρ σ H' Hs'->H' p=none->Q (.ref p) (upd H' p (kj w p ss))):N0 K w cls E ρ r σ H Q:=by
 refine ⟨H0,Hs0,la,Hs,f,?_⟩;cases r with
 |ok d=>exact fun p H' Hs' s n=>m d p H' Hs' rfl s (f.step s) n
 |ex c n=>exact h
 |no=>exact h
variable {gset:aD->R (List Str)}
def Fc:D->R (List Str)
 |.list ds=>match gC ds with
  |some ss=>if ss.length<60 then .ok (eA [] ss) else .no
  |none=>.no
 |.tuple ds=>match gC ds with
  |some ss=>if ss.length<60 then .ok (eA [] ss) else .no
  |none=>.no
 |_=>.no
def w_ (g:aD->R D):aD->R (List Str):=fun ρ=>(g ρ).bind Fc
theorem Fd (hc:c.X.calm=true) (h:JB c e g) (hg2:Gl c.X "set") (hm2:c.X.mg "set"=none) (he:ap [e] c.X.env=(false,cQ e c.X.env)::ap [] c.X.env:=by rfl) :
  HJ c (.Call (.Name "set" p) [e] [] cpos) (w_ g):=.of fun ρ=>by
 refine lM (vy (yn hc) hg2 hm2 PyProof.Rows.boot_set (bD (h ρ) eE he) (he:=he)) fun σ H Q h_1=>?_;obtain ⟨H0,Hs0,la,Hs,f,q⟩:=h_1;refine one f q fun d v H1 Hs1 e1 s1 f1 r1=>?_;unfold w_ at q;rw [e1,bind_ok] at q;unfold Fc at q;split at q
 ·split at q
  ·rename_i ss hs
   by_cases hz:ss.length<60
   ·rw [if_pos hz] at q;obtain ⟨a,vs,rfl,qa,ra⟩:=r1.list f1.st.sub;rw [qX hs] at ra;rw [pk ra] at qa;exact ⟨a,ss,rfl,.inl qa,au (BV hz 1) (by decide),fun p hp=>q p H1 Hs1 s1 hp⟩
   ·rw [if_neg hz] at q;exact q.elim
  ·exact q.elim
 ·split at q
  ·rename_i ss hs
   by_cases hz:ss.length<60
   ·rw [if_pos hz] at q;obtain ⟨a,vs,rfl,qa,ra,_⟩:=r1.tuple f1.st.sub;rw [qX hs] at ra;rw [pk ra] at qa;exact ⟨a,ss,rfl,.inr qa,au (BV hz 1) (by decide),fun p hp=>q p H1 Hs1 s1 hp⟩
   ·rw [if_neg hz] at q;exact q.elim
  ·exact q.elim
 ·exact q.elim
def tQ (g:aD->R (List Str)):aD->R D:=fun ρ=>(g ρ).bind fun ss=>if ss.length<64 then .ok (.list ((pd ss).map .str)) else .no
theorem Aw (hc:c.X.calm=true) (h:HJ c e gset) (hg:Gl c.X "sorted") (hm:c.X.mg "sorted"=none) (he:ap [e] c.X.env=(false,cQ e c.X.env)::ap [] c.X.env:=by rfl) :
  JE c (.Call (.Name "sorted" p) [e] [] cpos) (tQ gset):=.of fun ρ=>by
 refine lM (kg (rL hc) hg hm PyProof.Rows.boot_sorted (bD (h ρ) eE he) (he:=he)) fun σ H Q h_2=>?_;obtain ⟨H0,Hs0,la,Hs,f,q⟩:=h_2;dsimp only [L2.LA,L2.A_,L2.GO];refine Bf (w:=c.X.w) f q fun ss p H1 Hs1 e1 s1 f1 n1=>?_;unfold tQ at q;rw [e1,bind_ok] at q;by_cases hz:ss.length<64
 ·rw [if_pos hz] at q;have st1:bN H1 Hs1 (upd H1 p (kj c.X.w p ss)) Hs1:=.mine f1.st.sub n1;exact ⟨p,ss,rfl,aH,hz,fun l hl=>q _ _ _ (s1.trans (st1.trans (.new st1.sub hl))) (.list (.of aH) (yt _))⟩
 ·rw [if_neg hz] at q;exact q.elim
def sj (g:aD->R (List Str)):aD->R D:=fun ρ=>(g ρ).bind fun ss=>.ok (.int ss.length)
theorem vK (h:HJ c e gset) (hg:Gl c.X "len") (hm:c.X.mg "len"=none) (he:ap [e] c.X.env=(false,cQ e c.X.env)::ap [] c.X.env:=by rfl) :
  JE c (.Call (.Name "len" p) [e] [] cpos) (sj gset):=.of fun ρ=>by
 refine lM (kg uP hg hm cE (bD (h ρ) eE he) (he:=he)) fun σ H Q h_3=>?_;obtain ⟨H0,Hs0,la,Hs,f,q⟩:=h_3;dsimp only [L2.LA,L2.A_,L2.GO];refine Bf (w:=c.X.w) f q fun ss p H1 Hs1 e1 s1 f1 n1=>?_;unfold sj at q;rw [e1,bind_ok] at q;have st1:bN H1 Hs1 (upd H1 p (kj c.X.w p ss)) Hs1:=.mine f1.st.sub n1;exact ⟨p,ss,rfl,aH,q _ _ _ (s1.trans st1) (.int _)⟩
variable {elt iter tg:aQ}{ifs:List aQ}{scope:cf}{N':List Str}{nt:Nat}{ix:List Nat}{gi:aD->R (List D)}{gt:aD->R Bool}{ge:aD->R D}
def tR (nt:Nat) (ix:List Nat) (gi:aD->R (List D)) (gt:aD->R Bool) (ge:aD->R D):aD->R (List Str):=fun ρ=>(gi ρ).bind fun ds=>if ds.length<=60 then (jz (qY nt (j4 nt ix ρ) gt ge) ds).bind fun ys=>match gC ys with
 |some ss=>.ok (eA [] ss)
 |none=>.no else .no
theorem uS  : ∀ {ss:List Str},gC (xs++ys)=some ss->∃ s1 s2,gC xs=some s1/\gC ys=some s2/\ss=s1++s2:=by
 induction xs with
 |nil=>intro ss h;exact ⟨[],ss,rfl,h,rfl⟩
 |cons d r ih =>
  intro ss h;cases d with
  |str b =>
   have h:(gC (r++ys)).map (b::·)=some ss:=h;cases hr:gC (r++ys) with
   |none=>rw [hr] at h;cases h
   |some z =>
    rw [hr] at h;cases h;obtain ⟨s1,s2,h1,h2,rfl⟩:=ih hr;exact ⟨b::s1,s2,by show (gC r).map (b::·)=_;rw [h1];rfl,h2,rfl⟩
  |_=>cases h
theorem tS (z:Str):∀ (l acc:List Str),eA acc (l++[z])=if z∈eA acc l then eA acc l else eA acc l++[z]
 |[],acc=>rfl
 |x::l,acc=>by
  show eA _ (l++[z])=_;rw [tS z l];rfl
inductive OA (f:D->R (Option D)) (ds:List D) (ss:List Str) (H1 Hs1:Hp) (i m:Nat) (acc:List Str) (H':Hp):Prop
 |mk (done b_ zs sa sz Hs':_) (h0:ds=done++b_) (h1:done.length=i) (h2:b_.length=m) (h3:bN H1 Hs1 H' Hs') (h4:acc=eA [] sa) (h5:sa.length<=i) (h6:jz f b_=.ok zs) (h7:gC zs=some sz) (h8:ss=sa++sz):OA f ds ss H1 Hs1 i m acc H'
theorem HK        (hnt:nt=1\/nt=2)
  (q:N0 K w cls E ρ (tR nt ix gi gt ge ρ) σ H Q) :
  ED w nt ix (M_ K cls E ρ (gi ρ)) (Cy K nt) (fun σ H Q=>∃ ρ',Co K cls E0 ρ' (gt ρ') σ H Q) (fun σ H Q=>∃ ρ',TR K cls E0 ρ' (ge ρ') σ H Q) σ H Q:=by
 obtain ⟨H0,Hs0,la,Hs,f,q⟩:=q;refine ⟨H0,Hs0,la,Hs,f,?_⟩;unfold tR at q;cases hi:gi ρ with
 |no=>rw [hi] at q;exact q
 |ex x n=>rw [hi] at q;exact q
 |ok ds =>
  rw [hi,bind_ok] at q;intro J H1 Hs1 Hn s1 sn it;by_cases hl:ds.length<=60
  ·rw [if_pos hl] at q;cases hm:jz (qY nt (j4 nt ix ρ) gt ge) ds with
   |no=>rw [hm] at q;exact q.elim
   |ex x n=>exact (tM (yD _ _ _ _) _ _ _ hm).elim
   |ok ys =>
    rw [hm,bind_ok] at q;cases hs:gC ys with
    |none=>rw [hs] at q;exact q.elim
    |some ss =>
     rw [hs] at q;obtain ⟨lb,fb⟩:=(f.step s1).block nt ix;refine ⟨OA (qY nt (j4 nt ix ρ) gt ge) ds ss H1 Hs1,
      ⟨ds.length,[],ds,ys,[],ss,Hs1,rfl,rfl,rfl,.refl s1.sub,rfl,eB _,hm,hs,rfl⟩,?_⟩
     rintro i m acc H' ⟨done,b_,zs,sa,sz,Hs',hds,hdl,hrl,st,rfl,yl,hz,hzs,hy⟩;obtain ⟨igo,istop,iyld⟩:=it H' Hs' (sn.trans st.all) st.sh st.sub;cases b_ with
     |nil =>
      left;cases hz;cases hzs;rw [bT] at hds hy;subst hy hds;exact ⟨istop i (by omega),fun p hp=>q p H' Hs' (s1.trans st) hp⟩
     |cons d b_ =>
      right;have hil:i<ds.length:=by rw [hds,bo,bE];omega
      have hol:=o_ sa [];simp at hol;refine ⟨igo i hil,pV (show (eA [] sa).length+1<=61 by omega) (by decide),fun x H2 hyl=>?_⟩;obtain ⟨d',Hs2,hd,s2,r2⟩:=iyld i x H2 hil hyl;have hdd:d'=d:=by
       rw [hds,aT (by omega)] at hd;simp [hdl] at hd;exact hd.symm
      subst hdd;obtain ⟨o,zs',hf,hz',rfl⟩:=tL hz;have hf:=Bb hf;obtain ⟨so,sz',hso,hsz,rfl⟩:=uS hzs;cases hb:Mi nt d' (j4 nt ix ρ) with
      |no=>rw [hb] at hf;cases hf
      |ex x n=>rw [hb] at hf;cases hf
      |ok ρ' =>
       rw [hb,bind_ok] at hf;refine yC hnt ((fb.step st).step s2) r2 hb fun σ2 f2=>⟨ρ',?_⟩;refine ⟨_,_,_,Hs2,f2,?_⟩;cases ht:gt ρ' with
       |no=>rw [ht] at hf;cases hf
       |ex x n=>rw [ht] at hf;cases hf
       |ok b =>
        rw [ht,bind_ok] at hf;intro H3 Hs3 s3;cases b with
        |false =>
         rw [if_neg aL] at hf;cases hf;cases hso;refine uL ⟨b_.length,by rw [<- hrl];simp,done++[d'],b_,zs',sa,sz',Hs3,by rw [hds];simp,by simp [hdl],rfl,(st.trans s2).trans s3,rfl,by omega,hz',hsz,by simpa using hy⟩
        |true =>
         rw [if_pos rfl] at hf;refine y6 ⟨ρ',_,_,_,Hs3,f2.step s3,?_⟩;cases he:ge ρ' with
         |no=>rw [he] at hf;cases hf
         |ex x n=>rw [he] at hf;cases hf
         |ok y =>
          rw [he,bind_ok] at hf;cases hf;intro v H4 Hs4 s4 r4;cases r4 with
          |str z =>
           cases hso;exact ⟨z,b_.length,rfl,by rw [<- hrl];simp,done++[d'],b_,zs',sa++[z],sz',Hs4,by rw [hds];simp,by simp [hdl],rfl,((st.trans s2).trans s3).trans s4,(tS z sa []).symm,by simp;omega,hz',hsz,by rw [hy];simp⟩
          |none=>cases hso
          |bool _=>cases hso
          |int _=>cases hso
          |list _ _=>cases hso
          |tuple _ _=>cases hso
          |dictK _ _=>cases hso
          |dictT _ _ _=>cases hso
          |dictF _ _ _=>cases hso
  ·rw [if_neg hl] at q;exact q.elim
theorem yJ (nt:Nat) (hnt:nt=1\/nt=2) (hc:c.X.calm=true) (S:kX c.X scope N' nt ix) (hi:JI c tg iter gi) (hb:pz c N' scope nt tg ifs elt gt ge) (hs:∀ x,cJ iter c.X.env x=pure x:=by intro _;rfl) :
  HJ c (.SetComp elt [⟨tg,iter,ifs,0⟩] scope pos) (tR nt ix gi gt ge):=.of fun ρ=>lM (Ao hc S (wX hnt) (hi ρ) hb.at hs) fun σ H Q q=>HK hnt q
end
def fe (n:Nat) (ds:List D):aD:=ds.map Sl.shr++jq (n-ds.length) Sl.no
def fE (n:Nat) (g:aD->R Fl):List D->R D:=fun ds=>match g (fe n ds) with
 |.ok (.nx _)=>.ok .none
 |.ok (.rt d)=>.ok d
 |.ex c m=>.ex c m
 |_=>.no
theorem tT {n:Nat}{ds:List D}{i:Nat}{s:Sl} (h:(fe n ds)[i]?=some s):(∃ d,ds[i]?=some d/\s=.shr d)\/s=.no:=by
 unfold fe at h;by_cases hi:i<ds.length
 ·rw [br (by simpa using hi),aK] at h;cases hd:ds[i]? with
  |none=>rw [hd] at h;cases h
  |some z=>rw [hd] at h;cases h;exact .inl ⟨z,rfl,rfl⟩
 ·rw [aT (by simp;omega),bn] at h;split at h<;>cases h;exact .inr rfl
theorem CA {N:List Str}{vs:List V}{i:Nat}{v:V} (h:vs[i]?=some v):(L2.start N vs)[i]?=some (some v):=by
 unfold L2.start;have hi:i<vs.length:=(List.getElem?_eq_some_iff.mp h).1;rw [br (by simpa using hi),aK,h];rfl
theorem Fr.start {K : a7} {H Hs : Hp} {N : List Str} {vs : List V} {ds : List D} (sub : cb Hs H) (r : RDs K Hs vs ds) : Fr K H Hs (fun _ => none) (fe N.length ds) (L2.start N vs) H Hs := by
  have hl := r.length;refine ⟨.refl sub, by simp [fe, L2.start, hl], fun i d h => ?_, fun i d h => ?_, fun i d h => ?_, fun i j d e a h _ _ _ => ?_, fun i a h => (nomatch h), fun i d h => ?_, fun i j d e h _ => ?_⟩
  · rcases tT h with ⟨z, hz, e⟩ | e
    · cases e;obtain ⟨v, k1, k2⟩ := r.get' hz;exact ⟨v, CA k1, k2⟩
    · cases e
  all_goals (rcases tT h with ⟨z, _, e⟩ | e <;> cases e)
theorem J7             (F:wz K x qual st f fd) (S:bq N ps (aw st))
  (h:∀ (cdv:a9) (A:aR) (outer:List Env) (s:ae) (H:Hp) (E:XK),eL k (A.deeper (envOfC qual (aw st) s.heap.objs.size f cdv))->zy ⟨g9 (iA P w) P w K mg base N qual (aw st) f cdv A outer s H E,cls,E⟩ (du st) g) :
  kS P w K mg base (iA P w) (k+1) f fd ps (EV K cls ps.length (fE N.length g)):=by
 obtain ⟨oc,od,kV,doc,pm,an,cdv,ct,osl,rfl,lk,hcd⟩:=F.ex;refine DU lk hcd S (fun vs H Q E h_4=>by obtain ⟨Hs,ds,sub,hn,r,q⟩:=h_4;exact by rw [r.length];exact hn) fun A outer s H vs Q E hr hsp=>?_;obtain ⟨Hs,ds,sub,hn,r,q⟩:=hsp;refine ⟨_,h cdv A outer s H E hr (fe N.length ds),H,Hs,_,Hs,Fr.start sub r,?_⟩;unfold fE at q;cases hg:g (fe N.length ds) with
 |no=>rw [hg] at q;exact q
 |ex c n=>rw [hg] at q;exact q
 |ok fl =>
  rw [hg] at q;cases fl with
  |nx ρ'=>exact fun σ' H' Hs' f'=>q .non H' Hs' f'.st .none
  |rt d=>exact fun v H' Hs' s r=>q v H' Hs' s r
  |bk ρ'=>exact q.elim
  |ct ρ'=>exact q.elim
theorem Ml             (F:wz K x qual st f fd) (S:bq N ps (aw st)) (hm:mg x=some (.ref f)) (hb:fD K fd ps [])
  (h:∀ (cdv:a9) (A:aR) (outer:List Env) (s:ae) (H:Hp) (E:XK),eL k (A.deeper (envOfC qual (aw st) s.heap.objs.size f cdv))->zy ⟨g9 (iA P w) P w K mg base N qual (aw st) f cdv A outer s H E,cls,E⟩ (du st) g) :
  Fn P w K mg base cls x (k+1) ps.length (fE N.length g):=⟨f,fd,ps,J7 F S h,hm,F.kp,hb⟩
theorem fV:fS (iA X.prog X.w) X E0:=fun _ _ _ _ _ _ _ h=>by
 obtain ⟨_,_,_,_,_,_,_,_,_,q⟩:=h;exact q.elim
end
section
section
end
section
def shareAt (i:Nat) (ρ:aD):aD:=match ρ[i]? with
 |some (Sl.own d)=>ρ.set i (.shr d)
 |_=>ρ
theorem Fr.shareAt     (f:Fr K H0 Hs0 la ρ σ H Hs) (i:Nat):∃ Hs',Fr K H0 Hs0 la (J.shareAt i ρ) σ H Hs':=by
 unfold J.shareAt;split
 ·rename_i d ho
  obtain ⟨a,o,k1,k2,k3,k4,k5⟩:=f.ow i d ho;have hil:i<ρ.length:=(List.getElem?_eq_some_iff.mp ho).1;have up:cb Hs (upd Hs a o):=gX k3;have nx:∀ {j:Nat}{s:Sl},(∀ d,s≠.shr d)->(ρ.set i (.shr d))[j]?=some s->ρ[j]?=some s/\i≠j:=fun {j s} hs e=>by
   by_cases hj:i=j
   ·subst hj;rw [aE hil] at e;exact absurd (a_ e).symm (hs d)
   ·rw [aj hj] at e;exact ⟨e,hj⟩
  have ne:∀ (j:Nat) (e:D) (b:ac),i≠j->ρ[j]?=some (Sl.own e)->σ[j]?=some (some (V.ref b))->b≠a:=fun j e b hj h hb z=>by
   subst z;exact hj (f.dj i j d e b ho h k1 hb)
  refine ⟨upd Hs a o,⟨f.st.all,f.st.sh.trans up,fun b u e=>?_,fun b u e t z=>?_⟩,by simp [f.len],fun j e h=>?_,fun j e h=>?_,fun j e h=>?_,fun j k d1 d2 b h1 h2 h3 h4=>?_,f.lh,fun j e h=>?_,fun j k d1 d2 h1 h2=>?_⟩
  ·by_cases hb:b=a
   ·subst hb;rw [aH] at e;cases e;exact k2
   ·rw [aG hb] at e;exact f.st.sub b u e
  ·rw [aG (aI e k4)];exact f.st.out b u e t z
  ·by_cases hj:i=j
   ·subst hj;rw [aE hil] at h;cases h;exact ⟨_,k1,k5.share k3⟩
   ·rw [aj hj] at h;obtain ⟨v,q1,q2⟩:=f.sh j e h;exact ⟨v,q1,q2.same up⟩
  ·obtain ⟨h,hj⟩:=nx (fun _ z=>by cases z) h;obtain ⟨b,u,q1,q2,q3,q4,q5⟩:=f.ow j e h;exact ⟨b,u,q1,q2,by rw [aG (ne j e b hj h q1)];exact q3,q4,q5.same up⟩
  ·obtain ⟨h,hj⟩:=nx (fun _ z=>by cases z) h;obtain ⟨b,u,q1,q2,q3,q4,q5,q6⟩:=f.lk j e h;exact ⟨b,u,q1,q2,q3,by rw [aG (aI q5 k4)];exact q4,q5,q6.same up⟩
  ·exact f.dj j k d1 d2 b (nx (fun _ z=>by cases z) h1).1 (nx (fun _ z=>by cases z) h2).1 h3 h4
  ·obtain ⟨h,hj⟩:=nx (fun _ z=>by cases z) h;obtain ⟨b,as,O⟩:=f.o2 j e h;refine ⟨b,as,O.at_,O.ob,O.nd,fun c hc=>⟨?_,(O.out c hc).2⟩,fun c hc k e' hk=>O.dj c hc k e' (nx (fun _ z=>by cases z) hk).1,O.inn.step (.refl _) up⟩;rw [aG (fun z=>O.dj c hc i d ho (by rw [z];exact k1))];exact (O.out c hc).1
  ·exact f.u2 j k d1 d2 (nx (fun _ z=>by cases z) h1).1 (nx (fun _ z=>by cases z) h2).1
 ·exact ⟨Hs,f⟩
theorem Ax (i:Nat)  (h:JS c st gs):JS c st (fun ρ=>gs (shareAt i ρ)):=.of fun ρ=>tm (h (shareAt i ρ)) fun D σ H h_2=>by
 obtain ⟨H0,Hs0,la,Hs,f,q⟩:=h_2;obtain ⟨Hs',f'⟩:=f.shareAt i;exact ⟨H0,Hs0,la,Hs',f',q⟩
end
end
section
open PyProof.Rows (OwnCls)
theorem HL (l:ac) (items:Array a9) (n:Nat) (b:ac) (dd:Option ac) (items2:Array a9) (n2:Nat) (sl:Array (Option a9)) (door:¬(!items.isEmpty&&fH (items.size+items2.size))=true) (z1:items.size<=sizeLine) (z2:items.size+items2.size<=sizeLine+1) :
  Meets (fY.«list.extend» ⟨[.ref l,.ref b],[]⟩) (fun _ R s=>s.heap.get? l=some { cls:=.type "list",data:=.seq items n }/\s.heap.get? b=some { cls:=.type "list",dict:=dd,data:=.seq items2 n2,slots:=sl } /\
   R (.ok (.ret cx)) { s with heap:=s.heap.update l (dB fun xs=>xs++items2),toks:=s.toks }) :=
 .of_wp fun prog w A R s h=>by
  obtain ⟨hp,gg,dr,tk,os⟩:=s;obtain ⟨hl,hb,h⟩:=h;have f1:=AutoSeq1.idx_int;have f2:=AutoSeq1.sub_tuple_tuple;have f3:=AutoSeq1.sub_list_list;have f4:=AutoSeq1.sub_tuple_list;have f5:=AutoSeq1.sub_list_tuple;have lF:(items++items2).size<=sizeLine+1:=by rw [Array.size_append];exact z2
  wp_walk using (i4 hl rfl (hz:=z1) (_hz':=lF)),wpAny_loadPart' hl,wpAny_loadPart' hb;exact ⟨_,rfl,h⟩
section
inductive J8 (K:a7) (x:V) (vs:List V) (H:Hp) (Q:VK):Prop
 |mk (l b xs zs:_) (h0:x=.ref l) (h1:vs=[.ref b]) (h2:H l=some (.lst xs)) (h3:jx K H b zs) (h4:xs.length+zs.length<=sizeLine) (h5:Q .non (upd H l (.lst (xs++zs)))):J8 K x vs H Q
def NQ (K:a7):V->List V->Hp->VK->Prop:=J8 K
theorem Ku:Nu X "list.extend" (NQ X.K):=by
 intro pins s σ H x vs v us Q I rx rv h;obtain ⟨l,b,xs,zs,rfl,rfl,hH,hB,hz,q⟩:=h;cases rx;obtain ⟨u,rfl,ru⟩:=rv.one;cases ru;obtain ⟨z,its,n,r,hl,e⟩:=I.lstM hH;obtain ⟨its2,r2,⟨⟨m1,m2,m3,m4⟩,n2,e2,d1,d2,d3⟩,z2⟩:=I.list hB;simp only at d1 d2 d3;subst d1 d2 d3;have len2:=r2.length;have fit:its.toArray.size+its2.toArray.size<=sizeLine:=by rw [aB,aB];omega
 refine sB Gi ⟨_,e,rfl⟩ G6 (Dm _ _) (HL l its.toArray n b _ its2.toArray n2 m4 ?_ (by omega) (by omega)) ⟨e,e2,?_⟩
 ·rw [xY fit,h_];exact aL
 ·refine ⟨.non,_,I.lset (its':=its++its2) hH e (by simp) (r.append r2) ?_,rfl,q⟩;rw [bo];omega
end
section
def Fe (i:Nat) (g:aD->R D):aD->R Fl:=fun ρ=>match ρ[i]? with
 |some (Sl.own (.list ds))=>(g ρ).bind fun d=>match d with
  |.list es=>if ds.length+es.length<=1000 then .ok (.nx (ρ.set i (.own (.list (ds++es))))) else .no
  |_=>.no
 |_=>.no
theorem CB (i:Nat) (h:JE c e g) (hN:c.X.N[i]?=some x:=by rfl) (hv:C1 c.X.env.scope x:=by first|exact eu rfl|exact cX (eu rfl)|exact cX (cX rfl)) (hd:(x==("__debug__" : Str))=false:=by decide)
  (hcd:(x==("__classdict__" : Str))=false:=by decide)
  (hbase:BQ (.Name x p) "extend" c.X.env (cQ (.Name x p) c.X.env)=cQ (.Name x p) c.X.env:=by rfl)
  (hfew:((cR cpos (ap [e] c.X.env)).all (fun x=>!x.1)&&(backToKw cpos (Gh [] c.X.env)).all (fun x=>x.1.isSome)
   && decide ([e].length+([] : List uC).length+(if ([] : List uC).isEmpty then 0 else 1)<30))=true:=by rfl)
  (hline:(apos.endLine==cpos.line)=true:=by rfl) (hst:ap [e] c.X.env=(false,cQ e c.X.env)::ap [] c.X.env:=by rfl) (hplain:(cR cpos (ap [] c.X.env)).any (·.1)=false:=by rfl)
  (hs:fP (.Call (.Attribute (.Name x p) "extend" apos) [e] [] cpos) none pos.line c.X.env=pure false:=by rfl) :
  JS c (.Expr (.Call (.Attribute (.Name x p) "extend" apos) [e] [] cpos) pos) (Fe i g):=.of fun ρ=>by
 refine tm (oS (vz dn jK jL Ku (jO hN hv hd hcd) (bD (h ρ) eE hst) hbase hfew hline hst hplain) hs) fun D σ H h_0=>?_;obtain ⟨H0,Hs0,la,Hs,f,q⟩:=h_0;replace q:kl c.X.K c.cls c.E H0 Hs0 la D (Fe i g ρ):=q;unfold Fe at q;split at q
 ·rename_i ds ho
  obtain ⟨a,o,k1,k2,k3,k4,k5⟩:=f.ow i _ ho;cases k5 with
  | @lst vs _ r =>
   refine ⟨_,k1,.inl ⟨rfl,_,.of k2⟩,?_⟩;refine sE f q fun d v H1 Hs1 e1 s1 f1 r1=>?_;rw [e1,bind_ok] at q;cases r1 with
   | @list b zs es sq rs =>
    simp only at q;by_cases hl:ds.length+es.length<=1000
    ·rw [if_pos hl] at q;have r':=r.same s1.sh;exact ⟨a,b,vs,zs,rfl,rfl,s1.all _ _ k2,f1.st.sub.seq sq,ba (bS (by rw [r.length,rs.length];exact hl)),q _ _ Hs1 (f1.write i ho k1 (.lst (r'.append rs)))⟩
    ·rw [if_neg hl] at q;exact q.elim
   |none=>exact q.elim
   |bool _=>exact q.elim
   |int _=>exact q.elim
   |str _=>exact q.elim
   |tuple _ _=>exact q.elim
   |dictK _ _=>exact q.elim
   |dictT _ _ _=>exact q.elim
   |dictF _ _ _=>exact q.elim
 ·exact q.elim
end
structure Er (mg:Str->Option a9) (base:aW) (cls:Str->ac) (x:Str):Prop where
 ex:∃ bmB newId initId Bn,OwnCls x (cls x) bmB newId mg base/\ExcBaseFacts Bn newId initId bmB
def m9 (x:Str) (gs:aD->R (List D)):aD->R Fl:=fun ρ=>(gs ρ).bind fun ds=>if ds.length<=1000 then .ex x none else .no
section
theorem md {x:Str}{np cpos pos:Pos}{e0:aQ}{b_:List aQ}{gs:aD->R (List D)} (R0:Er mg base cls x)
  (hg:Gl (g9 (iA P w) P w K mg base N qual scope f cd A outer s H E) x) (ha:xM ⟨g9 (iA P w) P w K mg base N qual scope f cd A outer s H E,cls,E⟩ (e0::b_) gs)
  (he:ap (e0::b_) (g9 (iA P w) P w K mg base N qual scope f cd A outer s H E).env=(false,cQ e0 (g9 (iA P w) P w K mg base N qual scope f cd A outer s H E).env)::ap b_ (g9 (iA P w) P w K mg base N qual scope f cd A outer s H E).env:=by rfl)
  (hdb:(x==("__debug__" : Str))=false:=by decide) (hpl:(cR cpos (ap b_ (g9 (iA P w) P w K mg base N qual scope f cd A outer s H E).env)).any (·.1)=false:=by rfl) :
  JS ⟨g9 (iA P w) P w K mg base N qual scope f cd A outer s H E,cls,E⟩ (.Raise (some (.Call (.Name x np) (e0::b_) [] cpos)) none pos) (m9 x gs):=.of fun ρ=>by
 obtain ⟨bmB,newId,initId,Bn,O,FB⟩:=R0.ex;refine tm (Eu O FB hg (ha ρ) he hdb hpl) fun D σ H1 h_1=>?_;obtain ⟨H0,Hs0,la,Hs,f,q⟩:=h_1;replace q:kl K cls E H0 Hs0 la D (m9 x gs ρ):=q;refine ⟨H0,Hs0,la,Hs,f,?_⟩;unfold m9 at q;cases hr:gs ρ with
 |no=>rw [hr] at q;exact q
 |ex y n=>rw [hr] at q;exact fun H' Hs' s=>q H' Hs' (f.st.trans s)
 |ok ds =>
  rw [hr,bind_ok] at q;intro vs H2 Hs2 s2 r2;by_cases hl:ds.length<=1000
  ·rw [if_pos hl] at q;exact ⟨ba (bS (by rw [r2.length];exact hl)),q H2 Hs2 (f.st.trans s2)⟩
  ·rw [if_neg hl] at q;exact q.elim
end
end
section
structure Bi (mg:Str->Option a9):Prop where
 len:mg "len"=none
 isinstance:mg "isinstance"=none
 all:mg "all"=none
 any:mg "any"=none
 zip:mg "zip"=none
 tuple:mg "tuple"=none
 list:mg "list"=none
 sorted:mg "sorted"=none
 set:mg "set"=none
 range:mg "range"=none
 enumerate:mg "enumerate"=none
 dict:mg "dict"=none
 sum:mg "sum"=none
 max:mg "max"=none
 min:mg "min"=none
 reversed:mg "reversed"=none
 str:mg "str"=none
 int:mg "int"=none
 bool:mg "bool"=none
end
section
structure Xf (K:a7) (base:aW) (cls:Str->ac) (names:List Str) (C:ac) (j:Nat):Prop where
 ek:Ew K C
 is:∀ i n,names[i]?=some n->cz K (.ref C) (.ref (cls n))=some (decide (i=j))
 ve:cz K (.ref C) (.type "ValueError")=some true
 ox:∃ bm,wM base C bm/\bm.contains (.ref (cls "PlanError"))=true
 lt:j<11
inductive J9 (K:a7) (base:aW) (cls:Str->ac) (names:List Str) (vs:List V) (H:Hp) (Q:VK) (z_3:XK):Prop
 |mk (ea C j:_) (h0:vs=[.ref ea]) (h1:H ea=some (s_ ea C)) (h2:Xf K base cls names C j) (h3:∀ t H',cb H H'->H t=none->H' t=some (.tup [.str "refused",.int (j:Nat)])->Q (.ref t) H'):J9 K base cls names vs H Q z_3
def Kv (K:a7) (base:aW) (cls:Str->ac) (names:List Str):Sp:=J9 K base cls names
def bits (j:Nat):List Bool:=[decide (0=j),decide (1=j),decide (2=j),decide (3=j),decide (4=j),decide (5=j),decide (6=j),decide (7=j),decide (8=j),decide (9=j),decide (10=j)]
theorem Ay:∀ j,j<11->(bits j).countP id=1:=by
 intro j h;have:∀ k:_root_.Fin 11,(bits k.val).countP id=1:=by decide
 exact this ⟨j,h⟩
theorem HM:∀ j,j<11->(bits j)[j]?=some true/\∀ m,m<j->(bits j)[m]?=some false:=by
 intro j h;have:∀ k:_root_.Fin 11,(bits k.val)[k.val]?=some true/\∀ m:_root_.Fin 11,m.val<k.val->(bits k.val)[m.val]?=some false:=by decide
 exact ⟨(this ⟨j,h⟩).1,fun m hm=>(this ⟨j,h⟩).2 ⟨m,by omega⟩ hm⟩
section
theorem j5   (h0:PE X e0 (DB 0)) (hg:Gl X "isinstance") (hm:X.mg "isinstance"=none) (hgn:Gl X n) (hmn:X.mg n=some (.ref (cls n))) (hdb:(n==("__debug__" : Str))=false:=by decide)
  (he:ap [e0,.Name n p2] X.env=(false,cQ e0 X.env)::ap [.Name n p2] X.env:=by rfl) (hpl:(cR pos (ap [.Name n p2] X.env)).any (·.1)=false:=by rfl) :
  PE X (.Call (.Name "isinstance" p) [e0,.Name n p2] [] pos) (fun σ H Q=>∃ ea C j i,σ[0]?=some (some (V.ref ea))/\H ea=some (s_ ea C)/\Xf X.K base cls names C j/\names[i]?=some n/\Q (.bl (decide (i=j))) H) :=
 lM (kg qW hg hm i5 (bD h0 (bD (oR hgn hmn (v:=.ref (cls n)) rfl hdb) eE) he) (by decide) (by decide) he hpl) fun σ H Q ⟨ea,C,j,i,h1,h2,x,h3,q⟩ =>
  ⟨_,h1,.ref ea,.ref (cls n),.ref (cls n),_,rfl,.inr ⟨_,rfl,rfl⟩,.inr ⟨ea,C,rfl,h2,x.ek,x.is i n h3⟩,q⟩
theorem HN  (h0:PE X e0 (DB 0)) (hg:Gl X "isinstance") (hm:X.mg "isinstance"=none) (hgn:Gl X "ValueError") (hmn:X.mg "ValueError"=none)
  (he:ap [e0,.Name "ValueError" p2] X.env=(false,cQ e0 X.env)::ap [.Name "ValueError" p2] X.env:=by rfl) (hpl:(cR pos (ap [.Name "ValueError" p2] X.env)).any (·.1)=false:=by rfl) :
  PE X (.Call (.Name "isinstance" p) [e0,.Name "ValueError" p2] [] pos) (fun σ H Q=>∃ ea C j,σ[0]?=some (some (V.ref ea))/\H ea=some (s_ ea C)/\Xf X.K base cls names C j/\Q (.bl true) H) :=
 lM (kg qW hg hm i5 (bD h0 (bD (AZ hgn hmn (u:=.type "ValueError") (v:=.ty "ValueError") rfl rfl) eE) he) (by decide) (by decide) he hpl) fun σ H Q ⟨ea,C,j,h1,h2,x,q⟩ =>
  ⟨_,h1,.ref ea,.ty "ValueError",.type "ValueError",_,rfl,.inl ⟨_,rfl,rfl⟩,.inr ⟨ea,C,rfl,h2,x.ek,x.ve⟩,q⟩
end
end
end J
section
namespace J
open PySem L2
def CC (wh:Str->Option Nat) (gb:aD->R Fl):aD->R Fl:=fun ρ=>match gb ρ with
 |.ok fl=>.ok fl
 |.ex y none=>match wh y with
  |some j=>.ok (.rt (.tuple [.str "refused",.int (j:Nat)]))
  |none=>.no
 |_=>.no
structure Wh (P:aJ) (w:aS) (K:a7) (mg:Str->Option a9) (base:aW) (cls:Str->ac) (x:Str) (names:List Str) (wh:Str->Option Nat):Prop where
 fn:∃ f fd ps,yq P w K mg base 1 f fd ps (Kv K base cls names)/\mg x=some (.ref f)/\bC K (.ref f)=true/\fD K fd ps []
 pe:mg "PlanError"=some (.ref (cls "PlanError"))
 ox:∃ bp,wM base (cls "PlanError") bp
 xf:∀ y j,wh y=some j->Xf K base cls names (cls y) j
section
end
end J
namespace L2
open PySem
theorem iZ.mono1  (r:iZ k A) (h:1<=k:=by decide):iZ 1 A:=⟨by have:=r.dp;omega,by have:=r.un;omega⟩
end L2
end
namespace J
open PySem L2
section
open PyProof.Rows (OwnCls)
abbrev HP:List a9:=[.type "ValueError",.type "Exception",.type "BaseException",.type "object"]
theorem Az {K:a7}{h:aW}{mg:Str->Option a9}{x:Str}{C:ac}{bmB:List a9}{newId:String} (X:K.In h) (G:h.Ns aO mg) (e:dC K aO x=some (some (.ref C))) (q:uI K C bmB newId=true) (m1:bH K C (.type "BaseException")=some true) :
  OwnCls x C bmB newId mg h/\∃ bm,wM h C bm/\∀ v,(v==bc C)=false->bH K C v=some true->bm.contains v=true:=by
 have hmg:=eX X G e;unfold uI at q;split at q
 ·rename_i dd cd sl look
  split at q
  ·rename_i C' bm k0 k1 k2 k3 n k5 hmro hslots
   simp only [ay,beq_iff_eq,Dt] at q;obtain ⟨⟨⟨⟨⟨rfl,rfl⟩,nodel⟩,tl⟩,nsok⟩,noinit⟩:=q;have slots:sl=#[k0,k1,k2,k3,some (.builtin n),k5]:=by
    cases sl with|mk l=>simp only at hslots;rw [hslots]
   have inMro:∀ v,bH K C' v=some true->cd.mro.contains v=true:=fun v hv=>by
    unfold bH el at hv;rw [look] at hv;simp only [qS] at hv;split at hv
    ·cases hv
    ·exact a_ hv
   have b_:∀ v,(v==bc C')=false->bH K C' v=some true->bm.contains v=true:=fun v nv hv=>by
    have:=inMro v hv;rw [hmro,jv,nv,kC] at this;exact this
   obtain ⟨nm,bs,mro,ns,qn,hd,sn,sub,ab,col,del⟩:=cd;dsimp only at hmro nodel nsok noinit;subst hmro nodel slots;have at_:=X _ _ look;exact ⟨⟨hmg,bm,ns,nm,qn,bs,hd,sn,sub,ab,col,dd,k0,k1,k2,k3,k5,_,at_,.of_isNs (iW X nsok),dh X nsok noinit,PySem.W.tail_of_in X tl⟩,
    bm,⟨⟨nm,qn,ns,bs,hd,sn,sub,ab,col,dd,k0,k1,k2,k3,k5,n,at_⟩,b_ _ rfl m1⟩,b_⟩
  ·cases q
 ·cases q
structure TopC (K:a7) (x:Str) (C:ac):Prop where
 ns:dC K aO x=some (some (.ref C))
 ex:uI K C HP "ValueError.__new__"=true
 mb:bH K C (.type "BaseException")=some true
theorem TopC.er {K:a7}{h:aW}{mg:Str->Option a9}{cls:Str->ac}{x:Str}{C:ac} (T:TopC K x C) (X:K.In h) (G:h.Ns aO mg) (hc:cls x=C):Er mg h cls x:=by
 subst hc;exact ⟨_,_,_,_,(Az X G T.ns T.ex T.mb).1,PySem.F.excBase_ValueError⟩
theorem HQ {K:a7}{t C:ac}{cd:ClassData}{b:Bool} (h1:el K C=some cd) (h2:sF K (.ref C)=some (.type "type")) (h3:jM K (.ref t) (.ref C)=some b) (hn:b=false->t≠C):cz K (.ref t) (.ref C)=some b:=by
 unfold cz;split
 ·rename_i he
  have e:t=C:=by have:=eq_of_beq he;cases this;rfl
  cases b with
  |true=>rfl
  |false=>exact (hn rfl e).elim
 ·unfold Du;simp only [h1,h2,oC,beq_self_eq_true,xK,if_true];exact h3
theorem Kw  (h3:jM K (.ref t) (.type "ValueError")=some true):cz K (.ref t) (.type "ValueError")=some true:=by
 unfold cz;split
 ·rename_i he
  cases (eq_of_beq he)
 ·unfold Du;show (if PySem.W.kitMeta "ValueError"=true then _ else none)=some true;rw [if_pos (by decide +kernel)];exact h3
inductive Mm (K:a7) (F:List D->R D) (vs:List V) (H:Hp) (Q:VK) (z_3:XK):Prop
 |mk (Hs ds d:_) (h0:cb Hs H) (h1:ds.length=1) (h2:RDs K Hs vs ds) (h3:F ds=.ok d) (h4:∀ v H' Hs',bN H Hs H' Hs'->RD K Hs' v d->Q v H'):Mm K F vs H Q z_3
def Mn (K:a7) (F:List D->R D):Sp:=Mm K F
theorem Kx   : ∀ vs H Q E,Mn K F vs H Q E->EV K cls 1 F vs H Q E:=fun vs H Q E ⟨Hs,ds,d,s,l,r,e,q⟩=>⟨Hs,ds,s,l,r,by rw [e];exact q⟩
def Mo (l:List (Str×ac)):Str->ac:=fun x=>(l.lookup x).getD 0
theorem Ky {K:a7}{F:List D->R D}{H:Hp}{a:ac}{ns:List Int} (hF:F [.list (ns.map .int)]=.ok (.bool true)) (h:jx K H a (ns.map V.int)):Mn K F [.ref a] H (fun v _=>v=.bl true) fun _ _ _=>False:=by
 have ri:∀ ns:List Int,RDs K H (ns.map V.int) (ns.map .int):=fun ns=>by
  induction ns with
  |nil=>exact .nil
  |cons x r ih=>exact .cons (.int x) ih
 refine ⟨H,[.list (ns.map .int)],.bool true,.refl H,rfl,.cons (.list h (ri ns)) .nil,hF,?_⟩;intro v H' Hs' _ r;cases r;rfl
theorem Kz      (h:iA P w [] H s (fun _ _ _=>False) e s'):False:=by
 obtain ⟨_,_,_,_,_,_,_,_,_,q⟩:=h;exact q
theorem walkF {l:rz}{k:Nat}{q:aJ}{loose:List Str}{XP:(Str->Option a9)->aW->Prop}{YP:aS->aW->Prop}{d:DefRec}{K:Params->a7}{x:Str}{F0:List D->R D}
  (hn:l.most=some 63) (hdf:d.params.defaults=[]) (hr:eL k qQ) (c0 P0:ac) (q0:Str) (hY:∀ (w:aS) (h:aW),YP w h->(K w.params).In h) (hT:∀ (w:aS) (h:aW),YP w h->h.get? P0=some { cls:=.none,data:=.fields #[] }) (hTK:∀ w:aS,nW (K w.params) c0 P0 q0=true)
  (F:∀ (w:aS) (mg:Str->Option a9) (fa:ac) (h:aW),(K w.params).In h->h.Ns aO mg->mg d.name=some (.ref fa) ->
   ∃ fd:cp,(∀ (s:ae) (u:a9),qO s fd ⟨[u],[]⟩ [(x,u)])/\∀ base:aW,(K w.params).In base->base.Ns aO mg->kS l.prog w (K w.params) mg base (iA l.prog w) k fa fd [x] (Mn (K w.params) F0))
  (hF:∀ ns:List Int,ns.length<=63->F0 [.list (ns.map .int)]=.ok (.bool true)) :
  G7 q loose XP YP l.row.toRowW d [] (fun f vs=>BR f vs) :=
 L2.G_ (n:=63) (k:=k) (x:=x) (CX:=fun w=>iA l.prog w) (sp:=fun w=>Mn (K w.params) F0) hn (by decide) hdf hr c0 P0 q0 hY hT hTK F (fun w H a ns hl _ hS=>Ky (hF ns hl) hS) fun _ _ _ _ _ h=>Kz h
def Mp (i:Nat) (g:aD->R Fl):aD->R Fl:=fun ρ=>g (shareAt i ρ)
theorem Ff (i:Nat)  (h:JS c st gs):JS c st (Mp i gs):=Ax i h
end
section
section
theorem Mq {α β:Type} (a:α) (f:α->R β):(R.ok a).bind f=f a:=id rfl
def KA (h:aD->R Fl):Fl->R Fl:=fun fl=>match fl with
 |.nx ρ'=>h ρ'
 |fl=>.ok fl
theorem Ja (g h:aD->R Fl):bj g h (s::ρ)=(g (s::ρ)).bind (KA h):=id rfl
theorem yK (h:aD->R Fl) (ρ:aD):KA h (.nx ρ)=h ρ:=id rfl
theorem yL (h:aD->R Fl) (d:D):KA h (.rt d)=.ok (.rt d):=id rfl
def OB (g h:aD->R Fl) (ρ:aD):Bool->R Fl:=fun b=>bif b then g ρ else h ρ
theorem NR (t:aD->R Bool) (g h:aD->R Fl):eM t g h (s::ρ)=(t (s::ρ)).bind (OB g h (s::ρ)):=by
 show (t (s::ρ)).bind _=_;congr 1;funext b;cases b<;>rfl
theorem Fg (g h:aD->R Fl) (ρ:aD) (b:Bool):OB g h ρ b=bif b then g ρ else h ρ:=id rfl
def OC:D->R Fl:=fun d=>.ok (.rt d)
theorem Jb (g:aD->R D):cH g (s::ρ)=(g (cL (s::ρ))).bind OC:=id rfl
theorem Mr (d:D):OC d=.ok (.rt d):=id rfl
def Fh:Sl->Sl
 |.own d=>.shr d
 |.ow2 dss=>.shr (.list (dss.map .list))
 |s=>s
theorem Bg:cL (s::ρ)=Fh s::cL ρ:=by cases s<;>rfl
theorem yM:cL []=[]:=id rfl
theorem yN (d:D):Fh (.shr d)=.shr d:=id rfl
def Ms (i:Nat) (ρ:aD):D->R Fl:=fun d=>.ok (.nx (ρ.set i (.shr d)))
theorem Jc (i:Nat) (g:aD->R D):iM i g (s::ρ)=(g (s::ρ)).bind (Ms i (s::ρ)):=id rfl
theorem Fi (i:Nat) (ρ:aD) (d:D):Ms i ρ d=.ok (.nx (ρ.set i (.shr d))):=id rfl
def OD (gb:aD->R D) (h:D->D->R D) (ρ:aD):D->R D:=fun x=>(gb ρ).bind (h x)
theorem Mt (ga gb:aD->R D) (h:D->D->R D):g2 ga gb h (s::ρ)=(ga (s::ρ)).bind (OD gb h (s::ρ)):=id rfl
theorem Jd (gb:aD->R D) (h:D->D->R D) (ρ:aD) (x:D):OD gb h ρ x=(gb ρ).bind (h x):=id rfl
def Mu:D->R Bool:=fun d=>match d with
 |.bool b=>.ok b
 |_=>.no
theorem Je (g:aD->R D):gW g (s::ρ)=(g (s::ρ)).bind Mu:=id rfl
theorem Fj (b:Bool):Mu (.bool b)=.ok b:=id rfl
def Fk (gs:aD->R (List D)) (ρ:aD):D->R (List D):=fun d=>(gs ρ).bind fun ds=>.ok (d::ds)
def Fm (d:D):List D->R (List D):=fun ds=>.ok (d::ds)
theorem Fo (g:aD->R D) (gs:aD->R (List D)):J.aa g gs (s::ρ)=(g (s::ρ)).bind (Fk gs (s::ρ)):=id rfl
theorem yO (gs:aD->R (List D)) (ρ:aD) (d:D):Fk gs ρ d=(gs ρ).bind (Fm d):=id rfl
theorem yP (d:D) (ds:List D):Fm d ds=.ok (d::ds):=id rfl
theorem Jf (ρ:aD):J.aF ρ=.ok []:=id rfl
def Jg (k:List D->D):List D->R D:=fun ds=>if ds.length<=1000 then .ok (k ds) else .no
theorem Fp (gs:aD->R (List D)) (k:List D->D):bf gs k (s::ρ)=(gs (s::ρ)).bind (Jg k):=id rfl
theorem Bh (k:List D->D) (ds:List D):Jg k ds=if ds.length<=1000 then .ok (k ds) else .no:=id rfl
theorem Fq (gs:aD->R (List D)) (h:List D->R D):dU gs h (s::ρ)=(gs (s::ρ)).bind h:=id rfl
def OE (n:Nat) (F:List D->R D):List D->R D:=fun ds=>if ds.length=n then F ds else .no
theorem Mv (n:Nat) (F:List D->R D) (gs:aD->R (List D)):eV n F gs (s::ρ)=(gs (s::ρ)).bind (OE n F):=id rfl
theorem Jh (n:Nat) (F:List D->R D) (ds:List D):OE n F ds=if ds.length=n then F ds else .no:=id rfl
theorem Ji (h:D->R D) (d:D):lE h [d]=h d:=id rfl
theorem Ft (d:D) (ρ:aD):Ap (.shr d::ρ) 0=.ok d:=id rfl
theorem Jj (s:Sl) (ρ:aD) (n:Nat):Ap (s::ρ) (n+1)=Ap ρ n:=by simp [Ap]
theorem Fv (d:D) (ρ:aD):Cq (.shr d::ρ) 0=.ok d:=id rfl
theorem Jk (s:Sl) (ρ:aD) (n:Nat):Cq (s::ρ) (n+1)=Cq ρ n:=by simp [Cq]
end
end
end J
section
namespace L2
open PySem PySem.Spec PyProof.Rows
theorem Fx {X:Cx}{CX:A6}{k i:Nat}{f:ac}{fd:cp}{ps:List Str}{sp:Sp}{x:Str}{p pos:Pos}{e:aQ}{es:List aQ}{t:TA}{E:XK}{ds:List a9}{dvs:List V}
  (F:kS X.prog X.w X.K X.mg X.base CX k f fd ps sp) (hr:eL k X.A) (hN:X.N[i]?=some x) (hv:C1 X.env.scope x) (hk:bC X.K (.ref f)=true) (hb:fD X.K fd ps ds) (hd:cu dvs ds) (hx:fS CX X E)
  (ha:PA X (e::es) t) (hdb:(x==("__debug__" : Str))=false:=by decide) (hcd:(x==("__classdict__" : Str))=false:=by decide) (he:ap (e::es) X.env=(false,cQ e X.env)::ap es X.env:=by rfl) (hpl:(cR pos (ap es X.env)).any (·.1)=false:=by rfl) :
  PE X (.Call (.Name x p) (e::es) [] pos) (fun σ H Q=>σ[i]?=some (some (V.ref f))/\xV sp dvs E t σ H Q):=by
 intro pins s σ H Q I ⟨hi,h⟩;refine fv (dX (jO hN hv hdb hcd pins s σ H (fun v H'=>v=V.ref f/\H'=H) I ⟨.ref f,hi,rfl,rfl⟩) fun u s0 ⟨v,H0,I0,r0,ev,eh⟩=>?_);subst ev eh;cases r0;refine nM (h₀:=X.base) I0.ok.mod.kin hk (dX (ha pos pins s0 σ H0 _ I0 h) fun us s1 ⟨vs,H1,I1,r,q⟩=>⟨I1.kIn,?_⟩) he hpl;exact DT F hr hb hd hx I1 r q
end L2
namespace J
open PySem L2
open PyProof.Rows (envOfC)
def Jl (wh:Str->Option Nat):R D->R D
 |.ok d=>.ok d
 |.ex y none=>match wh y with
  |some j=>.ok (.tuple [.str "refused",.int (j:Nat)])
  |none=>.no
 |_=>.no
def dL (wh:Str->Option Nat) (F:List D->R D):List D->R D:=fun ds=>Jl wh (F ds)
def NS (K:a7) (cls:Str->ac) (n:Nat) (a:ac) (F:List D->R D):Sp:=fun vs H Q E=>∃ vs',vs=V.ref a::vs'/\EV K cls n F vs' H Q E
structure Lh (P:aJ) (w:aS) (K:a7) (mg:Str->Option a9) (base:aW) (cls:Str->ac) (x y:Str) (k n:Nat) (F:List D->R D):Prop where
 ex:∃ f fd ps a,kS P w K mg base (iA P w) k f fd ps (NS K cls n a F)/\mg x=some (.ref f)/\bC K (.ref f)=true/\fD K fd ps []/\mg y=some (.ref a)
section
theorem HR  (G:Lh c.X.prog c.X.w c.X.K c.X.mg c.X.base c.cls x y k n F) (hr:eL k c.X.A) (hg:Gl c.X x) (hgy:Gl c.X y) (hx:fS (iA c.X.prog c.X.w) c.X c.E) (ha:xM c es gs)
  (hdb:(x==("__debug__" : Str))=false:=by decide) (hdy:(y==("__debug__" : Str))=false:=by decide) (he:ap (.Name y q::es) c.X.env=(false,cQ (.Name y q) c.X.env)::ap es c.X.env:=by rfl) (hpl:(cR pos (ap es c.X.env)).any (·.1)=false:=by rfl) :
  JE c (.Call (.Name x p) (.Name y q::es) [] pos) (eV n F gs):=.of fun ρ=>by
 obtain ⟨f,fd,ps,a,hf,hm,hk,hb,hy⟩:=G.ex;refine lM (wu (E:=c.E) hf hr hg hm hk hb .nil hx (bD (oR (v:=.ref a) hgy hy rfl hdy) (ha ρ) he) hdb he hpl) fun σ H Q h_0=>?_;obtain ⟨H0,Hs0,la,Hs,fr,q⟩:=h_0;show Ki c.X.K c.cls c.E ρ (gs ρ) σ H fun xs H2=>NS c.X.K c.cls n a F (V.ref a::xs++[]) H2 Q c.E;refine wO fr q fun ds vs H1 Hs1 e1 s1 f1 r1=>?_;unfold eV at q;rw [e1,bind_ok] at q;by_cases hn:ds.length=n
 ·rw [if_pos hn] at q;rw [bT];exact ⟨vs,rfl,Hs1,ds,f1.st.sub,hn,r1,q.on s1 fun d k v H2 Hs2 s2 r2=>k v H2 Hs2 (s1.trans s2) r2⟩
 ·rw [if_neg hn] at q;exact q.elim
theorem KB {i k n:Nat}{F:List D->R D}{f:ac}{fd:cp}{ps:List Str} (hf:kS c.X.prog c.X.w c.X.K c.X.mg c.X.base (iA c.X.prog c.X.w) k f fd ps (EV c.X.K c.cls n F)) (hk:bC c.X.K (.ref f)=true) (hb:fD c.X.K fd ps []) (hr:eL k c.X.A) (hx:fS (iA c.X.prog c.X.w) c.X c.E) (ha:xM c (e::es) gs)
  (hN:c.X.N[i]?=some x:=by rfl) (hv:C1 c.X.env.scope x:=by first|exact eu rfl|exact cX (eu rfl)|exact cX (cX rfl)) (hdb:(x==("__debug__" : Str))=false:=by decide) (hcd:(x==("__classdict__" : Str))=false:=by decide) (he:ap (e::es) c.X.env=(false,cQ e c.X.env)::ap es c.X.env:=by rfl) (hpl:(cR pos (ap es c.X.env)).any (·.1)=false:=by rfl) (ρ:aD) :
  PS c.X (.Return (some (.Call (.Name x p) (e::es) [] pos)) rpos) (fun D σ H=>σ[i]?=some (some (V.ref f))/\SR c.X.K c.cls c.E ρ (cH (eV n F gs) ρ) D σ H):=by
 refine tm (wn (Fx (E:=c.E) hf hr hN hv hk hb .nil hx (ha (cL ρ)) hdb hcd he hpl)) fun D σ H ⟨hi,H0,Hs0,la,Hs,fr,q⟩=>⟨hi,?_⟩;obtain ⟨Hs',f'⟩:=fr.shared;have t:TR c.X.K c.cls c.E (cL ρ) (eV n F gs (cL ρ)) σ H D.rt:=sE f' q fun d v H1 Hs1 e1 s1 f1 r1=>by
  unfold cH at q;rw [e1,bind_ok] at q;exact q v H1 Hs1 f1.st r1
 clear q f' fr;obtain ⟨H0,Hs0,la,Hs,fr,q⟩:=t;show Ki c.X.K c.cls c.E (cL ρ) (gs (cL ρ)) σ H fun xs H2=>EV c.X.K c.cls n F (xs++[]) H2 D.rt c.E;refine wO fr q fun ds vs H1 Hs1 e1 s1 f1 r1=>?_;unfold eV at q;rw [e1,bind_ok] at q;by_cases hn:ds.length=n
 ·rw [if_pos hn] at q;rw [bT];exact ⟨Hs1,ds,f1.st.sub,hn,r1,q.on s1 fun d k v H2 Hs2 s2 r2=>k v H2 Hs2 (s1.trans s2) r2⟩
 ·rw [if_neg hn] at q;exact q.elim
end
section
variable {c:C}{body:List cy}{x n:Str}{np np2 np3 hpos cpos rpos pos:Pos}{gb:aD->R Fl}{names:List Str}{wh:Str->Option Nat}
theorem KC (i j:Nat)  (W:Wh c.X.prog c.X.w c.X.K c.X.mg c.X.base c.cls x names wh) (hb:∀ (E:XK) (xe:a9->ae->Prop) (pn:List (ac×Obj)),fS (iA c.X.prog c.X.w) (IT c.X xe pn) E->uA (IT c.X xe pn) body (fun D σ H=>σ[j]?=some (some (V.ref a))/\SR c.X.K c.cls E ρ (gb ρ) D σ H))
  (hr:iZ 1 c.X.A) (hgx:Gl c.X x) (hg:Gl c.X "PlanError") (hN:c.X.N.Nodup) (hi:c.X.N[i]?=some n:=by rfl) (hn:c.X.env.scope.names.lookup n=some .local:=by rfl)
  (hst:∃ l,c.X.stack=c.X.env::l/\c.X.env.frame=some c.X.env.locals:=by exact ⟨_,rfl,rfl⟩) (hex:c.X.ex=[]:=by rfl) (hdb:(x==("__debug__" : Str))=false:=by decide) (hd:(n==("__debug__" : Str))=false:=by decide) (hcd:(n==("__classdict__" : Str))=false:=by decide) :
  PS c.X (.Try body [.ExceptHandler (some (.Name "PlanError" np)) (some n) [.Return (some (.Call (.Name x np2) [.Name n np3] [] cpos)) rpos] hpos] [] [] pos) (fun D σ H=>σ[j]?=some (some (V.ref a))/\SR c.X.K c.cls c.E ρ (CC wh gb ρ) D σ H):=by
 obtain ⟨f,fd,ps,F,hm,hk,hbn⟩:=W.fn;obtain ⟨bp,y⟩:=W.ox;have hs:∀ ea,uA (Lc c.X ea) [.Return (some (.Call (.Name x np2) [.Name n np3] [] cpos)) rpos] (Ln (xV (Kv c.X.K c.X.base c.cls names) [] E0 (A_ (DB i) GO))):=fun ea =>
  mE (wn (Ey (X:=Lc c.X ea) F (hr.mark _) hgx hm hk hbn (bD (jO hi (.inl hn) hd hcd) eE) hdb))
 refine tm (Kf hg W.pe y hN hi hn hst hex (tb:=fun E D σ H=>σ[j]?=some (some (V.ref a))/\SR c.X.K c.cls E ρ (gb ρ) D σ H) (fun E xe pn hp=>hb E xe pn hp) hs) fun D σ H h_1=>?_;obtain ⟨hj,H0,Hs0,la,Hs,fr,q⟩:=h_1;replace q:kl c.X.K c.cls c.E H0 Hs0 la D (CC wh gb ρ):=q;refine ⟨hj,H0,Hs0,la,Hs,fr,?_⟩;unfold CC at q;cases hr':gb ρ with
 |no=>rw [hr'] at q;exact q
 |ok fl =>
  rw [hr'] at q;cases fl<;>exact q
 |ex z m =>
  rw [hr'] at q;cases m with
  |some d=>exact q.elim
  |none =>
   simp only at q;cases hw:wh z with
   |none=>rw [hw] at q;exact q.elim
   |some j =>
    rw [hw] at q;have X0:=W.xf z j hw;intro H' Hs' st;obtain ⟨bm,o1,o2⟩:=X0.ox;refine ⟨c.cls z,bm,rfl,o1,o2,fun ea hea=>?_⟩;have hl:i<c.X.N.length:=(List.getElem?_eq_some_iff.mp hi).1;refine ⟨.ref ea,aE (by simpa [t5] using hl),ea,c.cls z,j,rfl,aH,X0,fun t H2 sm ht hT=>?_⟩;have s1:cb H' (upd H' ea (s_ ea (c.cls z))):=gX hea;have ht':H' t=none:=s1.free ht;refine q (.ref t) H2 (upd Hs' t (.tup [.str "refused",.int (j:Nat)])) ?_ (.tuple aH (.cons (.str _) (.cons (.int _) .nil)));refine st.trans ⟨s1.trans sm,gX (st.sub.free ht'),fun b u e=>?_,fun a o e _ z=>by rw [aG (aI e ht')];exact z⟩;by_cases hb':b=t
    ·subst hb';rw [aH] at e;cases e;exact hT
    ·rw [aG hb'] at e;exact sm b u (s1 b u (st.sub b u e))
end
theorem Fr.consNo     (f:Fr K H0 Hs0 (fun _=>none) ρ σ H Hs):Fr K H0 Hs0 (fun _=>none) (.no::ρ) (some v::σ) H Hs:=by
 refine ⟨f.st,congrArg (· + 1) f.len,fun i d h=>?_,fun i d h=>?_,fun i d h=>?_,fun i j d e a h1 h2 h3 h4=>?_,fun i a h=>(nomatch h),fun i d h=>?_,fun i j d e h1 h2=>?_⟩
 ·cases i with
  |zero=>cases h
  |succ i=>exact f.sh i d h
 ·cases i with
  |zero=>cases h
  |succ i=>exact f.ow i d h
 ·cases i with
  |zero=>cases h
  |succ i=>exact f.lk i d h
 ·cases i with
  |zero=>cases h1
  |succ i =>
   cases j with
   |zero=>cases h2
   |succ j=>exact congrArg (· + 1) (f.dj i j d e a h1 h2 h3 h4)
 ·cases i with
  |zero=>cases h
  |succ i =>
   obtain ⟨a,as,o⟩:=f.o2 i d h;refine ⟨a,as,o.at_,o.ob,o.nd,o.out,fun b hb j e h1=>?_,o.inn⟩;cases j with
   |zero=>cases h1
   |succ j=>exact o.dj b hb j e h1
 ·cases i with
  |zero=>cases h1
  |succ i =>
   cases j with
   |zero=>cases h2
   |succ j=>exact congrArg (· + 1) (f.u2 i j d e h1 h2)
def HS (n:Nat) (g:aD->R Fl):List D->R D:=fun ds=>match g (.no::fe n ds) with
 |.ok (.nx _)=>.ok .none
 |.ok (.rt d)=>.ok d
 |.ex c m=>.ex c m
 |_=>.no
theorem HU              (Fu:wz K x qual st f fd) (S:bq (x0::N) ps (aw st)) (hm:mg x=some (.ref f)) (hb:fD K fd ps []) (hy:mg y=some (.ref a)) (hps:ps.length=n+1)
  (h:∀ (cdv:a9) (A:aR) (outer:List Env) (s:ae) (H:Hp) (E:XK),eL k (A.deeper (envOfC qual (aw st) s.heap.objs.size f cdv))->∀ ρ,uA (g9 (iA P w) P w K mg base (x0::N) qual (aw st) f cdv A outer s H E) (du st) (fun D σ H=>σ[0]?=some (some (V.ref a))/\SR K cls E ρ (g ρ) D σ H))
  (hF:∀ ds,ds.length=n->HS N.length g ds=F ds):Lh P w K mg base cls x y (k+1) n F:=by
 refine ⟨f,fd,ps,a,?_,hm,Fu.kp,hb,hy⟩;obtain ⟨oc,od,kV,doc,pm,an,cdv,ct,osl,rfl,lk,hcd⟩:=Fu.ex;refine DU lk hcd S (fun vs H Q E h_2=>by obtain ⟨vs',e,Hs,ds,sub,hn,r,q⟩:=h_2;exact by rw [e,bE,r.length,hn,hps]) fun A outer s H vs Q E hr hsp=>?_;obtain ⟨vs',rfl,Hs,ds,sub,hn,r,q⟩:=hsp;have fs:Fr K H Hs (fun _=>none) (.no::fe N.length ds) (L2.start (x0::N) (V.ref a::vs')) H Hs:=by
  have:=(Fr.start (N:=N) sub r).consNo (v:=V.ref a);have e:L2.start (x0::N) (V.ref a::vs')=some (V.ref a)::L2.start N vs':=by
   unfold L2.start;rw [bO,bE,bE,Nat.add_sub_add_right];rfl
  rw [e];exact this
 refine ⟨_,h cdv A outer s H E hr (.no::fe N.length ds),rfl,H,Hs,_,Hs,fs,?_⟩;rw [<- hF ds hn] at q;unfold HS at q;cases hg:g (.no::fe N.length ds) with
 |no=>rw [hg] at q;exact q
 |ex c n=>rw [hg] at q;exact q
 |ok fl =>
  rw [hg] at q;cases fl with
  |nx ρ'=>exact fun σ' H' Hs' f'=>q .non H' Hs' f'.st .none
  |rt d=>exact fun v H' Hs' s r=>q v H' Hs' s r
  |bk ρ'=>exact q.elim
  |ct ρ'=>exact q.elim
theorem Fz      (h:gs (cL (.no::fe m ds))=.ok ds) (hl:ds.length=n):HS m (CC wh (cH (eV n F gs))) ds=dL wh F ds:=by
 unfold HS CC cH eV dL Jl;rw [h,bind_ok,if_pos hl];cases F ds with
 |ok d=>rfl
 |no=>rfl
 |ex z o =>
  cases o with
  |some d=>rfl
  |none =>
   show (match (match wh z with
    |some j=>R.ok (Fl.rt (.tuple [.str "refused",.int (j:Nat)]))
    |none=>R.no:R Fl) with
    |.ok (.nx _)=>R.ok PyData.none
    |.ok (.rt d)=>.ok d
    |.ex c m=>.ex c m
    |_=>.no)=_
   cases hw:wh z<;>simp only [hw]
theorem P5 {α:Type}{us:List α} (h:us.length=1):∃ a,us=[a]:=by
 rcases us with _|⟨a0,_|⟨z,r⟩⟩
 ·simp at h
 ·exact ⟨_,rfl⟩
 ·simp at h
theorem NT {α:Type}{us:List α} (h:us.length=2):∃ a b,us=[a,b]:=by
 rcases us with _|⟨a0,_|⟨a0,_|⟨z,r⟩⟩⟩
 ·simp at h
 ·simp at h
 ·exact ⟨_,_,rfl⟩
 ·simp at h
theorem P6 {α:Type}{us:List α} (h:us.length=3):∃ a b c,us=[a,b,c]:=by
 rcases us with _|⟨a0,_|⟨a0,_|⟨a0,_|⟨z,r⟩⟩⟩⟩
 ·simp at h
 ·simp at h
 ·simp at h
 ·exact ⟨_,_,_,rfl⟩
 ·simp at h
theorem P7 {α:Type}{us:List α} (h:us.length=4):∃ a b c d,us=[a,b,c,d]:=by
 rcases us with _|⟨a0,_|⟨a0,_|⟨a0,_|⟨a0,_|⟨z,r⟩⟩⟩⟩⟩
 ·simp at h
 ·simp at h
 ·simp at h
 ·simp at h
 ·exact ⟨_,_,_,_,rfl⟩
 ·simp at h
theorem P8 {α:Type}{us:List α} (h:us.length=5):∃ a b c d e,us=[a,b,c,d,e]:=by
 rcases us with _|⟨a0,_|⟨a0,_|⟨a0,_|⟨a0,_|⟨a0,_|⟨z,r⟩⟩⟩⟩⟩⟩
 ·simp at h
 ·simp at h
 ·simp at h
 ·simp at h
 ·simp at h
 ·exact ⟨_,_,_,_,_,rfl⟩
 ·simp at h
end J
end
namespace J
open PySem L2
section
section
end
end
end J
section
namespace HT
open PySem PyProof.Rows
section
open PySem.SeqAt
open PySem.AutoSeq1 (wpAny_loadPart')
open PySem.MeetsSeq PySem.MeetsSeq2 PySem.MeetsSeq3
end
end HT
namespace L2
open PySem PySem.Spec PyProof.Rows
section
variable {X:Cx}{e st:aQ}{te ts:TE}{pos p2:Pos}
end
end L2
namespace J
open PySem L2
section
variable {c:C}{e:aQ}{g:aD->R D}{pos p2 p3 p4:Pos}
end
end J
end
section
namespace L2
open PySem
def Dg (mask:Nat):Nat->Nat×Nat->Nat×Nat
 | 0,x=>x
 |n+1,x=>Dg mask n (SetTable.leap mask x.1 x.2)
theorem Bj (mask:Nat):∀ (n m:Nat) (x:Nat×Nat),Dg mask (n+m) x=Dg mask m (Dg mask n x)
 | 0,m,x=>by rw [Nat.zero_add];rfl
 |n+1,m,x=>by
  rw [Nat.succ_add];exact Bj mask n m _
theorem Bk (mask:Nat):∀ (n:Nat) (x:Nat×Nat),(Dg mask n x).2=x.2 / 32 ^ n
 | 0,x=>by simp [Dg]
 |n+1,x=>by
  show (Dg mask n _).2=_;rw [Bk mask n];show x.2 / 32 / 32 ^ n=_;rw [Nat.div_div_eq_div_mul,Nat.pow_succ,Nat.mul_comm]
theorem Bl (mask:Nat):∀ (n:Nat) (x:Nat×Nat),x.1<=mask->(Dg mask n x).1<=mask
 | 0,x,h=>h
 |n+1,x,h=>Bl mask n _ (by
  show (x.1*5+1+x.2 / 32) % (mask+1)<=mask;exact rF (wf _ (zU _)))
theorem vL  : ∀ (fuel i p:Nat),cF mask owner fuel i p=none->∀ n,n<fuel->(owner.getD (Dg mask n (i,p)).1 (some 0)).isSome=true
 | 0,_,_,_,n,h=>absurd h (Nat.not_lt_zero n)
 |fuel+1,i,p,e,n,h=>by
  unfold cF at e;split at e
  ·cases e
  ·rename_i hf
   cases n with
   |zero =>
    have h0:=List.find?_eq_none.mp hf 0 (List.mem_range.mpr (by unfold SetTable.runEnd;split<;>omega));simp only [Nat.add_zero] at h0;show (owner.getD i (some 0)).isSome=true;cases q:owner.getD i (some 0) with
    |none=>rw [q] at h0;exact absurd rfl h0
    |some _=>rfl
   |succ n=>exact vL fuel _ _ e n (zV h)
theorem vM  : ∀ (fuel i p k:Nat),cF mask owner fuel i p=some k->owner.getD k (some 0)=none
 | 0,_,_,_,e=>nomatch e
 |fuel+1,i,p,k,e=>by
  unfold cF at e;split at e
  ·rename_i k' hf
   cases e;have:=List.find?_some hf;cases q:owner.getD (i+k') (some 0) with
   |none=>rfl
   |some _=>rw [q] at this;cases this
  ·exact vM fuel _ _ k e
def Dh (mask:Nat):Prop:=mask=7\/mask=15\/mask=31
def Mw (mask:Nat):Bool:=(bR (mask+1)).all fun i=>(bR (mask+1)).all fun j=>(bR (mask+1)).any fun n=>decide ((Dg mask n (i,0)).1=j)
theorem HV (h:Dh mask):Mw mask=true:=by
 rcases h with h|h|h<;>subst h<;>decide +kernel
theorem getD_none {owner:Array (Option Nat)}{k:Nat} (h:owner.getD k (some 0)=none):owner.toList[k]?=some none:=by
 by_cases hk:k<owner.size
 ·rw [fm,fZ hk] at h;rw [cB,fZ hk];simpa using h
 ·rw [fm,xN (by omega)] at h;cases h
theorem CD {mask:Nat} (hm:Dh mask) {owner:Array (Option Nat)}{j:Nat} (hj:j<=mask) (hn:owner.toList[j]?=some none) {i p:Nat} (hi:i<=mask) (hp:p<2 ^ 64) :
  ∃ k,cF mask owner (lK mask) i p=some k/\owner.toList[k]?=some none:=by
 cases e:cF mask owner (lK mask) i p with
 |some k=>exact ⟨k,rfl,getD_none (vM _ _ _ _ e)⟩
 |none =>
  exfalso;have hz:(Dg mask 13 (i,p)).2=0:=by
   rw [Bk];exact Nat.div_eq_of_lt (au hp (by decide))
  have h1:=Bl mask 13 (i,p) hi;have g:=HV hm;unfold Mw at g;rw [cU] at g;have g:=g _ (List.mem_range.mpr (kE h1));rw [cU] at g;have g:=g j (List.mem_range.mpr (kE hj));rw [rY] at g;obtain ⟨n,hn1,hn2⟩:=g;have hn1:=List.mem_range.mp hn1;have hn2:=of_decide_eq_true hn2;have hs:(Dg mask (13+n) (i,p)).1=j:=by
   rw [Bj,<- hn2,<- hz]
  have:=vL _ _ _ e (13+n) (by unfold lK;omega);rw [hs] at this;have hq:owner.getD j (some 0)=none:=by
   rw [cB] at hn;rw [fm,hn];rfl
  rw [hq] at this;cases this
theorem HW (h:Int):jw h<2 ^ 64:=by
 unfold jw;have:=jN h (show (0:Int)<2 ^ 64 by decide);have:=mC h (show (2 ^ 64:Int)≠0 by decide);omega
theorem yQ:∀ {l:List (Option Nat)}{j:Nat},l[j]?=some none->((l.set j (some k)).filterMap id).Perm (k::l.filterMap id)
 |[],_,h=>nomatch h
 |x::r,0,h=>by
  cases h;exact .refl _
 |x::r,j+1,h=>by
  have ih:=yQ (k:=k) (l:=r) (j:=j) h;cases x with
  |none=>exact ih
  |some y=>exact (ih.cons y).trans (.swap k y _)
theorem yR:∀ {l:List (Option Nat)},(l.filterMap id).length<l.length->∃ j,j<l.length/\l[j]?=some none
 |[],h=>absurd h (bX 0)
 |none::r,_=>⟨0,zU _,rfl⟩
 |some y::r,h=>by
  obtain ⟨j,h1,h2⟩:=yR (l:=r) (zV h);exact ⟨j+1,Nat.succ_lt_succ h1,h2⟩
def Bm (mask:Nat) (acc:Option (Array (Option Nat)×Nat)) (h:Int):Option (Array (Option Nat)×Nat):=acc.bind fun x=>(cF mask x.1 (lK mask) (jw h % (mask+1)) (jw h)).bind fun j=>some (x.1.setIfInBounds j (some x.2),x.2+1)
theorem yS (mask:Nat) (hs:Array Int):oE mask hs=(hs.toList.foldl (Bm mask) (some (sG (mask+1) none,0))).map (·.1):=by
 rw [Array.foldl_toList];rfl
theorem Bo (hm:Dh mask):∀ (l:List Int) (owner:Array (Option Nat)) (k:Nat),owner.size=mask+1->(owner.toList.filterMap id).Perm (bR k)->k+l.length<=mask ->
  ∃ o',l.foldl (Bm mask) (some (owner,k))=some (o',k+l.length)/\o'.size=mask+1/\(o'.toList.filterMap id).Perm (bR (k+l.length))
 |[],owner,k,h1,h2,_=>⟨owner,rfl,h1,h2⟩
 |h::r,owner,k,h1,h2,h3=>by
  simp only [bE] at h3 ⊢;obtain ⟨j,j1,j2⟩:=yR (l:=owner.toList) (by rw [h2.length_eq,i3,am,h1];omega);rw [am,h1] at j1;obtain ⟨m,m1,m2⟩:=CD hm (rF j1) j2 (i:=jw h % (mask+1)) (rF (wf _ (zU _))) (HW h);have e:Bm mask (some (owner,k)) h=some (owner.setIfInBounds m (some k),k+1):=by
   unfold Bm;simp only [qS,m1]
  rw [List.foldl_cons,e];obtain ⟨o',a1,a2,a3⟩:=Bo hm r (owner.setIfInBounds m (some k)) (k+1) (by rw [Array.size_setIfInBounds];exact h1) (by
   rw [Array.toList_setIfInBounds];refine (yQ m2).trans ?_;rw [List.range_succ];exact ((h2.cons k).trans (List.perm_append_singleton k _).symm)) (by omega)
  rw [show k+1+r.length=k+(r.length+1) by omega] at a1 a3;exact ⟨o',a1,a2,a3⟩
theorem Bp {n:Nat}{o:Array (Option Nat)} (h:o.size=n):(bR n).filterMap (fun j=>o.getD j none)=o.toList.filterMap id:=by
 have e:(bR n).map (fun j=>o.getD j none)=o.toList:=by
  refine rX (by simp [h]) fun i h1 h2=>?_;simp only [aN,i3] at h1;rw [r_,Db,fm,fZ (by omega)];simp
 rw [<- e,jr];rfl
theorem Br {mask finger moves:Nat}{led plain:Bool}{hs:Array Int} (hm:Dh mask) (hl:hs.size<=mask):∃ place order,ux mask finger moves led plain hs=some ({ mask,place,dummies:=#[],finger,led,moves,plain },order)/\place.size=hs.size/\order.toList.Perm (bR hs.size):=by
 obtain ⟨o,h1,h2,h3⟩:=Bo hm hs.toList (sG (mask+1) none) 0 (by simp) (by
  have:(sG (mask+1) (none:Option Nat)).toList.filterMap id=[]:=by
   rw [Array.toList_replicate,List.filterMap_eq_nil_iff];intro x hx;rw [(List.mem_replicate.mp hx).2];rfl
  rw [this];exact .refl _) (by rw [am];omega)
 have hc:oE mask hs=some o:=by
  rw [yS,h1];rfl
 rw [Nat.zero_add,am] at h3;refine ⟨_,_,by unfold ux;rw [hc];rfl,?_,?_⟩
 ·have e:=congrArg List.length (Bp h2);rw [h3.length_eq,i3] at e;rw [aB,aN,<- e];rw [rG,rG];congr 1;funext j;cases o.getD j none<;>rfl
 ·rw [List.map_filterMap];refine .trans (.of_eq ?_) h3;rw [<- Bp h2];show List.filterMap _ _=List.filterMap _ _;congr 1;funext j;cases o.getD j none<;>rfl
end L2
namespace L2
open PySem
section
theorem FA:∀ n:_root_.Fin 31,n.val<bG n.val/\(bG n.val=8\/bG n.val=16\/bG n.val=32):=by decide +kernel
theorem FC (h:n<=30):n<=bG n-1/\Dh (bG n-1)/\bG n<=32:=by
 obtain ⟨h1,h2⟩:=FA ⟨n,by omega⟩;simp only at h1 h2;unfold Dh;omega
theorem tU {es:Array (Int×a9)}{order:Array Nat} (h:order.toList.Perm (bR es.size)):(order.filterMap (es[·]?)).toList.Perm es.toList:=by
 rw [Array.toList_filterMap];refine (h.filterMap _).trans (.of_eq ?_);have e:(bR es.size).map (fun i=>es[i]?)=es.toList.map some:=by
  refine rX (by simp) fun i h1 h2=>?_;simp only [aN,i3] at h1;rw [r_,Db,r_,Array.getElem_toList];exact fZ h1
 have e2:(bR es.size).filterMap (fun i=>es[i]?)=((bR es.size).map (fun i=>es[i]?)).filterMap id:=by rw [jr];rfl
 rw [e2,e,jr];simp
theorem bY.of     (I:bY w h a es ep t) (p:es'.toList.Perm es.toList) (f:t'.fits es'.size=true) (l:t'.led=t.led) (pl:t'.plain=t.plain):bY w (h.update a (lQ es' t')) a es' (ep+1) t':=by
 have sz:es'.size=es.size:=by rw [<- am,p.length_eq,am]
 refine ⟨mG I,fun e he=>I.txt e (p.mem_iff.mp he),(p.map hZ).nodup_iff.mpr I.nd,by rw [sz];exact I.few,f,l.trans I.led,?_⟩;rw [sz,pl];exact I.pl
theorem tV {t:iF}{n:Nat} (h:t.fits n=true):t.place.size=n/\t.fill<=t.mask:=by
 unfold jt at h;rw [ay] at h;exact ⟨eq_of_beq h.1,of_decide_eq_true h.2⟩
theorem Bs {mask finger moves:Nat}{led plain:Bool}{place:Array Nat}{n:Nat} (h:place.size=n) (hm:n<=mask):jt { mask,place,dummies:=#[],finger,led,moves,plain } n=true:=by
 unfold jt Dv;subst h;simp only [beq_self_eq_true,Bool.true_and,decide_eq_true_eq];exact hm
theorem AA {a:ac}{es:Array (Int×a9)}{ep:Nat}{t:iF}{wanted:Nat}{Q:Unit->ae->Prop} (I:bY w s.heap a es ep t) (hw:wanted<=30) (hz:es.size<=wanted)
  (h:∀ h' es' ep' t',b9 a s.heap h'->bY w h' a es' ep' t'->es'.toList.Perm es.toList->Dh t'.mask->wanted<=t'.mask->Q () { s with heap:=h' }):ai (ax P w) A (setRelay a wanted) Q E s:=by
 obtain ⟨w1,w2,w3⟩:=FC hw;obtain ⟨place,order,e,hp,ho⟩:=Br (finger:=t.finger) (moves:=t.movedTo (bG wanted-1)) (led:=t.led) (plain:=t.plain) (hs:=es.map (·.1)) w2 (by rw [mY];omega);rw [mY] at hp ho;have pm:=tU ho;have sz:(order.filterMap (es[·]?)).size=es.size:=by rw [<- am,pm.length_eq,am]
 unfold setRelay;refine a6 (aX I.at_ rfl I.fits ?_);show ai _ _ (if bG wanted > sizeLine then _ else _) _ _ s;have h32:(32:Nat)<=sizeLine:=by decide
 rw [if_neg (by omega)];refine a6 ?_;unfold BS;rw [e];show ai _ _ (if ((order.filterMap (es[·]?)).size != es.size)=true then _ else pure (order.filterMap (es[·]?),_)) _ _ s;rw [if_neg (by rw [sz];simp)];refine a8 ?_;have fit:jt { mask:=bG wanted-1,place,dummies:=#[],finger:=t.finger,led:=t.led,moves:=t.movedTo (bG wanted-1),plain:=t.plain } (order.filterMap (es[·]?)).size=true:=Bs (by rw [sz];exact hp) (by rw [sz];omega);refine fX I.at_ rfl ?_ (by rw [sz];exact dI I.few);exact h _ _ _ _ (bb s.heap a _) (I.of pm fit rfl rfl) pm w2 w1
theorem xa {a:ac}{es:Array (Int×a9)}{ep:Nat}{t:iF}{more:Nat}{Q:Unit->ae->Prop} (I:bY w s.heap a es ep t) (hz:es.size+more<=15) (hm:es.size≠0\/Dh t.mask)
  (h:∀ h' es' ep' t',b9 a s.heap h'->bY w h' a es' ep' t'->es'.toList.Perm es.toList->(es.size≠0\/Dh t'.mask)->more<=t'.mask->Q () { s with heap:=h' }):ai (ax P w) A (setRoomFor a more) Q E s:=by
 obtain ⟨f1,f2⟩:=tV I.fits;unfold setRoomFor;refine a6 (aX I.at_ rfl I.fits ?_);dsimp only;unfold SetTable.roomFor;by_cases hc:(t.fill+more)*5 ≥ t.mask*3
 ·rw [if_pos hc];refine AA I (by rw [f1];omega) (by rw [f1];omega) fun h' es' ep' t' a1 a2 a3 a4 a5=>?_;exact h h' es' ep' t' a1 a2 a3 (.inr a4) (by rw [f1] at a5;omega)
 ·rw [if_neg hc];exact a8 (h s.heap es ep t (.refl ..) I (.refl _) hm (by omega))
end
end L2
namespace L2
open PySem
theorem sk {α σ:Type}{M:D1}{A:aR}{E:a9->ae->Prop}{Q:σ->ae->Prop}{f:α->σ->Sem (ForInStep σ)}{b:σ} (I:List α->ae->Prop)
  (step:∀ x r s,I (x::r) s->ai M A (f x b) (fun st s'=>st=.yield b/\I r s') E s) (fin:∀ s,I [] s->Q b s):∀ (l:List α) (s:ae),I l s->ai M A (forIn l b f) Q E s
 |[],s,h=>by rw [js];exact a8 (fin s h)
 |x::r,s,h=>by
  rw [gP];refine a6 (bu (step x r s h) (fun st s' q=>?_) fun _ _ e=>e);obtain ⟨rfl,q⟩:=q;exact sk I step fin r s' q
section
theorem yT  (h:∀ a∈l,∃ es ep t,bY w s.heap a es ep t) (q:Q true s):ai (ax P w) A (setsQuiet l) Q E s:=by
 unfold setsQuiet;refine a6 (sk (fun r s'=>s'=s/\∀ a∈r,∃ es ep t,bY w s.heap a es ep t) (fun a r s' hI=>?_) (fun s' hI=>?_) l s ⟨rfl,h⟩)
 ·obtain ⟨rfl,hI⟩:=hI;obtain ⟨es,ep,t,I⟩:=hI a ao;unfold setEntries;refine a6 (a6 (aX I.at_ rfl I.fits (a8 ?_)));dsimp only;rw [<- BW];refine a6 (sk (fun r2 s2=>s2=s'/\∀ e∈r2,nX w e) (fun e r2 s2 h2=>?_) (fun s2 h2=>?_) es.toList s' ⟨rfl,I.txt⟩)
  ·obtain ⟨rfl,h2⟩:=h2;obtain ⟨x,tk,rfl⟩:=h2 e ao;exact a8 ⟨rfl,rfl,fun e he=>h2 e (ah _ he)⟩
  ·obtain ⟨rfl,_⟩:=h2;exact a8 ⟨rfl,rfl,fun b hb=>hI b (ah _ hb)⟩
 ·obtain ⟨rfl,_⟩:=hI;exact a8 q
theorem CF     (I:bY w s.heap o es ep t) (hb:w.params.followText "set-order"=true\/t.plain=true\/es.size<=1)
  (q:∀ es',es'.toList.Perm es.toList->Q es' s):ai (ax P w) A (setWalk o) Q E s:=by
 unfold setWalk;refine a6 (aX I.at_ rfl I.fits (a6 (dE ?_)));cases hw:w.params.followText "set-order" with
 |true =>
  simp only [if_true];exact a6 (f9 (a8 (q _ (qf _ _))))
 |false =>
  simp only [bx,if_false];have hd:(!t.plain&&decide (es.size > 1))=false:=by
   rcases hb with h|h|h
   ·rw [hw] at h;cases h
   ·rw [h];rfl
   ·rw [decide_eq_false (by omega),h_]
  have hl:t.led=true:=by rw [I.led,hw];rfl
  show ai _ _ (if (!t.plain&&decide (es.size > 1))=true then _ else _) _ _ s;rw [hd,if_neg aL];refine a6 ?_;show ai _ _ (if (!t.led&&decide (es.size > 1))=true then _ else pure ()) _ _ s;rw [hl,if_neg (by simp)];exact a8 (a8 (q _ (.refl _)))
theorem rO     (I:bY w s.heap o eo epo to) (J:bY w s.heap a es ep t)
  (q:∀ h' es' ep' t',b9 a s.heap h'->bY w h' a es ep' t'->es'.toList.Perm eo.toList->Q es' { s with heap:=h' }):ai (ax P w) A (setWalkUnseen o [a] (some a)) Q E s:=by
 unfold setWalkUnseen;refine a6 (aX I.at_ rfl I.fits (a6 (dE ?_)));cases hc:(w.params.followText "set-order" || to.led&&to.plain||decide (eo.size<=1)) with
 |true =>
  rw [if_pos rfl];refine CF I ?_ fun es' p=>q s.heap es' ep t (.refl ..) J p;rw [gT,gT,ay,decide_eq_true_eq] at hc;rcases hc with (h|h)|h
  ·exact .inl h
  ·exact .inr (.inl h.2)
  ·exact .inr (.inr h)
 |false =>
  rw [if_neg aL];rw [AX,AX,decide_eq_false_iff_not] at hc;obtain ⟨⟨c1,_⟩,c3⟩:=hc;refine a6 (yT (fun b hb=>?_) ?_)
  ·rcases List.mem_cons.mp hb with h|h
   ·rw [h];exact ⟨_,_,_,I⟩
   ·rw [List.mem_singleton.mp h];exact ⟨_,_,_,J⟩
  rw [if_neg (by simp)];refine a6 (eN ?_);dsimp only;refine a6 (aX J.at_ rfl J.fits ?_);dsimp only;have hpl:to.plain=false:=I.pl.resolve_left (by omega);have hled:(t.led&&to.led)=t.led:=by rw [I.led,J.led,xK]
  split
  ·refine a6 (fX J.at_ rfl ?_ (dI J.few));refine a8 (q _ _ _ _ (bb s.heap a _) (⟨mG J,J.txt,J.nd,J.few,?_,?_,?_⟩:bY w _ a es (ep+1) _) (.refl _))
   ·exact J.fits
   ·exact hled.trans J.led
   ·exact .inr (by show (t.plain&&to.plain)=false;rw [hpl,h_])
  ·exact a8 (q s.heap eo ep t (.refl ..) J (.refl _))
end
end L2
namespace L2
open PySem
section
theorem bY.but     (I:bY w h o eo epo to) (ne:a≠o) (sb:b9 a h h'):bY w h' o eo epo to:=I.keep fun _ e=>(sb.2 o (cO ne)).trans e
theorem tW {a o:ac}{es eo:Array (Int×a9)}{ep epo:Nat}{t to:iF}{each:Sem Unit}{Q:Unit->ae->Prop} (ne:a≠o) (J:bY w s.heap a es ep t) (I:bY w s.heap o eo epo to)
  (hz:es.size+eo.size<=15) (hm:es.size≠0\/Dh t.mask) (he:∀ (s':ae) (Q':Unit->ae->Prop),bY w s'.heap o eo epo to->Q' () s'->ai (ax P w) A each Q' E s')
  (q:∀ h' tk' es' ep' t',b9 a s.heap h'->bY w h' a es' ep' t'->(∀ x,x∈es'.toList.map hZ↔x∈es.toList.map hZ\/x∈eo.toList.map hZ)->(es'.size≠0\/Dh t'.mask)->Q () { s with heap:=h',toks:=tk' }) :
  ai (ax P w) A (setMerge a o each) Q E s:=by
 unfold setMerge;rw [if_neg (by simpa using ne)];refine a6 (aX I.at_ rfl I.fits ?_);dsimp only;by_cases h0:eo.size=0
 ·rw [if_pos (by simpa [Array.isEmpty] using h0)];have e0:eo=#[]:=ir h0;exact a8 (q s.heap s.toks es ep t (.refl ..) J (fun x=>by rw [e0];simp) hm)
 rw [if_neg (by simpa [Array.isEmpty] using h0)];refine a6 (xa J hz hm fun h1 es1 ep1 t1 sb1 J1 p1 m1 r1=>?_);have I1:=I.but ne sb1;have sz1:es1.size=es.size:=by rw [<- am,p1.length_eq,am]
 refine a6 (aX (s:={ s with heap:=h1 }) J1.at_ rfl J1.fits ?_);dsimp only;obtain ⟨f1,f2⟩:=tV J1.fits;have hpl:to.plain=false:=I.pl.resolve_left h0;have hled:(t1.led&&to.led)=t1.led:=by rw [I.led,J1.led,xK]
 have kp:∀ x,x∈es1.toList.map hZ↔x∈es.toList.map hZ:=fun x=>(p1.map hZ).mem_iff;by_cases hf:t1.fill=0
 ·have e1:es.size=0:=by
   unfold Dv at hf;omega
  have mk:Dh t1.mask:=m1.resolve_left (by omega);have ee:es=#[]:=ir e1;unfold Dw;rw [if_neg (by rw [hf];decide)];split
  ·refine fX (s:={ s with heap:=h1 }) J1.at_ rfl ?_ (dI I.few);refine q _ s.toks _ _ _ (sb1.trans (bb h1 a _)) (⟨mG J1,I.txt,I.nd,I.few,?_,?_,?_⟩:bY w _ a eo (ep1+1) _) (fun x=>by rw [ee];simp) (.inl h0)
   ·exact I.fits
   ·exact hled.trans J1.led
   ·exact .inr (by show (t1.plain&&to.plain)=false;rw [hpl,h_])
  ·obtain ⟨place,order,e,hp,ho⟩:=Br (finger:=t1.finger) (moves:=t1.moves) (led:=t1.led&&to.led) (plain:=t1.plain&&to.plain) (hs:=eo.map (·.1)) mk (by rw [mY];exact r1);rw [mY] at hp ho;have pm:=tU ho;have sz:(order.filterMap (eo[·]?)).size=eo.size:=by rw [<- am,pm.length_eq,am]
   refine a6 ?_;rw [e];show ai _ _ (if ((order.filterMap (eo[·]?)).size != eo.size)=true then _ else pure (order.filterMap (eo[·]?),_)) _ _ _;rw [if_neg (by rw [sz];simp)];refine a8 ?_;refine fX (s:={ s with heap:=h1 }) J1.at_ rfl ?_ (by rw [sz];exact dI I.few);refine q _ s.toks _ _ _ (sb1.trans (bb h1 a _)) (⟨mG J1,fun x hx=>I.txt x (pm.mem_iff.mp hx),(pm.map hZ).nodup_iff.mpr I.nd,by rw [sz];exact I.few,Bs (by rw [sz];exact hp) (by rw [sz];exact r1),hled.trans J1.led,.inr ?_⟩:bY w _ a (order.filterMap (eo[·]?)) (ep1+1) _) (fun x=>?_) (.inl (by rw [sz];exact h0))
   ·show (t1.plain&&to.plain)=false;rw [hpl,h_]
   ·rw [(pm.map hZ).mem_iff,ee];simp
  ·rename_i hq
   split at hq<;>cases hq
 ·unfold Dw;rw [if_pos (by simpa using hf)];dsimp only;refine a6 (rO (s:={ s with heap:=h1 }) I1 J1 fun h2 es2 ep2 t2 sb2 J2 p2=>?_);rw [<- BW];have hl:es2.toList.length=eo.size:=by rw [p2.length_eq,am]
  refine a6 (sk (fun r s'=>∃ h' tk' e' p' t',s'={ s with heap:=h',toks:=tk' }/\b9 a s.heap h'/\bY w h' a e' p' t'/\e'.size+r.length<=15/\(∀ e∈r,nX w e)/\∀ x,(x∈e'.toList.map hZ\/x∈r.map hZ)↔x∈es.toList.map hZ\/x∈eo.toList.map hZ) ?_ ?_ es2.toList _ ⟨h2,s.toks,es1,ep2,t2,rfl,sb1.trans sb2,J2,by omega,fun e he=>I.txt e (p2.mem_iff.mp he),fun x=>by rw [kp,(p2.map hZ).mem_iff]⟩)
  ·rintro e r s' ⟨h',tk',e',p',t',rfl,sb',J',z',tx',k'⟩;obtain ⟨x,tk,rfl⟩:=tx' e ao;simp only [bE] at z';dsimp only;refine a6 (bw (vC (s:={ s with heap:=h',toks:=tk' }) (⟨e',p',t',J',.refl _⟩:iL w h' a (e'.toList.map hZ)) (by rw [aN,am];exact au (show e'.size+1<100 by omega) (by decide)) fun h'' tk'' sb'' S''=>?_));obtain ⟨e'',p'',t'',J'',pm''⟩:=S'';have sb3:=sb'.trans sb'';have I3:=I.but ne sb3;refine a6 (he _ _ I3 ?_);refine a6 (aX (s:={ s with heap:=h'',toks:=tk'' }) I3.at_ rfl I3.fits ?_);dsimp only;rw [if_neg (by simp)];refine a8 ⟨rfl,h'',tk'',e'',p'',t'',rfl,sb3,J'',?_,fun e he=>tx' e (ah _ he),fun y=>?_⟩
   ·have:=pm''.length_eq;rw [aN,am] at this;have l2:(if x∈e'.toList.map hZ then e'.toList.map hZ else e'.toList.map hZ++[x]).length<=e'.size+1:=by
     split<;>simp
    omega
   ·rw [<- k' y,pm''.mem_iff];have ek:hZ (hashStr w x,gU x tk)=x:=rfl;rw [bO,aM,ek];split
    ·rename_i hx
     constructor
     ·rintro (h|h)
      ·exact .inl h
      ·exact .inr (.inr h)
     ·rintro (h|h|h)
      ·exact .inl h
      ·rw [h];exact .inl hx
      ·exact .inr h
    ·rw [uw,dR];constructor
     ·rintro ((h|h)|h)
      ·exact .inl h
      ·exact .inr (.inl h)
      ·exact .inr (.inr h)
     ·rintro (h|h|h)
      ·exact .inl (.inl h)
      ·exact .inl (.inr h)
      ·exact .inr h
  ·rintro s' ⟨h',tk',e',p',t',rfl,sb',J',z',tx',k'⟩;refine a8 (q h' tk' e' p' t' sb' J' (fun x=>?_) (.inl ?_))
   ·rw [<- k' x];simp
   ·intro e0;obtain ⟨e,hh⟩:∃ e,e∈eo.toList:=by
     cases hq:eo.toList with
     |nil=>rw [<- am,hq] at h0;exact absurd rfl h0
     |cons e r=>exact ⟨e,ao⟩
    have:=(k' (hZ e)).mpr (.inr (List.mem_map_of_mem hh));rw [ir e0] at this;simp at this
end
end L2
namespace L2
open PySem PyProof.Rows
theorem xc:zM table "set.__or__"=some fY.«frozenset.__or__»:=zN (id':="frozenset.__or__") (by kernel_rfl) rfl (by decide +kernel) (by kernel_rfl)
section
variable {P:aJ}{w:aS}{A:aR}{E:a9->ae->Prop}{s:ae}
theorem bY.ty    (I:bY w s.heap a es ep t):s.TypeIs (.ref a) "set":=⟨_,I.at_,rfl⟩
theorem o9     (I:bY w s.heap a es ep t) (q:Q true s):ai (ax P w) A (mZ (.ref a)) Q E s:=by
 unfold mZ;refine a6 (gR I.ty Dq ?_);exact a8 q
theorem FD  (e:h.get? a=some (e8 w)):bY w h a #[] 0 (.fresh 0 0 (!w.params.followText "set-order")) :=
 ⟨e,(fun _ h=>nomatch h),List.nodup_nil,by decide,rfl,rfl,.inl rfl⟩
theorem HX   (ha:iL w s.heap a xs) (hb:iL w s.heap b ys) (ne:a≠b) (hz:xs.length+ys.length<=15)
  (q:∀ h' tk',b9 s.heap.objs.size (s.heap.push (e8 w)) h'->iL w h' s.heap.objs.size (eA xs ys)->Q (.ref s.heap.objs.size) { s with heap:=h',toks:=tk' }) :
  ai (ax P w) A (eZ .BitOr (.ref a) (.ref b)) Q E s:=by
 obtain ⟨ea,pa,ta,Ia,ma⟩:=ha;obtain ⟨eb,pb,tb,Ib,mb⟩:=hb;have sa:ea.size=xs.length:=by rw [<- ma.length_eq,aN,am]
 have sb:eb.size=ys.length:=by rw [<- mb.length_eq,aN,am]
 refine wpAny_binaryOp_same Ia.ty Ib.ty F.fills_set_or F.slot_set_or (bz F.slot_set_or Ia.ty xc ?_ (F.args_set_or_2 _ _));have lt1:a<s.heap.objs.size:=al Ia.at_;have lt2:b<s.heap.objs.size:=al Ib.at_;show ai _ _ (Gy "__or__" ⟨[.ref a,.ref b],[]⟩ >>= _) _ _ s;refine a6 (a6 (a8 (a8 ?_)));dsimp only;refine a6 (a6 (o9 Ia (o9 Ib ?_)));rw [if_neg (by simp)];refine a6 (a8 (a6 ?_));show ai _ _ (nV a >>= _) _ _ s;refine a6 ?_;unfold nV Gz;refine a6 (a6 (gR Ia.ty Dq (a8 ?_)));rw [if_pos rfl];refine a6 (nw ?_);have g0:(s.heap.push (e8 w)).get? s.heap.objs.size=some (e8 w):=av _ rfl;have J0:=FD g0;have Ia1:bY w (s.heap.push (e8 w)) a ea pa ta:=Ia.keep fun _ e=>ag _ e;have Ib1:bY w (s.heap.push (e8 w)) b eb pb tb:=Ib.keep fun _ e=>ag _ e;have na:s.heap.objs.size≠a:=cO (aA lt1);have nb:s.heap.objs.size≠b:=cO (aA lt2);refine a6 (a8 (a6 (tW (s:={ s with heap:=s.heap.push (e8 w) }) na J0 Ia1 (by show 0+ea.size<=15;omega) (.inr (.inl rfl)) (fun _ _ _ q=>a8 q) fun h1 tk1 e1 p1 t1 sb1 J1 k1 m1=>a8 ?_)));have Ib2:=Ib1.but nb sb1;have n1:(e1.toList.map hZ).length<=ea.size:=by
  have:=(vk J1.nd Ia.nd).mpr fun x=>by rw [k1];simp
  rw [this.length_eq,aN,am];exact aq _
 rw [aN,am] at n1;show ai _ _ (if (bc b != bc a)=true then _ else _) _ _ _;rw [if_pos (by simp;exact cO ne)];refine a6 (a8 (a6 (bw ?_)));show ai _ _ (gQ _ s.heap.objs.size (bc b)) _ _ _;unfold gQ;refine a6 (o9 (s:={ s with heap:=h1,toks:=tk1 }) Ib2 ?_);rw [if_pos rfl];refine a6 (a8 ?_);unfold GA setEpoch;refine a6 (a6 (aX (s:={ s with heap:=h1,toks:=tk1 }) Ib2.at_ rfl Ib2.fits (a8 ?_)));refine tW (s:={ s with heap:=h1,toks:=tk1 }) nb J1 Ib2 (by omega) m1 (fun s' Q' I' q'=>?_) fun h2 tk2 e2 p2 t2 sb2 J2 k2 m2=>?_
 ·unfold GB setEpoch;refine a6 (a6 (aX I'.at_ rfl I'.fits (a8 ?_)));dsimp only;rw [if_neg (by simp)];exact a8 q'
 ·refine a8 (a8 ⟨_,rfl,(fun z=>nomatch z),q h2 tk2 (sb1.trans sb2) ⟨e2,p2,t2,J2,?_⟩⟩);refine (vk J2.nd (qU _ _ (ma.nodup_iff.mp Ia.nd))).mpr fun x=>?_;rw [k2,vE,k1,ma.mem_iff,mb.mem_iff];simp
end
end L2
namespace L2
open PySem PyProof.Rows
theorem KD:mF X (eZ .BitOr) (fun x y H Q=>∃ a b xs ys,x=.ref a/\y=.ref b/\a≠b/\H a=some (kj X.w a xs)/\H b=some (kj X.w b ys)/\xs.length+ys.length<=15/\∀ p,H p=none->Q (.ref p) (upd H p (kj X.w p (eA xs ys)))):=by
 intro pins s σ H x y v u Q I rx ry h;obtain ⟨a,b,xs,ys,rfl,rfl,ne,ha,hb,hz,q⟩:=h;cases rx;cases ry;have Sa:=(show cj X.prog X.w H s.heap a (kj X.w a xs) from I.hok a _ ha).1;have Sb:=(show cj X.prog X.w H s.heap b (kj X.w b ys) from I.hok b _ hb).1;refine HX Sa Sb ne hz fun h' tk' sb S=>?_;refine ⟨.ref s.heap.objs.size,_,I.laid (t':=tk') (fun b o e=>?_) (aq _) (wJ S),rfl,q _ (I.hok.fresh (aq _))⟩;exact (sb.2 b (aA (al e))).trans (ag _ e)
end L2
namespace J
open PySem L2
section
def Mx (xs ys:List Str):R (List Str):=if xs.length+ys.length<=15 then .ok (eA xs ys) else .no
def KG (ga gb:aD->R (List Str)):aD->R (List Str):=fun ρ=>(ga ρ).bind fun xs=>(gb ρ).bind (J.Mx xs)
theorem KH (ha:HJ c a ga) (hb:HJ c b gb):HJ c (.BinOp a .BitOr b pos) (KG ga gb):=.of fun ρ=>lM (ID KD (ha ρ) (hb ρ)) fun σ H Q h_0=>by
 obtain ⟨H0,Hs0,la,Hs,f,q⟩:=h_0;refine Bf (w:=c.X.w) f q fun xs p H1 Hs1 e1 s1 f1 n1=>?_;unfold KG at q;rw [e1,bind_ok] at q;have s2:bN H1 Hs1 (upd H1 p (kj c.X.w p xs)) Hs1:=.mine f1.st.sub n1;refine Bf (w:=c.X.w) (f1.step s2) (q.on (s1.trans s2) (q':=fun _=>True) fun _ _=>trivial) fun ys p2 H2 Hs2 e2 s3 f2 n2=>?_;rw [e2,bind_ok] at q;unfold J.Mx at q;by_cases hz:xs.length+ys.length<=15
 ·rw [if_pos hz] at q;have k1:H2 p=some (kj c.X.w p xs):=s3.all p _ aH;have ne:p≠p2:=fun z=>by rw [z,n2] at k1;cases k1
  have s4:bN H2 Hs2 (upd H2 p2 (kj c.X.w p2 ys)) Hs2:=.mine f2.st.sub n2;exact ⟨p,p2,xs,ys,rfl,rfl,ne,by rw [aG ne];exact k1,aH,hz,fun l hl=>q l _ _ (s1.trans (s2.trans (s3.trans s4))) hl⟩
 ·rw [if_neg hz] at q;exact q.elim
end
end J
namespace J
open PySem L2
section
def NU (i j:Nat) (ρ:aD):List D->R Fl
 |[d,e]=>.ok (.nx ((ρ.set i (.shr d)).set j (.shr e)))
 |_=>.no
def KI (i j:Nat) (gs:aD->R (List D)):aD->R Fl:=fun ρ=>(gs ρ).bind (NU i j ρ)
theorem KJ (i j:Nat) (hc:c.X.calm=true) (hN:c.X.N.Nodup) (ha:xM c [a,b] gs) (hi:c.X.N[i]?=some x:=by rfl) (hj:c.X.N[j]?=some y:=by rfl) (hij:i≠j:=by decide)
  (hx:c.X.env.scope.names.lookup x=some .local:=by rfl) (hy:c.X.env.scope.names.lookup y=some .local:=by rfl) (hw:rV [.Tuple [.Name x px,.Name y py] kt pt] (.Tuple [a,b] k2 pt2) c.X.env=pure (some [x,y]):=by rfl)
  (hs:rT [.Tuple [.Name x px,.Name y py] kt pt] (.Tuple [a,b] k2 pt2) pos.line c.X.env=pure false:=by rfl):JS c (.Assign [.Tuple [.Name x px,.Name y py] kt pt] (.Tuple [a,b] k2 pt2) pos) (KI i j gs):=.of fun ρ=>tm (JC hc hN hi hj hij hx hy (ha ρ) hw hs) fun D σ H h_0=>by
 obtain ⟨H0,Hs0,la,Hs,f,q⟩:=h_0;refine ⟨H0,Hs0,la,Hs,f,?_⟩;unfold KI at q;cases hr:gs ρ with
 |ok ds =>
  rw [hr,bind_ok] at q;intro vs H' Hs' s r
  match ds,r,q with
  |[],_,q=>exact q.elim
  |[_],_,q=>exact q.elim
  |[d,e],.cons r1 (.cons r2 .nil),q=>exact ⟨_,_,rfl,q _ _ Hs' (((f.step s).set i r1).set j r2)⟩
  |_::_::_::_,_,q=>exact q.elim
 |ex z n =>
  rw [hr] at q;exact fun H' Hs' s=>q H' Hs' (f.st.trans s)
 |no=>rw [hr] at q;exact q.elim
end
end J
namespace J
open PySem L2
end J
end
section
namespace L2
open PySem PySem.Spec PyProof.Rows
section
end
end L2
namespace L2
open PySem PySem.Spec PyProof.Rows
section
end
end L2
namespace L2
open PySem PySem.Spec PyProof.Rows
end L2
namespace J
open PySem L2
section
end
end J
namespace L2
open PySem PySem.Spec PyProof.Rows
end L2
namespace J
open PySem L2
section
end
end J
namespace L2
open PySem PySem.Spec PyProof.Rows
end L2
namespace J
open PySem L2
section
end
end J
namespace J
open PySem L2
end J
end
namespace J
open PySem L2 PyProof.Rows
section
structure En where
 P:aJ
 w:aS
 K:a7
 mg:Str->Option a9
 base:aW
 cls:Str->ac
abbrev FN (e:En):=Fn e.P e.w e.K e.mg e.base e.cls
abbrev FT (e:En):=Lh e.P e.w e.K e.mg e.base e.cls
abbrev ER (e:En):=Er e.mg e.base e.cls
abbrev Cn (mg:Str->Option a9) (x:Str) (n:Int):Prop:=∃ t,mg x=some (.int n t)
structure ii (K:a7) (mg:Str->Option a9) (x:Str) (st:cy):Prop where
 ex:∃ f fd,wz K x x st f fd/\mg x=some (.ref f)
section
variable {K:a7}{h:aW}{mg:Str->Option a9}{x:Str}
theorem d_in {st:cy}{A:ac}{od an:Option ac}{sl:Array (Option a9)}{oc kV dc pm cv ct:a9} (X:K.In h) (G:h.Ns aO mg) (a:dC K aO x=some (some (.ref A)))
  (l:K.lookup A=some ⟨oc,od,.func (cc x x (fO st) (du st) (aw st) .none kV dc pm an cv ct),sl⟩) (c:c6 K cv x=true) (k:bC K (.ref A)=true):ii K mg x st :=
 ⟨_,_,Ac l c k,eX X G a⟩
theorem cn_in  (X:K.In h) (G:h.Ns aO mg) (t:dC K aO x=some (some (.int n tk))):Cn mg x n:=⟨_,eX X G t⟩
inductive Zs (K:a7):List Str->Prop
 |nil:Zs K []
 |cons {x:Str}{r:List Str}:dC K aO x=some none->Zs K r->Zs K (x::r)
theorem Zs.get (z:Zs K r):∀ x∈r,dC K aO x=some none:=by
 induction z with
 |nil=>exact fun _ h=>nomatch h
 |cons a _ ih =>
  intro y hy;rcases List.mem_cons.mp hy with e|e
  ·rw [e];exact a
  ·exact ih y e
abbrev zn:List Str:=["len","isinstance","all","any","zip","tuple","list","sorted","set","range","enumerate","dict","sum","max","min","reversed","str","int","bool","ValueError"]
theorem My (X:K.In h) (G:h.Ns aO mg) (z:Zs K zn):Bi mg:=by
 have q:∀ x∈zn,mg x=none:=fun x hx=>zW X G (z.get x hx);exact ⟨q _ (by decide),q _ (by decide),q _ (by decide),q _ (by decide),q _ (by decide),q _ (by decide),q _ (by decide),q _ (by decide),q _ (by decide),q _ (by decide),q _ (by decide),q _ (by decide),q _ (by decide),q _ (by decide),q _ (by decide),q _ (by decide),q _ (by decide),q _ (by decide),q _ (by decide)⟩
theorem Mz (X:K.In h) (G:h.Ns aO mg) (z:Zs K zn):mg "ValueError"=none:=zW X G (z.get _ (by decide))
end
section
variable {P:aJ}{w:aS}{K:a7}{mg:Str->Option a9}{base:aW}{N:List Str}{qual:Str}{scope:cf}{f:ac}{cd:a9}{A:aR}{outer:List Env}{s:ae}{H:Hp}{E:XK}
theorem px:fS (iA P w) (g9 (iA P w) P w K mg base N qual scope f cd A outer s H E) E:=yp fun _ _ h=>h
end
section
theorem jc  (G:Fn c.X.prog c.X.w c.X.K c.X.mg c.X.base c.cls x k n F) (hr:eL j c.X.A) (hx:fS (iA c.X.prog c.X.w) c.X c.E) (ha:xM c (e::es) gs)
  (hk:k<=j:=by decide) (hg:Gl c.X x:=by exact rfl) (hdb:(x==("__debug__" : Str))=false:=by decide) (he:ap (e::es) c.X.env=(false,cQ e c.X.env)::ap es c.X.env:=by rfl) (hpl:(cR pos (ap es c.X.env)).any (·.1)=false:=by rfl) :
  JE c (.Call (.Name x p) (e::es) [] pos) (eV n F gs):=HE G (hr.mono hk) hg hx ha hdb he hpl
theorem jd  (G:Lh c.X.prog c.X.w c.X.K c.X.mg c.X.base c.cls x y k n F) (hr:eL j c.X.A) (hx:fS (iA c.X.prog c.X.w) c.X c.E) (ha:xM c es gs)
  (hk:k<=j:=by decide) (hg:Gl c.X x:=by exact rfl) (hgy:Gl c.X y:=by exact rfl) (hdb:(x==("__debug__" : Str))=false:=by decide) (hdy:(y==("__debug__" : Str))=false:=by decide) (he:ap (.Name y q::es) c.X.env=(false,cQ (.Name y q) c.X.env)::ap es c.X.env:=by rfl) (hpl:(cR pos (ap es c.X.env)).any (·.1)=false:=by rfl) :
  JE c (.Call (.Name x p) (.Name y q::es) [] pos) (eV n F gs):=HR G (hr.mono hk) hg hgy hx ha hdb hdy he hpl
end
abbrev Bq (x:Str) (st:cy) (us:List a9) (r:List (Str×a9)):Prop:=∀ (kV doc pm:a9) (an:Option ac) (cdv ct:a9),pT (cc x x (fO st) (du st) (aw st) .none kV doc pm an cdv ct) ⟨us,[]⟩=pure r
section
variable {K:a7}{x:Str}{st:cy}{f:ac}{fd:cp}
theorem b1 (F:wz K x x st f fd) (h:∀ u,Bq x st [u] [(a,u)]:=by exact fun _ _ _ _ _ _ _=>rfl):fD K fd [a] []:=F.binds fun _ _ _ _ _ _ us hl=>by obtain ⟨_,rfl⟩:=P5 hl;exact h ..
theorem b2 (F:wz K x x st f fd) (h:∀ u v,Bq x st [u,v] [(a,u),(b,v)]:=by exact fun _ _ _ _ _ _ _ _=>rfl):fD K fd [a,b] []:=F.binds fun _ _ _ _ _ _ us hl=>by obtain ⟨_,_,rfl⟩:=NT hl;exact h ..
theorem b3 (F:wz K x x st f fd) (h:∀ u v w,Bq x st [u,v,w] [(a,u),(b,v),(c,w)]:=by exact fun _ _ _ _ _ _ _ _ _=>rfl):fD K fd [a,b,c] []:=F.binds fun _ _ _ _ _ _ us hl=>by obtain ⟨_,_,_,rfl⟩:=P6 hl;exact h ..
theorem b4 (F:wz K x x st f fd) (h:∀ u v w z,Bq x st [u,v,w,z] [(a,u),(b,v),(c,w),(d,z)]:=by exact fun _ _ _ _ _ _ _ _ _ _=>rfl):fD K fd [a,b,c,d] []:=F.binds fun _ _ _ _ _ _ us hl=>by obtain ⟨_,_,_,_,rfl⟩:=P7 hl;exact h ..
theorem b5 (F:wz K x x st f fd) (h:∀ u v w z y,Bq x st [u,v,w,z,y] [(a,u),(b,v),(c,w),(d,z),(e,y)]:=by exact fun _ _ _ _ _ _ _ _ _ _ _=>rfl):fD K fd [a,b,c,d,e] []:=F.binds fun _ _ _ _ _ _ us hl=>by obtain ⟨_,_,_,_,_,rfl⟩:=P8 hl;exact h ..
end
theorem rP {e:En}{x:Str}{st:cy}{N ps:List Str}{k:Nat}{g:aD->R Fl} (D:ii e.K e.mg x st) (S:bq N ps (aw st)) (b:∀ {f:ac}{fd:cp},wz e.K x x st f fd->fD e.K fd ps [])
  (h:∀ (f:ac) (cdv:a9) (A:aR) (outer:List Env) (s:ae) (H:Hp) (E:XK),eL k (A.deeper (envOfC x (aw st) s.heap.objs.size f cdv))->zy ⟨g9 (iA e.P e.w) e.P e.w e.K e.mg e.base N x (aw st) f cdv A outer s H E,e.cls,E⟩ (du st) g) :
  FN e x (k+1) ps.length (fE N.length g):=by
 obtain ⟨f,fd,F,hm⟩:=D.ex;exact Ml F S hm (b F) (h f)
def OF (N P:List Str) (sc:cf):Bool:=decide (sc.kind=.function) && !sc.isCoroutine && !sc.isGenerator&&decide N.Nodup&&decide (N.take P.length=P)&&P.all (fun x=>decide (sc.names.lookup x=some .local)||decide (sc.names.lookup x=some .cell))&&sc.names.all fun y=>decide (y.2≠.free)
theorem ef  (h:OF N P sc=true):bq N P sc:=by
 unfold OF at h;simp only [ay,decide_eq_true_eq,Dt,cU,gT] at h;obtain ⟨⟨⟨⟨⟨⟨a,b⟩,c⟩,d⟩,e⟩,f⟩,g⟩:=h;exact ⟨a,b,c,d,e,f,g⟩
structure Cw (K:a7) (x:Str) (C:ac):Prop where
 ns:dC K aO x=some (some (.ref C))
 cl:∃ cd,el K C=some cd
 ty:sF K (.ref C)=some (.type "type")
theorem cw_in {K:a7}{x:Str}{C:ac}{cd:ClassData} (a:dC K aO x=some (some (.ref C))) (i:el K C=some cd) (y:sF K (.ref C)=some (.type "type")):Cw K x C:=⟨a,⟨_,i⟩,y⟩
inductive HY (K:a7):List Str->List ac->Prop
 |nil:HY K [] []
 |cons {x:Str}{C:ac}{ns:List Str}{Cs:List ac}:Cw K x C->HY K ns Cs->HY K (x::ns) (C::Cs)
inductive Sb (K:a7) (C:ac):List (ac×Bool)->Prop
 |nil:Sb K C []
 |cons {D:ac}{b:Bool}{l:List (ac×Bool)}:jM K (.ref C) (.ref D)=some b->(b=false->C≠D)->Sb K C l->Sb K C ((D,b)::l)
structure Wy (K:a7) (C CP:ac) (l:List (ac×Bool)):Prop where
 x1:eD K (.ref C) "__getattribute__"=some (some (.builtin "BaseException.__getattribute__"))
 x2:eD K (.ref C) "__getattr__"=some none
 x3:eD K (.ref C) "__class__"=some (some (.builtin "object.__class__"))
 x4:oH K (.builtin "object.__class__") "__get__"=some (some (.builtin "getset_descriptor.__get__"))
 x5:rq K (.builtin "object.__class__")=some true
 x6:bH K C (.type "object")=some true
 x7:bH K C (.ref CP)=some true
 x8:jM K (.ref C) (.type "ValueError")=some true
 x9:(bc CP==bc C)=false
 sb:Sb K C l
theorem HY.at {K:a7}{ns:List Str}{Cs:List ac} (N:HY K ns Cs):∀ (i:Nat) (n:Str),ns[i]?=some n->∃ C,Cs[i]?=some C/\Cw K n C:=by
 induction N with
 |nil=>intro i n h;simp at h
 |cons a _ ih =>
  intro i n h;cases i with
  |zero=>cases h;exact ⟨_,rfl,a⟩
  |succ i=>exact ih i n h
theorem Sb.at {K:a7}{C:ac}{l:List (ac×Bool)} (N:Sb K C l):∀ (i:Nat) (D:ac) (b:Bool),l[i]?=some (D,b)->jM K (.ref C) (.ref D)=some b/\(b=false->C≠D):=by
 induction N with
 |nil=>intro i D b h;simp at h
 |cons a c _ ih =>
  intro i D b h;cases i with
  |zero=>cases h;exact ⟨a,c⟩
  |succ i=>exact ih i D b h
theorem MA {K:a7}{h:aW}{mg:Str->Option a9}{cls:Str->ac}{ns:List Str}{Cs:List ac} (X:K.In h) (G:h.Ns aO mg) (N:HY K ns Cs) (hn:ns.map cls=Cs):∀ n∈ns,mg n=some (.ref (cls n)):=by
 intro n hm;obtain ⟨i,hi,e⟩:=iV hm;have e1:ns[i]?=some n:=by rw [aY hi,e]
 obtain ⟨C,h1,h2⟩:=N.at i n e1;rw [<- hn,aK,e1] at h1;cases h1;exact eX X G h2.ns
theorem HZ {K:a7}{base:aW}{cls:Str->ac}{x:Str}{C CP:ac}{ns:List Str}{Cs:List ac}{l:List (ac×Bool)}{j:Nat} (mb:bH K C (.type "BaseException")=some true) (Q:∃ bm,wM base C bm/\∀ v,(v==bc C)=false->bH K C v=some true->bm.contains v=true) (W:Wy K C CP l) (N:HY K ns Cs)
  (hc:cls x=C) (hp:cls "PlanError"=CP) (hn:ns.map cls=Cs) (hl:l.map (·.1)=Cs) (hb:l.map (·.2)=bits j) (hj:j<11) (hx:x∈ns):Xf K base cls ns (cls x) j:=by
 obtain ⟨bm,o,mm⟩:=Q;subst hc hp;have hcl:(el K (cls x)).isSome=true:=by
  obtain ⟨i,hi,e⟩:=iV hx;have e1:ns[i]?=some x:=by rw [aY hi,e]
  obtain ⟨C,h1,h2⟩:=N.at i x e1;rw [<- hn,aK,e1] at h1;cases h1;obtain ⟨cd,h3⟩:=h2.cl;rw [h3];rfl
 refine ⟨⟨W.x1,W.x2,W.x3,W.x4,W.x5,W.x6,mb,hcl⟩,fun i n e=>?_,Kw W.x8,⟨bm,o,mm _ W.x9 W.x7⟩,hj⟩;obtain ⟨D,h1,h2⟩:=N.at i n e;have h3:Cs[i]?=some (cls n):=by rw [<- hn,aK,e];rfl
 rw [h1] at h3;cases h3;obtain ⟨cd,h4⟩:=h2.cl;have hi:l[i]?≠none:=fun z=>by
  rw [<- hl,aK,z] at h1;cases h1
 cases hq:l[i]? with
 |none=>exact (hi hq).elim
 |some q =>
  obtain ⟨D,b⟩:=q;have e1:D=cls n:=by rw [<- hl,aK,hq] at h1;cases h1;rfl
  have e2:(bits j)[i]?=some b:=by rw [<- hb,aK,hq];rfl
  subst e1;obtain ⟨s1,s2⟩:=W.sb.at i _ b hq;have e3:b=decide (i=j):=by
   unfold bits at e2
   match i,e2 with
   | 0,e|1,e|2,e|3,e|4,e|5,e|6,e|7,e|8,e|9,e|10,e=>simpa using e.symm
   |(i+11),e=>simp at e
  rw [<- e3];exact HQ h4 h2.ty s1 s2
theorem Bt {K:a7}{base:aW}{mg:Str->Option a9}{cls:Str->ac}{x:Str}{C CP:ac}{ns:List Str}{Cs:List ac}{l:List (ac×Bool)}{j:Nat} (X:K.In base) (G:base.Ns aO mg) (T:TopC K x C) (W:Wy K C CP l) (N:HY K ns Cs)
  (hc:cls x=C) (hp:cls "PlanError"=CP) (hn:ns.map cls=Cs) (hl:l.map (·.1)=Cs) (hb:l.map (·.2)=bits j) (hj:j<11) (hx:x∈ns):Xf K base cls ns (cls x) j:=HZ T.mb (Az X G T.ns T.ex T.mb).2 W N hc hp hn hl hb hj hx
end
end J
section
namespace L2
open PySem PySem.Spec PyProof.Rows
section
theorem H_  (hit:s.heap.IsKeyIter it d i es.size ep) (hd:s.heap.get? d=some o) (ho:o.data=.dict es ep) (he:es[i]?=some e)
  (h:∀ h':aW,h'.IsKeyIter it d (i+1) es.size ep->b9 it s.heap h'->Q (some e.key) { s with heap:=h' }) :
  ai (ax prog w) A (i8 (.ref it)) Q E s:=by
 obtain ⟨⟨c0,d0,dt,sl⟩,q1,q2,q3⟩:=id hit;simp only at q2 q3;subst q2 q3;unfold i8;refine a6 (hV ?_);refine bP (name:=dm "__next__") hit.typeIs dJ ?_;refine bz dJ hit.typeIs nq ?_ (m_ _);refine a6 (cK (a:=.ref it) rfl ?_);refine a6 (a6 (a6 (fo hit.typeIs (a8 ?_))));refine a6 (zR q1 rfl ?_);show ai _ _ (if (bc d==cx)=true then _ else _) _ _ s;rw [if_neg (by simp)];refine a6 (cK (a:=d) rfl ?_);refine a6 (uJ hd ho ?_);show ai _ _ (if ((es.size:Int) != (es.size:Int))=true then _ else _) _ _ s;rw [if_neg (by simp)];refine a6 (cK (a:=d) rfl ?_);refine a6 (xR hd ho ?_);show ai _ _ (if ((ep:Int) != (ep:Int))=true then _ else _) _ _ s;rw [if_neg (by simp)];refine a8 ?_;have e0:(if (i:Int)<0 then none else es[(i:Int).toNat]?)=some e:=by
  rw [if_neg (by omega)];simpa using he
 simp only [e0];refine a6 (a6 (fo hit.typeIs (a8 ?_)));refine a6 (Gd hit.typeIs ?_);refine a6 (ej q1 rfl (by simp [iQ]) ?_);have st:∀ k x,k=1->x=bB ((i:Int)+1)->(s.heap.update it (cZ (·.setIfInBounds k x))).IsKeyIter it d (i+1) es.size ep:=fun k x hk hx=>by
  subst hk hx;have q:=cC (cZ (·.setIfInBounds 1 (bB ((i:Int)+1)))) q1 rfl;refine ⟨_,q,rfl,?_⟩;show Data.fields ((#[.ref d,.int i 0,.int es.size 0,.int ep 0] : Array a9).setIfInBounds 1 (bB ((i:Int)+1)))=_;simp [bB]
 have st1:=st _ _ rfl rfl;refine a6 (bw (a6 (Gd st1.typeIs ?_)));refine a8 ?_;exact a8 ⟨_,rfl,a8 (h _ st1 (bb ..))⟩
theorem KL (hh:A.handled=none) (hit:s.heap.IsKeyIter it d i es.size ep) (hd:s.heap.get? d=some o) (ho:o.data=.dict es ep) (he:es.size<=i)
  (h:∀ h':aW,sD it s.heap h'->Q none { s with heap:=h' }) :
  ai (ax prog w) A (i8 (.ref it)) Q E s:=by
 obtain ⟨⟨c0,d0,dt,sl⟩,q1,q2,q3⟩:=id hit;simp only at q2 q3;subst q2 q3;unfold i8;refine a6 (hV ?_);refine bP (name:=dm "__next__") hit.typeIs dJ ?_;refine bz dJ hit.typeIs nq ?_ (m_ _);refine a6 (cK (a:=.ref it) rfl ?_);refine a6 (a6 (a6 (fo hit.typeIs (a8 ?_))));refine a6 (zR q1 rfl ?_);show ai _ _ (if (bc d==cx)=true then _ else _) _ _ s;rw [if_neg (by simp)];refine a6 (cK (a:=d) rfl ?_);refine a6 (uJ hd ho ?_);show ai _ _ (if ((es.size:Int) != (es.size:Int))=true then _ else _) _ _ s;rw [if_neg (by simp)];refine a6 (cK (a:=d) rfl ?_);refine a6 (xR hd ho ?_);show ai _ _ (if ((ep:Int) != (ep:Int))=true then _ else _) _ _ s;rw [if_neg (by simp)];refine a8 ?_;have e0:(if (i:Int)<0 then none else es[(i:Int).toNat]?)=none:=by
  rw [if_neg (by omega)];simpa using he
 simp only [e0];refine a6 (a6 (fo hit.typeIs (a8 ?_)));refine a6 (ej q1 rfl (by simp [iQ]) ?_);show ai _ _ (nQ (.type "StopIteration") [] >>= _) _ _ _;refine a6 ?_;simp only [nQ,Gq];refine a6 (bg ?_ (by size_fits));refine a6 (m:=iG _ _) (cK (a:=cx) ?_ ?_)
 ·first
   |rfl
   |(simp only [iG];rfl)
 refine bg ?_ (by size_fits);simp only [mW];refine a6 (BU ?_);rw [show A.in1.handled=none from hh];refine a6 (a8 (Gr ?_));refine a6 (gR (T:="StopIteration") (b:=true) ⟨_,av _ rfl,rfl⟩ zS ?_);exact a8 (h _ (((bb ..).extBut.push _).push _))
theorem KM (hs:(d==eg)=false) (hd:s.heap.get? d=some o) (hx:o.ExactDict) (ho:o.data=.dict es ep)
  (h:Q (.ref s.heap.objs.size) { s with heap:=s.heap.push { cls:=.type "dict_keyiterator",data:=.fields #[.ref d,.int 0 0,.int es.size 0,.int ep 0] } }) :
  ai (ax prog w) A (sx (.ref d)) Q E s:=by
 have ty:s.TypeIs (.ref d) "dict":=⟨o,hd,hx.1⟩;refine uG ty wk (bz wk ty PySem.F.entry_dict_iter ?_ (PySem.F.args_dict_iter_1 _));refine a6 (a6 (wpAny_notOrdered_dict ty (a6 (cK (a:=(bc d,[])) rfl (a8 ?_)))));refine a6 (cK (a:=d) rfl ?_);refine a6 (cK (a:=()) (by unfold Builtin.Dict.showsAll;rw [hs];rfl) ?_);refine a6 (uJ hd ho ?_);refine a6 (xR hd ho ?_);refine a6 (bg ?_ (by size_fits));exact a8 ⟨_,rfl,"dict_keyiterator",_,⟨_,av _ rfl,rfl⟩,PySem.F.slot_dict_keyiterator_next.lookup,h⟩
end
def NV (a:ac) (o:Obj) (kvs:List (List dQ×V)):It :=
 ⟨fun i H=>H a=some (.frz o (.dT kvs))/\i<kvs.length,fun i H x H'=>H'=H/\∃ k v b,kvs[i]?=some (k,v)/\x=.ref b/\H b=some (.tup (k.map kV)),fun i H=>H a=some (.frz o (.dT kvs))/\kvs.length<=i⟩
theorem CG {α β:Type}{F:α->β->Prop}{l:List α}{m:List β} (h:zz F l m):∀ {i:Nat}{x:α},l[i]?=some x->∃ y,m[i]?=some y/\F x y:=by
 induction h with
 |nil=>intro i x e;simp at e
 |cons a _ ih =>
  intro i x e;cases i with
  |zero=>cases e;exact ⟨_,rfl,a⟩
  |succ i=>exact ih e
theorem tX       (ok:lC P w H h) (e:H a=some (.frz o (.dT kvs))):(a==eg)=false/\h.get? a=some o/\o.ExactDict/\∃ es ep,o.data=.dict es ep/\es.size=kvs.length /\
  ∀ (i:Nat) (k:List dQ) (v:V),kvs[i]?=some (k,v)->∃ (en:D4) (b:ac),es[i]?=some en/\en.key=bc b/\H b=some (.tup (k.map kV)):=by
 obtain ⟨h0,z,y,xs,r,o',es,ep,h1,h2,h3,h4,h5⟩:=(show cj P w H h a (.frz o (.dT kvs)) from ok a _ e);rw [h0] at h1;cases h1;refine ⟨y,h0,h2,es,ep,h3,?_,fun i k v hk=>?_⟩
 ·rw [<- am,h4,aN];exact (gm r).symm
 ·obtain ⟨q,q1,q2⟩:=CG r hk;refine ⟨entryOfKey (mT (dZ P w)) q,q.2.1,?_,?_,q2.2.1⟩
  ·rw [<- cB,h4,aK,q1];rfl
  ·rfl
theorem CH {P:aJ}{w:aS}{K:a7}{tg:aQ}{a it:ac}{o:Obj}{kvs:List (List dQ×V)}{es:Array D4}{ep:Nat} (hd:o.data=.dict es ep) (hn:es.size=kvs.length) :
  zY P w K tg (NV a o kvs) [it] it (fun i h=>h.IsKeyIter it a i es.size ep) where
 mem:=by simp
 obj:=fun i h st b hb=>by
  have e:b=it:=by simpa using hb
  subst e;obtain ⟨o,e,c,d⟩:=st;exact ⟨o,e,fun v z=>by rw [d] at z;cases z⟩
 keep:=fun i h h' st k=>st.at fun o e=>k it (by simp) o e
 item:=by
  intro X hP hw hK hc i pins s σ H E I hf st hg;subst hP hw hK;obtain ⟨hq,hi⟩:=hg;obtain ⟨_,g1,_,es',ep',g2,g3,g4⟩:=tX I.hok hq;rw [hd] at g2;cases g2;obtain ⟨en,b,e1,e2,e3⟩:=g4 i _ _ (aY hi);obtain ⟨f0,f1,f2,f3,f4,f5⟩:=hf it (by simp);refine H_ st g1 hd e1 fun h' st' sb=>?_;have I1:aV X pins σ H { s with heap:=h' }:=I.turned (t':=s.toks) (fun b o hb e=>(sb.2 b hb).trans e) f0 f1 f3 f4 f5;obtain ⟨o',e,c,d⟩:=id st';refine ⟨_,rfl,DO (s:={ s with heap:=h' }) e c d (by decide) ⟨.ref b,H,I1,?_,⟨rfl,_,_,b,aY hi,rfl,e3⟩,st',fun b hb=>(hf b hb).1⟩⟩;rw [e2];rfl
 done:=by
  intro X hP hw hK hc i pins s σ H E I hf st hg;subst hP hw hK;obtain ⟨hq,hi⟩:=hg;obtain ⟨_,g1,_,es',ep',g2,g3,g4⟩:=tX I.hok hq;obtain ⟨f0,f1,f2,f3,f4,f5⟩:=hf it (by simp);exact KL (I.ok.hd hc) st g1 hd (by omega) fun h' eb=>⟨rfl,I.turned (t':=s.toks) (fun b o hb e=>eb b o hb e) f0 f1 f3 f4 f5⟩
 self:=fun _ _ _ _ _ st h=>wpAny_pyIter_keyiter st h
def MB (tl:TE):TI:=fun σ H R=>tl σ H fun x H1=>∃ a o kvs,x=.ref a/\H1 a=some (.frz o (.dT kvs))/\R (NV a o kvs) H1
theorem I9 {X:Cx}{tg l:aQ}{tl:TE} (hl:PE X l tl):PI X tg l (MB tl):=by
 intro pins s σ H R I h;refine dX (hl pins s σ H _ I h) fun v s1 h1=>?_;obtain ⟨x,H1,I1,r1,q1⟩:=h1;obtain ⟨a,o,kvs,e,hq,q⟩:=q1;subst e;cases r1;obtain ⟨y,g1,g0,es,ep,g2,g3,g4⟩:=tX I1.hok hq;refine KM y g1 g0 g2 ?_;refine ⟨s1.heap.objs.size,[s1.heap.objs.size],_,_,H1,rfl,I1.kept (t':=s1.toks) fun b o e=>ag _ e,CH g2 g3,⟨_,av _ rfl,rfl,rfl⟩,fun b hb=>?_,q⟩;rw [List.mem_singleton.mp hb];exact I1.fpOk (aq _) (I1.hok.fresh (aq _))
def P9 (tk tv:TE):TE:=fun σ H Q=>∀ p,H p=none->tk σ (upd H p (.dT [])) fun y H1=>tv σ H1 fun v H2=>∃ kvs k b,H2 p=some (.dT kvs)/\y=.ref b/\H2 b=some (.tup (k.map kV))/\kvs.length<sizeLine/\Q (.ref p) (upd H2 p (.dT (kU kvs k v)))
theorem FE    (hu:X.A.units+1<ik) (hk:PE X k tk) (hv:PE X v tv):PE X (.Dict [some k] [v] pos) (P9 tk tv):=by
 intro pins s σ H Q I h;refine wpAny_Dict_any rfl rfl (by simp) (by simp) ?_;have I0:aV X pins σ (upd H s.heap.objs.size (.dT [])) { s with heap:=s.heap.push { cls:=.type "dict",data:=.dict #[] } }:=I.laid (a:=s.heap.objs.size) (o:=.dT []) (t':=s.toks) (fun _ _ q=>ag _ q) (aq _) (E3 s.heap I.big);have h0:=h s.heap.objs.size (I.hok.fresh (aq _));simp only [pairTrees,evalPairs];refine a6 (dX (hk pins _ σ _ _ I0 h0) fun u1 s1 h1=>?_);obtain ⟨y,H1,I1,r1,q1⟩:=h1;refine a6 (bw (a6 (dX (hv pins s1 σ H1 _ I1 q1) fun u2 s2 h2=>?_)));obtain ⟨z,H2,I2,r2,q2⟩:=h2;obtain ⟨kvs,ks,b,e1,e2,e3,e4,q⟩:=q2;refine a6 (hU (a8 ?_));refine a6 (bw (a8 (a8 ?_)));subst e2;cases r1;unfold storeAll;simp only [gP,js,bind_assoc];obtain ⟨z1,hd,xs,rel,dd⟩:=IK I2.hok e1;have hz:xs.length<=sizeLine:=by rw [<- gm rel];exact z1
 have hl:(kU kvs ks z).length<=sizeLine:=by have:=lV kvs ks z;omega
 refine a6 (wpAny_dictSet_heap (by show X.A.units<ik;omega) (qd I2.hok e3) dd (fun h' dd' hs=>?_) hz);obtain ⟨o',es,ep,hq,g2,g3,g4,_,g5⟩:=dd';have I3:=wA (t':=s2.toks+(mT (dZ X.prog X.w)).draws ks) I2 (by rw [e1];exact fQ) hs ⟨o',hq⟩ (ob:=.dT (kU kvs ks z)) ⟨hl,hd,_,(rel.put ks e3 r2).keeps fun c ys ec=>(by rw [aG (Dz ec e1 (fun z=>nomatch z))];exact ec),o',es,ep,hq,g2,g3,g4,g5⟩;exact a8 ⟨.ref s.heap.objs.size,_,I3,rfl,q⟩
end L2
namespace J
open PySem L2
def keysOf:List D->Option (List dQ)
 |[]=>some []
 |d::r=>(qZ d).bind fun k=>(keysOf r).map (k::·)
def tY:D->Option (List dQ)
 |.tuple ds=>keysOf ds
 |_=>none
theorem vN:∀ {ds:List D}{ks:List dQ},keysOf ds=some ks->ds=ks.map kD
 |[],ks,h=>by cases h;rfl
 |d::r,ks,h=>by
  unfold keysOf at h;cases hk:qZ d with
  |none=>rw [hk] at h;cases h
  |some y =>
   rw [hk,qS] at h;cases hr:keysOf r with
   |none=>rw [hr] at h;cases h
   |some l =>
    rw [hr] at h;cases h;rw [bO,<- yG hk,<- vN hr]
theorem pA  (h:tY d=some ks):d=tD ks:=by
 cases d<;>first|(cases h;done)|skip
 rename_i ds
 unfold tD;rw [<- vN (show keysOf ds=some ks from h)]
theorem CI:∀ ks:List dQ,keysOf (ks.map kD)=some ks
 |[]=>rfl
 |k::r=>by rw [bO,keysOf,keyOf_of,CI r];rfl
theorem Bu:∀ a b:List dQ,iu (a.map kD) (b.map kD)=decide (a=b)
 |[],[]=>by simp [iu]
 |[],_::_=>by simp [iu]
 |_::_,[]=>by simp [iu]
 |x::a,y::b=>by
  rw [bO,bO];simp only [iu];rw [F7,Bu a b];by_cases h:x=y<;>by_cases h2:a=b<;>simp [h,h2]
theorem AB (a b:List dQ):bL (tD a) (tD b)=decide (a=b):=by
 unfold tD;simp only [bL];exact Bu a b
theorem RDt.any   (y:List dQ):∀ {ds:List (D×D)},RDt K H kvs ds->(ds.any fun kv=>bL kv.1 (tD y))=kvs.any fun kv=>decide (kv.1=y):=by
 induction kvs with
 |nil=>intro ds h;cases h;rfl
 |cons x r ih=>intro ds h;cases h with|cons h t=>rw [eC,eC,ih t,AB]
theorem RDt.repl  (y:List dQ)  (rv:RD K H v d):∀ {ds:List (D×D)},RDt K H kvs ds ->
  RDt K H (kvs.map fun kv=>if kv.1=y then (kv.1,v) else kv) (ds.map fun kv=>if bL kv.1 (tD y) then (kv.1,d) else kv):=by
 induction kvs with
 |nil=>intro ds h;cases h;exact .nil
 |cons x r ih =>
  intro ds h;cases h with
  | @cons k _ _ _ _ h t =>
   rw [bO,bO];have e:=AB k y;by_cases hk:k=y
   ·subst hk;rw [show (if k=k then (k,v) else (k,_))=(k,v) from if_pos rfl,show (if bL (tD k) (tD k)=true then (tD k,d) else (tD k,_))=(tD k,d) from if_pos (by rw [e];simp)];exact .cons rv (ih t)
   ·simp only [e,hk,if_neg,decide_false,bx,not_false_eq_true];exact .cons h (ih t)
theorem RDt.snoc  (y:List dQ)  (rv:RD K H v d):∀ {ds:List (D×D)},RDt K H kvs ds->RDt K H (kvs++[(y,v)]) (ds++[(tD y,d)]):=by
 induction kvs with
 |nil=>intro ds h;cases h;exact .cons rv .nil
 |cons x r ih=>intro ds h;cases h with|cons h t=>exact .cons h (ih t)
theorem RDt.put    (r:RDt K H kvs ds) (y:List dQ)  (rv:RD K H v d):RDt K H (kU kvs y v) (HI ds (tD y) d):=by
 unfold kU HI;rw [r.any y];split
 ·exact r.repl y rv
 ·exact r.snoc y rv
theorem KN {κ:Type} [DecidableEq κ] {kvs:List (κ×V)}{y:κ}{v:V}:kU kvs y v≠[]:=by
 unfold kU;split
 ·rename_i h
  intro z;have:=List.map_eq_nil_iff.mp z;subst this;cases h
 ·simp
theorem RDt.val   (y:List dQ):∀ {ds:List (D×D)},RDt K H kvs ds->(ki kvs y=none/\m7 ds (tD y)=none)\/∃ v d,ki kvs y=some v/\m7 ds (tD y)=some d/\RD K H v d:=by
 induction kvs with
 |nil=>intro ds h;cases h;exact .inl ⟨rfl,rfl⟩
 |cons x r ih =>
  intro ds h;cases h with
  | @cons k _ _ _ _ h t =>
   unfold ki m7;rw [c_,c_,AB];by_cases hk:k=y
   ·simp only [hk,decide_true,c9];exact .inr ⟨_,_,rfl,rfl,h⟩
   ·simp only [hk,decide_false];exact ih t
def Di:List (D×D)->List (D×D)
 |(.none,_)::r=>r
 |l=>l
def jA (ds:List (D×D)):Bool:=!ds.isEmpty&&ds.all fun kv=>(tY kv.1).isSome
theorem RDk.notT    (h:RDk K H kvs ds) (e:jA (Di ds)=true):False:=by
 cases h with
 |nil=>cases e
 | @cons k _ _ _ _ h t =>
  cases k<;>simp [Di,jA,kD,tY] at e
theorem RDt.un    (h:RDt K H kvs ds):Di ds=ds:=by
 cases h<;>rfl
theorem sr    (sub:cb Hs H) (h:RB K H Hs v (tD ks)):∃ b,v=.ref b/\H b=some (.tup (ks.map kV)):=by
 rcases h with h|⟨_,o,rfl,_,_,ow⟩
 ·cases h with
  |tuple q r =>
   have:=sf (c:=kD) (k:=kV) (fun h=>F8 h) r;subst this;exact ⟨_,rfl,sub _ _ q⟩
 ·cases ow
theorem Bv    (sub:cb Hs H) (h:RB K H Hs v (.dict ds)) (e:jA (Di ds)=true):∃ a kvs,v=.ref a/\RDt K Hs kvs (Di ds)/\∀ (b:ac) (k:List dQ),H b=some (.tup (k.map kV))->rK H a (.ref b) (ki kvs k):=by
 obtain ⟨a,ea,hh⟩:=h.dict sub;clear h;subst ea;rcases hh with ⟨kvs,h1,h2⟩|⟨kvs,h1,hn,h2⟩|⟨o,kvs,es,rfl,h1,hn,h2⟩
 ·exact (h2.notT e).elim
 ·exact ⟨a,kvs,rfl,by rw [h2.un];exact h2,fun b k hb=>rK.t h1 hb⟩
 ·exact ⟨a,kvs,rfl,h2,fun b k hb=>.inr ⟨kvs,k,b,.inr ⟨o,h1⟩,rfl,hb,rfl⟩⟩
def MC:D->D->R D
 |.dict ds,k=>match tY k with
  |some _=>if jA (Di ds)=true then (match m7 (Di ds) k with
   |some d=>.ok d
   |none=>.no) else .no
  |none=>.no
 |_,_=>.no
section
variable {c:C}{a b e k:aQ}{ga gb g gk:aD->R D}{pos p apos:Pos}{x:Str}
theorem AC (hu:c.X.A.units+1<ik) (ha:JB c a ga) (hb:JB c b gb) (hs:se b:=by exact fun _ _=>rfl):JE c (.Subscript a b pos) (g2 ga gb MC):=.of fun ρ=>by
 refine lM (B2 hu (ha ρ) (hb ρ) hs) fun σ H Q h_2=>?_;obtain ⟨H0,Hs0,la,Hs,f,q⟩:=h_2;refine one f q fun d v H1 Hs1 e1 s1 f1 r1=>?_;unfold g2 at q;rw [e1,bind_ok] at q;refine one f1 (q.on s1 (q':=fun _=>True) fun _ _=>trivial) fun y w H2 Hs2 e2 s2 f2 r2=>?_;rw [e2,bind_ok] at q;unfold MC at q;split at q
 ·rename_i ds
  split at q
  ·rename_i ky hy
   obtain rfl:=pA hy;by_cases hf:jA (Di ds)=true
   ·rw [if_pos hf] at q;obtain ⟨p,kvs,rfl,h2,h3⟩:=Bv f2.st.sub (r1.step s2) hf;obtain ⟨b,rfl,hb⟩:=sr f2.st.sub r2;rcases h2.val ky with ⟨_,h4⟩|⟨u,d,h4,h5,h6⟩
    ·rw [h4] at q;exact q.elim
    ·rw [h5] at q;exact ⟨p,u,rfl,by rw [<- h4];exact h3 b ky hb,q _ H2 Hs2 (s1.trans s2) h6⟩
   ·rw [if_neg hf] at q;exact q.elim
  ·exact q.elim
 ·exact q.elim
def inT (neg:Bool):D->D->R D
 |k,.dict ds=>match tY k with
  |some _=>if jA (Di ds)=true then .ok (.bool (if neg then !(m7 (Di ds) k).isSome else (m7 (Di ds) k).isSome)) else .no
  |none=>.no
 |_,_=>.no
theorem CJ (hu:c.X.A.units+1<ik):uB c.X (bh .NotIn) (inT true):=by
 refine ⟨fun pins s σ H x y v u Q I rv ru h=>?_,fun x y c n=>?_⟩
 ·obtain ⟨Hs,dx,dy,sub,rx,ry,d,hd,q⟩:=h;unfold inT at hd;split at hd
  ·rename_i ds
   split at hd
   ·rename_i ky hy
    obtain rfl:=pA hy;split at hd
    ·rename_i hf
     cases hd;obtain ⟨p,kvs,rfl,h2,h3⟩:=Bv sub ry hf;obtain ⟨b,rfl,hb⟩:=sr sub rx;cases ru;refine L2.H9 hu I (h3 b ky hb) rv fun s' I'=>⟨.bl _,H,I',rfl,?_⟩;have e:(ki kvs ky).isSome=(m7 (Di ds) (tD ky)).isSome:=by
      rcases h2.val ky with ⟨h4,h5⟩|⟨u,d,h4,h5,h6⟩<;>rw [h4,h5]<;>rfl
     rw [e];exact q _ H Hs (.refl sub) (.bool _)
    ·cases hd
   ·cases hd
  ·cases hd
 ·unfold inT;split<;>(try split)<;>(try split)<;>exact fun h=>by cases h
def Bw (i:Nat) (gk g:aD->R D):aD->R Fl:=fun ρ=>match ρ[i]? with
 |some (Sl.own (.dict kvs))=>(g ρ).bind fun d=>(gk ρ).bind fun k=>match tY k with
  |some _=>if kvs.length<1000/\jA kvs=true then .ok (.nx (ρ.set i (.own (.dict (HI kvs k d))))) else .no
  |none=>.no
 |_=>.no
theorem FF (i:Nat) (h:JE c e g) (hk:JE c k gk) (hu:c.X.A.units+1<ik) (hN:c.X.N[i]?=some x:=by rfl) (hv:C1 c.X.env.scope x:=by first|exact eu rfl|exact cX (eu rfl)|exact cX (cX rfl)) (hd:(x==("__debug__" : Str))=false:=by decide)
  (hcd:(x==("__classdict__" : Str))=false:=by decide) (hs:fP e (some (.Subscript (.Name x p) k apos)) pos.line c.X.env=pure false:=by rfl):JS c (.Assign [.Subscript (.Name x p) k apos] e pos) (Bw i gk g):=.of fun ρ=>by
 refine tm (Hb hu (jO hN hv hd hcd) (hk ρ) (h ρ) hs) fun D σ H h_1=>?_;obtain ⟨H0,Hs0,la,Hs,f,q⟩:=h_1;replace q:kl c.X.K c.cls c.E H0 Hs0 la D (Bw i gk g ρ):=q;unfold Bw at q;split at q
 ·rename_i kvs ho
  obtain ⟨a,o,k1,k2,k3,k4,k5⟩:=f.ow i _ ho;refine sE f q fun d v H1 Hs1 e1 s1 f1 r1=>?_;rw [e1,bind_ok] at q;refine ⟨_,k1,sE f1 q fun y w H2 Hs2 e2 s2 f2 r2=>?_⟩;rw [e2,bind_ok] at q;split at q
  ·rename_i ky hy
   obtain rfl:=pA hy;by_cases hl:kvs.length<1000/\jA kvs=true
   ·rw [if_pos hl] at q;cases k5 with
    |dK r=>exact (r.notT (by cases r with|nil=>exact hl.2 | @cons k _ _ _ _ _ _=>cases k<;>exact hl.2)).elim
    |dF n r=>cases hl.2
    |dT n r =>
     have ha:=s2.all _ _ (s1.all _ _ k2);have r':=(r.same s1.sh).same s2.sh;obtain ⟨b,rfl,hb⟩:=sr f2.st.sub (.inl r2);exact ⟨a,_,rfl,E2.t ha hb (bS (by rw [r.length];omega)),q _ _ Hs2 (f2.write i ho k1 (.dT KN (r'.put ky (r1.same s2.sh))))⟩
   ·rw [if_neg hl] at q;exact q.elim
  ·exact q.elim
 ·exact q.elim
end
end J
namespace J
open PySem L2
def j6 (i:Nat) (ρ:aD):aD:=match ρ[i]? with
 |some (Sl.own (.dict ((.tuple ks,v)::r)))=>ρ.set i (.own (.dict ((.none,.none)::(.tuple ks,v)::r)))
 |_=>ρ
theorem Ic       (I:aV X pins σ H s) (h:H a=some (.dT kvs)):∃ o,aV X pins σ (upd H a (.frz o (.dT kvs))) s:=by
 obtain ⟨z,y,xs,pr,o,es,ep,e1,e2,e3,e4,e5⟩:=(show cj X.prog X.w H s.heap a (.dT kvs) from I.hok a _ h);have new:cj X.prog X.w (upd H a (.frz o (.dT kvs))) s.heap a (.frz o (.dT kvs)) :=
  ⟨e1,z,y,xs,Paired.mapP pr fun p q w=>⟨w.1,by rw [aG (Dz w.2.1 h (fun z=>nomatch z))];exact w.2.1,w.2.2⟩,o,es,ep,e1,e2,e3,e4,e5⟩
 have:=I.write (x:=a) (e:=a) (h':=s.heap) (t':=s.toks) (by rw [h];trivial) (.inl rfl) (fun b u _ q=>q) ⟨o,e1⟩ new;exact ⟨o,this⟩
theorem MD   (h:PS X st t):PS X st (fun D σ H=>t D σ H\/∃ a kvs,H a=some (.dT kvs)/\∀ o,t D σ (upd H a (.frz o (.dT kvs)))):=fun pins s σ H D I q=>by
 rcases q with q|⟨a,kvs,ha,q⟩
 ·exact h pins s σ H D I q
 ·obtain ⟨o,I'⟩:=Ic I ha;exact h pins s σ _ D I' (q o)
theorem KO (i:Nat)  (h:JS c st gs):JS c st (fun ρ=>gs (j6 i ρ)):=.of fun ρ=>tm (MD (h (j6 i ρ))) fun D' σ H hh=>by
 obtain ⟨H0,Hs0,la,Hs,f,q⟩:=hh;by_cases hx:∃ ks v r,ρ[i]?=some (Sl.own (.dict ((.tuple ks,v)::r)))
 ·obtain ⟨ks,v,r,ho⟩:=hx;have e:j6 i ρ=ρ.set i (.own (.dict ((.none,.none)::(.tuple ks,v)::r))):=by unfold j6;rw [ho]
  obtain ⟨a,o,k1,k2,k3,k4,k5⟩:=f.ow i _ ho;generalize hd:PyData.dict ((.tuple ks,v)::r)=d0 at k5;cases k5 with
  |lst r=>cases hd
  |dK rk =>
   cases hd;generalize hd:((.tuple ks,v)::r:List (D×D))=d1 at rk;cases rk with
   |nil=>cases hd
   | @cons k _ _ _ _ _ _=>cases k<;>cases hd
  |dF n r=>cases hd
  |dT n r =>
   cases hd;exact .inr ⟨a,_,k2,fun o=>⟨H0,Hs0,la,Hs,by rw [e];exact f.write i ho k1 (.dF n r),q⟩⟩
 ·have e:j6 i ρ=ρ:=by
   unfold j6;split
   ·rename_i ks v r ho;exact (hx ⟨ks,v,r,ho⟩).elim
   ·rfl
  refine .inl ⟨H0,Hs0,la,Hs,by rw [e];exact f,q⟩
def FG:D->R (List D)
 |.dict ((.none,.none)::ds)=>.ok (ds.map (·.1))
 |_=>.no
def KP (g:aD->R D):aD->R (List D):=fun ρ=>(g ρ).bind FG
theorem RDt.get   : ∀ {ds:List (D×D)}{i:Nat}{k:List dQ}{v:V},RDt K H kvs ds->kvs[i]?=some (k,v)->∃ d,ds[i]?=some (tD k,d):=by
 induction kvs with
 |nil=>intro ds i k v h e;simp at e
 |cons x r ih =>
  intro ds i k v h e;cases h with
  |cons h t =>
   cases i with
   |zero=>cases e;exact ⟨_,rfl⟩
   |succ i=>have q:=ih (i:=i) t e;exact q
theorem FH  : ∀ ks:List dQ,RDs K H (ks.map kV) (ks.map kD)
 |[]=>.nil
 |k::r=>.cons (by cases k<;>constructor) (FH r)
theorem Ie      (h:Hn a=some (.frz o (.dT kvs))) (r:RDt K Hs kvs ds):J4 K (NV a o kvs) (ds.map (·.1)) Hn Hs:=fun H2 Hs2 e1 e2 e3=>by
 have q:=e1 _ _ h;have hl:=r.length;refine ⟨fun i hi=>⟨q,?_⟩,fun i hi=>⟨q,?_⟩,fun i x H3 hi y=>?_⟩
 ·rw [aN] at hi;omega
 ·rw [aN] at hi;omega
 ·obtain ⟨rfl,k,v,b,y1,rfl,y3⟩:=y;obtain ⟨d,y4⟩:=r.get y1;have same:cb Hs2 (upd Hs2 b (.tup (k.map kV))):=fun c u e=>by
   by_cases hc:c=b
   ·subst hc;have:=e3 _ _ e;rw [y3] at this;cases this;exact aH
   ·rw [aG hc];exact e
  refine ⟨tD k,upd Hs2 b (.tup (k.map kV)),by rw [aK,y4];rfl,⟨.refl _,same,fun c u e=>?_,fun c u e t z=>?_⟩,.tuple aH (FH k)⟩
  ·by_cases hc:c=b
   ·subst hc;rw [aH] at e;cases e;exact y3
   ·rw [aG hc] at e;exact e3 _ _ e
  ·by_cases hc:c=b
   ·subst hc;rw [y3] at e;cases e;cases t
   ·rw [aG hc];exact z
section
theorem Ig (h:JB c l g):JI c tg l (KP g):=.of fun ρ=>by
 refine EY (I9 (h ρ)) fun σ H Q hh=>?_;obtain ⟨H0,Hs0,la,Hs,f,q⟩:=hh;refine one f q fun d v H1 Hs1 e1 s1 f1 r1=>?_;unfold KP at q;rw [e1,bind_ok] at q;unfold FG at q;split at q
 ·obtain ⟨a,ea,hh⟩:=r1.dict f1.st.sub;rcases hh with ⟨kvs,h1,h2⟩|⟨kvs,h1,hn,h2⟩|⟨o,kvs,es,he,h1,hn,h2⟩
  ·generalize hd:((.none,.none)::_:List (D×D))=d0 at h2;cases h2 with
   |nil=>cases hd
   | @cons k _ _ _ _ _ _=>cases k<;>cases hd
  ·generalize hd:((.none,.none)::_:List (D×D))=d0 at h2;cases h2<;>cases hd
  ·cases he;exact ⟨a,o,kvs,ea,h1,q _ H1 Hs1 H1 s1 (.refl _) (Ie h1 h2)⟩
 ·exact q.elim
def NW (gk gv:aD->R D):aD->R D:=fun ρ=>(gk ρ).bind fun k=>(gv ρ).bind fun v=>match tY k with
 |some _=>.ok (.dict [(k,v)])
 |none=>.no
theorem FI (hu:c.X.A.units+1<ik) (hk:JE c k gk) (hv:JE c v gv):JN c (.Dict [some k] [v] pos) (NW gk gv):=.of fun ρ=>by
 refine lM (FE hu (hk ρ) (hv ρ)) fun σ H Q hh=>?_;obtain ⟨H0,Hs0,la,Hs,f,q⟩:=hh;intro p hp;have sm:bN H Hs (upd H p (.dT [])) Hs:=.mine f.st.sub hp;have np:Hs p=none:=f.st.sub.free hp;unfold NW at q;refine uR (f.step sm) (q.on sm (q':=fun _=>True) fun _ _=>trivial) fun y w H1 Hs1 e1 s1 f1 r1=>?_;rw [e1,bind_ok] at q;refine uR f1 (q.on (sm.trans s1) (q':=fun _=>True) fun _ _=>trivial) fun z u H2 Hs2 e2 s2 f2 r2=>?_;rw [e2,bind_ok] at q;split at q
 ·rename_i ky hy
  obtain rfl:=pA hy;obtain ⟨b,rfl,hb⟩:=sr f1.st.sub (.inl r1);have s12:=s1.trans s2;have hp2:H2 p=some (.dT []):=s12.all _ _ aH;have hn2:Hs2 p=none:=s12.out _ _ aH rfl np;let H3:Hp:=fun x=>if x=p then none else H2 x
  have h3:∀ x,x≠p->H3 x=H2 x:=fun x hx=>if_neg hx;have st:bN H Hs H3 Hs2:=by
   refine ⟨fun x o e=>?_,s12.sh,fun x o e=>?_,fun x o e t n=>?_⟩
   ·have hx:=aI e hp;rw [h3 x hx];exact s12.all _ _ (by rw [aG hx];exact e)
   ·have hx:x≠p:=fun z=>by rw [z,hn2] at e;cases e
    rw [h3 x hx];exact f2.st.sub _ _ e
   ·have hx:=aI e hp;exact s12.out _ _ (by rw [aG hx];exact e) t n
  have:=q p (.dT [(ky,u)]) H3 Hs2 st (if_pos rfl) (.dT (by simp) (.cons r2 .nil));have e3:upd H3 p (.dT [(ky,u)])=upd H2 p (.dT (kU [] ky u)):=by
   funext x;by_cases hx:x=p
   ·subst hx;rw [aH,aH];rfl
   ·rw [aG hx,aG hx,h3 x hx]
  rw [e3] at this;exact ⟨[],ky,b,hp2,rfl,s2.all _ _ hb,by rw [xF];decide,this⟩
 ·exact q.elim
def KQ (g:aD->R D):aD->R Bool:=fun ρ=>(g ρ).bind fun d=>match d with
 |.list ds=>.ok (!ds.isEmpty)
 |_=>.no
theorem KS (h:JB c e g) (he:∀ whole,sv e c.X.env whole=(do let v <- whole;qM e.pos;qN [v] (truthy v)):=by intro _;rfl):JT c e (KQ g):=.of fun ρ=>M3 (DR (h ρ) he) fun σ H Q hh=>by
 obtain ⟨H0,Hs0,la,Hs,f,q⟩:=hh;refine one f q fun d v H1 Hs1 e1 s1 f1 r1=>?_;unfold KQ at q;rw [e1,bind_ok] at q;split at q
 ·obtain ⟨a,vs,rfl,qa,ra⟩:=r1.list f1.st.sub;refine ⟨_,.inl ⟨vs,qa,rfl⟩,?_⟩;cases ra with
  |nil=>exact q H1 Hs1 s1
  |cons _ _=>exact q H1 Hs1 s1
 ·exact q.elim
end
end J
namespace L2
open PySem PySem.Spec PyProof.Rows
end L2
namespace J
open PySem L2
def tZ:List D->Option (List Int)
 |[]=>some []
 |.int b::r=>(tZ r).map (b::·)
 |_::_=>none
theorem yU:∀ {bs:List Int},tZ ds=some bs->ds=bs.map oF:=by
 induction ds with
 |nil=>intro bs h;cases h;rfl
 |cons d r ih =>
  intro bs h;cases d with
  |int b =>
   have h:(tZ r).map (b::·)=some bs:=h;cases hr:tZ r with
   |none=>rw [hr] at h;cases h
   |some z=>rw [hr] at h;cases h;rw [ih hr];rfl
  |_=>cases h
end J
namespace J
open PySem L2
def OG (i:Nat) (g:aD->R Fl):aD->R Fl:=fun ρ=>g (j6 i ρ)
theorem KU (i:Nat)  (h:JS c st gs):JS c st (OG i gs):=KO i h
end J
namespace J
open PySem L2
end J
namespace J
open PySem L2
def rS (i:Nat) (ρ:aD):R D:=Ap ρ i
def rB (i:Nat) (ρ:aD):R D:=Cq ρ i
def kI (n:Int) (_:aD):R D:=.ok (.int n)
def kB (b:Bool) (_:aD):R D:=.ok (.bool b)
def kN (_:aD):R D:=.ok .none
def kT (_:aD):R Bool:=.ok true
theorem ME (i:Nat) (ρ:aD):rS i ρ=Ap ρ i:=id rfl
theorem MF (i:Nat) (ρ:aD):rB i ρ=Cq ρ i:=id rfl
theorem MG (n:Int) (ρ:aD):kI n ρ=.ok (.int n):=id rfl
end J
end
section
namespace L2
open PySem PySem.Spec PyProof.Rows
section
end
end L2
namespace J
open PySem L2
section
end
end J
end
namespace L2
open PySem PySem.Spec PyProof.Rows
section
open Builtin Builtin.ObjectAttr
inductive Bx (h:aW) (bmB:List a9) (nms:List Str):List a9->Prop
 |base:Bx h bmB nms bmB
 |own {A:ac}{c0:a9}{dd:Option ac}{cd:ClassData}{sl:Array (Option a9)}{mA:Str->Option a9}{tl:List a9} :
   h.get? A=some { cls:=c0,dict:=dd,data:=.cls cd,slots:=sl }->h.Ns cd.ns mA->(∀ n∈nms,mA n=none)->Bx h bmB nms tl->Bx h bmB nms (.ref A::tl)
section
variable {M:D1}{A:aR}{E:a9->ae->Prop}{h:aW}{g:Array zB}{d:D0}{t:Nat}{os:OsState}
variable {nm q:Str}{C N x:ac}{bs bm bmB:List a9}{hdct:Bool}{sn:List Str}{sub:List a9}{ab:Bool}{col:Option Bool}{dd:Option ac}{k0 k1 k2 k3 k5:Option a9}{B newId initId sa owner:String}{nms:List Str}{name:Str}{v:a9}{mN:Str->Option a9}
end
section
variable {prog:aJ}{w:aS}{A:aR}{E:a9->ae->Prop}{h:aW}{g:Array zB}{d:D0}{t:Nat}{os:OsState}
variable {nm q:Str}{C N x:ac}{bs bm bmB:List a9}{sn:List Str}{sub:List a9}{ab:Bool}{col:Option Bool}{dd:Option ac}{k0 k1 k2 k3 k5:Option a9}{B newId initId sa owner:String}{nms:List Str}{name:Str}{v:a9}{mN:Str->Option a9}
end
end
section
section
variable {prog:aJ}{w:aS}{A:aR}{E:a9->ae->Prop}{h:aW}{g:Array zB}{d:D0}{t:Nat}{os:OsState}
variable {nm q:Str}{C N:ac}{bs bm bmB:List a9}{hdct:Bool}{sn:List Str}{sub:List a9}{ab:Bool}{col:Option Bool}{dd:Option ac}{k0 k1 k2 k3 k5:Option a9}{B newId initId:String}
end
section
end
section
end
end
section
structure KW (h:aW) (fI:ac):Prop where
 ex:∃ (oI:Obj) (fd:cp) (p1 p2 p3 p4:Pos),h.get? fI=some oI/\oI.cls=.type "function"/\oI.data=.func fd/\h.CodeRec fd.code fd.qualname/\fd.scope.isCoroutine=false/\fd.scope.isGenerator=false/\fd.scope.kind=.function /\
  fd.scope.names=[(("self" : Str),lL),(("number" : Str),lL)]/\fd.body=.stmts [.Assign [.Attribute (.Name "self" p1) "number" p2] (.Name "number" p3) p4]/\∀ (s:ae) (e v:a9),(∀ b o,h.get? b=some o->s.heap.get? b=some o)->qO s fd ⟨[e,v],[]⟩ [("self",e),("number",v)]
section
end
section
end
end
section
structure NX (x:Str) (C:ac) (mg:Str->Option a9) (base:aW):Prop where
 bound:mg x=some (.ref C)
 obj:∃ nm q N bs bm sn sub ab col dd k0 k1 k2 k3 k5 mN fI,base.get? C=some (excClassObj nm q C N bs bm true sn sub ab col dd k0 k1 k2 k3 k5 "ValueError.__new__")/\base.Ns N mN/\mN "__init__"=some (.ref fI)/\mN "__setattr__"=none/\mN "number"=none /\
  Bx base [.type "ValueError",.type "Exception",.type "BaseException",.type "object"] ["__init__","__setattr__","number"] bm/\KW base fI
section
variable {P:aJ}{w:aS}{K:a7}{mg:Str->Option a9}{base:aW}{N:List Str}{qual:Str}{scope:cf}{f:ac}{cd:a9}{A:aR}{outer:List Env}{s:ae}{H:Hp}{E:XK}
end
end
end L2
namespace J
open PySem L2
section
open PySem.W (nsIn nsOkIn codeIn fnOf)
theorem MH      (X:K.In h) (G:h.Ns N mg) (e:nsIn K N n=some (some v)):mg n=some v:=by
 obtain ⟨o,es,ep,ho,hd,_,hf⟩:=G;unfold dC at e;split at e
 ·rename_i c d es' n' sl q
  have:=X _ _ q;rw [ho] at this;cases this;cases hd;split at e
  ·rename_i he
   rw [<- hf];unfold nsFind findBy;rw [<- BL,he];cases e;rfl
  ·split at e<;>cases e
 ·cases e
structure NY (K:a7) (x:Str) (C:ac) (st:cy):Prop where
 ns:nsIn K aO x=some (some (.ref C))
 own:∀ {h:aW}{mg:Str->Option a9},K.In h->h.Ns aO mg->NX x C mg h
 mb:bH K C (.type "BaseException")=some true
 ox:∀ {h:aW},K.In h->∃ bm,wM h C bm/\∀ v,(v==bc C)=false->bH K C v=some true->bm.contains v=true
theorem topN {K:a7}{x:Str}{C CP fI T0 Nn NP:ac}{st:cy}{nm qn nmP qnP fq:Str}{bs bsP mroP subP sub:List a9}{sn snP:List Str}{ab abP hdP delP:Bool}{col colP:Option Bool}{dd dP od dT an:Option ac}{k0 k1 k2 k3 k5:Option a9}{c0 kV doc pm cdv ct cT:a9}{slP slF slT:Array (Option a9)}{nT:Nat}{p1 p2 p3 p4:Pos}{cN cM:a9}{dN dM:Option ac}{esN esM:Array D4}{epN epM:Nat}{slN slM:Array (Option a9)}
  (a1:nsIn K aO x=some (some (.ref C))) (a4:bH K C (.type "BaseException")=some true)
  (a2:K.lookup C=some ⟨.type "type",dd,.cls ⟨nm,bs,[.ref C,.ref CP,.type "ValueError",.type "Exception",.type "BaseException",.type "object"],Nn,qn,true,sn,sub,ab,col,false⟩,#[k0,k1,k2,k3,some (.builtin "ValueError.__new__"),k5]⟩)
  (a3:K.lookup CP=some ⟨c0,dP,.cls ⟨nmP,bsP,mroP,NP,qnP,hdP,snP,subP,abP,colP,delP⟩,slP⟩)
  (b1:nsIn K Nn "__init__"=some (some (.ref fI))) (b2:nsIn K Nn "__setattr__"=some none) (b3:nsIn K Nn "number"=some none)
  (c1:nsIn K NP "__init__"=some none) (c2:nsIn K NP "__setattr__"=some none) (c3:nsIn K NP "number"=some none)
  (d1:K.lookup fI=some ⟨.type "function",od,.func (fnOf "__init__" fq (fO st) (du st) (aw st) (.ref T0) kV doc pm an cdv ct),slF⟩)
  (d2:K.lookup T0=some ⟨cT,dT,.seq #[.none] nT,slT⟩) (d3:codeIn K cdv fq=true)
  (g1:K.lookup Nn=some ⟨cN,dN,.dict esN epN,slN⟩) (g2:K.lookup NP=some ⟨cM,dM,.dict esM epM,slM⟩) (g3:(esN.toList.all fun e=>match e.key with | .str _ _=>true|_=>false)=true) (g4:(esM.toList.all fun e=>match e.key with | .str _ _=>true|_=>false)=true)
  (f1:du st=[.Assign [.Attribute (.Name "self" p1) "number" p2] (.Name "number" p3) p4]) (f2:(aw st).names=[(("self" : Str),lL),(("number" : Str),lL)])
  (f3:(aw st).isCoroutine=false) (f4:(aw st).isGenerator=false) (f5:(aw st).kind=.function)
  (f6:∀ e v,∃ k,pT (fnOf "__init__" fq (fO st) (du st) (aw st) (.ref T0) kV doc pm an cdv ct) ⟨[e,v],[]⟩=mX (.ref T0) >>= k/\k (some #[.none])=pure [(("self" : Str),e),(("number" : Str),v)]):NY K x C st:=by
 have e1:nsOkIn K Nn=true:=by unfold Dx;rw [g1];show esN.all _=true;rw [<- Dy];exact g3
 have e2:nsOkIn K NP=true:=by unfold Dx;rw [g2];show esM.all _=true;rw [<- Dy];exact g4
 refine ⟨a1,fun {h mg} X G=>⟨eX X G a1,nm,qn,Nn,bs,_,sn,sub,ab,col,dd,k0,k1,k2,k3,k5,h.nsMap Nn,fI,X _ _ a2,.of_isNs (iW X e1),?_,dh X e1 b2,dh X e1 b3,?_,⟨_,_,p1,p2,p3,p4,X _ _ d1,rfl,rfl,nN X d3,f3,f4,f5,f2,congrArg FuncBody.stmts f1,fun s e v kb=>?_⟩⟩,a4,fun {h} X=>⟨_,⟨⟨nm,qn,Nn,bs,true,sn,sub,ab,col,dd,k0,k1,k2,k3,k5,_,X _ _ a2⟩,rfl⟩,fun v nv hv=>?_⟩⟩
 ·exact MH X (.of_isNs (iW X e1)) b1
 ·refine .own (X _ _ a3) (.of_isNs (iW X e2)) (fun n hn=>?_) .base;rcases List.mem_cons.mp hn with z|hn
  ·rw [z];exact dh X e2 c1
  rcases List.mem_cons.mp hn with z|hn
  ·rw [z];exact dh X e2 c2
  ·rw [List.mem_singleton.mp hn];exact dh X e2 c3
 ·obtain ⟨k,k1,k2⟩:=f6 e v;exact BindsTo.of_defaults rfl (kb _ _ (X _ _ d2)) rfl k1 k2
 ·unfold bH el at hv;rw [a2] at hv;have:(bc C::[bc CP,.type "ValueError",.type "Exception",.type "BaseException",.type "object"]).contains v=true:=by simpa using hv
  rw [jv,nv,kC] at this;exact this
section
end
end
section
section
end
end
end J
section
namespace L2
open PySem PySem.Spec PyProof.Rows
theorem Ih  (h:cu (ns.map V.int) its):AllInts its.toArray/\numsOf its=ns:=by
 induction ns generalizing its with
 |nil=>cases h;exact ⟨fun v hv=>absurd hv (by simp),rfl⟩
 |cons n r ih =>
  cases h with
  |cons a b =>
   obtain ⟨t,rfl⟩:=a;obtain ⟨h1,h2⟩:=ih b;refine ⟨fun v hv=>?_,?_⟩
   ·rcases (by simpa using hv:v=.int n t\/_) with z|z
    ·exact ⟨n,t,z⟩
    ·exact h1 v (by simpa using z)
   ·show n::numsOf _=_;rw [h2]
theorem uT (hc:X.calm=true):i6 X (.builtin "sum") (fun xs H Q=>∃ p,∃ ns:List Int,xs=[.ref p]/\jx X.K H p (ns.map V.int)/\Q (.int ns.sum) H):=by
 intro pins s σ H xs us Q I r h;obtain ⟨p,ns,rfl,hq,q⟩:=h;obtain ⟨u,rfl,rx⟩:=jy r;cases rx;obtain ⟨its,r',pl,hl⟩:=I.list hq;obtain ⟨ha,hn⟩:=Ih r';obtain ⟨xs,hx⟩:=ha.items;have hl:=pl.isList;rw [hx] at hl;have hs:preSum (numAt xs) xs.size=ns.sum:=by
  rw [<- hn,show its=its.toArray.toList from rfl,hx,nums_intItems,preSum_eq,List.take_of_length_le (by simp)]
 refine sum_intListG (I.ok.hd hc) hl fun h' tk t' hk=>?_;rw [hs];exact ⟨.int ns.sum,H,I.kept (t':=tk) hk,⟨t',rfl⟩,q⟩
end L2
namespace L2
open PySem PySem.Spec PyProof.Rows
end L2
namespace J
open PySem L2
def Ii:D->R D
 |.list ds=>match tZ ds with
  |some ns=>.ok (.int ns.sum)
  |none=>.no
 |_=>.no
theorem KY (hc:X.calm=true):EU X (.builtin "sum") (lE Ii):=by
 refine ql (fun d c n=>?_) fun pins s σ H x u Q Hs d d' I ru sub rx hd q=>?_
 ·unfold Ii;split<;>(try split)<;>exact fun h=>by cases h
 ·unfold Ii at hd;split at hd
  ·split at hd
   ·rename_i ns hs
    cases hd;obtain ⟨a,vs,rfl,qa,ra⟩:=rx.list sub;rw [yU hs] at ra;rw [wN ra] at qa;exact uT hc pins s σ H _ _ Q I (.cons ru .nil) ⟨a,ns,rfl,qa,q _ H Hs (.refl sub) (.int _)⟩
   ·cases hd
  ·cases hd
end J
end
namespace J
open PySem L2
section
end
end J
namespace L2
open PySem PySem.Spec PyProof.Rows
section
section
end
end
end L2
namespace J
open PySem L2
section
section
variable {c:C}{pos:Pos}{x:Str}{kx vx iter tg:aQ}{ifs:List aQ}{scope:cf}{N':List Str}{nt:Nat}{ix:List Nat}{gi:aD->R (List D)}{gt:aD->R Bool}{gk gv:aD->R D}
end
end
end J
section
namespace L2
open PySem PySem.Spec PyProof.Rows
end L2
namespace J
open PySem L2
section
end
end J
end
namespace J
open PySem L2
section
end
section
end
section
def NZ (p:HO->Bool) (H Hs:Hp):Hp:=fun b=>match Hs b,H b with
 |some o,_=>some o
 |none,some o=>if p o then some o else none
 |none,none=>none
def Pa (p:HO->Bool) (H Hs Hs1:Hp):Hp:=fun b=>match Hs b,H b with
 |none,some o=>if p o then none else Hs1 b
 |_,_=>Hs1 b
section
end
inductive MI (p:HO->Bool) (K:a7) (cls:Str->ac) (E:XK) (ρ:aD) (r:R (List D)) (σ:St) (H:Hp) (Q:List V->Hp->Prop):Prop
 |mk (H0 Hs0:Hp) (la:Nat->Option ac) (Hs:Hp) (f:Fr K H0 Hs0 la ρ σ H Hs) (q:Fin K cls E H Hs r fun d=>∀ v H' Hs',bN H Hs H' Hs'->RDs K (NZ p H' Hs') v d->Q v H'):MI p K cls E ρ r σ H Q
structure JL (p:HO->Bool) (c:C) (es:List aQ) (g:aD->R (List D)):Prop where of ::
 run:∀ ρ,PA c.X es (MI p c.X.K c.cls c.E ρ (g ρ))
section
end
end
section
section
end
end
end J
section
namespace L2
open PySem PySem.Spec PyProof.Rows
end L2
namespace J
open PySem L2
end J
end
namespace J
open PySem L2
section
section
end
end
end J
section
namespace L2
open PySem PySem.Spec PyProof.Rows
inductive MJ (X:Cx) (CX:A6) (E:XK) (t:TA) (σ:St) (Q:VK) (v:V) (H1:Hp):Prop
 |mk (k:Nat) (f:ac) (fd:cp) (ps:List Str) (sp:Sp) (h0:v=.ref f) (F:kS X.prog X.w X.K X.mg X.base CX k f fd ps sp) (hr:eL k X.A) (hk:bC X.K (.ref f)=true) (hb:fD X.K fd ps []) (q:xV sp [] E t σ H1 Q):MJ X CX E t σ Q v H1
end L2
namespace J
open PySem L2
inductive yV (c:C) (n j:Nat):List aQ->List (List D->R D)->List ac->Prop
 |nil:yV c n j [] [] []
 |cons {x:Str}{p:Pos}{F:List D->R D}{k:Nat}{f:ac}{fd:cp}{ps:List Str}{es:List aQ}{Fs:List (List D->R D)}{as:List ac} (hf:kS c.X.prog c.X.w c.X.K c.X.mg c.X.base (iA c.X.prog c.X.w) k f fd ps (EV c.X.K c.cls n F)) (hm:c.X.mg x=some (.ref f)) (hk:bC c.X.K (.ref f)=true) (hb:fD c.X.K fd ps []) (hj:k<=j) (hg:Gl c.X x) (hdb:(x==("__debug__" : Str))=false) (r:yV c n j es Fs as):yV c n j (.Name x p::es) (F::Fs) (f::as)
section
inductive FJ (c:C) (n j:Nat) (F:List D->R D) (f:ac):Prop
 |mk (k:Nat) (fd:cp) (ps:List Str) (hf:kS c.X.prog c.X.w c.X.K c.X.mg c.X.base (iA c.X.prog c.X.w) k f fd ps (EV c.X.K c.cls n F)) (hk:bC c.X.K (.ref f)=true) (hb:fD c.X.K fd ps []) (hj:k<=j):FJ c n j F f
theorem CK (h:yV c n j es Fs as):∀ {i:Nat}{F:List D->R D},Fs[i]?=some F->∃ f,as[i]?=some f/\FJ c n j F f:=by
 induction h with
 |nil=>intro i F e;simp at e
 | @cons x p F k f fd ps es Fs as hf hm hk hb hj hg hdb r ih =>
  intro i F e;cases i with
  |zero=>cases e;exact ⟨f,rfl,k,fd,ps,hf,hk,hb,hj⟩
  |succ i=>have q:=ih (i:=i) e;exact q
def Jm (Fs:List (List D->R D)) (n:Nat) (gi:aD->R D) (gs:aD->R (List D)) (ρ:aD):R Fl:=(gi ρ).bind fun d=>match d with
 |.int k=>if 0<=k then (match Fs[k.toNat]? with
  |some F=>(gs ρ).bind fun ds=>if ds.length=n then (F ds).bind fun d=>.ok (.rt d) else .no
  |none=>.no) else .no
 |_=>.no
theorem wC       (P:yV c n j es Fs as) (hr:eL j c.X.A) (f:Fr c.X.K H0 Hs0 la ρ σ H Hs) (ha:H a=some (.lst (as.map V.ref))) (q:kl c.X.K c.cls c.E H0 Hs0 la D' (Jm Fs n gi gs ρ)) :
  TR c.X.K c.cls c.E ρ (gi ρ) σ H fun y H2=>LH c.X.K (.ref a) y H2 (MJ c.X (iA c.X.prog c.X.w) c.E (Ki c.X.K c.cls c.E ρ (gs ρ)) σ D'.rt):=by
 refine sE f q fun d v H2 Hs2 e1 s1 f2 r1=>?_;unfold Jm at q;rw [e1,bind_ok] at q;cases r1 with
 |int k =>
  simp only at q;by_cases hk:0<=k
  ·rw [if_pos hk] at q;split at q
   ·rename_i F hF
    obtain ⟨g,h1,k',fd,ps,hf,hkp,hb,hj⟩:=CK P hF;have hix:Aa (as.map V.ref) k=some (.ref g):=by
     have:=B1 (xs:=as.map V.ref) (j:=k.toNat) (v:=V.ref g) (by rw [aK,h1];rfl)
     rwa [Dc hk] at this
    refine ⟨a,as.map V.ref,k,.ref g,rfl,rfl,.of (s1.all _ _ ha),hix,k',g,fd,ps,_,rfl,hf,hr.mono hj,hkp,hb,H0,Hs0,la,Hs2,f2,?_⟩;cases hg:gs ρ with
    |no=>rw [hg] at q;exact q.elim
    |ex y m=>rw [hg] at q;exact fun H3 Hs3 s3=>q H3 Hs3 (f2.st.trans s3)
    |ok ds =>
     rw [hg,bind_ok] at q;intro vs H3 Hs3 s3 r3;have f3:=f2.step s3;by_cases hn:ds.length=n
     ·rw [if_pos hn] at q;show EV _ _ _ _ (vs++[]) _ _ _;rw [bT];refine ⟨Hs3,ds,f3.st.sub,hn,r3,?_⟩;cases hFd:F ds with
      |no=>rw [hFd] at q;exact q.elim
      |ex y m=>rw [hFd] at q;exact fun H4 Hs4 s4=>q H4 Hs4 (f3.st.trans s4)
      |ok d=>rw [hFd] at q;exact fun v H4 Hs4 s4 r4=>q v H4 Hs4 (f3.st.trans s4) r4
     ·rw [if_neg hn] at q;exact q.elim
   ·exact q.elim
  ·rw [if_neg hk] at q;exact q.elim
 |list _ _=>exact q.elim
 |none=>exact q.elim
 |bool _=>exact q.elim
 |str _=>exact q.elim
 |tuple _ _=>exact q.elim
 |dictK _ _=>exact q.elim
 |dictT _ _ _=>exact q.elim
 |dictF _ _ _=>exact q.elim
end
end J
namespace J
open PySem L2
end J
end
namespace TS
open PySem PyProof.Rows
section
section
variable {prog:aJ}{w:aS}{A:aR}{E:a9->ae->Prop}{s:ae}{kd:p_}{rk:a9->Nat}{L:List hX}
variable {l:Bool}{k:hX}{a:Array hX}{b n h i:Nat}{g:Nat->Nat}{st:zX}
end
end
section
structure Mg {α:Type} (lt:α->α->Prop) (T out ra rb:List α):Prop where
 perm:(out++ra++rb).Perm T
 so:out.Pairwise lt
 sa:ra.Pairwise lt
 sb:rb.Pairwise lt
 oa:∀ x∈out,∀ y∈ra,lt x y
 ob:∀ x∈out,∀ y∈rb,lt x y
section
variable {α:Type}{lt:α->α->Prop}{T out ra rb p:List α}
end
section
variable {a:Array hX}{i k:Nat}{x:hX}
end
section
variable {rk:a9->Nat}{a:Array hX}{L:List hX}
end
end
section
section
variable {prog:aJ}{w:aS}{A:aR}{E:a9->ae->Prop}{s:ae}{kd:p_}{rk:a9->Nat}{L:List hX}{st st':zX}
def Pb (rk:a9->Nat) (x y:hX):Prop:=rk x.1<rk y.1
variable {a b out:Array hX}{ia ib k:Nat}{p q:hX}
end
end
section
section
variable {prog:aJ}{w:aS}{A:aR}{E:a9->ae->Prop}{s:ae}{kd:p_}{rk:a9->Nat}{L:List hX}{st st':zX}
def W (rk:a9->Nat) (a b out:Array hX) (na nb:Nat):Prop:=Mg (fun x y=>Pb rk y x) (a.toList++b.toList) out.toList (a.toList.take na).reverse (b.toList.take nb).reverse
variable {a b out:Array hX}{n m k:Nat}{p q:hX}
end
end
section
section
variable {prog:aJ}{w:aS}{A:aR}{E:a9->ae->Prop}{s:ae}{kd:p_}{rk:a9->Nat}{L:List hX}{st:zX}{a:Array hX}
end
end
section
section
variable {prog:aJ}{w:aS}{A:aR}{E:a9->ae->Prop}{s:ae}{kd:p_}{rk:a9->Nat}{L:List hX}{st:zX}{a:Array hX}
end
end
section
section
variable {prog:aJ}{w:aS}{A:aR}{E:a9->ae->Prop}{s:ae}{kd:p_}{rk:a9->Nat}{L:List hX}{st:zX}{a:Array hX}
end
end
end TS
namespace TS
open PySem PyProof.Rows PySem.W
section
section
variable {prog:aJ}{w:aS}{A:aR}{E:a9->ae->Prop}{s:ae}
end
end
section
section
end
end
section
section
end
end
end TS
namespace L2
open PySem PySem.Spec PyProof.Rows PySem.W
section
section
end
end
section
section
end
section
end
end
end L2
namespace J
open PySem L2
section
end
end J
section
namespace L2
open PySem PySem.Spec PyProof.Rows PySem.W
end L2
namespace J
open PySem L2
end J
end
namespace J
open PySem PySem.Spec PyProof.Rows L2
section
section
end
end
end J
section
namespace L2
open PySem PySem.Spec PyProof.Rows
end L2
namespace J
open PySem L2
end J
end
namespace L2
open PySem PySem.Spec PyProof.Rows
section
section
variable {prog:aJ}{w:aS}{A:aR}{R:sA->ae->Prop}{s:ae}
end
end
section
section
variable {prog:aJ}{w:aS}{A:aR}{R:sA->ae->Prop}{s:ae}
end
end
section
end
end L2
namespace J
open PySem L2
section
section
variable {K:a7}{cls:Str->ac}{w:aS}{E:XK}{σ:St}{H:Hp}{Q:VK}{ρ ρ':aD}{H0 Hs0 H1 Hs1 Hn:Hp}{la:Nat->Option ac}{nt:Nat}{ix:List Nat}{gi gi2:aD->R (List D)}{gt gt2:aD->R Bool}{ge:aD->R D}{J:It}{es zs:List D}{ss sa sz tl:List Str}
end
section
variable {c:C}{elt tg iter tg2 iter2:aQ}{ifs ifs2:List aQ}{scope:cf}{pos:Pos}{N':List Str}{nt:Nat}{ix:List Nat}{gi gi2:aD->R (List D)}{gt gt2:aD->R Bool}{ge:aD->R D}
end
end
section
section
variable {c:C}
end
end
end J
namespace L2
open PySem PySem.Spec PyProof.Rows
section
end
end L2
namespace J
open PySem L2
section
section
variable {c:C}{pos:Pos}{x:Str}{kx vx iter tg:aQ}{ifs:List aQ}{scope:cf}{N':List Str}{nt:Nat}{ix:List Nat}{gi:aD->R (List D)}{gt:aD->R Bool}{gk gv:aD->R D}
end
end
end J
section
namespace L2
open PySem PySem.Spec PyProof.Rows
end L2
namespace J
open PySem L2
section
end
end J
end
namespace TP
open PySem PyProof.Rows PySem.W TS
section
section
variable {prog:aJ}{w:aS}{A:aR}{E:a9->ae->Prop}{s:ae}{Q:Bool->ae->Prop}{v u:a9}{x y:Str×Int}{a b:ac}
end
end
section
section
variable {prog:aJ}{w:aS}{A:aR}{E:a9->ae->Prop}{s:ae}{kd:p_}{rk:a9->Nat}{L:List hX}{st:zX}{a:Array hX}
end
end
end TP
namespace L2
open PySem PySem.Spec PyProof.Rows PySem.W
section
section
end
end
end L2
namespace J
open PySem L2
section
section
variable {K:a7}{H Hs:Hp}{X:Cx}
end
end
end J
namespace L2
open PySem PySem.Spec PyProof.Rows PySem.W
section
section
variable {X:Cx}{pins:List (ac×Obj)}{σ:St}{H:Hp}{s:ae}
end
end
end L2
namespace J
open PySem L2
section
section
variable {K:a7}{H Hs:Hp}{c:C}{e:aQ}{g:aD->R D}{p apos ipos cpos:Pos}
end
end
section
section
variable {c:C}
end
end
end J
section
namespace L2
open PySem PySem.Spec PyProof.Rows
section
variable {prog:aJ}{w:aS}{A:aR}{R:sA->ae->Prop}{I:ac}{fp wr:List ac}{n:Nat}{P:Nat->a9->Prop}{St:Nat->aW->Prop}{d:a9}
end
section
variable {prog:aJ}{w:aS}{A:aR}{E:a9->ae->Prop}{s:ae}
theorem Ij {id:String}{b:fY}{args:List a9}{kw:List (Str×a9)}{Q:a9->ae->Prop} (hk:builtinKind id=none) (hp:plainId id=true) (hb:zM table id=some b) (ha:argsOk id ⟨args,kw⟩)
  (hc:ai (ax prog w) A.in1 (b ⟨args,kw⟩) (fun fin s'=>match fin with
   |.done f=>(match (Except.ok f:sA) with | .ok (.ret v)=>Q v s' | .ok _=>False | .error e=>E e s')
   |.again c'=>c'.quiet=true/\em (ax prog w) A c' (fun r s'=>match r with | .ok (.ret v)=>Q v s' | .ok _=>False | .error e=>E e s') s') E s):ai (ax prog w) A (call (.builtin id) args kw) Q E s:=by
 refine kO (jn hp hb ?_);simp only [we,hk]
 cases hsig:Manifest.signature? id with
 |none=>exact a8 hc
 |some sig =>
  have h2:Bind.checkArgs id sig ⟨args,kw⟩=pure ():=by simpa only [argsOk,hsig] using ha
  simp only [h2];exact a8 hc
end
end L2
namespace J
open PySem L2
section
variable {X:Cx}{c:C}
end
end J
end
namespace L2
open PySem PySem.Spec PyProof.Rows
section
end
end L2
namespace J
open PySem L2
section
section
variable {K:a7}{cls:Str->ac}{E:XK}{σ:St}{H:Hp}{Q:VK}{ρ ρ':aD}{H0 Hs0 H1 Hs1 Hn:Hp}{la:Nat->Option ac}{nt:Nat}{ix:List Nat}{gi gi2:aD->R (List D)}{gt gt2:aD->R Bool}{ge:aD->R D}{J:It}{es zs ys ya tl:List D}{va:List V}
end
section
variable {c:C}{elt tg iter tg2 iter2:aQ}{ifs ifs2:List aQ}{scope:cf}{pos:Pos}{N':List Str}{nt:Nat}{ix:List Nat}{gi gi2:aD->R (List D)}{gt gt2:aD->R Bool}{ge:aD->R D}
end
end
end J
namespace L2
open PySem PySem.Spec PyProof.Rows PySem.Calls
section
theorem t_ {pos:Pos}{i0 j0:Int}{t0 u0:Tok}{c cv:a9}:∀ (l:List a9),wa l->mU pos (l++[.int i0 t0,.int j0 u0,c])=some cv->mU pos l=some cv\/cv=c
 |[],_,h=>by
  have h':(if i0==pos.line&&j0==pos.col then some c else none)=some cv:=h
  split at h'
  ·exact .inr (a_ h').symm
  ·cases h'
 |.int i t::.int j u::x::r,ht,h=>by
  have h':(if i==pos.line&&j==pos.col then some x else mU pos (r++[.int i0 t0,.int j0 u0,c]))=some cv:=h
  show (if i==pos.line&&j==pos.col then some x else mU pos r)=some cv\/cv=c
  split at h'
  ·rename_i hc;rw [if_pos hc];exact .inl h'
  ·rename_i hc;rw [if_neg hc];exact t_ r ht h'
theorem pB {i j:Int}{t u:Tok}{c:a9}:∀ (l:List a9),wa l->wa (l++[.int i t,.int j u,c])
 |[],_=>trivial
 |.int _ _::.int _ _::_::r,h=>pB r h
section
variable {X:Cx}{pins:List (ac×Obj)}{σ:St}{H:Hp}{s:ae}
theorem aV.grow {P c':ac}{oc:Obj}{ps qs:Array a9}{h':aW}{t':Nat} (I:aV X pins σ H s) (hP:H P=some (.tbl ps)) (kx:sD P s.heap h') (hc:s.heap.objs.size<=c') (eo:h'.get? c'=some oc)
  (eP:h'.get? P=some { cls:=.none,data:=.fields qs }) (tq:wa qs.toList) (cq:∀ pos cv,mU pos qs.toList=some cv->∃ c o u vs q t,cv=.ref c/\upd H c' (.frz oc (.own 0)) c=some (.frz o u)/\o.data=.fields vs/\vs[1]?=some (.str q t)/\ps[0]?=some (.str q 0)) :
  aV X pins σ (upd H c' (.frz oc (.own 0))) { s with heap:=h',toks:=t' }:=by
 have hn:H c'=none:=I.hok.fresh hc
 have nP:∀ b,H b=none->b≠P:=fun b n z=>by rw [z,hP] at n;cases n
 have nc:∀ b o,s.heap.get? b=some o->b≠c':=fun b o e=>aA (au (al e) hc)
 refine I.un ⟨fun b o e n _ _=>kx b o (nP b n) e,fun b o e n _ _=>⟨o.slots,kx b o (nP b n) e⟩,fun b o e n _=>by rw [aG (nc b o e)];exact n,fun b o e _=>?_,fun b xs e=>by rw [aG (aI e hn)];exact e,fun b o u e=>by rw [aG (aI e hn)];exact e,fun b qs e=>⟨#[],by rw [aG (aI e hn),e];simp⟩⟩ fun a o e=>?_
 ·by_cases z:b=P
  ·rw [z];exact ⟨_,eP⟩
  ·exact ⟨o,kx b o z e⟩
 ·by_cases z:a=c'
  ·subst z
   rw [aH] at e
   cases e
   exact ⟨eo,⟨oc,eo⟩⟩
  ·rw [aG z] at e
   by_cases zP:a=P
   ·subst zP
    rw [hP] at e
    cases e
    exact ⟨qs,eP,tq,cq⟩
   ·refine (I.hok a o e).stay (fun b u hb e'=>kx b u ?_ e') (fun b e'=>by rw [aG (aI e' hn)];exact e') (fun b xs e'=>by rw [aG (aI e' hn)];exact e') fun b ob u e'=>by rw [aG (aI e' hn)];exact e'
    rcases hb with rfl|hb
    ·exact zP
    ·rintro rfl;rw [hP] at hb;cases hb
theorem aV.pinNew {o:Obj}{t':Nat} (I:aV X pins σ H s) (nd:∀ v,o.data≠.cell v) (fr:o.isFreed=false):aV X ((s.heap.objs.size,o)::pins) σ H { s with heap:=s.heap.push o,toks:=t' }:=by
 have I2:aV X pins σ H { s with heap:=s.heap.push o,toks:=t' }:=I.kept (t':=t') fun _ _ e=>ag _ e
 have fp:=I.fpOk (H':=H) (aq _) (I.hok.fresh (aq _))
 refine I2.pins_of fun p hp=>?_
 rcases List.mem_cons.mp hp with rfl|hp
 ·exact ⟨av _ fr,fp.f0,fp.f1,fp.f2,nd⟩
 ·exact I2.pin p (ak _ hp)
abbrev qp (X:Cx):Str:=X.env.qual++"<lambda>"
theorem FK {params:mV}{body:aQ}{scope:cf}{pos:Pos}{c P:ac}{q:Str}{cl:List (Str×ac)}{Q:a9->ae->Prop}{E:a9->ae->Prop} (I:aV X pins σ H s) (hdef:defaultsOf params X.env=([],[])) (hcode:X.env.code=.ref c) (hci:c6 X.K (.ref c) q=true) (hch:dH X.K c P=true) (hnP:X.K.lookup P=none) (hq0:q=Ju) (hq:X.env.qual=q++".<locals>.") (hcl:closureFor scope X.env=pure cl)
  (h:∀ f c' oc u vs t ctv pm H' s',aV X ((f,rH "<lambda>" (qp X) params body scope cl pm c' ctv)::pins) σ H' s'->cb H H'->H' c'=some (.frz oc u)->oc.data=.fields vs->vs[1]?=some (.str (qp X) t)->Q (.ref f) s') :
  ai (ax X.prog X.w) X.A (cQ (.Lambda params body scope pos) X.env) Q E s:=by
 refine PySem.W.kla_eval hdef ?_
 obtain ⟨ps,hP,hps⟩:=I.ok.tb.more I.base.tbls c P q hci hch hnP hq0
 obtain ⟨qs,eP,tq,cq⟩:=I.hok P _ hP
 have C:=zv I.kIn hch
 obtain ⟨bm,ob,b1,b2,b3,b4,b5,b6⟩:=I.mod.bm
 have bmh:=I.bk bm ob b3
 have hg:s.heap.Ns aO X.mg:=I.mod.glob.keeps I.bk
 have hgP:aO≠P:=fun z=>by
  obtain ⟨o,es,ep,e,hd,_⟩:=hg
  rw [z,eP] at e;cases e;cases hd
 have hbP:bm≠P:=fun z=>by rw [z,eP] at bmh;cases bmh;cases b4
 have hbG:bm≠aO:=fun z=>by
  obtain ⟨o,es,ep,e,hd,_⟩:=hg
  rw [z,e] at bmh;cases bmh;rw [hd] at b6;cases b6
 have hb:s.heap.BuiltinsAt X.mg P:=⟨bm,ob,b1,b2,hbG,hbP,bmh,b4,b5,b6⟩
 have eq:qp X=q++".<locals>."++"<lambda>":=by unfold qp;rw [hq]
 cases hf:mU pos qs.toList with
 |none =>
  refine PySem.W.kla_makeFunction hcl I.ok.glob hg hcode C eP tq hf hgP hb fun c' ctv h' tk kx hc1 hc2 hrec htb=>?_
  obtain ⟨c₂,oc,vs,t,e2,hoc,hd,hv⟩:=hrec
  cases e2
  have hn:H c'=none:=I.hok.fresh hc1
  have I1:=I.grow (t':=tk) (qs:=qs++#[bB pos.line,bB pos.col,.ref c']) hP kx hc1 hoc htb (by rw [AY];exact pB _ tq) fun pos' cv ha=>by
   rw [AY] at ha
   rcases t_ _ tq ha with ha|rfl
   ·obtain ⟨c3,o3,u3,vs3,q3,t3,r1,r2,r3⟩:=cq pos' cv ha
    exact ⟨c3,o3,u3,vs3,q3,t3,r1,by rw [aG (aI r2 hn)];exact r2,r3⟩
   ·exact ⟨c',oc,.own 0,vs,_,t,rfl,aH,hd,hv,by rw [hps,<- eq]⟩
  exact h _ c' oc (.own 0) vs t ctv _ _ _ (I1.pinNew (t':=tk) (fun v z=>by cases z) rfl) (gX hn) aH hd hv
 |some cv =>
  obtain ⟨c',oc,u,vs,q',t,rfl,e1,e2,e3,e4⟩:=cq pos cv hf
  refine PySem.W.kla_makeFunctionHit hcl I.ok.glob hg hcode C eP tq hf hb fun ctv h' tk hk hsz=>?_
  have I1:aV X pins σ H { s with heap:=h',toks:=tk }:=I.kept (t':=tk) hk
  have eqq:q'=qp X:=(Value.str.inj (a_ (e4.symm.trans hps))).1.trans eq.symm
  exact h _ c' oc u vs t ctv _ _ _ (I1.pinNew (t':=tk) (fun v z=>by cases z) rfl) (.refl H) e1 e2 (by rw [<- eqq];exact e3)
end
end
section
abbrev Ik (X:Cx) (scope:cf) (cl:List (Str×ac)) (f c' L:ac):Env:=PySem.W.envX (qp X) scope L f (.ref c') cl
def By (X:Cx) (N':List Str) (scope:cf) (cl:List (Str×ac)) (f c':ac) (s:ae) (H:Hp):Cx :=
 { X with A:=X.A.in1.deeper (Ik X scope cl f c' s.heap.objs.size),N:=N',s₀:=s,H₀:=H,env:=Ik X scope cl f c' s.heap.objs.size,outer:=X.stack,stack:=Ik X scope cl f c' s.heap.objs.size::X.stack,ex:=[],fn:=fun _=>false,pn:=[],xe:=fun _ _=>False }
structure yW (X:Cx) (scope:cf) (N':List Str) (ix:List Nat) (p:Str):Prop where
 kind:scope.kind=.function
 co:scope.isCoroutine=false
 gen:scope.isGenerator=false
 nocell:∀ y∈scope.names,y.2≠.cell
 par:scope.names.lookup p=some .local
 hd:N'[0]?=some p
 free:∀ y∈scope.names,y.2=.free->X.env.scope.names.lookup y.1=some .cell\/X.env.scope.names.lookup y.1=some .free
 cap:∀ k i,ix[k]?=some i->∃ x,X.N[i]?=some x/\N'[1+k]?=some x/\scope.names.lookup x=some .free
 len:N'.length=1+ix.length
def xg (ix:List Nat) (σ:St) (x:V):St:=some x::ix.map fun i=>(σ[i]?).join
section
variable {X:Cx}{pins:List (ac×Obj)}{σ:St}{H:Hp}{s:ae}
theorem Il {scope:cf}{N':List Str}{ix:List Nat}{p:Str}{cl:List (Str×ac)}{f c':ac}{h₁:aW}{t':Nat}{v:a9}{x:V} (S:yW X scope N' ix p) (hc:X.calm=true) (I:aV X pins σ H s)
  (c1:∀ x c,cl.lookup x=some c->X.env.cells.lookup x=some c) (c2:∀ y∈scope.names,y.2=.free->∃ c,cl.lookup y.1=some c) (rx:bW x v) (hns:h₁.Ns s.heap.objs.size fun y=>[(p,v)].reverse.lookup y) (old:∀ b o,s.heap.get? b=some o->h₁.get? b=some o) :
  aV (By X N' scope cl f c' s H) [] (xg ix σ x) H { s with heap:=h₁,toks:=t' }:=by
 have cellOld:∀ {c v},s.heap.IsCell c v->h₁.IsCell c v:=fun {c v} ⟨o,ho,hd⟩=>⟨o,old _ _ ho,hd⟩
 refine ⟨⟨I.ok.mod,S.kind,rfl,rfl,aq _,fun y z c h1 h2=>I.ok.inj y z c (c1 y c h1) (c1 z c h2),fun y hy=>?_,fun y c h _=>cm h,fun _=>I.ok.hd hc,zu (show X.A.in1.frames=some X.stack from I.ok.frames),.inr ⟨rfl,rfl⟩,fun b z=>absurd (show b∈([] : List ac) from z) (by simp),I.bs,cn I.ok.bsz I.sz,fun b o e z=>absurd (show b∈([] : List ac) from z) (by simp),fun b z=>absurd (show b∈([] : List ac) from z) (by simp),I.stack,I.stkFree,I.ok.tb.more I.base.tbls⟩,
  rfl,I.bare,Un.kept old,⟨_,hns,fun i y w h1 h2 h3=>?_⟩,fun y c h=>?_,I.hok.fresh (aq _),fun y c h=>I.freeC y c (c1 y c h),fun q hq=>absurd (show q∈([] : List (ac×Obj)) from hq) (by simp),I.hok.kept old,?_⟩
 ·have hy:scope.names.lookup y=some .cell\/scope.names.lookup y=some .free:=hy
  rcases hy with hy|hy
  ·exact absurd rfl (S.nocell _ (bt hy))
  ·exact c2 _ (bt hy) rfl
 ·have h1:N'[i]?=some y:=h1
  cases i with
  |zero =>
   rw [S.hd] at h1
   cases h1
   have h2:some (some x)=some (some w):=h2
   cases h2
   exact ⟨v,rx,.inl ⟨S.par,by simp⟩⟩
  |succ k =>
   have h2:(ix.map fun i=>(σ[i]?).join)[k]?=some (some w):=h2
   rw [aK] at h2
   cases e:ix[k]? with
   |none=>rw [e] at h2;cases h2
   |some j =>
    rw [e] at h2
    have hj:σ[j]?=some (some w):=by
     have q:(σ[j]?).join=some w:=a_ h2
     cases e3:σ[j]? with
     |none=>rw [e3] at q;cases q
     |some o=>rw [e3] at q;cases o with
      |none=>cases q
      |some v'=>cases q;rfl
    obtain ⟨x',n1,n2,fr⟩:=S.cap _ _ e
    rw [Nat.add_comm 1 k,h1] at n2
    cases n2
    obtain ⟨mm,hn,hl⟩:=I.loc
    have hfree:=S.free (y,.free) (bt fr) rfl
    obtain ⟨u,r,l⟩:=hl j y w n1 hj (hfree.elim (fun z=>.inr (.inl z)) fun z=>.inr (.inr z))
    refine ⟨u,r,?_⟩
    rcases l with ⟨k,_⟩|⟨k,c,hcc,hcell⟩
    ·have k:X.env.scope.names.lookup y=some .local:=k
     rcases hfree with z|z<;>(rw [z] at k;cases k)
    ·obtain ⟨c'',hc'⟩:=c2 _ (bt fr) rfl
     have:=c1 y c'' hc'
     rw [hcc] at this
     cases this
     exact .inr ⟨.inr fr,c,hc',cellOld hcell⟩
 ·obtain ⟨v,q⟩:=I.cell y c (c1 y c h)
  exact ⟨v,cellOld q⟩
 ·show (xg ix σ x).length=N'.length
  rw [S.len]
  unfold xg
  rw [bE,aN,Nat.add_comm]
theorem FL {params:mV}{body:aQ}{scope:cf}{N':List Str}{ix:List Nat}{p:Str}{cl:List (Str×ac)}{f c':ac}{oc:Obj}{u:HO}{vs:Array a9}{t:Tok}{pm ctv:a9}{te:TE}{x:V}{v:a9}{Q:VK} (S:yW X scope N' ix p) (hc:X.calm=true)
  (I:aV X ((f,rH "<lambda>" (qp X) params body scope cl pm c' ctv)::pins) σ H s) (hcr:H c'=some (.frz oc u)) (hd:oc.data=.fields vs) (hv:vs[1]?=some (.str (qp X) t))
  (c1:∀ x c,cl.lookup x=some c->X.env.cells.lookup x=some c) (c2:∀ y∈scope.names,y.2=.free->∃ c,cl.lookup y.1=some c) (hroom:X.A.depth<kM) (hbind:∀ v,pT (sH "<lambda>" (qp X) params body scope cl pm (.ref c') ctv) ⟨[v],[]⟩=pure [(p,v)])
  (hb:∀ s,PE (By X N' scope cl f c' s H) body te) (rx:bW x v) (q:te (xg ix σ x) H Q) :
  ai (ax X.prog X.w) X.A.in1 (call (.ref f) [v]) (EP X ((f,rH "<lambda>" (qp X) params body scope cl pm c' ctv)::pins) σ Q) (fun _ _=>False) s:=by
 obtain ⟨pf,_⟩:=I.pin (f,_) (ak _ ao)
 have hcd:s.heap.CodeRec (.ref c') (qp X):=⟨c',oc,vs,t,rfl,(I.hok c' _ hcr).1,hd,hv⟩
 refine kO (iC (PySem.W.kla_callFunE (R:=fun r s'=>∃ w,r=.ok (.ret w)/\CE X.stack X.prog X.w H s Q w s') hroom pf rfl S.co S.gen rfl hcd ?_) fun r s' h=>?_)
 ·rw [hbind v]
  refine a8 (wpAny_newFunctionEnv S.nocell (fun y hy=>?_) (fun h₁ hns hsb=>⟨?_,?_⟩) S.kind)
  ·rw [List.mem_singleton.mp hy];exact S.par
  ·exact I.nolimit.fresh _ hsb
  ·show em _ _ (.expr body (Ik X scope cl f c' s.heap.objs.size)) _ _
   have old:∀ b o,s.heap.get? b=some o->h₁.get? b=some o:=fun b o e=>hsb.extBut b o (aA (al e)) (ag _ e)
   have J:=Il (f:=f) (c':=c') (t':=s.toks+[(p,v)].length) S hc I c1 c2 rx hns old
   refine PySem.W.kla_codeExpr (bu (hb s [] _ _ H Q J q) (fun w s' h=>?_) fun _ _ h=>(show False from h).elim)
   obtain ⟨y,H',J',r,q'⟩:=h
   exact ⟨w,rfl,⟨y,H',J'.os,J'.bare,J'.base,J'.hok,r,q'⟩⟩
 ·obtain ⟨w,rfl,ce⟩:=h
  exact I.after ce
structure CL (X:Cx) (D:ac):Prop where
 ex:D∈X.ex\/X.s₀.heap.objs.size<=D
 cells:∀ x c,X.env.cells.lookup x=some c->c≠D
 pn:∀ p∈X.pn,p.1≠D
theorem n6.newD {D:ac} (h:n6 X pins H D):CL X D:=⟨h.f3,h.f4,fun p hp=>h.f5 p (iK _ hp)⟩
theorem aV.reord {pins':List (ac×Obj)} (I:aV X pins σ H s) (h:∀ p∈pins',p∈pins):aV X pins' σ H s:=I.pins_of fun p hp=>I.pin p (ak _ (h p hp))
theorem aV.repin {D:ac}{o o':Obj}{h':aW}{t':Nat}{pl:List (ac×Obj)} (I:aV X ((D,o)::pl) σ H s) (k:∀ b u,b≠D->s.heap.get? b=some u->h'.get? b=some u) (e':h'.get? D=some o') (nd:∀ v,o'.data≠.cell v) (n:CL X D) (h3:∀ p∈pl,p.1≠D):aV X ((D,o')::pl) σ H { s with heap:=h',toks:=t' }:=by
 obtain ⟨pD,pN,pL,pF,_⟩:=I.pin (D,o) (ak _ ao)
 have I1:aV X pl σ H s:=I.reord fun p hp=>ah _ hp
 have I2:aV X pl σ H { s with heap:=h',toks:=t' }:=I1.turned (it:=D) k pN pL n.ex n.cells fun p hp=>(List.mem_append.mp hp).elim (n.pn p) (h3 p)
 refine I2.pins_of fun p hp=>?_
 rcases aM.1 hp with z|hp
 ·rw [z];exact ⟨e',pN,pL,pF,nd⟩
 ·exact I2.pin p (ak _ hp)
end
def vO (te:TE) (ca:V->St):List V->V->Int->Hp->VK->Prop
 |[],b,_,H,Q=>Q b H
 |x::r,b,m,H,Q=>te (ca x) H fun y H1=>∃ k,y=.int k/\cb H H1/\(if k > m then vO te ca r x k H1 Q else vO te ca r b m H1 Q)
end
section
abbrev Dj (vb:a9) (k:Int) (t:Tok) (c:Nat):Obj:={ cls:=.type "list",data:=.seq #[vb,.int k t] c }
def KR (X:Cx) (pl:List (ac×Obj)) (σ:St) (Q:VK):sA->ae->Prop:=fun r s'=>match r with
 |.ok (.ret v)=>EP X pl σ Q v s'
 |.ok _=>False
 |.error e=>X.xe e s'
section
variable {X:Cx}{σ:St}
theorem Im {f S It l:ac}{of:Obj}{pl:List (ac×Obj)}{xs:List V}{te:TE}{ca:V->St}{Q:VK} (hc:X.calm=true) (nS:CL X S) (nI:CL X It) (SI:S≠It) (Sf:S≠f) (If:It≠f) (hS:∀ p∈pl,p.1≠S) (hI:∀ p∈pl,p.1≠It) (lI:l≠It) (kp:Hp->Prop)
  (kps:∀ H H',kp H->cb H H'->kp H')
  (key:∀ (pins:List (ac×Obj)) (s:ae) (H:Hp) (x:V) (v:a9) (Q:VK),aV X ((f,of)::pins) σ H s->kp H->bW x v->te (ca x) H Q->ai (ax X.prog X.w) X.A.in1 (call (.ref f) [v]) (EP X ((f,of)::pins) σ Q) (fun _ _=>False) s) :
  ∀ (m j:Nat) (s:ae) (H:Hp) (xb:V) (vb:a9) (kb:Int) (tb:Tok) (c:Nat) (oI:Obj),xs.length-j=m->j<=xs.length->aV X ((f,of)::(S,Dj vb kb tb c)::(It,oI)::pl) σ H s->kp H->s.heap.IsListIter It l j->bW xb vb->jx X.K H l xs->vO te ca (xs.drop j) xb kb H Q ->
   em (ax X.prog X.w) X.A (.builtin "max.loop" ⟨[.ref It,.ref f,.ref S],[]⟩) (KR X pl σ Q) s:=by
 have hname:(toString "max"++toString ".loop" : String)="max.loop":=by decide
 intro m
 induction m with
 |zero =>
  intro j s H xb vb kb tb c oI hm hj I hk hit rb hq w
  have hjl:j=xs.length:=by omega
  rw [hjl,List.drop_length] at w
  have w:Q xb H:=w
  obtain ⟨its,r',pll,hz⟩:=I.list hq
  have ln:its.toArray.size=xs.length:=by have:=r'.length;simp at this ⊢;omega
  obtain ⟨gS,_⟩:=I.pin (S,_) (ak _ (ah _ ao))
  have W:=lz (prog:=X.prog) (w:=X.w) (A:=X.A.in1) (I.ok.hd hc) It l lI its.toArray
  refine dk kR ?_
  rw [cP cW _]
  show ai _ X.A.in1 (mX (.ref S) >>= _) _ _ _
  refine a6 (cr gS rfl ?_)
  show ai _ X.A.in1 (tryCatch (i8 (.ref It)) _ >>= _) _ _ _
  refine a6 (iH (W.done _ _ _ ⟨by rw [ln,<- hjl];exact hit,pll.isList⟩ fun h' tk' hk'=>?_))
  have gS':=hk' S _ (by simpa using SI) gS
  have I1:aV X ((S,Dj vb kb tb c)::pl) σ H { s with heap:=h',toks:=tk' }:=by
   have I0:aV X ((S,Dj vb kb tb c)::pl) σ H s:=I.reord fun p hp=>by
    rcases List.mem_cons.mp hp with rfl|hp
    ·exact ah _ ao
    ·exact ah _ (ah _ (ah _ hp))
   obtain ⟨_,pN,pL,_⟩:=I.pin (It,oI) (ak _ (ah _ (ah _ ao)))
   exact I0.turned (it:=It) (fun b o hb e=>hk' b o (by simpa using hb) e) pN pL nI.ex nI.cells fun p hp=>(List.mem_append.mp hp).elim (nI.pn p) fun hp=>(List.mem_cons.mp hp).elim (fun z=>by rw [z];exact SI) (hI p)
  obtain ⟨_,sN,sL,_⟩:=I1.pin (S,Dj vb kb tb c) (ak _ ao)
  have I2:=(I1.reord (pins':=pl) fun p hp=>ah _ hp).turned (t':=tk') (it:=S) (h':=h'.update S (dB fun _=>#[])) (fun b o hb e=>(ck _ _ (cO hb)).trans e) sN sL nS.ex nS.cells fun p hp=>(List.mem_append.mp hp).elim (nS.pn p) (hS p)
  show ai _ X.A.in1 (D9 S (fun _=>#[]) >>= _) _ _ _
  refine a6 ?_
  refine i4 gS' rfl (a6 (jo (a8 ?_)))
  exact ⟨xb,H,I2,rb,w⟩
 |succ m ih =>
  intro j s H xb vb kb tb c oI hm hj I hk hit rb hq w
  have hlt:j<xs.length:=by omega
  obtain ⟨its,r',pll,hz⟩:=I.list hq
  have ln:its.toArray.size=xs.length:=by have:=r'.length;simp at this ⊢;omega
  rw [wc hlt] at w
  obtain ⟨gS,_⟩:=I.pin (S,_) (ak _ (ah _ ao))
  have W:=lz (prog:=X.prog) (w:=X.w) (A:=X.A.in1) (I.ok.hd hc) It l lI its.toArray
  refine dk kR ?_
  rw [cP cW _]
  show ai _ X.A.in1 (mX (.ref S) >>= _) _ _ _
  refine a6 (cr gS rfl ?_)
  show ai _ X.A.in1 (tryCatch (i8 (.ref It)) _ >>= _) _ _ _
  refine a6 (iH (W.item j _ _ _ (by rw [ln];exact hlt) ⟨hit,pll.isList⟩ fun v h' tk' hP hst' hk'=>?_))
  obtain ⟨oI',hoI',hoc,hod⟩:=id hst'.1
  have rx:bW xs[j] v:=by
   obtain ⟨u,hu,ru⟩:=r'.get (aY hlt)
   have hP':its[j]?=some v:=by simpa using hP
   rw [hP'] at hu;cases hu;exact ru
  have I1:aV X ((f,of)::(S,Dj vb kb tb c)::(It,oI')::pl) σ H { s with heap:=h',toks:=tk' }:=by
   have I0:aV X ((It,oI)::(f,of)::(S,Dj vb kb tb c)::pl) σ H s:=I.reord fun p hp=>by
    simp only [aM] at hp ⊢
    rcases hp with z|z|z|z
    ·exact .inr (.inr (.inl z))
    ·exact .inl z
    ·exact .inr (.inl z)
    ·exact .inr (.inr (.inr z))
   refine (I0.repin (t':=tk') (fun b o hb e=>hk' b o (by simpa using hb) e) hoI' (fun w z=>by rw [hod] at z;cases z) nI fun p hp=>?_).reord fun p hp=>?_
   ·simp only [aM] at hp
    rcases hp with z|z|z
    ·rw [z];exact cO If
    ·rw [z];exact SI
    ·exact hI p z
   ·simp only [aM] at hp ⊢
    rcases hp with z|z|z|z
    ·exact .inr (.inl z)
    ·exact .inr (.inr (.inl z))
    ·exact .inl z
    ·exact .inr (.inr (.inr z))
  show ai _ X.A.in1 (tryCatch (qN [v] (call (.ref f) [v])) _ >>= _) _ _ _
  refine a6 (iH (bw (bu (key _ _ H xs[j] v _ I1 hk rx w) (fun u s2 he=>?_) fun _ _ hF=>hF.elim)))
  obtain ⟨y,H2,I2,ry,k,rfl,sm,w2⟩:=he
  obtain ⟨t2,rfl⟩:=ry
  have hk2:=kps H H2 hk sm
  obtain ⟨gS2,sN,sL,_⟩:=I2.pin (S,Dj vb kb tb c) (ak _ (ah _ ao))
  obtain ⟨gI2,_⟩:=I2.pin (It,oI') (ak _ (ah _ (ah _ ao)))
  have hit2:s2.heap.IsListIter It l (j+1):=⟨oI',gI2,hoc,hod⟩
  show ai _ X.A.in1 (tryCatch (qN [v,.int k t2] (richCompare .Gt (.int k t2) (.int kb tb) >>= _)) _ >>= _) _ _ _
  refine a6 (iH (bw (a6 (CmpOf.ints_gt (prog:=X.prog) (w:=X.w) (A:=X.A.in1) (P:=fun i v=>∃ t,v=.int (if i=0 then k else kb) t) (fun i=>if i=0 then k else kb) (fun i v h=>h) 0 1 _ _ _ _ _ ⟨t2,rfl⟩ ⟨tb,rfl⟩ ?_))))
  refine a6 (bw (c8 ?_))
  refine a6 (jo (a8 ?_))
  simp only [if_true,Nat.one_ne_zero,if_false]
  by_cases hb':k > kb
  ·rw [if_pos hb'] at w2
   simp only [hb',decide_true,if_true]
   refine a6 ?_
   refine i4 gS2 rfl (a6 (jo ?_))
   rw [hname]
   obtain ⟨c2,hc2⟩:∃ c2,(s2.heap.update S (dB fun _=>#[v,.int k t2])).get? S=some (Dj v k t2 c2):=⟨_,cC _ gS2 rfl⟩
   have I3:aV X ((f,of)::(S,Dj v k t2 c2)::(It,oI')::pl) σ H2 { s2 with heap:=s2.heap.update S (dB fun _=>#[v,.int k t2]),toks:=s2.toks }:=by
    have I0:aV X ((S,Dj vb kb tb c)::(f,of)::(It,oI')::pl) σ H2 s2:=I2.reord fun p hp=>by
     simp only [aM] at hp ⊢
     rcases hp with z|z|z|z
     ·exact .inr (.inl z)
     ·exact .inl z
     ·exact .inr (.inr (.inl z))
     ·exact .inr (.inr (.inr z))
    refine (I0.repin (t':=s2.toks) (fun b o hb e=>(ck _ _ (cO hb)).trans e) hc2 (fun w z=>by cases z) nS fun p hp=>?_).reord fun p hp=>?_
    ·simp only [aM] at hp
     rcases hp with z|z|z
     ·rw [z];exact cO Sf
     ·rw [z];exact cO SI
     ·exact hS p z
    ·simp only [aM] at hp ⊢
     rcases hp with z|z|z|z
     ·exact .inr (.inl z)
     ·exact .inl z
     ·exact .inr (.inr (.inl z))
     ·exact .inr (.inr (.inr z))
   exact a8 ⟨fR cW _,ih (j+1) _ H2 xs[j] v k t2 c2 oI' (by omega) hlt I3 hk2 ⟨oI',(ck _ _ SI).trans gI2,hoc,hod⟩ rx (sm.seq hq) w2⟩
  ·rw [if_neg hb'] at w2
   simp only [hb',decide_false,bx,if_false]
   refine a6 (jo ?_)
   rw [hname]
   exact a8 ⟨fR cW _,ih (j+1) _ H2 xb vb kb tb c oI' (by omega) hlt I2 hk2 hit2 rb (sm.seq hq) w2⟩
end
end
end L2
section
namespace L2
theorem Io (a v:PySem.Value):PySem.argsOk "max" ⟨[a],[(PySem.Str.ofString "key",v)]⟩:=by unfold PySem.argsOk;kernel_rfl
open PySem PySem.Spec PyProof.Rows PySem.Calls
section
variable {X:Cx}{σ:St}{H:Hp}{s:ae}
theorem Ip {f l:ac}{of:Obj}{pl:List (ac×Obj)}{x0:V}{r:List V}{te:TE}{ca:V->St}{Q:VK} (hc:X.calm=true) (kp:Hp->Prop) (kps:∀ H H',kp H->cb H H'->kp H')
  (key:∀ (pins:List (ac×Obj)) (s:ae) (H:Hp) (x:V) (v:a9) (Q:VK),aV X ((f,of)::pins) σ H s->kp H->bW x v->te (ca x) H Q->ai (ax X.prog X.w) X.A.in1 (call (.ref f) [v]) (EP X ((f,of)::pins) σ Q) (fun _ _=>False) s)
  (I:aV X ((f,of)::pl) σ H s) (hk:kp H) (hq:jx X.K H l (x0::r)) (w:te (ca x0) H fun y H1=>∃ k,y=.int k/\cb H H1/\vO te ca r x0 k H1 Q) :
  ai (ax X.prog X.w) X.A (call (.builtin "max") [.ref l] [(dm "key",.ref f)]) (EP X pl σ Q) X.xe s:=by
 have hname:(toString "max"++toString ".loop" : String)="max.loop":=by decide
 obtain ⟨its,r',pll,hz⟩:=I.list hq
 have ln:its.toArray.size=r.length+1:=by have:=r'.length;simp at this ⊢;omega
 obtain ⟨ol,hol,_⟩:=pll.isList
 have hll:l<s.heap.objs.size:=al hol
 have plt:∀ p∈(f,of)::pl,p.1<s.heap.objs.size:=fun p hp=>al (I.pin p (ak _ hp)).1
 have nI:CL X s.heap.objs.size:=(I.fpOk (H':=H) (aq _) (I.hok.fresh (aq _))).newD
 have I1:=I.pinNew (t':=s.toks) (o:={ cls:=.type "list_iterator",data:=.fields #[.ref l,.int 0 0] }) (fun v z=>by cases z) rfl
 have hS:(s.heap.push { cls:=.type "list_iterator",data:=.fields #[.ref l,.int 0 0] }).objs.size=s.heap.objs.size+1:=bU ..
 have nS:CL X (s.heap.push { cls:=.type "list_iterator",data:=.fields #[.ref l,.int 0 0] }).objs.size:=(I1.fpOk (H':=H) (aq _) (I1.hok.fresh (aq _))).newD
 have I2:=I1.pinNew (t':=s.toks) (o:={ cls:=.type "list",data:=.seq #[] }) (fun v z=>by cases z) rfl
 refine Ij PySem.F.kind_max PySem.F.plain_max PySem.F.entry_max (Io _ _) ?_
 show ai _ X.A.in1 (n5 "max" ["key","default"] 0 ⟨[],[(dm "key",.ref f)]⟩ >>= _) _ _ s
 refine a6 (cK (show n5 "max" ["key","default"] 0 ⟨[],[(dm "key",.ref f)]⟩=pure [some (.ref f),none] from rfl) ?_)
 refine a6 (a8 ?_)
 refine a6 (iB pll.isList ?_)
 refine a6 (wpAny_newList ?_ (eB _))
 rw [hname]
 generalize hSS:(s.heap.push { cls:=.type "list_iterator",data:=.fields #[.ref l,.int 0 0] }).objs.size=S at nS I2 hS ⊢
 generalize hII:s.heap.objs.size=It at nI I1 I2 hS hll plt ⊢
 have lI:l≠It:=aA hll
 have SI:S≠It:=by omega
 have fI:f<It:=plt (f,of) ao
 have IS:It<S:=hS ▸ eO It
 have Sf:S≠f:=eY (rA fI IS)
 have If:It≠f:=eY fI
 have hpI:∀ p∈pl,p.1≠It:=fun p hp=>aA (plt p (ah _ hp))
 have hpS:∀ p∈pl,p.1≠S:=fun p hp=>aA (rA (plt p (ah _ hp)) IS)
 refine a8 ⟨fR cW _,?_⟩
 obtain ⟨gS,_⟩:=I2.pin (S,_) (ak _ ao)
 obtain ⟨gI,_⟩:=I2.pin (It,_) (ak _ (ah _ ao))
 obtain ⟨its2,r2,pll2,_⟩:=I2.list hq
 have NT:its2.toArray.size=r.length+1:=by have:=r2.length;simp at this ⊢;omega
 have W:=lz (prog:=X.prog) (w:=X.w) (A:=X.A.in1) (I.ok.hd hc) It l lI its2.toArray
 refine dk kR ?_
 rw [cP cW _]
 show ai _ X.A.in1 (mX (.ref _) >>= _) _ _ _
 refine a6 (cr gS rfl ?_)
 show ai _ X.A.in1 (tryCatch (i8 (.ref It)) _ >>= _) _ _ _
 refine a6 (iH (W.item 0 _ _ _ (by rw [NT];omega) ⟨⟨_,gI,rfl,rfl⟩,pll2.isList⟩ fun v h' tk' hP hst' hk'=>?_))
 obtain ⟨oI',hoI',hoc,hod⟩:=id hst'.1
 have rx:bW x0 v:=by
  obtain ⟨u,hu,ru⟩:=r2.get (i:=0) (x:=x0) rfl
  have hP':its2[0]?=some v:=by simpa using hP
  rw [hP'] at hu;cases hu;exact ru
 have I3:aV X ((f,of)::(S,{ cls:=.type "list",data:=.seq #[] })::(It,oI')::pl) σ H { s with heap:=h',toks:=tk' }:=by
  have I0:=I2.reord (pins':=(It,{ cls:=.type "list_iterator",data:=.fields #[.ref l,.int 0 0] })::(f,of)::(S,{ cls:=.type "list",data:=.seq #[] })::pl) fun p hp=>by
   simp only [aM] at hp ⊢
   rcases hp with z|z|z|z
   ·exact .inr (.inl z)
   ·exact .inr (.inr (.inl z))
   ·exact .inl z
   ·exact .inr (.inr (.inr z))
  refine (I0.repin (t':=tk') (fun b o hb e=>hk' b o (by simpa using hb) e) hoI' (fun w z=>by rw [hod] at z;cases z) nI fun p hp=>?_).reord fun p hp=>?_
  ·simp only [aM] at hp
   rcases hp with z|z|z
   ·rw [z];exact cO If
   ·rw [z];exact SI
   ·exact hpI p z
  ·simp only [aM] at hp ⊢
   rcases hp with z|z|z|z
   ·exact .inr (.inl z)
   ·exact .inr (.inr (.inl z))
   ·exact .inl z
   ·exact .inr (.inr (.inr z))
 show ai _ X.A.in1 (tryCatch (qN [v] (call (.ref f) [v])) _ >>= _) _ _ _
 refine a6 (iH (bw (bu (key _ _ H x0 v _ I3 hk rx w) (fun u s2 he=>?_) fun _ _ hF=>hF.elim)))
 obtain ⟨y,H2,I4,ry,k,rfl,sm,w2⟩:=he
 obtain ⟨t2,rfl⟩:=ry
 obtain ⟨gS2,_⟩:=I4.pin (S,{ cls:=.type "list",data:=.seq #[] }) (ak _ (ah _ ao))
 obtain ⟨gI2,_⟩:=I4.pin (It,oI') (ak _ (ah _ (ah _ ao)))
 show ai _ X.A.in1 (D9 S (fun _=>#[v,.int k t2]) >>= _) _ _ _
 refine a6 ?_
 refine i4 gS2 rfl ?_
 rw [hname]
 obtain ⟨c2,hc2⟩:∃ c2,(s2.heap.update S (dB fun _=>#[v,.int k t2])).get? S=some (Dj v k t2 c2):=⟨_,cC _ gS2 rfl⟩
 have I5:aV X ((f,of)::(S,Dj v k t2 c2)::(It,oI')::pl) σ H2 { s2 with heap:=s2.heap.update S (dB fun _=>#[v,.int k t2]),toks:=s2.toks }:=by
  have I0:aV X ((S,{ cls:=.type "list",data:=.seq #[] })::(f,of)::(It,oI')::pl) σ H2 s2:=I4.reord fun p hp=>by
   simp only [aM] at hp ⊢
   rcases hp with z|z|z|z
   ·exact .inr (.inl z)
   ·exact .inl z
   ·exact .inr (.inr (.inl z))
   ·exact .inr (.inr (.inr z))
  refine (I0.repin (t':=s2.toks) (fun b o hb e=>(ck _ _ (cO hb)).trans e) hc2 (fun w z=>by cases z) nS fun p hp=>?_).reord fun p hp=>?_
  ·simp only [aM] at hp
   rcases hp with z|z|z
   ·rw [z];exact cO Sf
   ·rw [z];exact cO SI
   ·exact hpS p z
  ·simp only [aM] at hp ⊢
   rcases hp with z|z|z|z
   ·exact .inr (.inl z)
   ·exact .inl z
   ·exact .inr (.inr (.inl z))
   ·exact .inr (.inr (.inr z))
 exact a8 ⟨fR cW _,Im (xs:=x0::r) hc nS nI SI Sf If hpS hpI lI kp kps key _ 1 _ H2 x0 v k t2 c2 oI' rfl (by simp) I5 (kps H H2 hk sm) ⟨oI',(ck _ _ SI).trans gI2,hoc,hod⟩ rx (sm.seq hq) w2⟩
inductive FM (K:a7) (ix:List Nat) (te:TE) (t:TA) (σ:St) (H:Hp) (Q:VK):Prop
 |mk (h:t σ H fun vs H1=>∃ l x0 r,vs=[.ref l]/\jx K H1 l (x0::r)/\∀ H2,cb H1 H2->te (xg ix σ x0) H2 fun y H3=>∃ k,y=.int k/\cb H2 H3/\vO te (xg ix σ) r x0 k H3 Q):FM K ix te t σ H Q
def Jn (K:a7) (ix:List Nat) (te:TE) (t:TA):TE:=FM K ix te t
theorem Iq {e body:aQ}{t:TA}{te:TE}{params:mV}{scope:cf}{N':List Str}{ix:List Nat}{pr:Str}{p pos lpos kp:Pos}{c P:ac}{q:Str} (hc:X.calm=true) (hg:Gl X "max") (hm:X.mg "max"=none) (ha:PA X [e] t) (S:yW X scope N' ix pr)
  (hdef:defaultsOf params X.env=([],[])) (hcode:X.env.code=.ref c) (hci:c6 X.K (.ref c) q=true) (hch:dH X.K c P=true) (hnP:X.K.lookup P=none) (hq0:q=Ju) (hq:X.env.qual=q++".<locals>.") (hroom:X.A.depth<kM)
  (hbind:∀ cl pm c' ctv v,pT (sH "<lambda>" (qp X) params body scope cl pm (.ref c') ctv) ⟨[v],[]⟩=pure [(pr,v)])
  (hb:∀ cl f c' s H,PE (By X N' scope cl f c' s H) body te)
  (he:cR pos (ap [e] X.env)=(false,cQ e X.env)::cR pos (ap [] X.env):=by rfl) (hpl:(cR pos (ap [e] X.env)).any (·.1)=false:=by rfl) :
  PE X (.Call (.Name "max" p) [e] [⟨some "key",.Lambda params body scope lpos,kp⟩] pos) (Jn X.K ix te t):=by
 intro pins s σ H Q I h
 obtain ⟨h⟩:=h
 refine fv (sM I hg hm PyProof.Rows.boot_max ?_ (by decide) (by decide))
 refine PyProof.Rows.callWith_kw (dX (ha pos pins s σ H _ I h) fun us s1 h_1=>?_) he hpl
 obtain ⟨vs,H1,I1,r1,l,x0,r,rfl,hl,w⟩:=h_1
 obtain ⟨u,rfl,rx⟩:=jy r1
 cases rx
 obtain ⟨cl,hcl,c1,c2⟩:=kW (scope:=scope) (env:=X.env) fun y hy hf=>I.ok.has y.1 (S.free y hy hf)
 refine PyProof.Rows.kws_cons (FK I1 hdef hcode hci hch hnP hq0 hq hcl fun f c' oc u vs t ctv pm H' s' I2 sm hcr hd hv=>PyProof.Rows.kws_nil ?_)
 refine Ip (te:=te) (ca:=xg ix σ) hc (fun H=>H c'=some (.frz oc u)) (fun H H' h sm=>sm _ _ h) (fun pins s H x v Q I hk rx q=>FL S hc I hk hd hv c1 c2 hroom (hbind cl pm c' ctv) (fun s=>hb cl f c' s H) rx q) I2 hcr (sm.seq hl) (w H' sm)
end
end L2
end
namespace J
open PySem L2
section
def u4 (ge:aD->R D) (ρb:aD):List D->D->Int->R D
 |[],b,_=>.ok b
 |d::r,b,m=>match ge (ρb.set 0 (.shr d)) with
  |.ok (.int k)=>if k > m then u4 ge ρb r d k else u4 ge ρb r b m
  |_=>.no
def yX (ge:aD->R D) (ρb:aD):List D->R D
 |[.list (d::r)]=>match ge (ρb.set 0 (.shr d)) with
  |.ok (.int k)=>u4 ge ρb r d k
  |_=>.no
 |_=>.no
def Bz (ix:List Nat) (gs:aD->R (List D)) (ge:aD->R D):aD->R D:=fun ρ=>(gs ρ).bind fun ds=>yX ge (j4 1 ix ρ) ds
section
variable {K:a7}{cls:Str->ac}{ge:aD->R D}{ix:List Nat}{ρ:aD}{σ:St}
theorem yY {H2 Hs1 H3 Hs3:Hp}{lb:Nat->Option ac}{d:D}{x:V}{k:Int}{Q:VK} (fb:Fr K H2 Hs1 lb (j4 1 ix ρ) (iI 1 ix σ) H2 Hs1) (r:RD K Hs1 x d) (st:bN H2 Hs1 H3 Hs3) (hk:ge ((j4 1 ix ρ).set 0 (.shr d))=.ok (.int k))
  (q:∀ H4 Hs4,bN H2 Hs1 H4 Hs4->cb H3 H4->Q (.int k) H4):∃ ρ',TR K cls E0 ρ' (ge ρ') (xg ix σ x) H3 Q:=by
 refine ⟨(j4 1 ix ρ).set 0 (.shr d),H2,Hs1,lb,Hs3,(fb.step st).set 0 (r.same st.sh),?_⟩
 rw [hk]
 intro v H4 Hs4 s4 r4
 rw [RD.int_inv r4]
 exact q H4 Hs4 (st.trans s4) s4.all
theorem u5 {H2 Hs1:Hp}{lb:Nat->Option ac}{d:D}{Q:VK} (fb:Fr K H2 Hs1 lb (j4 1 ix ρ) (iI 1 ix σ) H2 Hs1) (q:∀ v H' Hs',bN H2 Hs1 H' Hs'->RD K Hs' v d->Q v H'):∀ (r:List D) (r':List V) (db:D) (xb:V) (m:Int) (Hi Hsi:Hp),RDs K Hs1 r' r->RD K Hs1 xb db->bN H2 Hs1 Hi Hsi ->
  u4 ge (j4 1 ix ρ) r db m=.ok d->vO (fun σ H Q=>∃ ρ',TR K cls E0 ρ' (ge ρ') σ H Q) (xg ix σ) r' xb m Hi Q
 |[],_,db,xb,m,Hi,Hsi,rs,rb,st,e=>by
  cases rs
  cases e
  exact q xb Hi Hsi st (rb.same st.sh)
 |y::r,_,db,xb,m,Hi,Hsi,rs,rb,st,e=>by
  cases rs with
  |cons r1 rs =>
   unfold u4 at e
   split at e
   ·rename_i k hk
    refine yY fb r1 st hk fun H4 Hs4 s4 sm=>⟨k,rfl,sm,?_⟩
    split at e
    ·rename_i h;rw [if_pos h];exact u5 fb q r _ y _ k H4 Hs4 rs r1 s4 e
    ·rename_i h;rw [if_neg h];exact u5 fb q r _ db xb m H4 Hs4 rs rb s4 e
   ·cases e
theorem u6 {ρb:aD}:∀ (r:List D) (b:D) (m:Int) (c:Str) (n:Option D),u4 ge ρb r b m≠.ex c n
 |[],b,m,c,n=>fun e=>by cases e
 |d::r,b,m,c,n=>fun e=>by
  unfold u4 at e
  split at e
  ·split at e
   ·exact u6 r _ _ c n e
   ·exact u6 r _ _ c n e
  ·cases e
theorem FO {ρb:aD}{ds:List D} (c:Str) (n:Option D):yX ge ρb ds≠.ex c n:=fun e=>by
 unfold yX at e
 split at e
 ·split at e
  ·exact u6 _ _ _ c n e
  ·cases e
 ·cases e
theorem N_ {E:XK}{gs:aD->R (List D)}{H:Hp}{Q:VK} (q:TR K cls E ρ (Bz ix gs ge ρ) σ H Q):Jn K ix (fun σ H Q=>∃ ρ',TR K cls E0 ρ' (ge ρ') σ H Q) (M2 K cls E ρ (gs ρ)) σ H Q:=by
 obtain ⟨H0,Hs0,la,Hs,f,q⟩:=q
 refine ⟨EE f q fun ds vs H1 Hs1 e1 s1 f1 r1=>?_⟩
 unfold Bz at q
 rw [e1,bind_ok] at q
 cases hm:yX ge (j4 1 ix ρ) ds with
 |no=>rw [hm] at q;exact q.elim
 |ex c n=>exact (FO c n hm).elim
 |ok d =>
  rw [hm] at q
  unfold yX at hm
  split at hm
  ·rename_i d0 r
   split at hm
   ·rename_i k hk
    obtain ⟨x,rfl,rx⟩:=r1.one
    obtain ⟨a,vs,rfl,qa,ra⟩:=rx.list f1.st.sub
    cases ra with
    | @cons x0 r' _ _ r0 rs =>
     refine ⟨a,x0,r',rfl,qa,fun H2 sm=>?_⟩
     have st:bN H1 Hs1 H2 Hs1:=⟨sm,.refl _,f1.st.sub.trans sm,fun _ _ _ _ n=>n⟩
     obtain ⟨lb,fb⟩:=(f1.step st).block 1 ix
     refine yY fb r0 (.refl fb.st.sub) hk fun H4 Hs4 s4 sm4=>⟨k,rfl,sm4,?_⟩
     exact u5 fb (fun v H' Hs' s' r'=>q v H' Hs' ((s1.trans st).trans s') r') r r' d0 x0 k H4 Hs4 rs r0 s4 hm
   ·cases hm
  ·cases hm
end
section
variable {c:C}{e body:aQ}{gs:aD->R (List D)}{ge:aD->R D}{ix:List Nat}{scope:cf}{params:mV}{N':List Str}{pr q:Str}{p pos lpos kp:Pos}{cd P:ac}{k:Nat}
def FP (so:cf) (N:List Str) (scope:cf) (N':List Str) (ix:List Nat) (p:Str):Bool :=
 (scope.kind == .function) && !scope.isCoroutine && !scope.isGenerator&&(scope.names.all fun y=>y.2 != .cell)&&(scope.names.lookup p==some .local)&&(N'[0]? == some p) &&
 (scope.names.all fun y=>y.2 != .free||so.names.lookup y.1==some .cell||so.names.lookup y.1==some .free) &&
 ((bR ix.length).all fun k=>match ix[k]? with
  |none=>false
  |some i=>match N[i]? with
   |none=>false
   |some x=>N'[1+k]? == some x&&scope.names.lookup x==some .free)&&(N'.length==1+ix.length)
theorem FQ {X:Cx}{so:cf}{N:List Str}{p:Str} (h:FP so N scope N' ix p=true) (h1:X.env.scope=so:=by rfl) (h2:X.N=N:=by rfl):yW X scope N' ix p:=by
 unfold FP at h
 simp only [ay,cU] at h
 obtain ⟨⟨⟨⟨⟨⟨⟨⟨a,a2⟩,a3⟩,b⟩,c⟩,d0⟩,d⟩,e⟩,l⟩:=h
 refine ⟨by simpa using a,by simpa using a2,by simpa using a3,fun y hy z=>?_,by simpa using c,by simpa using d0,fun y hy z=>?_,fun k i hk=>?_,by simpa using l⟩
 ·have:=b y hy;simp [z] at this
 ·have:=d y hy;rw [h1];simpa [z] using this
 ·have hl:k<ix.length:=(List.getElem?_eq_some_iff.mp hk).1
  have:=e k (List.mem_range.mpr hl)
  rw [hk] at this
  rw [h2]
  simp only at this
  split at this
  ·cases this
  ·rename_i x hx
   simp only [ay] at this
   exact ⟨x,hx,by simpa using this.1,by simpa using this.2⟩
structure MK (K:a7) (cd P:ac) (q:Str):Prop where
 ci:c6 K (.ref cd) q=true
 ch:dH K cd P=true
 np:K.lookup P=none
 tq:q=Ju
def C.lam (c:C) (N':List Str) (scope:cf) (cl:List (Str×ac)) (f c':ac) (s:ae) (H:Hp):C:=⟨By c.X N' scope cl f c' s H,c.cls,E0⟩
theorem eL.lam {A:aR} (r:L2.eL (k+1) A) (env:Env):L2.eL k (A.in1.deeper env):=⟨r.hd,by have:=r.dp;show A.depth+1+3*k+5<_;omega,by have:=r.un;show A.units+1+3+16*k+200<_;omega⟩
theorem Ir (hc:c.X.calm=true) (ha:IW c [e] gs) (hg:Gl c.X "max") (hm:c.X.mg "max"=none) (S:yW c.X scope N' ix pr) (hC:MK c.X.K cd P q) (hr:L2.eL k c.X.A) (hcode:c.X.env.code=.ref cd) (hq:c.X.env.qual=q++".<locals>.") (hdef:defaultsOf params c.X.env=([],[]))
  (hbind:∀ cl pm c' ctv v,pT (sH "<lambda>" (qp c.X) params body scope cl pm (.ref c') ctv) ⟨[v],[]⟩=pure [(pr,v)])
  (hb:∀ cl f c' s H,JE (c.lam N' scope cl f c' s H) body ge)
  (he:cR pos (ap [e] c.X.env)=(false,cQ e c.X.env)::cR pos (ap [] c.X.env):=by rfl) (hpl:(cR pos (ap [e] c.X.env)).any (·.1)=false:=by rfl) :
  JE c (.Call (.Name "max" p) [e] [⟨some "key",.Lambda params body scope lpos,kp⟩] pos) (Bz ix gs ge):=.of fun ρ =>
 lM (Iq (te:=fun σ H Q=>∃ ρ',TR c.X.K c.cls E0 ρ' (ge ρ') σ H Q) hc hg hm (ha ρ) S hdef hcode hC.ci hC.ch hC.np hC.tq hq hr.depth hbind (fun cl f c' s H pins s' σ H' Q I h=>by obtain ⟨ρ',h⟩:=h;exact (hb cl f c' s H) ρ' pins s' σ H' Q I h) he hpl) fun σ H Q q=>N_ q
end
structure N1 (K:a7) (mg:Str->Option a9) (x:Str) (st:cy) (cd P:ac):Prop where
 ex:∃ (f:ac) (oc:a9) (od:Option ac) (kV doc pm:a9) (an:Option ac) (ct:a9) (osl:Array (Option a9)),K.lookup f=some ⟨oc,od,.func (cc x x (fO st) (du st) (aw st) .none kV doc pm an (.ref cd) ct),osl⟩/\mg x=some (.ref f)/\bC K (.ref f)=true
 cd:MK K cd P x
theorem d_inl {K:a7}{h:aW}{mg:Str->Option a9}{x:Str}{st:cy}{A cd P:ac}{od an:Option ac}{sl:Array (Option a9)}{oc kV dc pm ct:a9} (X:K.In h) (G:h.Ns aO mg) (a:dC K aO x=some (some (.ref A)))
  (l:K.lookup A=some ⟨oc,od,.func (cc x x (fO st) (du st) (aw st) .none kV dc pm an (.ref cd) ct),sl⟩) (c:c6 K (.ref cd) x=true) (k:bC K (.ref A)=true) (ch:dH K cd P=true) (np:K.lookup P=none) (tq:x=Ju:=by rfl):N1 K mg x st cd P :=
 ⟨⟨A,oc,od,kV,dc,pm,an,ct,sl,l,eX X G a,k⟩,c,ch,np,tq⟩
theorem Pc {e:En}{x:Str}{st:cy}{N ps:List Str}{k:Nat}{g:aD->R Fl}{cd P:ac} (D:N1 e.K e.mg x st cd P) (S:bq N ps (aw st)) (b:∀ {f:ac}{fd:cp},wz e.K x x st f fd->fD e.K fd ps [])
  (h:∀ (f:ac) (A:aR) (outer:List Env) (s:ae) (H:Hp) (E:XK),L2.eL k (A.deeper (PyProof.Rows.envOfC x (aw st) s.heap.objs.size f (.ref cd)))->zy ⟨g9 (iA e.P e.w) e.P e.w e.K e.mg e.base N x (aw st) f (.ref cd) A outer s H E,e.cls,E⟩ (du st) g) :
  FN e x (k+1) ps.length (fE N.length g):=by
 obtain ⟨f,oc,od,kV,doc,pm,an,ct,osl,lk,hm,kp⟩:=D.ex
 have F:wz e.K x x st f (cc x x (fO st) (du st) (aw st) .none kV doc pm an (.ref cd) ct):=Ac lk D.cd.ci kp
 refine ⟨f,_,ps,?_,hm,kp,b F⟩
 refine DU lk D.cd.ci S (fun vs H Q E h_4=>by obtain ⟨Hs,ds,sub,hn,r,q⟩:=h_4;rw [r.length];exact hn) fun A outer s H vs Q E hr hsp=>?_
 obtain ⟨Hs,ds,sub,hn,r,q⟩:=hsp
 refine ⟨_,h f A outer s H E hr (fe N.length ds),H,Hs,_,Hs,Fr.start sub r,?_⟩
 unfold fE at q
 cases hg:g (fe N.length ds) with
 |no=>rw [hg] at q;exact q
 |ex c n=>rw [hg] at q;exact q
 |ok fl =>
  rw [hg] at q
  cases fl with
  |nx ρ'=>exact fun σ' H' Hs' f'=>q .non H' Hs' f'.st .none
  |rt d=>exact fun v H' Hs' s r=>q v H' Hs' s r
  |bk ρ'=>exact q.elim
  |ct ρ'=>exact q.elim
end
section
abbrev At (i:Nat) (a:ac) (σ:St):Prop:=σ[i]?=some (some (V.ref a))
def u7 (i:Nat) (a:ac) (D:oQ):oQ:={ D with nx:=fun σ H=>At i a σ->D.nx σ H }
structure JP (c:C) (i:Nat) (a:ac) (s:cy) (g:aD->R Fl):Prop where of ::
 run:∀ ρ,PS c.X s (fun D σ H=>At i a σ/\SR c.X.K c.cls c.E ρ (g ρ) (u7 i a D) σ H)
structure ML (c:C) (i:Nat) (a:ac) (s:List cy) (g:aD->R Fl):Prop where of ::
 run:∀ ρ,uA c.X s (fun D σ H=>At i a σ/\SR c.X.K c.cls c.E ρ (g ρ) (u7 i a D) σ H)
section
variable {c:C}{i j k n:Nat}{a:ac}{s:cy}{ss A:List cy}{g gs':aD->R Fl}{e e2:aQ}{es:List aQ}{x y v:Str}{p q pos pos':Pos}{F:List D->R D}{gs:aD->R (List D)}{ge:aD->R D}{gt:aD->R Bool}
theorem FR (j:Nat) (h:JE c e ge) (hij:j≠i) (hN:c.X.N.Nodup) (hi:c.X.N[j]?=some x:=by rfl) (hx:GH c.X.env.scope x:=by first|exact eu rfl|exact cX rfl) (hs:fP e (some (.Name x pos')) pos.line c.X.env=pure false:=by rfl)
  (hf:c.X.fn x=true\/c.X.env.scope.names.lookup x=some .local:=by first|exact .inl rfl|exact .inr rfl|assumption):JP c i a (.Assign [.Name x pos'] e pos) (iM j ge):=.of fun ρ=>tm (wp hN hi hx (h ρ) hs hf) fun D σ H h_6=>by
 obtain ⟨hp,H0,Hs0,la,Hs,f,q⟩:=h_6
 refine sE f q fun d v H1 Hs1 e1 s1 f1 r1=>?_
 unfold iM at q
 rw [e1,bind_ok] at q
 exact q _ H1 Hs1 (f1.set j r1) (by unfold At;rw [aj hij];exact hp)
theorem FS (G:Lh c.X.prog c.X.w c.X.K c.X.mg c.X.base c.cls x y k n F) (hy:c.X.mg y=some (.ref a)) (hr:L2.eL j c.X.A) (hx:fS (iA c.X.prog c.X.w) c.X c.E) (ha:xM c es gs) (hk:k<=j) (hg:Gl c.X x) (hN:c.X.N[i]?=some v) (hv:C1 c.X.env.scope v)
  (hdb:(x==("__debug__" : Str))=false) (hdv:(v==("__debug__" : Str))=false) (hcv:(v==("__classdict__" : Str))=false) (he:ap (.Name v q::es) c.X.env=(false,cQ (.Name v q) c.X.env)::ap es c.X.env) (hpl:(cR pos (ap es c.X.env)).any (·.1)=false) (ρ:aD) :
  PE c.X (.Call (.Name x p) (.Name v q::es) [] pos) (fun σ H Q=>At i a σ/\TR c.X.K c.cls c.E ρ (eV n F gs ρ) σ H Q):=by
 obtain ⟨f,fd,ps,a',hf,hm,hk',hb,hy'⟩:=G.ex
 rw [hy] at hy'
 cases hy'
 refine lM (wu (E:=c.E) hf (hr.mono hk) hg hm hk' hb .nil hx (bD (jO hN hv hdv hcv) (ha ρ) he) hdb he hpl) fun σ H Q h_0=>?_
 obtain ⟨hp,H0,Hs0,la,Hs,fr,q⟩:=h_0
 refine ⟨V.ref a,hp,?_⟩
 show Ki c.X.K c.cls c.E ρ (gs ρ) σ H fun xs H2=>NS c.X.K c.cls n a F (V.ref a::xs++[]) H2 Q c.E
 refine wO fr q fun ds vs H1 Hs1 e1 s1 f1 r1=>?_
 unfold eV at q
 rw [e1,bind_ok] at q
 by_cases hn:ds.length=n
 ·rw [if_pos hn] at q
  rw [bT]
  exact ⟨vs,rfl,Hs1,ds,f1.st.sub,hn,r1,q.on s1 fun d k v H2 Hs2 s2 r2=>k v H2 Hs2 (s1.trans s2) r2⟩
 ·rw [if_neg hn] at q;exact q.elim
theorem vP (hu:c.X.A.units+64<ik) (G:Lh c.X.prog c.X.w c.X.K c.X.mg c.X.base c.cls x y k n F) (hy:c.X.mg y=some (.ref a)) (hr:L2.eL j c.X.A) (hx:fS (iA c.X.prog c.X.w) c.X c.E) (ha:xM c es gs) (hb:JB c e2 ge) (hA:zy c A (cH ge')) (hk:k<=j:=by decide) (hN:c.X.N[i]?=some v:=by rfl) (hg:Gl c.X x:=by exact rfl) (hv:C1 c.X.env.scope v:=by first|exact eu rfl|exact cX (eu rfl)|exact cX (cX rfl))
  (hdb:(x==("__debug__" : Str))=false:=by decide) (hdv:(v==("__debug__" : Str))=false:=by decide) (hcv:(v==("__classdict__" : Str))=false:=by decide) (he:ap (.Name v q::es) c.X.env=(false,cQ (.Name v q) c.X.env)::ap es c.X.env:=by rfl) (hpl:(cR pos (ap es c.X.env)).any (·.1)=false:=by rfl) (hm:dY .NotEq e2=false:=by first|exact wq _|rfl) :
  JP c i a (.If (.Compare (.Call (.Name x p) (.Name v q::es) [] pos) [.NotEq] [e2] pos') A [] ip) (eM (gW (g2 (eV n F gs) ge (lY true))) (cH ge') (fun ρ=>.ok (.nx ρ))):=.of fun ρ=>by
 have h1:PE c.X (.Call (.Name x p) (.Name v q::es) [] pos) (fun σ H Q=>At i a σ/\TB c.X.K c.cls c.E ρ (eV n F gs ρ) σ H Q):=lM (FS G hy hr hx ha hk hg hN hv hdb hdv hcv he hpl ρ) fun σ H Q ⟨hp,H0,Hs0,la,Hs,f,q⟩=>⟨hp,H0,Hs0,la,Hs,f,by
  cases hr:eV n F gs ρ with
  |ok d=>rw [hr] at q;exact fun v H' Hs' s r=>q v H' Hs' s (.inl r)
  |ex c n=>rw [hr] at q;exact q
  |no=>rw [hr] at q;exact q⟩
 refine tm (DJ (wt (vI hu).1 h1 (hb ρ) hm) (hA ρ) wm) fun D σ H h_6=>?_
 obtain ⟨hp,H0,Hs0,la,Hs,f,q⟩:=h_6
 refine ⟨hp,two (vI hu).2 (Ld (sT f q fun d H1 Hs1 e1 s1 f1=>?_))⟩
 unfold eM at q
 rw [e1,bind_ok] at q
 cases d with
 |true =>
  refine y6 ⟨H0,Hs0,la,Hs1,f1,?_⟩
  have q:kl c.X.K c.cls c.E H0 Hs0 la (u7 i a D) (cH ge' ρ):=q
  unfold cH at q ⊢
  cases hr:ge' (cL ρ) with
  |ok d=>rw [hr] at q;exact q
  |ex c n=>rw [hr] at q;exact q
  |no=>rw [hr] at q;exact q
 |false=>exact uL (q σ H1 Hs1 f1 hp)
theorem BA (h:JP c i a s g):ML c i a [s] g:=.of fun ρ=>mE (h.run ρ)
theorem ko (h:JP c i a s g) (hr:ML c i a ss gs'):ML c i a (s::ss) (bj g gs'):=.of fun ρ pins st σ H D I h_2=>by
 obtain ⟨hp,H0,Hs0,la,Hs,f,q⟩:=h_2
 unfold bj at q
 cases hg:g ρ with
 |no=>rw [hg] at q;exact q.elim
 |ex x n =>
  rw [hg] at q
  refine d_ (h.run ρ) (fN (X:=c.X) (sts:=ss)) pins st σ H D I ⟨hp,H0,Hs0,la,Hs,f,?_⟩
  rw [hg];exact q
 |ok fl =>
  rw [hg,bind_ok] at q
  cases fl with
  |nx ρ' =>
   refine d_ (h.run ρ) (hr.run ρ') pins st σ H D I ⟨hp,H0,Hs0,la,Hs,f,?_⟩
   rw [hg];exact fun σ' H' Hs' f' hp'=>⟨hp',H0,Hs0,la,Hs',f',q⟩
  |rt d =>
   refine d_ (h.run ρ) (fN (X:=c.X) (sts:=ss)) pins st σ H D I ⟨hp,H0,Hs0,la,Hs,f,?_⟩
   rw [hg];exact q
  |bk ρ' =>
   refine d_ (h.run ρ) (fN (X:=c.X) (sts:=ss)) pins st σ H D I ⟨hp,H0,Hs0,la,Hs,f,?_⟩
   rw [hg];exact q
  |ct ρ' =>
   refine d_ (h.run ρ) (fN (X:=c.X) (sts:=ss)) pins st σ H D I ⟨hp,H0,Hs0,la,Hs,f,?_⟩
   rw [hg];exact q
end
def OH:Sl->Bool
 |.no=>true
 |.shr _=>true
 |_=>false
def xh (i:Nat) (ρ:aD):Bool:=ρ.all OH&&decide (i<ρ.length)
theorem u9 {i j:Nat}{ρ:aD}{s:Sl} (h:xh i ρ=true) (e:ρ[j]?=some s):OH s=true:=by
 unfold xh at h
 simp only [ay,cU] at h
 exact h.1 s (AW e)
theorem Jo {i:Nat}{ρ:aD} (h:xh i ρ=true):i<ρ.length:=by
 unfold xh at h
 simp only [ay,decide_eq_true_eq] at h
 exact h.2
theorem KZ {i:Nat}{ρ:aD} (h:xh i ρ=true):xh i (ρ.set i .no)=true:=by
 have h':=h
 unfold xh at h ⊢
 simp only [ay,cU,decide_eq_true_eq,uz] at h ⊢
 refine ⟨fun s hs=>?_,h.2⟩
 rcases List.mem_or_eq_of_mem_set hs with hs|rfl
 ·exact h.1 s hs
 ·rfl
section
variable {K:a7}{H0 Hs0 H Hs H' Hs':Hp}{la la':Nat->Option ac}{ρ ρ':aD}{σ σ':St}{i:Nat}
theorem ua (hp:xh i ρ=true) (st:bN H0 Hs0 H Hs) (len:ρ.length=σ.length) (sh:∀ (i:Nat) (d:D),ρ[i]?=some (Sl.shr d)->∃ v,σ[i]?=some (some v)/\RD K Hs v d) (lh:∀ (i:Nat) (a:ac),la i=some a->∃ o,H0 a=some o):Fr K H0 Hs0 la ρ σ H Hs :=
 ⟨st,len,sh,fun j d e=>(cm (u9 hp e)),fun j d e=>(cm (u9 hp e)),fun j k d e a h=>(cm (u9 hp h)),lh,fun j d e=>(cm (u9 hp e)),fun j k d e h=>(cm (u9 hp h))⟩
theorem Fr.rebase (f:Fr K H0 Hs0 la ρ σ H Hs) (hp:xh i ρ=true):Fr K H Hs (fun _=>none) ρ σ H Hs:=ua hp (.refl f.st.sub) f.len f.sh fun _ _ h=>nomatch h
theorem Fr.unbase (f:Fr K H0 Hs0 la ρ σ H Hs) (f':Fr K H Hs la' ρ' σ' H' Hs') (hp:xh i ρ'=true):Fr K H0 Hs0 la ρ' σ' H' Hs':=ua hp (f.st.trans f'.st) f'.len f'.sh f.lh
theorem Fr.putNo (f:Fr K H0 Hs0 la ρ σ H Hs) (hp:xh i ρ=true) (v:V):Fr K H0 Hs0 la (ρ.set i .no) (σ.set i (some v)) H Hs:=by
 refine ua (KZ hp) f.st (by rw [uz,uz];exact f.len) (fun j d e=>?_) f.lh
 by_cases hj:i=j
 ·subst hj
  rw [aE (Jo hp)] at e
  cases e
 ·rw [aj hj] at e ⊢
  exact f.sh j d e
end
def AD (i:Nat) (g1 g2:aD->R Fl):aD->R Fl:=fun ρ=>if xh i ρ then (match g1 (ρ.set i .no) with
 |.ok (.nx ρ1)=>if xh i ρ1 then (match g2 (ρ1.set i .no) with
  |.ok (.nx ρ2)=>if xh i ρ2 then .ok (.nx ρ2) else .no
  |.ok (.rt d)=>.ok (.rt d)
  |_=>.no) else .no
 |.ok (.rt d)=>.ok (.rt d)
 |_=>.no) else .no
section
variable {c:C}{i:Nat}{a1 a2:ac}{g1 g2:aD->R Fl}{y1 y2 v:Str}{vp p1 p2 tp pos:Pos}{tx:Nat}{body:List cy}
theorem Is (hc:c.X.calm=true) (m1:c.X.mg y1=some (.ref a1)) (m2:c.X.mg y2=some (.ref a2)) (hb1:ML c.nox i a1 body g1) (hb2:ML c.nox i a2 body g2) (hN:c.X.N.Nodup) (hi:c.X.N[i]?=some v:=by rfl) (hx:GH c.X.env.scope v:=by first|exact eu rfl|exact cX rfl)
  (gl1:Gl c.X y1:=by exact rfl) (gl2:Gl c.X y2:=by exact rfl) (hd1:(y1==("__debug__" : Str))=false:=by decide) (hd2:(y2==("__debug__" : Str))=false:=by decide)
  (hf:c.X.fn v=true\/c.X.env.scope.names.lookup v=some .local:=by first|exact .inl rfl|exact .inr rfl|assumption) (he:ap [.Name y1 p1,.Name y2 p2] c.X.env=(false,cQ (.Name y1 p1) c.X.env)::ap [.Name y2 p2] c.X.env:=by rfl) (he2:ap [.Name y2 p2] c.X.env=(false,cQ (.Name y2 p2) c.X.env)::ap [] c.X.env:=by rfl)
  (hs:∀ x,cJ (.Tuple [.Name y1 p1,.Name y2 p2] tx tp) c.X.env x=pure x:=by intro _;rfl):JS c (.For (.Name v vp) (.Tuple [.Name y1 p1,.Name y2 p2] tx tp) body [] pos) (AD i g1 g2):=.of fun ρ=>by
 refine Be (tm (A1 (X:=c.X.nox) kH hc (z_ (A5 (bD (oR (v:=.ref a1) gl1 m1 rfl hd1) (bD (oR (v:=.ref a2) gl2 m2 rfl hd2) eE he2) he))) (dq hN hi hx hf)
  (tb:=fun D σ H=>∃ ρ',(At i a1 σ/\SR c.X.K c.cls E0 ρ' (g1 ρ') (u7 i a1 D) σ H)\/(At i a2 σ/\SR c.X.K c.cls E0 ρ' (g2 ρ') (u7 i a2 D) σ H)) ?_ hs) fun D σ H ⟨H0,Hs0,la,Hs,f,q⟩=>?_)
 ·exact fun pins s σ H D I h_1=>by
   obtain ⟨ρ',h|h⟩:=h_1
   ·exact hb1.run ρ' pins s σ H D I h
   ·exact hb2.run ρ' pins s σ H D I h
 ·refine ⟨ba (bS (show 2<=1000 by decide)),fun p hp=>⟨p,rfl,⟨_,.of aH⟩,?_⟩⟩
  have st:bN H Hs (upd H p (.tup [.ref a1,.ref a2])) Hs:=bN.mine f.st.sub hp
  have f1:=f.step st
  unfold AD at q
  by_cases hpl:xh i ρ=true
  ·rw [if_pos hpl] at q
   refine Exists.elim (GI (K:=c.X.K) (a:=p) (xs:=[V.ref a1,V.ref a2]) (g:=oT i) (tb:=fun D σ H=>∃ ρ',(At i a1 σ/\SR c.X.K c.cls E0 ρ' (g1 ρ') (u7 i a1 D) σ H)\/(At i a2 σ/\SR c.X.K c.cls E0 ρ' (g2 ρ') (u7 i a2 D) σ H)) (D:=D) (σ:=σ) (H:=upd H p (.tup [.ref a1,.ref a2]))
    (fun n σ' H'=>∃ Hs' ρ',xh i ρ'=true/\Fr c.X.K (upd H p (.tup [.ref a1,.ref a2])) Hs (fun _=>none) ρ' σ' H' Hs'/\(n=0->ρ'=ρ)/\(n=1->g1 (ρ.set i .no)=.ok (.nx ρ'))/\(n=2->∃ ρ1,g1 (ρ.set i .no)=.ok (.nx ρ1)/\xh i ρ1=true/\g2 (ρ1.set i .no)=.ok (.nx ρ')))
    ⟨Hs,ρ,hpl,f1.rebase hpl,fun _=>rfl,fun h=>(by cases h),fun h=>(by cases h)⟩ (fun n σ' H' _ h=>by
     obtain ⟨Hs',ρ',_,fr,_⟩:=h
     exact .of (fr.st.all _ _ aH)) (fun n x σ' H' hx' h=>?_) (fun σ' H' h=>?_)) fun W hW=>⟨W,hW.1,hW.2⟩
   ·obtain ⟨Hs',ρ',hpl',fr,h0,h1,h2⟩:=h
    have hat:∀ u:V,(σ'.set i (some u))[i]?=some (some u):=fun u=>aE (by rw [<- fr.len];exact Jo hpl')
    match n,hx' with
    | 0,hx' =>
     cases hx'
     have e0:=h0 rfl
     subst e0
     refine ⟨ρ'.set i .no,.inl ⟨hat _,_,_,_,Hs',fr.putNo hpl' (V.ref a1),?_⟩⟩
     cases hg:g1 (ρ'.set i .no) with
     |no=>rw [hg] at q;exact q.elim
     |ex x n=>rw [hg] at q;exact q.elim
     |ok fl =>
      rw [hg] at q
      cases fl with
      |nx ρ1 =>
       simp only at q
       by_cases hp1:xh i ρ1=true
       ·exact fun σ2 H2 Hs2 f2 _=>⟨Hs2,ρ1,hp1,f2,fun h=>(by cases h),fun _=>rfl,fun h=>(by cases h)⟩
       ·rw [if_neg hp1] at q;exact q.elim
      |rt d=>exact fun v H2 Hs2 s2 r2=>q v H2 Hs2 (f1.st.trans s2) r2
      |bk ρ1=>exact q.elim
      |ct ρ1=>exact q.elim
    | 1,hx' =>
     cases hx'
     have e1:=h1 rfl
     rw [e1] at q
     simp only at q
     rw [if_pos hpl'] at q
     refine ⟨ρ'.set i .no,.inr ⟨hat _,_,_,_,Hs',fr.putNo hpl' (V.ref a2),?_⟩⟩
     cases hg:g2 (ρ'.set i .no) with
     |no=>rw [hg] at q;exact q.elim
     |ex x n=>rw [hg] at q;exact q.elim
     |ok fl =>
      rw [hg] at q
      cases fl with
      |nx ρ2 =>
       simp only at q
       by_cases hp2:xh i ρ2=true
       ·exact fun σ2 H2 Hs2 f2 _=>⟨Hs2,ρ2,hp2,f2,fun h=>(by cases h),fun h=>(by cases h),fun _=>⟨ρ',e1,hpl',hg⟩⟩
       ·rw [if_neg hp2] at q;exact q.elim
      |rt d=>exact fun v H2 Hs2 s2 r2=>q v H2 Hs2 (f1.st.trans s2) r2
      |bk ρ1=>exact q.elim
      |ct ρ1=>exact q.elim
    |n+2,hx'=>simp at hx'
   ·obtain ⟨Hs',ρ',hpl',fr,_,_,h2⟩:=h
    obtain ⟨ρ1,e1,hp1,e2⟩:=h2 rfl
    rw [e1] at q
    simp only at q
    rw [if_pos hp1,e2] at q
    simp only at q
    rw [if_pos hpl'] at q
    exact q σ' H' Hs' (f1.unbase fr hpl')
  ·rw [if_neg hpl] at q;exact q.elim
end
end
end J
namespace Z
open PySem L2 J
section
def nh (y:Str):Option Nat:=if y="NoState" then some 1 else if y="NoBook" then some 0 else if y="NoNumber" then some 8 else if y="NoFacts" then some 7 else none
def k_:aD->R Fl:=(cH (EF (dU (aa (iw 1 [1] (mJ (rB 0)) kT (g2 (rB 0) (rB 1) (EN false))) aF) (lE (gY fun bs=>bs.any id)))))
def iN:List D->R D:=fE 2 k_
def qr:aD->R Fl:=(cH (dU (aa (iw 1 [1] (mJ (rB 0)) (gW (g2 (rB 0) (rB 1) (EN true))) (rS 0)) aF) (lE tH)))
def vQ:List D->R D:=fE 2 qr
def ub:aD->R Fl:=(cH (dU (aa (tQ (KG (w_ (rB 0)) (w_ (rB 1)))) aF) (lE tH)))
def yZ:List D->R D:=fE 2 ub
def qt:aD->R Fl:=(bj (eM (Df (jR (gW (rN (rB 0) "str"))) (jR (gW (o7 (kI 1) (dU (aa (rB 0) aF) (lE ng)) (kI 6) Hy Hy)))) (cH (kB false)) (fun ρ=>.ok (.nx ρ))) (cH (dU (aa (iw 1 [] (mJ (rB 0)) kT (o7 (fun _=>.ok (.str "a")) (rB 0) (fun _=>.ok (.str "z")) Hy Hy)) aF) (lE (gY fun bs=>bs.all id)))))
def qu:List D->R D:=fE 1 qt
def gD:aD->R Fl:=(bj (eM (Df (jR (gW (rN (rB 0) "tuple"))) (jR (gW (dU (aa (iw 1 [] (mJ (rB 0)) kT (eV 1 qu (aa (rS 0) aF))) aF) (lE (gY fun bs=>bs.all id)))))) (cH (kB false)) (fun ρ=>.ok (.nx ρ))) (cH (dU (aa (iw 2 [] (Kr (aa (rS 0) (aa (NL (rB 0) (NK (kI 1)) Oq) aF))) kT (g2 (rB 0) (rB 1) M6)) aF) (lE (gY fun bs=>bs.all id)))))
def gE:List D->R D:=fE 1 gD
def me:aD->R Fl:=(cH (tu (eV 1 gE (aa (rS 1) aF)) (dU (aa (iw 1 [0] (mJ (rB 1)) kT (g2 (rB 0) (rB 1) (EN false))) aF) (lE (gY fun bs=>bs.all id)))))
def mf:List D->R D:=fE 2 me
def og:aD->R Fl:=(bj (eM (Df (jR (gW (rN (rB 0) "int"))) (gW (rN (rB 0) "bool"))) (cH (kB false)) (fun ρ=>.ok (.nx ρ))) (cH (o7 (rB 1) (rB 0) (rB 2) Hy Hy)))
def l4:List D->R D:=fE 3 og
def mh:aD->R Fl:=(bj (eM (Df (jR (gW (rN (rB 1) "tuple"))) (gW (g2 (dU (aa (rB 1) aF) (lE ng)) (kI 6) (lY true)))) (cH (kB false)) (fun ρ=>.ok (.nx ρ))) (bj (yz (rS 1) (wT 6 (i7 (gZ 2) (i7 (gZ 3) (i7 (gZ 4) (i7 (gZ 5) (i7 (gZ 6) (i7 (gZ 7) As)))))))) (bj (eM (Df (jR (gW (eV 1 qu (aa (rS 2) aF)))) (jR (gW (eV 3 l4 (aa (rS 7) (aa (kI 0) (aa (kI 9) aF))))))) (cH (kB false)) (fun ρ=>.ok (.nx ρ))) (bj (eM (jR (gW (dU (aa (iw 1 [0] (mJ (bf (aa (rS 3) (aa (rS 4) (aa (rS 5) (aa (rS 6) aF)))) .tuple)) kT (eV 2 mf (aa (rS 1) (aa (rS 0) aF)))) aF) (lE (gY fun bs=>bs.all id))))) (cH (kB false)) (fun ρ=>.ok (.nx ρ))) (cH (tu (eV 2 iN (aa (rS 3) (aa (rS 4) aF))) (eV 2 iN (aa (rS 5) (aa (rS 6) aF)))))))))
def q_:List D->R D:=fE 8 mh
def qv:aD->R Fl:=(bj (eM (Df (jR (gW (rN (rB 0) "tuple"))) (gW (g2 (dU (aa (rB 0) aF) (lE ng)) (kI 2) (lY true)))) (cH (kB false)) (fun ρ=>.ok (.nx ρ))) (bj (yz (rS 0) (wT 2 (i7 (gZ 1) (i7 (gZ 2) As)))) (bj (eM (Df (jR (gW (eV 1 gE (aa (rS 1) aF)))) (gW (g2 (dU (aa (rB 1) aF) (lE ng)) (kI 6) Le))) (cH (kB false)) (fun ρ=>.ok (.nx ρ))) (bj (eM (Df (jR (gW (rN (rB 2) "tuple"))) (gW (g2 (dU (aa (rB 2) aF) (lE ng)) (kI 6) Le))) (cH (kB false)) (fun ρ=>.ok (.nx ρ))) (bj (eM (jR (gW (dU (aa (iw 1 [1] (mJ (rB 2)) kT (eV 2 q_ (aa (rS 1) (aa (rS 0) aF)))) aF) (lE (gY fun bs=>bs.all id))))) (cH (kB false)) (fun ρ=>.ok (.nx ρ))) (cH (g2 (sj (tR 1 [] (mJ (rB 2)) kT (g2 (rB 0) (kI 0) eI))) (dU (aa (rB 2) aF) (lE ng)) (lY false))))))))
def vR:List D->R D:=fE 3 qv
def jU:aD->R Fl:=(eM (jR (gW (eV 2 mf (aa (g2 (rB 0) (kI 0) eI) (aa (rS 1) aF))))) (m9 "NoState" (aa (fun _=>.ok (.str "a state is a rising tuple of the book's facts, none twice")) aF)) (fun ρ=>.ok (.nx ρ)))
def nA:List D->R D:=fE 2 jU
def qw:aD->R Fl:=(bj (yz (rS 1) (wT 2 (i7 (gZ 2) (i7 (gZ 3) As)))) (cH (tu (dU (aa (iw 1 [0] (mJ (rB 2)) kT (g2 (rB 0) (rB 1) (EN false))) aF) (lE (gY fun bs=>bs.all id))) (eV 2 iN (aa (rS 3) (aa (rS 0) aF))))))
def vS:List D->R D:=fE 4 qw
def mi:aD->R Fl:=(cH (eV 2 vS (aa (rS 1) (aa (bf (aa (g2 (rB 0) (kI 1) eI) (aa (g2 (rB 0) (kI 2) eI) aF)) .tuple) aF))))
def r6:List D->R D:=fE 2 mi
def j7:aD->R Fl:=(bj (KI 2 3 (aa (g2 (rB 0) (kI 3) eI) (aa (g2 (rB 0) (kI 4) eI) aF))) (cH (eV 2 yZ (aa (eV 2 vQ (aa (rS 1) (aa (rS 3) aF))) (aa (rS 2) aF)))))
def mj:List D->R D:=fE 4 j7
def qx:aD->R Fl:=(bj (eM (jR (gW (eV 1 vR (aa (rS 0) aF)))) (m9 "NoBook" (aa (fun _=>.ok (.str "a book is a tuple of facts and errands, each as the document tells")) aF)) (fun ρ=>.ok (.nx ρ))) (cH (rS 0)))
def vT:List D->R D:=fE 1 qx
def jV:aD->R Fl:=(bj (tJ (eV 1 vT (aa (rS 0) aF))) (tJ (eV 2 nA (aa (rS 0) (aa (rS 1) aF)))))
def nC:List D->R D:=fE 2 jV
def l5:aD->R Fl:=(cH (iw 1 [1] (mJ (g2 (rB 0) (kI 1) eI)) (gW (eV 2 r6 (aa (rS 0) (aa (rS 1) aF)))) (bf (aa (rS 0) (aa (eV 2 mj (aa (rS 0) (aa (rS 1) aF))) aF)) .tuple)))
def pC:List D->R D:=fE 2 l5
def l7:aD->R Fl:=(bj (nz 2 (NW (rS 1) (bf aF .list))) (bj (nz 3 (bf (aa (rS 1) aF) .list)) (bj (o8 (KQ (rB 3)) (bj (nz 4 (bf aF .list)) (bj (yF 3 (gZ 5) (F4 (mJ (eV 2 pC (aa (rS 0) (aa (rS 5) aF)))) (wT 2 (i7 (gZ 6) (i7 (gZ 7) As))) (eM (gW (g2 (rB 7) (rB 2) (inT true))) (bj (Bw 2 (rS 7) (g2 (g2 (rB 2) (rB 5) MC) (bf (aa (g2 (rB 6) (kI 0) eI) aF) .list) tE)) (HH 4 (rS 7))) (fun ρ=>.ok (.nx ρ))))) (Mp 4 (iM 3 (rS 4))))) 100000) (OG 2 (cH (rS 2))))))
def pE:List D->R D:=fE 8 l7
def l8:aD->R Fl:=(eM (jR (gW (eV 3 l4 (aa (rS 0) (aa (kI 0) (aa (kI 64) aF)))))) (m9 "NoNumber" (aa (fun _=>.ok (.str "it is no whole number from 0 to 64")) aF)) (fun ρ=>.ok (.nx ρ)))
def pG:List D->R D:=fE 1 l8
def qy:aD->R Fl:=(bj (eM (Df (jR (gW (rN (rB 1) "tuple"))) (gW (g2 (dU (aa (rB 1) aF) (lE ng)) (kI 2) (lY true)))) (cH (kB false)) (fun ρ=>.ok (.nx ρ))) (bj (yz (rS 1) (wT 2 (i7 (gZ 2) (i7 (gZ 3) As)))) (cH (tu (rN (rB 2) "str") (tu (g2 (rB 2) (g2 (rB 0) (kI 0) eI) (EN false)) (eV 3 l4 (aa (rS 3) (aa (qo (kI 99)) (aa (kI 99) aF)))))))))
def vU:List D->R D:=fE 4 qy
def jW:aD->R Fl:=(bj (eM (Df (jR (gW (rN (rB 1) "tuple"))) (jR (gW (dU (aa (iw 1 [0] (mJ (rB 1)) kT (eV 2 vU (aa (rS 1) (aa (rS 0) aF)))) aF) (lE (gY fun bs=>bs.all id)))))) (m9 "NoFacts" (aa (fun _=>.ok (.str "gains are a tuple of tuples of a fact and a number from -99 to 99")) aF)) (fun ρ=>.ok (.nx ρ))) (eM (gW (g2 (sj (tR 2 [] (mJ (rB 1)) kT (rS 0))) (dU (aa (rB 1) aF) (lE ng)) M6)) (m9 "NoFacts" (aa (fun _=>.ok (.str "gains have no fact twice")) aF)) (fun ρ=>.ok (.nx ρ))))
def nD:List D->R D:=fE 2 jW
def xi:aD->R Fl:=(cH (dU (aa (iw 2 [0] (mJ (rB 1)) (gW (g2 (rB 0) (rB 2) (EN false))) (rS 1)) aF) (lE Ii)))
def xj:List D->R D:=fE 2 xi
def j8:aD->R Fl:=(bj (tJ (eV 2 nC (aa (rS 0) (aa (rS 1) aF)))) (bj (tJ (eV 2 nD (aa (rS 0) (aa (rS 2) aF)))) (bj (tJ (eV 1 pG (aa (rS 3) aF))) (bj (iM 4 (eV 2 pE (aa (rS 0) (aa (rS 1) aF)))) (bj (nz 5 (iw 1 [4,3] (KP (rB 4)) (gW (g2 (dU (aa (g2 (rB 1) (rB 0) MC) aF) (lE ng)) (rB 2) Hy)) (rS 0))) (bj (iM 6 (Bz [2] (aa (rB 5) aF) (eV 2 xj (aa (rS 0) (aa (rS 1) aF))))) (cH (bf (aa (rS 6) (aa (g2 (rB 4) (rB 6) MC) aF)) .tuple))))))))
def j9:List D->R D:=fE 7 j8
def ml:aD->R Fl:=(cH (eV 2 xj (aa (g2 (eV 4 j9 (aa (rS 0) (aa (rS 1) (aa (rS 2) (aa (rS 3) aF))))) (kI 0) eI) (aa (rS 2) aF))))
def c7:List D->R D:=fE 4 ml
def oh:aD->R Fl:=(cH (g2 (eV 4 j9 (aa (rS 0) (aa (rS 1) (aa (rS 2) (aa (rS 3) aF))))) (kI 1) eI))
def cI:List D->R D:=fE 4 oh
def im:aD->R Fl:=(bj (eM (gW (g2 (rB 1) (dU (aa (rB 0) aF) (lE ng)) M6)) (cH (g2 (rB 0) (rB 1) eI)) (fun ρ=>.ok (.nx ρ))) (bj (eM (gW (g2 (rB 0) (bf aF .list) (lY false))) (cH (kI 0)) (fun ρ=>.ok (.nx ρ))) (cH (g2 (g2 (g2 (rB 0) (g2 (rB 1) (dU (aa (rB 0) aF) (lE ng)) Ct) eI) (kI 31) Aq) (rB 1) tE))))
def io:List D->R D:=fE 2 im
def jB:aD->R Fl:=(bj (iM 3 (g2 (g2 (g2 (g2 (eV 2 io (aa (rS 0) (aa (rS 1) aF))) (g2 (kI 7919) (rB 1) Aq) tE) (kI 1) tE) (kI 48271) Aq) (kI 2147483647) Ct)) (cH (g2 (g2 (g2 (g2 (g2 (rB 3) (rB 3) Aq) (g2 (kI 7) (rB 3) Aq) tE) (rB 1) tE) (kI 2147483629) Ct) (rB 2) Ct)))
def cw:List D->R D:=fE 4 jB
def BB:aD->R Fl:=(bj (iM 1 (bf (aa (fun _=>.ok (.str "a")) (aa (fun _=>.ok (.str "b")) aF)) .tuple)) (bj (iM 2 (bf (aa (rS 1) (aa (bf aF .tuple) aF)) .tuple)) (bj (iM 3 (bf (aa (bf (aa (fun _=>.ok (.str "a")) (aa (kI 5) aF)) .tuple) (aa (bf (aa (fun _=>.ok (.str "b")) (aa (qo (kI 99)) aF)) .tuple) aF)) .tuple)) (bj (nz 4 (bf (aa kN (aa (dU (aa (rB 3) aF) (lE mK)) (aa (bf (aa (bf (aa (fun _=>.ok (.str "a")) (aa (kI 100) aF)) .tuple) aF) .tuple) (aa (bf (aa (bf (aa (fun _=>.ok (.str "a")) (aa (qo (kI 100)) aF)) .tuple) aF) .tuple) (aa (bf (aa (bf (aa (fun _=>.ok (.str "a")) (aa (kB true) aF)) .tuple) aF) .tuple) (aa (bf (aa (bf (aa (fun _=>.ok (.str "zzzzz")) (aa (kI 1) aF)) .tuple) aF) .tuple) (aa (bf (aa (bf (aa (fun _=>.ok (.str "a")) aF) .tuple) aF) .tuple) aF))))))) .list)) (bj (Fe 4 (bf (aa (bf (aa (bf (aa (fun _=>.ok (.str "a")) (aa (kI 1) aF)) .tuple) (aa (bf (aa (fun _=>.ok (.str "a")) (aa (kI 2) aF)) .tuple) aF)) .tuple) (aa (bf (aa (fun _=>.ok (.str "a")) (aa (kI 1) aF)) .tuple) (aa (bf (aa (bf (aa (fun _=>.ok (.str "a")) (aa (kI 1) aF)) .list) aF) .tuple) (aa (bf (aa (bf (aa (kI 1) (aa (kI 1) aF)) .tuple) aF) .tuple) (aa (bf (aa (bf (aa (fun _=>.ok (.str "a")) (aa (kI 1) (aa (kI 1) aF))) .tuple) aF) .tuple) (aa (bf (aa (bf (aa (fun _=>.ok (.str "a")) (aa kN aF)) .tuple) aF) .tuple) aF)))))) .list)) (bj (iM 5 (g2 (rB 4) (eV 3 cw (aa (rS 0) (aa (kI 0) (aa (kI 13) aF)))) eI)) (bj (Mp 4 (AD 6 (bj (eM (gW (g2 (eV 4 (dL nh c7) (aa (rS 2) (aa (bf (aa (fun _=>.ok (.str "a")) aF) .tuple) (aa (rS 5) (aa kN aF))))) (bf (aa (fun _=>.ok (.str "refused")) (aa (kI 7) aF)) .tuple) (lY true))) (cH (kB false)) (fun ρ=>.ok (.nx ρ))) (bj (iM 7 (g2 (bf (aa (qo (kI 1)) (aa (kI 65) (aa kN (aa (kB true) (aa (fun _=>.ok (.str "1")) aF))))) .list) (eV 3 cw (aa (rS 0) (aa (kI 1) (aa (kI 5) aF)))) eI)) (bj (eM (gW (g2 (eV 4 (dL nh c7) (aa (rS 2) (aa (bf (aa (fun _=>.ok (.str "a")) aF) .tuple) (aa (rS 3) (aa (rS 7) aF))))) (bf (aa (fun _=>.ok (.str "refused")) (aa (kI 8) aF)) .tuple) (lY true))) (cH (kB false)) (fun ρ=>.ok (.nx ρ))) (eM (gW (g2 (eV 4 (dL nh c7) (aa (rS 2) (aa (bf (aa (fun _=>.ok (.str "b")) (aa (fun _=>.ok (.str "a")) aF)) .tuple) (aa kN (aa kN aF))))) (bf (aa (fun _=>.ok (.str "refused")) (aa (kI 1) aF)) .tuple) (lY true))) (cH (kB false)) (fun ρ=>.ok (.nx ρ)))))) (bj (eM (gW (g2 (eV 4 (dL nh cI) (aa (rS 2) (aa (bf (aa (fun _=>.ok (.str "a")) aF) .tuple) (aa (rS 5) (aa kN aF))))) (bf (aa (fun _=>.ok (.str "refused")) (aa (kI 7) aF)) .tuple) (lY true))) (cH (kB false)) (fun ρ=>.ok (.nx ρ))) (bj (iM 7 (g2 (bf (aa (qo (kI 1)) (aa (kI 65) (aa kN (aa (kB true) (aa (fun _=>.ok (.str "1")) aF))))) .list) (eV 3 cw (aa (rS 0) (aa (kI 1) (aa (kI 5) aF)))) eI)) (bj (eM (gW (g2 (eV 4 (dL nh cI) (aa (rS 2) (aa (bf (aa (fun _=>.ok (.str "a")) aF) .tuple) (aa (rS 3) (aa (rS 7) aF))))) (bf (aa (fun _=>.ok (.str "refused")) (aa (kI 8) aF)) .tuple) (lY true))) (cH (kB false)) (fun ρ=>.ok (.nx ρ))) (eM (gW (g2 (eV 4 (dL nh cI) (aa (rS 2) (aa (bf (aa (fun _=>.ok (.str "b")) (aa (fun _=>.ok (.str "a")) aF)) .tuple) (aa kN (aa kN aF))))) (bf (aa (fun _=>.ok (.str "refused")) (aa (kI 1) aF)) .tuple) (lY true))) (cH (kB false)) (fun ρ=>.ok (.nx ρ)))))))) (bj (eM (gW (g2 (eV 4 (dL nh c7) (aa (rS 2) (aa (bf (aa (fun _=>.ok (.str "a")) aF) .tuple) (aa (rS 3) (aa (kI 64) aF))))) (kI 5) (lY true))) (cH (kB false)) (fun ρ=>.ok (.nx ρ))) (cH (g2 (eV 4 (dL nh cI) (aa (rS 2) (aa (bf aF .tuple) (aa (rS 3) (aa (kI 0) aF))))) (bf aF .list) (lY false)))))))))))
def F_law:List D->R D:=fE 8 BB
end
end Z
section
set_option hygiene false
namespace Z
open PySem L2 J
local macro_rules | `(tactic| walk_at "zz") => `(tactic| simp only [ME, MF, MG, Ja, yK, yL, NR, Fg, Jb, Mr, Bg, yM, yN, Jc, Fi, Mt, Jd, Je, Fj, Fo, yO, yP, Jf, Fp, Bh, Fq, Mv, Jh, Ji, Ft, Jj, Fv, Jk, Mq, tE, Aq, Ct, Cr, M6, Hy, Le, Cu, ng, bO, qP, bE, lO, aN, Ge, GC, BX, BY, Dd, De, Nat.reduceSub, Nat.reduceAdd, GD, GE, Nat.sub_self, if_true, if_false, ite_true, ite_false, bx, decide_true, decide_false, cond_true, cond_false, xH, Bool.not_false, aq, eB, Int.reduceLT, Int.reduceLE, Int.reduceAdd, Int.reduceMul, Nat.reduceLT, Int.reduceNeg, reduceIte])
local macro_rules | `(tactic| walk_at "yy") => `(tactic| simp only [ME, MF, MG, Ja, yK, yL, Jb, Mr, Bg, yM, yN, Jc, Fi, Mt, Jd, Je, Fj, Fo, yO, yP, Jf, Fp, Bh, Fq, Mv, Jh, Ji, Ft, Jj, Fv, Jk, Mq, tE, ng, bO, qP, bE, lO, aN, Ge, GC, BX, BY, Dd, De, Nat.reduceSub, Nat.reduceAdd, GD, GE, Nat.sub_self, if_true, if_false, ite_true, ite_false, bx, decide_true, decide_false, cond_true, cond_false, xH, Bool.not_false, aq, eB, Int.reduceLT, Int.reduceLE, Int.reduceAdd, Int.reduceMul, Nat.reduceLT, Int.reduceNeg, reduceIte])
theorem AE {n:Nat}{g:aD->R Fl}{ds:List D}{d:D} (h:g (fe n ds)=.ok (.rt d)):fE n g ds=.ok d:=by unfold fE;rw [h]
def BC (ns:List Int) (k:Int):Int:=if k<ns.length then ns.getD k.toNat 0 else if ns=[] then 0 else ns.getD (k % ns.length).toNat 0*31+k
theorem FU (ns:List Int):jJ (ns.map .int)=true:=by
 induction ns with
 |nil=>rfl
 |cons x r ih=>simp [jJ,jj,ih]
theorem Iu (ns:List Int):bL (.list (ns.map .int)) (.list [])=decide (ns=[]):=by
 cases ns with
 |nil=>rfl
 |cons x r=>simp [bL,iu]
theorem K_ (ns:List Int):lY false (.list (ns.map .int)) (.list [])=.ok (.bool (decide (ns=[]))):=by
 unfold lY
 have h1:(mD (ns.map .int)).canLay0=true:=by simp only [jj];exact FU ns
 have h2:(mD []).canLay0=true:=rfl
 have h3:min (mD (ns.map .int)).depth (mD []).depth<=60:=cn (Gg _ _) (by decide)
 rw [h1,h2,decide_eq_true h3,Iu]
 rfl
theorem L3 (ns:List Int) (k:Int) (h0:0<=k) (h1:k<ns.length):Aa (ns.map oF) k=some (.int (ns.getD k.toNat 0)):=by
 have hk:k.toNat<ns.length:=by omega
 have:=B1 (xs:=ns.map oF) (j:=k.toNat) (v:=.int (ns.getD k.toNat 0)) (by rw [aK,aY hk];simp [hk])
 rwa [Dc h0] at this
theorem FV (ns:List Int) (k:Int) (h0:0<=k) (h1:k<ns.length):eI (.list (ns.map .int)) (.int k)=.ok (.int (ns.getD k.toNat 0)):=by
 have e:∀ xs k,eI (.list xs) k=Hz (.list xs) k:=fun _ _=>rfl
 rw [e]
 unfold Hz
 simp only [L3 ns k h0 h1]
theorem BD {i j:Int} (h1:-(2 ^ 64)<j) (h2:j<2 ^ 64):vH i j=true:=by
 unfold vH
 simp only [gT,ay,decide_eq_true_eq]
 exact .inr ⟨h1,h2⟩
theorem xk {i j:Int} (h1:-(2 ^ 64)<i) (h2:i<2 ^ 64):vH i j=true:=by
 unfold vH
 simp only [gT,ay,decide_eq_true_eq]
 exact .inl ⟨h1,h2⟩
theorem Iv (ns:List Int) (k:Int) (hk:0<=k):io [.list (ns.map .int),.int k]=.ok (.int (BC ns k)):=by
 unfold io
 refine AE ?_
 unfold im fe BC
 walk_at "zz"
 by_cases h:k<ns.length
 ·simp only [h,decide_true,cond_true,if_true,FV ns k hk h,bind_ok]
  walk_at "zz"
 ·simp only [h,decide_false,cond_false,if_false]
  walk_at "zz"
  rw [K_]
  walk_at "zz"
  by_cases h2:ns=[]
  ·simp only [h2,decide_true,cond_true,if_true]
   walk_at "zz"
  ·have hl:(0:Int)<ns.length:=by have:0<ns.length:=List.length_pos_iff.mpr h2;omega
   simp only [h2,decide_false,cond_false,if_false,hl,decide_true]
   walk_at "zz"
   simp only [h2,decide_false,cond_false,if_false,hl,decide_true,if_true]
   walk_at "zz"
   rw [FV ns _ (mC _ (by omega)) (jN _ hl)]
   walk_at "zz"
   rw [BD (by decide) (by decide)]
   walk_at "zz"
def uc (ns:List Int) (k:Int):Int:=(BC ns k+7919*k+1)*48271 % 2147483647
def FW (ns:List Int) (k m:Int):Int:=(uc ns k*uc ns k+7*uc ns k+k) % 2147483629 % m
theorem BE (ns:List Int) (k m:Int) (h:0<m):0<=FW ns k m:=mC _ (by omega)
theorem BF (ns:List Int) (k m:Int) (h:0<m):FW ns k m<m:=jN _ h
theorem FX (ns:List Int) (k m:Int) (hk:0<=k) (hm:0<m):cw [.list (ns.map .int),.int k,.int m]=.ok (.int (FW ns k m)):=by
 have d0:0<=uc ns k:=mC _ (by decide)
 have d1:uc ns k<2147483647:=jN _ (by decide)
 unfold cw
 refine AE ?_
 unfold jB fe
 walk_at "zz"
 rw [Iv ns k hk]
 walk_at "zz"
 rw [xk (by decide) (by decide)]
 walk_at "zz"
 rw [BD (by decide) (by decide)]
 walk_at "zz"
 rw [show (BC ns k+7919*k+1)*48271 % 2147483647=uc ns k from rfl,xk (i:=uc ns k) (by omega) (by omega)]
 walk_at "zz"
 rw [xk (i:=7) (by decide) (by decide)]
 walk_at "zz"
 rw [decide_eq_true hm]
 walk_at "zz"
 rfl
def OI:aD->R Fl:=(iM 1 (bf (J.aa (fun _=>.ok (.str "a")) (J.aa (fun _=>.ok (.str "b")) J.aF)) .tuple))
def OJ:aD->R Fl:=(iM 2 (bf (J.aa (rS 1) (J.aa (bf J.aF .tuple) J.aF)) .tuple))
def OK:aD->R Fl:=(iM 3 (bf (J.aa (bf (J.aa (fun _=>.ok (.str "a")) (J.aa (kI 5) J.aF)) .tuple) (J.aa (bf (J.aa (fun _=>.ok (.str "b")) (J.aa (qo (kI 99)) J.aF)) .tuple) J.aF)) .tuple))
def OL:aD->R Fl:=(nz 4 (bf (J.aa kN (J.aa (dU (J.aa (rB 3) J.aF) (lE mK)) (J.aa (bf (J.aa (bf (J.aa (fun _=>.ok (.str "a")) (J.aa (kI 100) J.aF)) .tuple) J.aF) .tuple) (J.aa (bf (J.aa (bf (J.aa (fun _=>.ok (.str "a")) (J.aa (qo (kI 100)) J.aF)) .tuple) J.aF) .tuple) (J.aa (bf (J.aa (bf (J.aa (fun _=>.ok (.str "a")) (J.aa (kB true) J.aF)) .tuple) J.aF) .tuple) (J.aa (bf (J.aa (bf (J.aa (fun _=>.ok (.str "zzzzz")) (J.aa (kI 1) J.aF)) .tuple) J.aF) .tuple) (J.aa (bf (J.aa (bf (J.aa (fun _=>.ok (.str "a")) J.aF) .tuple) J.aF) .tuple) J.aF))))))) .list))
def OM:aD->R Fl:=(Fe 4 (bf (J.aa (bf (J.aa (bf (J.aa (fun _=>.ok (.str "a")) (J.aa (kI 1) J.aF)) .tuple) (J.aa (bf (J.aa (fun _=>.ok (.str "a")) (J.aa (kI 2) J.aF)) .tuple) J.aF)) .tuple) (J.aa (bf (J.aa (fun _=>.ok (.str "a")) (J.aa (kI 1) J.aF)) .tuple) (J.aa (bf (J.aa (bf (J.aa (fun _=>.ok (.str "a")) (J.aa (kI 1) J.aF)) .list) J.aF) .tuple) (J.aa (bf (J.aa (bf (J.aa (kI 1) (J.aa (kI 1) J.aF)) .tuple) J.aF) .tuple) (J.aa (bf (J.aa (bf (J.aa (fun _=>.ok (.str "a")) (J.aa (kI 1) (J.aa (kI 1) J.aF))) .tuple) J.aF) .tuple) (J.aa (bf (J.aa (bf (J.aa (fun _=>.ok (.str "a")) (J.aa kN J.aF)) .tuple) J.aF) .tuple) J.aF)))))) .list))
def O0:aD->R Fl:=(iM 5 (g2 (rB 4) (eV 3 cw (J.aa (rS 0) (J.aa (kI 0) (J.aa (kI 13) J.aF)))) eI))
def ON:aD->R Fl:=(eM (gW (g2 (eV 4 (dL nh c7) (J.aa (rS 2) (J.aa (bf (J.aa (fun _=>.ok (.str "a")) J.aF) .tuple) (J.aa (rS 3) (J.aa (kI 64) J.aF))))) (kI 5) (lY true))) (cH (kB false)) (fun ρ=>.ok (.nx ρ)))
def OO:aD->R Fl:=(cH (g2 (eV 4 (dL nh cI) (J.aa (rS 2) (J.aa (bf J.aF .tuple) (J.aa (rS 3) (J.aa (kI 0) J.aF))))) (bf J.aF .list) (lY false)))
def OP:aD->R Fl:=(eM (gW (g2 (eV 4 (dL nh c7) (J.aa (rS 2) (J.aa (bf (J.aa (fun _=>.ok (.str "a")) J.aF) .tuple) (J.aa (rS 5) (J.aa kN J.aF))))) (bf (J.aa (fun _=>.ok (.str "refused")) (J.aa (kI 7) J.aF)) .tuple) (lY true))) (cH (kB false)) (fun ρ=>.ok (.nx ρ)))
def O1:aD->R Fl:=(iM 7 (g2 (bf (J.aa (qo (kI 1)) (J.aa (kI 65) (J.aa kN (J.aa (kB true) (J.aa (fun _=>.ok (.str "1")) J.aF))))) .list) (eV 3 cw (J.aa (rS 0) (J.aa (kI 1) (J.aa (kI 5) J.aF)))) eI))
def OQ:aD->R Fl:=(eM (gW (g2 (eV 4 (dL nh c7) (J.aa (rS 2) (J.aa (bf (J.aa (fun _=>.ok (.str "a")) J.aF) .tuple) (J.aa (rS 3) (J.aa (rS 7) J.aF))))) (bf (J.aa (fun _=>.ok (.str "refused")) (J.aa (kI 8) J.aF)) .tuple) (lY true))) (cH (kB false)) (fun ρ=>.ok (.nx ρ)))
def OR:aD->R Fl:=(eM (gW (g2 (eV 4 (dL nh c7) (J.aa (rS 2) (J.aa (bf (J.aa (fun _=>.ok (.str "b")) (J.aa (fun _=>.ok (.str "a")) J.aF)) .tuple) (J.aa kN (J.aa kN J.aF))))) (bf (J.aa (fun _=>.ok (.str "refused")) (J.aa (kI 1) J.aF)) .tuple) (lY true))) (cH (kB false)) (fun ρ=>.ok (.nx ρ)))
def lA:aD->R Fl:=bj OP (bj O1 (bj OQ OR))
def OS:aD->R Fl:=(eM (gW (g2 (eV 4 (dL nh cI) (J.aa (rS 2) (J.aa (bf (J.aa (fun _=>.ok (.str "a")) J.aF) .tuple) (J.aa (rS 5) (J.aa kN J.aF))))) (bf (J.aa (fun _=>.ok (.str "refused")) (J.aa (kI 7) J.aF)) .tuple) (lY true))) (cH (kB false)) (fun ρ=>.ok (.nx ρ)))
def O3:aD->R Fl:=(iM 7 (g2 (bf (J.aa (qo (kI 1)) (J.aa (kI 65) (J.aa kN (J.aa (kB true) (J.aa (fun _=>.ok (.str "1")) J.aF))))) .list) (eV 3 cw (J.aa (rS 0) (J.aa (kI 1) (J.aa (kI 5) J.aF)))) eI))
def OT:aD->R Fl:=(eM (gW (g2 (eV 4 (dL nh cI) (J.aa (rS 2) (J.aa (bf (J.aa (fun _=>.ok (.str "a")) J.aF) .tuple) (J.aa (rS 3) (J.aa (rS 7) J.aF))))) (bf (J.aa (fun _=>.ok (.str "refused")) (J.aa (kI 8) J.aF)) .tuple) (lY true))) (cH (kB false)) (fun ρ=>.ok (.nx ρ)))
def OU:aD->R Fl:=(eM (gW (g2 (eV 4 (dL nh cI) (J.aa (rS 2) (J.aa (bf (J.aa (fun _=>.ok (.str "b")) (J.aa (fun _=>.ok (.str "a")) J.aF)) .tuple) (J.aa kN (J.aa kN J.aF))))) (bf (J.aa (fun _=>.ok (.str "refused")) (J.aa (kI 1) J.aF)) .tuple) (lY true))) (cH (kB false)) (fun ρ=>.ok (.nx ρ)))
def lB:aD->R Fl:=bj OS (bj O3 (bj OT OU))
theorem CM:BB=bj OI (bj OJ (bj OK (bj OL (bj OM (bj O0 (bj (Mp 4 (AD 6 lA lB)) (bj ON OO))))))):=rfl
def Jp (n:Int):R D->Bool
 |.ok (.tuple [.str s,.int k])=>decide (s="refused")&&decide (k=n)
 |_=>false
theorem qz {n:Int}{r:R D} (h:Jp n r=true):r=.ok (.tuple [.str "refused",.int n]):=by
 unfold Jp at h
 split at h
 ·simp only [ay,decide_eq_true_eq] at h
  rw [h.1,h.2]
 ·cases h
abbrev xl:D:=.tuple [.tuple [.str "a",.str "b"],.tuple []]
abbrev BG:D:=.tuple [.tuple [.str "a",.int 5],.tuple [.str "b",.int (-99)]]
def lG:List D:=[.none,.list [.tuple [.str "a",.int 5],.tuple [.str "b",.int (-99)]],.tuple [.tuple [.str "a",.int 100]],.tuple [.tuple [.str "a",.int (-100)]],.tuple [.tuple [.str "a",.bool true]],.tuple [.tuple [.str "zzzzz",.int 1]],.tuple [.tuple [.str "a"]],
 .tuple [.tuple [.str "a",.int 1],.tuple [.str "a",.int 2]],.tuple [.str "a",.int 1],.tuple [.list [.str "a",.int 1]],.tuple [.tuple [.int 1,.int 1]],.tuple [.tuple [.str "a",.int 1,.int 1]],.tuple [.tuple [.str "a",.none]]]
def pH:List D:=[.int (-1),.int 65,.none,.bool true,.str "1"]
theorem MM:∀ d∈lG,Jp 7 (dL nh c7 [xl,.tuple [.str "a"],d,.none])=true:=by
 intro d hd
 unfold lG at hd
 simp only [aM,bv,or_false] at hd
 rcases hd with rfl|rfl|rfl|rfl|rfl|rfl|rfl|rfl|rfl|rfl|rfl|rfl|rfl<;>decide +kernel
theorem MN:∀ d∈lG,Jp 7 (dL nh cI [xl,.tuple [.str "a"],d,.none])=true:=by
 intro d hd
 unfold lG at hd
 simp only [aM,bv,or_false] at hd
 rcases hd with rfl|rfl|rfl|rfl|rfl|rfl|rfl|rfl|rfl|rfl|rfl|rfl|rfl<;>decide +kernel
theorem L5:∀ d∈pH,Jp 8 (dL nh c7 [xl,.tuple [.str "a"],BG,d])=true:=by
 intro d hd
 unfold pH at hd
 simp only [aM,bv,or_false] at hd
 rcases hd with rfl|rfl|rfl|rfl|rfl<;>decide +kernel
theorem L6:∀ d∈pH,Jp 8 (dL nh cI [xl,.tuple [.str "a"],BG,d])=true:=by
 intro d hd
 unfold pH at hd
 simp only [aM,bv,or_false] at hd
 rcases hd with rfl|rfl|rfl|rfl|rfl<;>decide +kernel
theorem O4:Jp 1 (dL nh c7 [xl,.tuple [.str "b",.str "a"],.none,.none])=true:=by decide +kernel
theorem O5:Jp 1 (dL nh cI [xl,.tuple [.str "b",.str "a"],.none,.none])=true:=by decide +kernel
theorem L7 (j:Int) (h0:0<=j) (h1:j<13):∃ d∈lG,eI (.list lG) (.int j)=.ok d:=by
 have:j=0\/j=1\/j=2\/j=3\/j=4\/j=5\/j=6\/j=7\/j=8\/j=9\/j=10\/j=11\/j=12:=by omega
 rcases this with rfl|rfl|rfl|rfl|rfl|rfl|rfl|rfl|rfl|rfl|rfl|rfl|rfl<;>exact ⟨_,by unfold lG;simp only [aM,true_or,or_true],rfl⟩
theorem Iw (j:Int) (h0:0<=j) (h1:j<5):∃ d∈pH,eI (.list pH) (.int j)=.ok d:=by
 have:j=0\/j=1\/j=2\/j=3\/j=4:=by omega
 rcases this with rfl|rfl|rfl|rfl|rfl<;>exact ⟨_,by unfold pH;simp only [aM,true_or,or_true],rfl⟩
def MO:R D->Bool
 |.ok (.bool false)=>true
 |_=>false
theorem BH {r:R D} (h:MO r=true):r=.ok (.bool false):=by
 unfold MO at h
 split at h
 ·rfl
 ·cases h
theorem O6 (n:Int) (h:n=1\/n=7\/n=8):lY true (.tuple [.str "refused",.int n]) (.tuple [.str "refused",.int n])=.ok (.bool false):=by
 rcases h with rfl|rfl|rfl<;>exact BH (by decide +kernel)
abbrev nE (L d s6 s7:Sl):aD:=[L,.shr (.tuple [.str "a",.str "b"]),.shr xl,.shr BG,.shr (.list lG),d,s6,s7]
theorem ud {gt:aD->R Bool}{ga:aD->R Fl}{ρ:aD} (h:gt ρ=.ok false):eM gt ga (fun ρ=>.ok (.nx ρ)) ρ=.ok (.nx ρ):=by
 unfold eM
 rw [h];rfl
theorem hJ {g h:aD->R Fl}{ρ ρ':aD} (e:g ρ=.ok (.nx ρ')):bj g h ρ=h ρ':=by
 unfold bj
 rw [e];rfl
theorem qA {F:List D->R D}{gs:aD->R (List D)}{ge:aD->R D}{ρ:aD}{ds:List D}{n:Int} (h1:gs ρ=.ok ds) (hl:ds.length=4) (h2:F ds=.ok (.tuple [.str "refused",.int n])) (h3:ge ρ=.ok (.tuple [.str "refused",.int n])) (hn:n=1\/n=7\/n=8:=by decide):gW (g2 (eV 4 F gs) ge (lY true)) ρ=.ok false:=by
 unfold gW g2 eV
 rw [h1,bind_ok,if_pos hl,h2,bind_ok,h3,bind_ok,O6 n hn,bind_ok]
theorem FY (ns:List Int) (d s7:Sl):∃ m∈pH,(g2 (bf (J.aa (qo (kI 1)) (J.aa (kI 65) (J.aa kN (J.aa (kB true) (J.aa (fun _=>.ok (.str "1")) J.aF))))) .list) (eV 3 cw (J.aa (rS 0) (J.aa (kI 1) (J.aa (kI 5) J.aF)))) eI) (nE (.shr (.list (ns.map .int))) d .no s7)=.ok m:=by
 obtain ⟨m,hm,e⟩:=Iw (FW ns 1 5) (BE ns 1 5 (by decide)) (BF ns 1 5 (by decide))
 refine ⟨m,hm,?_⟩
 unfold g2
 rw [show bf (J.aa (qo (kI 1)) (J.aa (kI 65) (J.aa kN (J.aa (kB true) (J.aa (fun _=>.ok (.str "1")) J.aF))))) .list (nE (.shr (.list (ns.map .int))) d .no s7)=.ok (.list pH) from rfl,bind_ok]
 rw [show eV 3 cw (J.aa (rS 0) (J.aa (kI 1) (J.aa (kI 5) J.aF))) (nE (.shr (.list (ns.map .int))) d .no s7)=cw [.list (ns.map .int),.int 1,.int 5] from rfl,FX ns 1 5 (by decide) (by decide),bind_ok,e]
theorem O7 (ns:List Int) {d:D} (hd:d∈lG) (s7:Sl):∃ m,lA (nE (.shr (.list (ns.map .int))) (.shr d) .no s7)=.ok (.nx (nE (.shr (.list (ns.map .int))) (.shr d) .no (.shr m))):=by
 obtain ⟨m,hm,e⟩:=FY ns (.shr d) s7
 refine ⟨m,?_⟩
 have e0:OP (nE (.shr (.list (ns.map .int))) (.shr d) .no s7)=.ok (.nx (nE (.shr (.list (ns.map .int))) (.shr d) .no s7)):=ud (qA rfl rfl (qz (MM d hd)) rfl)
 have e1:O1 (nE (.shr (.list (ns.map .int))) (.shr d) .no s7)=.ok (.nx (nE (.shr (.list (ns.map .int))) (.shr d) .no (.shr m))):=by
  unfold O1 iM
  rw [e];rfl
 have e2:OQ (nE (.shr (.list (ns.map .int))) (.shr d) .no (.shr m))=.ok (.nx (nE (.shr (.list (ns.map .int))) (.shr d) .no (.shr m))):=ud (qA rfl rfl (qz (L5 m hm)) rfl)
 have e3:OR (nE (.shr (.list (ns.map .int))) (.shr d) .no (.shr m))=.ok (.nx (nE (.shr (.list (ns.map .int))) (.shr d) .no (.shr m))):=ud (qA rfl rfl (qz O4) rfl)
 unfold lA
 rw [hJ e0,hJ e1,hJ e2,e3]
theorem O8 (ns:List Int) {d:D} (hd:d∈lG) (s7:Sl):∃ m,lB (nE (.shr (.list (ns.map .int))) (.shr d) .no s7)=.ok (.nx (nE (.shr (.list (ns.map .int))) (.shr d) .no (.shr m))):=by
 obtain ⟨m,hm,e⟩:=FY ns (.shr d) s7
 refine ⟨m,?_⟩
 have e0:OS (nE (.shr (.list (ns.map .int))) (.shr d) .no s7)=.ok (.nx (nE (.shr (.list (ns.map .int))) (.shr d) .no s7)):=ud (qA rfl rfl (qz (MN d hd)) rfl)
 have e1:O3 (nE (.shr (.list (ns.map .int))) (.shr d) .no s7)=.ok (.nx (nE (.shr (.list (ns.map .int))) (.shr d) .no (.shr m))):=by
  unfold O3 iM
  rw [e];rfl
 have e2:OT (nE (.shr (.list (ns.map .int))) (.shr d) .no (.shr m))=.ok (.nx (nE (.shr (.list (ns.map .int))) (.shr d) .no (.shr m))):=ud (qA rfl rfl (qz (L6 m hm)) rfl)
 have e3:OU (nE (.shr (.list (ns.map .int))) (.shr d) .no (.shr m))=.ok (.nx (nE (.shr (.list (ns.map .int))) (.shr d) .no (.shr m))):=ud (qA rfl rfl (qz O5) rfl)
 unfold lB
 rw [hJ e0,hJ e1,hJ e2,e3]
theorem Ix {r:R D} (h:(match r with | .ok (.bool true)=>true|_=>false)=true):r=.ok (.bool true):=by
 split at h
 ·rfl
 ·cases h
theorem MP:gW (g2 (fun _=>dL nh c7 [xl,.tuple [.str "a"],BG,.int 64]) (kI 5) (lY true)) []=.ok false:=by
 have:g2 (fun _=>dL nh c7 [xl,.tuple [.str "a"],BG,.int 64]) (kI 5) (lY true) []=.ok (.bool false):=BH (by decide +kernel)
 unfold gW
 rw [this,bind_ok]
theorem MQ:g2 (fun _=>dL nh cI [xl,.tuple [],BG,.int 0]) (bf J.aF .list) (lY false) []=.ok (.bool true):=Ix (by decide +kernel)
theorem law_true (ns:List Int):F_law [.list (ns.map .int)]=.ok (.bool true):=by
 obtain ⟨d,hd,e⟩:=L7 (FW ns 0 13) (BE ns 0 13 (by decide)) (BF ns 0 13 (by decide))
 obtain ⟨m1,r1⟩:=O7 ns hd .no
 obtain ⟨m2,r2⟩:=O8 ns hd (.shr m1)
 unfold F_law
 refine AE ?_
 rw [CM,show fe 8 [mD (ns.map .int)]=[.shr (.list (ns.map .int)),.no,.no,.no,.no,.no,.no,.no] from rfl]
 rw [hJ (show OI [.shr (.list (ns.map .int)),.no,.no,.no,.no,.no,.no,.no]=.ok (.nx [.shr (.list (ns.map .int)),.shr (.tuple [.str "a",.str "b"]),.no,.no,.no,.no,.no,.no]) from rfl)]
 rw [hJ (show OJ _=.ok (.nx [.shr (.list (ns.map .int)),.shr (.tuple [.str "a",.str "b"]),.shr xl,.no,.no,.no,.no,.no]) from rfl)]
 rw [hJ (show OK _=.ok (.nx [.shr (.list (ns.map .int)),.shr (.tuple [.str "a",.str "b"]),.shr xl,.shr BG,.no,.no,.no,.no]) from rfl)]
 rw [hJ (show OL _=.ok (.nx [.shr (.list (ns.map .int)),.shr (.tuple [.str "a",.str "b"]),.shr xl,.shr BG,.own (.list (lG.take 7)),.no,.no,.no]) from rfl)]
 rw [hJ (show OM _=.ok (.nx [.shr (.list (ns.map .int)),.shr (.tuple [.str "a",.str "b"]),.shr xl,.shr BG,.own (.list lG),.no,.no,.no]) from rfl)]
 have e5:O0 [.shr (.list (ns.map .int)),.shr (.tuple [.str "a",.str "b"]),.shr xl,.shr BG,.own (.list lG),.no,.no,.no]=.ok (.nx [.shr (.list (ns.map .int)),.shr (.tuple [.str "a",.str "b"]),.shr xl,.shr BG,.own (.list lG),.shr d,.no,.no]):=by
  unfold O0 iM g2
  rw [show eV 3 cw (J.aa (rS 0) (J.aa (kI 0) (J.aa (kI 13) J.aF))) [.shr (.list (ns.map .int)),.shr (.tuple [.str "a",.str "b"]),.shr xl,.shr BG,.own (.list lG),.no,.no,.no]=cw [.list (ns.map .int),.int 0,.int 13] from rfl,FX ns 0 13 (by decide) (by decide)]
  rw [show rB 4 [.shr (.list (ns.map .int)),.shr (.tuple [.str "a",.str "b"]),.shr xl,.shr BG,.own (.list lG),.no,.no,.no]=.ok (.list lG) from rfl,bind_ok,bind_ok,e,bind_ok]
  rfl
 rw [hJ e5]
 have e6:Mp 4 (AD 6 lA lB) [.shr (.list (ns.map .int)),.shr (.tuple [.str "a",.str "b"]),.shr xl,.shr BG,.own (.list lG),.shr d,.no,.no]=.ok (.nx (nE (.shr (.list (ns.map .int))) (.shr d) .no (.shr m2))):=by
  show AD 6 lA lB (nE (.shr (.list (ns.map .int))) (.shr d) .no .no)=_
  unfold AD
  rw [if_pos (by rfl),show (nE (.shr (.list (ns.map .int))) (.shr d) .no .no).set 6 .no=nE (.shr (.list (ns.map .int))) (.shr d) .no .no from rfl,r1]
  dsimp only
  rw [if_pos (by rfl),show (nE (.shr (.list (ns.map .int))) (.shr d) .no (.shr m1)).set 6 .no=nE (.shr (.list (ns.map .int))) (.shr d) .no (.shr m1) from rfl,r2]
  dsimp only
  rw [if_pos (by rfl)]
 rw [hJ e6]
 have e7:ON (nE (.shr (.list (ns.map .int))) (.shr d) .no (.shr m2))=.ok (.nx (nE (.shr (.list (ns.map .int))) (.shr d) .no (.shr m2))):=ud MP
 rw [hJ e7]
 unfold OO cH
 rw [show g2 (eV 4 (dL nh cI) (J.aa (rS 2) (J.aa (bf J.aF .tuple) (J.aa (rS 3) (J.aa (kI 0) J.aF))))) (bf J.aF .list) (lY false) (cL (nE (.shr (.list (ns.map .int))) (.shr d) .no (.shr m2)))=.ok (.bool true) from MQ]
 rfl
end Z
end
namespace Z
open PySem L2 J
section
def pI (i:Nat):cy:=PySem.Challenge.pw_errands_k27_gains_refused.main.body.getD i (.Pass ⟨0,0,0,0⟩)
section
variable {e:En}
abbrev mn:cy:=pI 49
def y_:List Str:=["NoBook","NoState","NoWant","NoErrand","NoRow","NoWay","NoPaper","NoFacts","NoNumber","Nothing","NoText"]
theorem pJ:bq ["_law_e","_law_own"] ["_law_e"] (aw mn):=ef (by decide +kernel)
theorem uU {f:ac}{fd:cp} (F:wz e.K "_law_which" "_law_which" mn f fd) (B:Bi e.mg) (mv:e.mg "ValueError"=none) (mc:∀ n∈y_,e.mg n=some (.ref (e.cls n))):yq e.P e.w e.K e.mg e.base 1 f fd ["_law_e"] (Kv e.K e.base e.cls y_):=by
 refine F.okH pJ (fun vs H Q E h=>?_) (fun cdv A outer s H vs Q E hr h=>?_)
 ·obtain ⟨_,_,_,rfl,_⟩:=h;rfl
 obtain ⟨ea,C,j,rfl,hH,x,q⟩:=h
 refine ⟨_,d_ (wp (i:=1) pJ.nd rfl (eu rfl) (sQ (bD (j5 (names:=y_) (cls:=e.cls) (base:=e.base) (pv 0) rfl B.isinstance rfl (mc "NoBook" (by decide +kernel))) (bD (j5 (names:=y_) (cls:=e.cls) (base:=e.base) (pv 0) rfl B.isinstance rfl (mc "NoState" (by decide +kernel))) (bD (j5 (names:=y_) (cls:=e.cls) (base:=e.base) (pv 0) rfl B.isinstance rfl (mc "NoWant" (by decide +kernel))) (bD (j5 (names:=y_) (cls:=e.cls) (base:=e.base) (pv 0) rfl B.isinstance rfl (mc "NoErrand" (by decide +kernel))) eE))))))
  (d_ (oS (vz dn jK jL vA (pv 1) (bD (sQ (bD (j5 (names:=y_) (cls:=e.cls) (base:=e.base) (pv 0) rfl B.isinstance rfl (mc "NoRow" (by decide +kernel))) (bD (j5 (names:=y_) (cls:=e.cls) (base:=e.base) (pv 0) rfl B.isinstance rfl (mc "NoWay" (by decide +kernel))) (bD (j5 (names:=y_) (cls:=e.cls) (base:=e.base) (pv 0) rfl B.isinstance rfl (mc "NoPaper" (by decide +kernel))) (bD (j5 (names:=y_) (cls:=e.cls) (base:=e.base) (pv 0) rfl B.isinstance rfl (mc "NoFacts" (by decide +kernel))) eE))))) eE)))
  (d_ (oS (vz dn jK jL vA (pv 1) (bD (sQ (bD (j5 (names:=y_) (cls:=e.cls) (base:=e.base) (pv 0) rfl B.isinstance rfl (mc "NoNumber" (by decide +kernel))) (bD (j5 (names:=y_) (cls:=e.cls) (base:=e.base) (pv 0) rfl B.isinstance rfl (mc "Nothing" (by decide +kernel))) (bD (j5 (names:=y_) (cls:=e.cls) (base:=e.base) (pv 0) rfl B.isinstance rfl (mc "NoText" (by decide +kernel))) eE)))) eE)))
  (d_ (DJ (PW.pt (IA (wt Lv (vz dn vi PySem.F.type_list_count Cj (pv 1) (bD DD eE)) DC (wq _)) (DH (DI (DG (HN (names:=y_) (cls:=e.cls) (base:=e.base) (pv 0) rfl B.isinstance rfl mv)))))) fN wm)
  (mE (wn (A5 (bD DE (bD (vz dn vj PySem.F.type_list_index Ck (pv 1) (bD DD eE)) eE)))))))),?_⟩
 refine ⟨ea,C,j,0,rfl,hH,x,rfl,ea,C,j,1,rfl,hH,x,rfl,ea,C,j,2,rfl,hH,x,rfl,ea,C,j,3,rfl,hH,x,rfl,ba (bS (show 4<=1000 by decide)),fun p hp=>?_⟩
 have np:ea≠p:=aI hH hp
 have hH1:∀ o,upd H p o ea=some (s_ ea C):=fun o=>by rw [aG np];exact hH
 refine ⟨_,rfl,.inl ⟨rfl,_,.of aH⟩,?_⟩
 refine ⟨ea,C,j,4,rfl,hH1 _,x,rfl,ea,C,j,5,rfl,hH1 _,x,rfl,ea,C,j,6,rfl,hH1 _,x,rfl,ea,C,j,7,rfl,hH1 _,x,rfl,ba (bS (show 4<=1000 by decide)),fun p2 hp2=>?_⟩
 have np2:p≠p2:=aI aH hp2
 have ne2:ea≠p2:=aI (hH1 _) hp2
 refine ⟨p,p2,([decide (0=j),decide (1=j),decide (2=j),decide (3=j)].map V.bl),_,rfl,rfl,by rw [aG np2];exact aH,aH,ba (bS (show 8<=1000 by decide)),?_⟩
 have hH2:∀ o u,upd (upd (upd H p o) p2 u) p (.lst (([decide (0=j),decide (1=j),decide (2=j),decide (3=j)]++[decide (4=j),decide (5=j),decide (6=j),decide (7=j)]).map V.bl)) ea=some (s_ ea C):=fun o u=>by rw [aG np,aG ne2];exact hH1 _
 refine ⟨_,rfl,.inl ⟨rfl,_,.of aH⟩,?_⟩
 refine ⟨ea,C,j,8,rfl,hH2 _ _,x,rfl,ea,C,j,9,rfl,hH2 _ _,x,rfl,ea,C,j,10,rfl,hH2 _ _,x,rfl,ba (bS (show 3<=1000 by decide)),fun p3 hp3=>?_⟩
 have np3:p≠p3:=aI aH hp3
 have ne3:ea≠p3:=aI (hH2 _ _) hp3
 refine ⟨p,p3,(([decide (0=j),decide (1=j),decide (2=j),decide (3=j)]++[decide (4=j),decide (5=j),decide (6=j),decide (7=j)]).map V.bl),_,rfl,rfl,by rw [aG np3];exact aH,aH,ba (bS (show 11<=1000 by decide)),?_⟩
 refine ⟨_,rfl,.inl ⟨rfl,_,.of aH⟩,p,bits j,rfl,rfl,.of aH,?_⟩
 rw [Ay j x.lt]
 refine ⟨rfl,_,rfl,uL ⟨ea,C,j,rfl,?_,x,_,rfl,uL ?_⟩⟩
 ·rw [aG np,aG ne3];exact hH2 _ _
 obtain ⟨b1,b2⟩:=HM j x.lt
 refine ⟨_,rfl,.inl ⟨rfl,_,.of aH⟩,p,bits j,j,rfl,rfl,.of aH,b1,b2,ba (au x.lt (by decide)),ba (bS (show 2<=1000 by decide)),fun t ht=>?_⟩
 have s1:cb H _:=gX (o:=.lst ([decide (0=j),decide (1=j),decide (2=j),decide (3=j)].map V.bl)) hp
 have hpn:∀ b o,H b=some o->b≠p:=fun b o e=>aI e hp
 have hp2n:∀ b o,H b=some o->b≠p2:=fun b o e=>aI (s1 b o e) hp2
 have hp3n:∀ b o,H b=some o->b≠p3:=fun b o e=>aI (by rw [aG (hpn b o e),aG (hp2n b o e)];exact s1 b o e) hp3
 have old:∀ b o,H b=some o->b≠t:=fun b o e=>aI (by rw [aG (hpn b o e),aG (hp3n b o e),aG (hpn b o e),aG (hp2n b o e)];exact s1 b o e) ht
 refine q t _ (fun b o e=>?_) ?_ aH
 ·rw [aG (old b o e),aG (hpn b o e),aG (hp3n b o e),aG (hpn b o e),aG (hp2n b o e)];exact s1 b o e
 ·cases z:H t with
  |none=>rfl
  |some o=>exact (old t o z rfl).elim
abbrev eW:cy:=pI 50
abbrev iJ:List Str:=["_law_ask","_law_one","_law_other","_law_third","_law_fourth","_law_e"]
theorem kq:bq iJ ["_law_ask","_law_one","_law_other","_law_third","_law_fourth"] (aw eW):=ef (by decide +kernel)
theorem kr {y:Str}{kf k:Nat}{Fy:List D->R D} (D:ii e.K e.mg "_law_told_four" eW) (W:Wh e.P e.w e.K e.mg e.base e.cls "_law_which" y_ nh) (G:FN e y kf 4 Fy) (hk:kf<=k) (h1:1<=k):FT e "_law_told_four" y (k+1) 4 (dL nh Fy):=by
 obtain ⟨f,fd,F,hm⟩:=D.ex
 obtain ⟨a,fda,psa,hf,hma,hka,hba⟩:=G.ex
 refine HU (k:=k) (g:=CC nh (cH (eV 4 Fy (aa (rS 1) (aa (rS 2) (aa (rS 3) (aa (rS 4) aF))))))) F kq hm (b5 F) hma rfl (fun cdv A outer s H E hr ρ=>?_) fun ds hl=>?_
 ·exact mE (KC (c:=⟨g9 (iA e.P e.w) e.P e.w e.K e.mg e.base iJ "_law_told_four" (aw eW) f cdv A outer s H E,e.cls,E⟩) 5 0 W (fun E1 xe1 pn1 hp=>mE (KB (c:=⟨IT (g9 (iA e.P e.w) e.P e.w e.K e.mg e.base iJ "_law_told_four" (aw eW) f cdv A outer s H E) xe1 pn1,e.cls,E1⟩) hf hka hba (hr.mono hk) hp (af (ar 1) (af (ar 2) (af (ar 3) (af (ar 4) aC)))) (ρ:=ρ))) (hr.h.mono1 h1) rfl rfl kq.nd)
 ·match ds,hl with
  |[_,_,_,_],_=>exact Fz rfl rfl
abbrev iO:cy:=pI 18
abbrev pK:List Str:=["one","other"]
theorem uV:bq pK ["one","other"] (aw iO):=ef (by decide +kernel)
abbrev l9 (e:En):=FN e "share_none" 1 2 iN
theorem uW (D:ii e.K e.mg "share_none" iO) (B:Bi e.mg):l9 e:=rP (k:=0) (g:=k_) D uV b2 fun _ _ _ _ _ _ _ hr=>by unfold k_;exact (aU (bI (Kj (cA (Km rfl) rfl B.any PyProof.Rows.boot_any (cG (JE.bor (JN.je (gq (N':=["fact","other"]) (ix:=[1]) 1 (by decide) rfl (da (so:=aw iO) (N:=pK) (by decide +kernel)) (ig (az 0)) (fun cl A0 s0 H0 ex pn=>⟨dq (i:=0) (by show (["fact","other"] : List Str).Nodup;decide +kernel) rfl (.inl rfl),g_,(o6 (yw) (az 0) (az 1))⟩)))) dw)))))
abbrev mL:cy:=pI 19
abbrev vV:List Str:=["facts","others"]
theorem AF:bq vV ["facts","others"] (aw mL):=ef (by decide +kernel)
abbrev vW (e:En):=FN e "without" 1 2 vQ
theorem AG (D:ii e.K e.mg "without" mL) (B:Bi e.mg):vW e:=rP (k:=0) (g:=qr) D AF b2 fun _ _ _ _ _ _ _ hr=>by unfold qr;exact (aU (bI (qk (yy rfl) rfl B.tuple bV (cG (JE.bor (JN.je (gq (N':=["fact","others"]) (ix:=[1]) 1 (by decide) rfl (da (so:=aw mL) (N:=vV) (by decide +kernel)) (ig (az 0)) (fun cl A0 s0 H0 ex pn=>⟨dq (i:=0) (by show (["fact","others"] : List Str).Nodup;decide +kernel) rfl (.inl rfl),(si (ie (EQ) (az 0) (az 1))),(ar 0)⟩)))) dw))))
abbrev ue:cy:=pI 20
abbrev FZ:List Str:=["one","other"]
theorem CN:bq FZ ["one","other"] (aw ue):=ef (by decide +kernel)
abbrev z0 (e:En):=FN e "joined" 1 2 yZ
theorem CO (D:ii e.K e.mg "joined" ue) (B:Bi e.mg):z0 e:=rP (k:=0) (g:=ub) D CN b2 fun _ _ _ _ _ _ _ hr=>by unfold ub;exact (aU (bI (qk (yy rfl) rfl B.tuple bV (cG (JE.bor (Aw rfl (KH (Fd rfl (az 0) rfl B.set) (Fd rfl (az 1) rfl B.set)) rfl B.sorted)) dw))))
abbrev mM:cy:=pI 21
abbrev vX:List Str:=["thing"]
theorem AH:bq vX ["thing"] (aw mM):=ef (by decide +kernel)
abbrev qB (e:En):=FN e "is_word" 1 1 qu
theorem AI (D:ii e.K e.mg "is_word" mM) (B:Bi e.mg) (ja:Cn e.mg "MOST_LETTERS" 6):qB e:=rP (k:=0) (g:=qt) D AH b1 fun _ _ _ _ _ _ _ hr=>by unfold qt;exact (aZ (gH (JW.t (ny (eQ (eG (jT (az 0) rfl B.isinstance rfl B.str sI (by decide)))) (jS (eQ (Fb (tG) (tG) (JE.bor bd) (JE.bor (cA j3 rfl B.len cE (cG (az 0) dw))) (JE.bor (i_ rfl ja))))))) (aU (bI gf)) dv) (aU (bI (cA (l_ rfl) rfl B.all cg (cG (JE.bor (JN.je (gq (N':=["sign"]) (ix:=[]) 1 (by decide) rfl (da (so:=aw mM) (N:=vX) (by decide +kernel)) (ig (az 0)) (fun cl A0 s0 H0 ex pn=>⟨dq (i:=0) (by show (["sign"] : List Str).Nodup;decide +kernel) rfl (.inl rfl),g_,(yI (tG) (tG) (JE.bor bQ) (az 0) (JE.bor bQ))⟩)))) dw)))))
abbrev dO:cy:=pI 22
abbrev gF:List Str:=["thing"]
theorem ni:bq gF ["thing"] (aw dO):=ef (by decide +kernel)
abbrev gG (e:En):=FN e "are_rising_words" 2 1 gE
theorem nj (D:ii e.K e.mg "are_rising_words" dO) (B:Bi e.mg) (iS:qB e):gG e:=rP (k:=1) (g:=gD) D ni b1 fun _ _ _ _ _ _ _ hr=>by unfold gD;exact (aZ (gH (JW.t (ny (eQ (eG (jT (az 0) rfl B.isinstance rfl B.tuple bV (by decide)))) (jS (eQ (eG (cA (l_ rfl) rfl B.all cg (cG (JE.bor (JN.je (gq (N':=["word"]) (ix:=[]) 1 (by decide) rfl (da (so:=aw dO) (N:=gF) (by decide +kernel)) (ig (az 0)) (fun cl A0 s0 H0 ex pn=>⟨dq (i:=0) (by show (["word"] : List Str).Nodup;decide +kernel) rfl (.inl rfl),g_,(jc iS hr fV (af (ar 0) aC))⟩)))) dw))))))) (aU (bI gf)) dv) (aU (bI (cA (l_ rfl) rfl B.all cg (cG (JE.bor (JN.je (gq (N':=["low","high"]) (ix:=[]) 2 (by decide) rfl (da (so:=aw dO) (N:=gF) (by decide +kernel)) (J6.i (HF rfl B.zip (af (ar 0) (af (ET (az 0) (HB bd) HA) aC)))) (fun cl A0 s0 H0 ex pn=>⟨wo rfl (iX (dq (i:=0) (by show (["low","high"] : List Str).Nodup;decide +kernel) rfl (.inl rfl)) (iX (dq (i:=1) (by show (["low","high"] : List Str).Nodup;decide +kernel) rfl (.inl rfl)) sd)),g_,(o6 (EM) (az 0) (az 1))⟩)))) dw)))))
abbrev jC:cy:=pI 23
abbrev r9:List Str:=["book_facts","thing"]
theorem xm:bq r9 ["book_facts","thing"] (aw jC):=ef (by decide +kernel)
abbrev mq (e:En):=FN e "are_facts" 3 2 mf
theorem xn (D:ii e.K e.mg "are_facts" jC) (B:Bi e.mg) (de:gG e):mq e:=rP (k:=2) (g:=me) D xm b2 fun _ _ _ _ _ _ _ hr=>by unfold me;exact (aU (bI (tw (jc de hr px (af (ar 1) aC)) (wP (cA (l_ rfl) rfl B.all cg (cG (JE.bor (JN.je (gq (N':=["fact","book_facts"]) (ix:=[0]) 1 (by decide) rfl (da (so:=aw jC) (N:=r9) (by decide +kernel)) (ig (az 1)) (fun cl A0 s0 H0 ex pn=>⟨dq (i:=0) (by show (["fact","book_facts"] : List Str).Nodup;decide +kernel) rfl (.inl rfl),g_,(o6 (yw) (az 0) (az 1))⟩)))) dw))))))
abbrev oj:cy:=pI 24
abbrev AJ:List Str:=["thing","least","most"]
theorem z3:bq AJ ["thing","least","most"] (aw oj):=ef (by decide +kernel)
abbrev lc (e:En):=FN e "is_whole" 1 3 l4
theorem z9 (D:ii e.K e.mg "is_whole" oj) (B:Bi e.mg):lc e:=rP (k:=0) (g:=og) D z3 b3 fun _ _ _ _ _ _ _ hr=>by unfold og;exact (aZ (gH (JW.t (ny (eQ (eG (jT (az 0) rfl B.isinstance rfl B.int PyProof.Rows.boot_int (by decide)))) (jS (eG (jT (az 0) rfl B.isinstance rfl B.bool PyProof.Rows.boot_bool (by decide)))))) (aU (bI gf)) dv) (aU (bI (yI (tG) (tG) (az 1) (az 0) (az 2)))))
abbrev jD:cy:=pI 25
abbrev re:List Str:=["book_facts","thing","name","needs","bars","makes","ends","price"]
theorem eS:bq re ["book_facts","thing"] (aw jD):=ef (by decide +kernel)
abbrev rf (e:En):=FN e "is_errand" 4 2 q_
theorem xo (D:ii e.K e.mg "is_errand" jD) (B:Bi e.mg) (iS:qB e) (eT:lc e) (gK:mq e) (eU:l9 e) (le:Cn e.mg "MOST_PRICE" 9):rf e:=rP (k:=3) (g:=mh) D eS b2 fun _ _ _ _ _ _ _ hr=>by have hu64:=hr.units;unfold mh;exact (aZ (gH (JW.t (ny (eQ (eG (jT (az 1) rfl B.isinstance rfl B.tuple bV (by decide)))) (jS (ie (vI hu64) (JE.bor (cA j3 rfl B.len cE (cG (az 1) dw))) (JE.bor bd))))) (aU (bI gf)) dv) (aZ (wU (ar 1) (tK rfl (ed (eR 2 eS.nd) (ed (eR 3 eS.nd) (ed (eR 4 eS.nd) (ed (eR 5 eS.nd) (ed (eR 6 eS.nd) (ed (eR 7 eS.nd) pw)))))))) (aZ (gH (JW.t (ny (eQ (eG (jc iS hr px (af (ar 2) aC)))) (jS (eQ (eG (jc eT hr px (af (ar 7) (af bd (af (i_ rfl le) aC))))))))) (aU (bI gf)) dv) (aZ (gH (eQ (eG (cA (l_ rfl) rfl B.all cg (cG (JE.bor (JN.je (gq (N':=["facts","book_facts"]) (ix:=[0]) 1 (by decide) rfl (da (so:=aw jD) (N:=re) (by decide +kernel)) (ig (JE.bor (bA (af (ar 3) (af (ar 4) (af (ar 5) (af (ar 6) aC))))))) (fun cl A0 s0 H0 ex pn=>⟨dq (i:=0) (by show (["facts","book_facts"] : List Str).Nodup;decide +kernel) rfl (.inl rfl),g_,(jc gK hr fV (af (ar 1) (af (ar 0) aC)))⟩)))) dw)))) (aU (bI gf)) dv) (aU (bI (tw (jc eU hr px (af (ar 3) (af (ar 4) aC))) (wP (jc eU hr px (af (ar 5) (af (ar 6) aC)))))))))))
abbrev ku:cy:=pI 26
abbrev qC:List Str:=["thing","facts","errands"]
theorem om:bq qC ["thing"] (aw ku):=ef (by decide +kernel)
abbrev vY (e:En):=FN e "is_book" 5 1 vR
theorem AK (D:ii e.K e.mg "is_book" ku) (B:Bi e.mg) (de:gG e) (mr:rf e) (lf:Cn e.mg "MOST_FACTS" 6) (jb:Cn e.mg "MOST_ERRANDS" 6):vY e:=rP (k:=4) (g:=qv) D om b1 fun _ _ _ _ _ _ _ hr=>by have hu1:=lu hr;have hu64:=hr.units;unfold qv;exact (aZ (gH (JW.t (ny (eQ (eG (jT (az 0) rfl B.isinstance rfl B.tuple bV (by decide)))) (jS (ie (vI hu64) (JE.bor (cA j3 rfl B.len cE (cG (az 0) dw))) (JE.bor bd))))) (aU (bI gf)) dv) (aZ (wU (ar 0) (tK rfl (ed (eR 1 om.nd) (ed (eR 2 om.nd) pw)))) (aZ (gH (JW.t (ny (eQ (eG (jc de hr px (af (ar 1) aC)))) (jS (ie (IX) (JE.bor (cA j3 rfl B.len cE (cG (az 1) dw))) (JE.bor (i_ rfl lf)))))) (aU (bI gf)) dv) (aZ (gH (JW.t (ny (eQ (eG (jT (az 2) rfl B.isinstance rfl B.tuple bV (by decide)))) (jS (ie (IX) (JE.bor (cA j3 rfl B.len cE (cG (az 2) dw))) (JE.bor (i_ rfl jb)))))) (aU (bI gf)) dv) (aZ (gH (eQ (eG (cA (l_ rfl) rfl B.all cg (cG (JE.bor (JN.je (gq (N':=["errand","facts"]) (ix:=[1]) 1 (by decide) rfl (da (so:=aw ku) (N:=qC) (by decide +kernel)) (ig (az 2)) (fun cl A0 s0 H0 ex pn=>⟨dq (i:=0) (by show (["errand","facts"] : List Str).Nodup;decide +kernel) rfl (.inl rfl),g_,(jc mr hr fV (af (ar 1) (af (ar 0) aC)))⟩)))) dw)))) (aU (bI gf)) dv) (aU (bI (o6 (EK hu64) (JE.bor (vK (yJ (N':=["errand"]) (ix:=[]) 1 (by decide) rfl (da (so:=aw ku) (N:=qC) (by decide +kernel)) (ig (az 2)) (fun cl A0 s0 H0 ex pn=>⟨dq (i:=0) (by show (["errand"] : List Str).Nodup;decide +kernel) rfl (.inl rfl),g_,(fU hu1 (az 0) (JE.bor bd))⟩)) rfl B.len)) (JE.bor (cA j3 rfl B.len cE (cG (az 2) dw)))))))))))
abbrev jX:cy:=pI 27
abbrev uX:List Str:=["book","state"]
theorem uf:bq uX ["book","state"] (aw jX):=ef (by decide +kernel)
abbrev nF (e:En):=FN e "check_state" 4 2 nA
theorem ug (D:ii e.K e.mg "check_state" jX) (gK:mq e) (qD:ER e "NoState"):nF e:=rP (k:=3) (g:=jU) D uf b2 fun _ _ _ _ _ _ _ hr=>by have hu1:=lu hr;unfold jU;exact (aU (gH (eQ (eG (jc gK hr px (af (fU hu1 (az 0) (JE.bor bd)) (af (ar 1) aC))))) (aU (md qD rfl (af bQ aC))) dv))
abbrev mO:cy:=pI 28
abbrev vZ:List Str:=["state","want","must","bars"]
theorem oo:bq vZ ["state","want"] (aw mO):=ef (by decide +kernel)
abbrev v_ (e:En):=FN e "fulfils" 2 2 vS
theorem AL (D:ii e.K e.mg "fulfils" mO) (B:Bi e.mg) (eU:l9 e):v_ e:=rP (k:=1) (g:=qw) D oo b2 fun _ _ _ _ _ _ _ hr=>by unfold qw;exact (aZ (wU (ar 1) (tK rfl (ed (eR 2 oo.nd) (ed (eR 3 oo.nd) pw)))) (aU (bI (tw (cA (l_ rfl) rfl B.all cg (cG (JE.bor (JN.je (gq (N':=["fact","state"]) (ix:=[0]) 1 (by decide) rfl (da (so:=aw mO) (N:=vZ) (by decide +kernel)) (ig (az 2)) (fun cl A0 s0 H0 ex pn=>⟨dq (i:=0) (by show (["fact","state"] : List Str).Nodup;decide +kernel) rfl (.inl rfl),g_,(o6 (yw) (az 0) (az 1))⟩)))) dw)) (wP (jc eU hr px (af (ar 3) (af (ar 0) aC))))))))
abbrev ms:cy:=pI 29
abbrev zb:List Str:=["errand","state"]
theorem xp:bq zb ["errand","state"] (aw ms):=ef (by decide +kernel)
abbrev rg (e:En):=FN e "is_doable" 3 2 r6
theorem xq (D:ii e.K e.mg "is_doable" ms) (qF:v_ e):rg e:=rP (k:=2) (g:=mi) D xp b2 fun _ _ _ _ _ _ _ hr=>by have hu1:=lu hr;unfold mi;exact (aU (bI (jc qF hr px (af (ar 1) (af (bA (af (fU hu1 (az 0) (JE.bor bd)) (af (fU hu1 (az 0) (JE.bor bd)) aC))) aC)))))
abbrev jf:cy:=pI 30
abbrev uh:List Str:=["errand","state","makes","ends"]
theorem lv:bq uh ["errand","state"] (aw jf):=ef (by decide +kernel)
abbrev mx (e:En):=FN e "state_behind" 2 2 mj
theorem rQ (D:ii e.K e.mg "state_behind" jf) (qG:vW e) (ui:z0 e):mx e:=rP (k:=1) (g:=j7) D lv b2 fun _ _ _ _ _ _ _ hr=>by have hu1:=lu hr;unfold j7;exact (aZ (KJ 2 3 rfl lv.nd (af (fU hu1 (az 0) (JE.bor bd)) (af (fU hu1 (az 0) (JE.bor bd)) aC))) (aU (bI (jc ui hr px (af (jc qG hr px (af (ar 1) (af (ar 3) aC))) (af (ar 2) aC))))))
abbrev qH:cy:=pI 31
abbrev CQ:List Str:=["book"]
theorem AM:bq CQ ["book"] (aw qH):=ef (by decide +kernel)
abbrev w4 (e:En):=FN e "checked" 6 1 vT
theorem AN (D:ii e.K e.mg "checked" qH) (qI:vY e) (uj:ER e "NoBook"):w4 e:=rP (k:=5) (g:=qx) D AM b1 fun _ _ _ _ _ _ _ hr=>by unfold qx;exact (aZ (gH (eQ (eG (jc qI hr px (af (ar 0) aC)))) (aU (md uj rfl (af bQ aC))) dv) (aU (bI (ar 0))))
abbrev jY:cy:=pI 32
abbrev uY:List Str:=["book","state"]
theorem uk:bq uY ["book","state"] (aw jY):=ef (by decide +kernel)
abbrev nG (e:En):=FN e "check_place" 7 2 nC
theorem ul (D:ii e.K e.mg "check_place" jY) (qJ:w4 e) (jZ:nF e):nG e:=rP (k:=6) (g:=jV) D uk b2 fun _ _ _ _ _ _ _ hr=>by unfold jV;exact (aZ (pq (jc qJ hr px (af (ar 0) aC))) (aU (pq (jc jZ hr px (af (ar 0) (af (ar 1) aC))))))
abbrev iP:cy:=pI 35
abbrev pM:List Str:=["book","state"]
theorem uZ:bq pM ["book","state"] (aw iP):=ef (by decide +kernel)
abbrev pO (e:En):=FN e "steps_from" 4 2 pC
theorem u_ (D:ii e.K e.mg "steps_from" iP) (my:rg e) (jg:mx e):pO e:=rP (k:=3) (g:=l5) D uZ b2 fun _ _ _ _ _ _ _ hr=>by have hu1:=lu hr;unfold l5;exact (aU (bI (JN.je (gq (N':=["errand","state"]) (ix:=[1]) 1 (by decide) rfl (da (so:=aw iP) (N:=pM) (by decide +kernel)) (ig (JE.bor (fU hu1 (az 0) (JE.bor bd)))) (fun cl A0 s0 H0 ex pn=>⟨dq (i:=0) (by show (["errand","state"] : List Str).Nodup;decide +kernel) rfl (.inl rfl),(si (eG (jc my hr fV (af (ar 0) (af (ar 1) aC))))),(bA (af (ar 0) (af (jc jg hr fV (af (ar 0) (af (ar 1) aC))) aC)))⟩)))))
abbrev lg:cy:=pI 36
abbrev xr:List Str:=["book","state","rows","ring","next_ring","at","errand","behind"]
theorem dG:bq xr ["book","state"] (aw lg):=ef (by decide +kernel)
abbrev pP (e:En):=FN e "first_rows" 5 2 pE
theorem v3 (D:ii e.K e.mg "first_rows" lg) (li:pO e):pP e:=rP (k:=4) (g:=l7) D dG b2 fun _ _ _ _ _ _ _ hr=>by have hu1:=lu hr;unfold l7;exact (aZ (sg 2 (FI hu1 (ar 1) (lX aC)) dG.nd) (aZ (sg 3 (Au (af (ar 1) aC)) dG.nd) (aZ (F6 100000 (KS (az 3)) (aZ (sg 4 (Au aC) dG.nd) (aZ (HG 3 rfl (eR 5 dG.nd) (aU (F5 rfl (Ba (jc li hr fV (af (ar 0) (af (ar 5) aC)))) (tK rfl (ed (eR 6 dG.nd) (ed (eR 7 dG.nd) pw))) (aU (gH (ie (CJ hu1) (az 7) (az 2)) (aZ (FF 2 (gz qj (JE.bor (AC hu1 (az 2) (az 5))) (JE.bor (lX (af (fU hu1 (az 6) (JE.bor bd)) aC)))) (ar 7) hu1) (aU (Cz 4 (ar 7)))) dv))))) (aU (Ff 4 (m6 3 (ar 4) dG.nd)))))) (aU (KU 2 (bI (ar 2)))))))
abbrev lj:cy:=pI 37
abbrev xt:List Str:=["most"]
theorem v4:bq xt ["most"] (aw lj):=ef (by decide +kernel)
abbrev pQ (e:En):=FN e "check_most" 2 1 pG
theorem v5 (D:ii e.K e.mg "check_most" lj) (eT:lc e) (oq:ER e "NoNumber") (ll:Cn e.mg "MOST_STEPS" 64):pQ e:=rP (k:=1) (g:=l8) D v4 b1 fun _ _ _ _ _ _ _ hr=>by unfold l8;exact (aU (gH (eQ (eG (jc eT hr px (af (ar 0) (af bd (af (i_ rfl ll) aC)))))) (aU (md oq rfl (af bQ aC))) dv))
abbrev qK:cy:=pI 40
abbrev CS:List Str:=["book","thing","fact","number"]
theorem ou:bq CS ["book","thing"] (aw qK):=ef (by decide +kernel)
abbrev w5 (e:En):=FN e "is_gain" 2 2 vU
theorem AO (D:ii e.K e.mg "is_gain" qK) (B:Bi e.mg) (eT:lc e) (jE:Cn e.mg "MOST_GAIN" 99):w5 e:=rP (k:=1) (g:=qy) D ou b2 fun _ _ _ _ _ _ _ hr=>by have hu1:=lu hr;have hu64:=hr.units;unfold qy;exact (aZ (gH (JW.t (ny (eQ (eG (jT (az 1) rfl B.isinstance rfl B.tuple bV (by decide)))) (jS (ie (vI hu64) (JE.bor (cA j3 rfl B.len cE (cG (az 1) dw))) (JE.bor bd))))) (aU (bI gf)) dv) (aZ (wU (ar 1) (tK rfl (ed (eR 2 ou.nd) (ed (eR 3 ou.nd) pw)))) (aU (bI (tw (jT (az 2) rfl B.isinstance rfl B.str sI (by decide)) (tw (o6 (yw) (az 2) (JE.bor (fU hu1 (az 0) (JE.bor bd)))) (wP (jc eT hr px (af (ar 3) (af (tP (i_ rfl jE)) (af (i_ rfl jE) aC)))))))))))
abbrev gj:cy:=pI 41
abbrev j_:List Str:=["book","gains"]
theorem um:bq j_ ["book","gains"] (aw gj):=ef (by decide +kernel)
abbrev nJ (e:En):=FN e "check_gains" 3 2 nD
theorem uo (D:ii e.K e.mg "check_gains" gj) (B:Bi e.mg) (qL:w5 e) (mP:ER e "NoFacts"):nJ e:=rP (k:=2) (g:=jW) D um b2 fun _ _ _ _ _ _ _ hr=>by unfold jW;exact (aZ (gH (JW.t (ny (eQ (eG (jT (az 1) rfl B.isinstance rfl B.tuple bV (by decide)))) (jS (eQ (eG (cA (l_ rfl) rfl B.all cg (cG (JE.bor (JN.je (gq (N':=["gain","book"]) (ix:=[0]) 1 (by decide) rfl (da (so:=aw gj) (N:=j_) (by decide +kernel)) (ig (az 1)) (fun cl A0 s0 H0 ex pn=>⟨dq (i:=0) (by show (["gain","book"] : List Str).Nodup;decide +kernel) rfl (.inl rfl),g_,(jc qL hr fV (af (ar 1) (af (ar 0) aC)))⟩)))) dw))))))) (aU (md mP rfl (af bQ aC))) dv) (aU (gH (ie (EM) (JE.bor (vK (yJ (N':=["fact","number"]) (ix:=[]) 2 (by decide) rfl (da (so:=aw gj) (N:=j_) (by decide +kernel)) (ig (az 1)) (fun cl A0 s0 H0 ex pn=>⟨wo rfl (iX (dq (i:=0) (by show (["fact","number"] : List Str).Nodup;decide +kernel) rfl (.inl rfl)) (iX (dq (i:=1) (by show (["fact","number"] : List Str).Nodup;decide +kernel) rfl (.inl rfl)) sd)),g_,(ar 0)⟩)) rfl B.len)) (JE.bor (cA j3 rfl B.len cE (cG (az 1) dw)))) (aU (md mP rfl (af bQ aC))) dv)))
abbrev su:cy:=pI 42
abbrev BI:List Str:=["state","gains"]
theorem F_:bq BI ["state","gains"] (aw su):=ef (by decide +kernel)
abbrev xu (e:En):=FN e "worth" 1 2 xj
theorem G0 (D:ii e.K e.mg "worth" su) (B:Bi e.mg):xu e:=rP (k:=0) (g:=xi) D F_ b2 fun _ _ _ _ _ _ _ hr=>by unfold xi;exact (aU (bI (cA (KY rfl) rfl B.sum PyProof.Rows.boot_sum (cG (JE.bor (JN.je (gq (N':=["fact","number","state"]) (ix:=[0]) 2 (by decide) rfl (da (so:=aw su) (N:=BI) (by decide +kernel)) (ig (az 1)) (fun cl A0 s0 H0 ex pn=>⟨wo rfl (iX (dq (i:=0) (by show (["fact","number","state"] : List Str).Nodup;decide +kernel) rfl (.inl rfl)) (iX (dq (i:=1) (by show (["fact","number","state"] : List Str).Nodup;decide +kernel) rfl (.inl rfl)) sd)),(si (ie (yw) (az 0) (az 2))),(ar 1)⟩)))) dw))))
abbrev fF:cy:=pI 43
abbrev jh:List Str:=["book","state","gains","most","rows","near","best"]
theorem gx:bq jh ["book","state","gains","most"] (aw fF):=ef (by decide +kernel)
abbrev ji (e:En):=FN e "best_reached" 8 4 j9
theorem rR {cd P:ac} (D:N1 e.K e.mg "best_reached" fF cd P) (B:Bi e.mg) (k7:nG e) (k8:nJ e) (lm:pQ e) (lp:pP e) (mQ:xu e):ji e:=Pc (k:=7) (g:=j8) D gx b4 fun _ _ _ _ _ _ hr=>by have hu1:=lu hr;unfold j8;exact (aZ (pq (jc k7 hr px (af (ar 0) (af (ar 1) aC)))) (aZ (pq (jc k8 hr px (af (ar 0) (af (ar 2) aC)))) (aZ (pq (jc lm hr px (af (ar 3) aC))) (aZ (m6 4 (jc lp hr px (af (ar 0) (af (ar 1) aC))) gx.nd) (aZ (Av 5 (N':=["at","rows","most"]) (ix:=[4,3]) 1 (by decide) gx.nd rfl (da (so:=aw fF) (N:=jh) (by decide +kernel)) (Ig (az 4)) (fun cl A0 s0 H0 ex pn=>⟨dq (i:=0) (by show (["at","rows","most"] : List Str).Nodup;decide +kernel) rfl (.inl rfl),(si (ie (tG) (JE.bor (cA j3 rfl B.len cE (cG (JE.bor (AC hu1 (az 1) (az 0))) dw))) (az 2))),(ar 0)⟩)) (aZ (m6 6 (Ir (N':=["at","gains"]) (ix:=[2]) (pr:="at") rfl (cG (az 5) dw) rfl B.max (FQ (so:=aw fF) (N:=jh) (by decide +kernel)) D.cd hr rfl rfl rfl (fun _ _ _ _ _=>rfl) (fun cl f0 c0 s0 H0=>have hr:=eL.lam hr _;(jc mQ hr fV (af (ar 0) (af (ar 1) aC))))) gx.nd) (aU (bI (bA (af (ar 6) (af (AC hu1 (az 4) (az 6)) aC)))))))))))
abbrev mz:cy:=pI 44
abbrev zc:List Str:=["book","state","gains","most"]
theorem xv:bq zc ["book","state","gains","most"] (aw mz):=ef (by decide +kernel)
abbrev zd (e:En):=FN e "best_gain" 9 4 c7
theorem xw (D:ii e.K e.mg "best_gain" mz) (eJ:ji e) (mQ:xu e):zd e:=rP (k:=8) (g:=ml) D xv b4 fun _ _ _ _ _ _ _ hr=>by have hu1:=lu hr;unfold ml;exact (aU (bI (jc mQ hr px (af (fU hu1 (JE.bor (jc eJ hr px (af (ar 0) (af (ar 1) (af (ar 2) (af (ar 3) aC)))))) (JE.bor bd)) (af (ar 2) aC)))))
abbrev oy:cy:=pI 45
abbrev AQ:List Str:=["book","state","gains","most"]
theorem ze:bq AQ ["book","state","gains","most"] (aw oy):=ef (by decide +kernel)
abbrev AR (e:En):=FN e "best_row" 9 4 cI
theorem zf (D:ii e.K e.mg "best_row" oy) (eJ:ji e):AR e:=rP (k:=8) (g:=oh) D ze b4 fun _ _ _ _ _ _ _ hr=>by have hu1:=lu hr;unfold oh;exact (aU (bI (fU hu1 (JE.bor (jc eJ hr px (af (ar 0) (af (ar 1) (af (ar 2) (af (ar 3) aC)))))) (JE.bor bd))))
abbrev k9:cy:=pI 47
abbrev v6:List Str:=["_law_script","_law_k"]
theorem uq:bq v6 ["_law_script","_law_k"] (aw k9):=ef (by decide +kernel)
abbrev nK (e:En):=FN e "_law_cell_at" 1 2 io
theorem ur (D:ii e.K e.mg "_law_cell_at" k9) (B:Bi e.mg):nK e:=rP (k:=0) (g:=im) D uq b2 fun _ _ _ _ _ _ _ hr=>by have hu1:=lu hr;have hu64:=hr.units;unfold im;exact (aZ (gH (ie (EM) (az 1) (JE.bor (cA j3 rfl B.len cE (cG (az 0) dw)))) (aU (bI (fU hu1 (az 0) (az 1)))) dv) (aZ (gH (ie (EK hu64) (az 0) (JE.bor (lX aC))) (aU (bI bd)) dv) (aU (bI (gz qj (JE.bor (gz tF (JE.bor (fU hu1 (az 0) (JE.bor (gz wQ (az 1) (JE.bor (cA j3 rfl B.len cE (cG (az 0) dw))))))) (JE.bor bd))) (az 1))))))
abbrev mB:cy:=pI 48
abbrev zg:List Str:=["_law_script","_law_k","_law_many","_law_drawn"]
theorem pR:bq zg ["_law_script","_law_k","_law_many"] (aw mB):=ef (by decide +kernel)
abbrev rh (e:En):=FN e "_law_mixed" 2 3 cw
theorem xx (D:ii e.K e.mg "_law_mixed" mB) (ka:nK e):rh e:=rP (k:=1) (g:=jB) D pR b3 fun _ _ _ _ _ _ _ hr=>by unfold jB;exact (aZ (m6 3 (gz wQ (JE.bor (gz tF (JE.bor (gz qj (JE.bor (gz qj (JE.bor (jc ka hr px (af (ar 0) (af (ar 1) aC)))) (JE.bor (gz tF (JE.bor bd) (az 1))))) (JE.bor bd))) (JE.bor bd))) (JE.bor bd)) pR.nd) (aU (bI (gz wQ (JE.bor (gz wQ (JE.bor (gz qj (JE.bor (gz qj (JE.bor (gz tF (az 3) (az 3))) (JE.bor (gz tF (JE.bor bd) (az 3))))) (az 1))) (JE.bor bd))) (az 2)))))
abbrev rj:cy:=pI 51
abbrev MR:List Str:=["_law_script","_law_facts","_law_book","_law_good","_law_some","_law_bad","_law_ask","_law_most"]
theorem lq:bq MR ["_law_script"] (aw rj):=ef (by decide +kernel)
theorem L8 {f:ac}{fd:cp} (F:wz e.K "law" "law" rj f fd) (B:Bi e.mg) (iy:rh e) (T_law_told_four_best_gain:FT e "_law_told_four" "best_gain" 10 4 (dL nh c7)) (T_law_told_four_best_row:FT e "_law_told_four" "best_row" 10 4 (dL nh cI)):kS e.P e.w e.K e.mg e.base (iA e.P e.w) 11 f fd ["_law_script"] (EV e.K e.cls 1 F_law):=by
 refine J7 (k:=10) (g:=BB) F lq fun cdv A outer s H E hr=>?_
 have hu1:=lu hr
 have hu64:=hr.units
 obtain ⟨_,_,_,_,_,_,_,_,jF⟩:=T_law_told_four_best_gain.ex
 obtain ⟨_,_,_,_,_,_,_,_,lr⟩:=T_law_told_four_best_row.ex
 unfold BB
 exact (aZ (m6 1 (bA (af bQ (af bQ aC))) lq.nd) (aZ (m6 2 (bA (af (ar 1) (af (bA aC) aC))) lq.nd) (aZ (m6 3 (bA (af (bA (af bQ (af bd aC))) (af (bA (af bQ (af (tP bd) aC))) aC))) lq.nd) (aZ (sg 4 (Au (af jQ (af (qk (F9 rfl) rfl B.list PyProof.Rows.boot_list (cG (az 3) dw)) (af (bA (af (bA (af bQ (af bd aC))) aC)) (af (bA (af (bA (af bQ (af (tP bd) aC))) aC)) (af (bA (af (bA (af bQ (af gf aC))) aC)) (af (bA (af (bA (af bQ (af bd aC))) aC)) (af (bA (af (bA (af bQ aC)) aC)) aC)))))))) lq.nd) (aZ (CB 4 (lX (af (bA (af (bA (af bQ (af bd aC))) (af (bA (af bQ (af bd aC))) aC))) (af (bA (af bQ (af bd aC))) (af (bA (af (lX (af bQ (af bd aC))) aC)) (af (bA (af (bA (af bd (af bd aC))) aC)) (af (bA (af (bA (af bQ (af bd (af bd aC)))) aC)) (af (bA (af (bA (af bQ (af jQ aC))) aC)) aC)))))))) (aZ (m6 5 (fU hu1 (az 4) (JE.bor (jc iy hr px (af (ar 0) (af bd (af bd aC)))))) lq.nd) (aZ (Ff 4 (Is rfl jF lr (ko (vP hu64 T_law_told_four_best_gain jF hr fV (af (ar 2) (af (bA (af bQ aC)) (af (ar 5) (af jQ aC)))) (JE.bor (bA (af bQ (af bd aC)))) (aU (bI gf))) (ko (FR 7 (fU hu1 (JE.bor (lX (af (tP bd) (af bd (af jQ (af gf (af bQ aC))))))) (JE.bor (jc iy hr fV (af (ar 0) (af bd (af bd aC)))))) (by decide) lq.nd) (ko (vP hu64 T_law_told_four_best_gain jF hr fV (af (ar 2) (af (bA (af bQ aC)) (af (ar 3) (af (ar 7) aC)))) (JE.bor (bA (af bQ (af bd aC)))) (aU (bI gf))) (BA (vP hu64 T_law_told_four_best_gain jF hr fV (af (ar 2) (af (bA (af bQ (af bQ aC))) (af jQ (af jQ aC)))) (JE.bor (bA (af bQ (af bd aC)))) (aU (bI gf))))))) (ko (vP hu64 T_law_told_four_best_row lr hr fV (af (ar 2) (af (bA (af bQ aC)) (af (ar 5) (af jQ aC)))) (JE.bor (bA (af bQ (af bd aC)))) (aU (bI gf))) (ko (FR 7 (fU hu1 (JE.bor (lX (af (tP bd) (af bd (af jQ (af gf (af bQ aC))))))) (JE.bor (jc iy hr fV (af (ar 0) (af bd (af bd aC)))))) (by decide) lq.nd) (ko (vP hu64 T_law_told_four_best_row lr hr fV (af (ar 2) (af (bA (af bQ aC)) (af (ar 3) (af (ar 7) aC)))) (JE.bor (bA (af bQ (af bd aC)))) (aU (bI gf))) (BA (vP hu64 T_law_told_four_best_row lr hr fV (af (ar 2) (af (bA (af bQ (af bQ aC))) (af jQ (af jQ aC)))) (JE.bor (bA (af bQ (af bd aC)))) (aU (bI gf))))))) lq.nd)) (aZ (gH (ie (vI hu64) (JE.bor (jd T_law_told_four_best_gain hr px (af (ar 2) (af (bA (af bQ aC)) (af (ar 3) (af bd aC)))))) (JE.bor bd)) (aU (bI gf)) dv) (aU (bI (o6 (EK hu64) (JE.bor (jd T_law_told_four_best_row hr px (af (ar 2) (af (bA aC) (af (ar 3) (af bd aC)))))) (JE.bor (lX aC)))))))))))))
end
end
section
theorem all_mk {l:rz}{w:aS}{K:a7}{h:aW}{mg:Str->Option a9}{fa A:ac}{iz:ac}{gL:ac}{kz:ac}{ij:ac}{mR:ac}{mS:ac}{iT:ac}{gM:ac}{fG:ac}{iU:ac}{kA:ac}{gN:ac}{cdL pL:ac}{od an:Option ac}{sl:Array (Option a9)}{oc kV dc pm cv ct:a9} (X:K.In h) (G:h.Ns aO mg) (hfa:mg "law"=some (.ref fa))
  (Zz:Zs K zn)
  (ja:Cn mg "MOST_LETTERS" 6)
  (le:Cn mg "MOST_PRICE" 9)
  (lf:Cn mg "MOST_FACTS" 6)
  (jb:Cn mg "MOST_ERRANDS" 6)
  (ll:Cn mg "MOST_STEPS" 64)
  (jE:Cn mg "MOST_GAIN" 99)
  (Ws:HY K y_ [iz,gL,kz,ij,mR,mS,iT,gM,fG,iU,kA])
  (w6:TopC K "NoState" gL)
  (zh:TopC K "NoBook" iz)
  (ut:TopC K "NoNumber" fG)
  (w9:TopC K "NoFacts" gM)
  (jG:TopC K "PlanError" gN)
  (w_NoState:Wy K gL gN [(iz,false),(gL,true),(kz,false),(ij,false),(mR,false),(mS,false),(iT,false),(gM,false),(fG,false),(iU,false),(kA,false)])
  (w_NoBook:Wy K iz gN [(iz,true),(gL,false),(kz,false),(ij,false),(mR,false),(mS,false),(iT,false),(gM,false),(fG,false),(iU,false),(kA,false)])
  (w_NoNumber:Wy K fG gN [(iz,false),(gL,false),(kz,false),(ij,false),(mR,false),(mS,false),(iT,false),(gM,false),(fG,true),(iU,false),(kA,false)])
  (w_NoFacts:Wy K gM gN [(iz,false),(gL,false),(kz,false),(ij,false),(mR,false),(mS,false),(iT,false),(gM,true),(fG,false),(iU,false),(kA,false)])
  (zi:ii K mg "_law_which" mn)
  (lw:ii K mg "_law_told_four" eW)
  (xy:ii K mg "share_none" iO)
  (CT:ii K mg "without" mL)
  (G1:ii K mg "joined" ue)
  (CU:ii K mg "is_word" mM)
  (oz:ii K mg "are_rising_words" dO)
  (zj:ii K mg "are_facts" jC)
  (AS:ii K mg "is_whole" oj)
  (zk:ii K mg "is_errand" jD)
  (CV:ii K mg "is_book" ku)
  (v7:ii K mg "check_state" jX)
  (CW:ii K mg "fulfils" mO)
  (zm:ii K mg "is_doable" ms)
  (uu:ii K mg "state_behind" jf)
  (CY:ii K mg "checked" qH)
  (v8:ii K mg "check_place" jY)
  (xz:ii K mg "steps_from" iP)
  (xA:ii K mg "first_rows" lg)
  (xB:ii K mg "check_most" lj)
  (CZ:ii K mg "is_gain" qK)
  (v9:ii K mg "check_gains" gj)
  (Iy:ii K mg "worth" su)
  (uv:N1 K mg "best_reached" fF cdL pL)
  (zo:ii K mg "best_gain" mz)
  (AT:ii K mg "best_row" oy)
  (vc:ii K mg "_law_cell_at" k9)
  (zq:ii K mg "_law_mixed" mB)
  (l0:dC K aO "law"=some (some (.ref A)))
  (l1:K.lookup A=some ⟨oc,od,.func (cc "law" "law" (fO rj) (du rj) (aw rj) .none kV dc pm an cv ct),sl⟩)
  (l2:c6 K cv "law"=true)
  (l3:bC K (.ref A)=true)
  : ∃ fd:cp,(∀ (s:ae) (v:a9),qO s fd ⟨[v],[]⟩ [("_law_script",v)])/\∀ base:aW,K.In base->base.Ns aO mg->kS l.prog w K mg base (iA l.prog w) 11 fa fd ["_law_script"] (Mn K F_law):=by
 have q:=hfa.symm.trans (eX X G l0)
 cases q
 refine ⟨cc "law" "law" (fO rj) (du rj) (aw rj) .none kV dc pm an cv ct,fun s v=>.of_eq rfl,fun base X G=>?_⟩
 let e:En:=⟨l.prog,w,K,mg,base,Mo [("NoBook",iz),("NoState",gL),("NoWant",kz),("NoErrand",ij),("NoRow",mR),("NoWay",mS),("NoPaper",iT),("NoFacts",gM),("NoNumber",fG),("Nothing",iU),("NoText",kA),("PlanError",gN)]⟩
 have B:Bi e.mg:=My X G Zz
 have qD:ER e "NoState":=w6.er X G rfl
 have uj:ER e "NoBook":=zh.er X G rfl
 have oq:ER e "NoNumber":=ut.er X G rfl
 have mP:ER e "NoFacts":=w9.er X G rfl
 obtain ⟨fw,fdw,Fw,mw⟩:=zi.ex
 have W:Wh e.P e.w e.K e.mg e.base e.cls "_law_which" y_ nh:=by
  refine ⟨⟨_,_,_,uU (e:=e) Fw B (Mz X G Zz) (MA X G Ws rfl),mw,Fw.kp,b1 Fw⟩,eX X G jG.ns,?_,fun y j h=>?_⟩
  ·obtain ⟨bm,o,_⟩:=(Az X G jG.ns jG.ex jG.mb).2
   exact ⟨bm,o⟩
  unfold nh at h
  by_cases hy:y="NoState"
  ·subst hy
   simp at h
   subst h
   exact Bt X G w6 w_NoState Ws rfl rfl rfl rfl rfl (by decide) (by decide)
  rw [if_neg hy] at h
  by_cases hy:y="NoBook"
  ·subst hy
   simp at h
   subst h
   exact Bt X G zh w_NoBook Ws rfl rfl rfl rfl rfl (by decide) (by decide)
  rw [if_neg hy] at h
  by_cases hy:y="NoNumber"
  ·subst hy
   simp at h
   subst h
   exact Bt X G ut w_NoNumber Ws rfl rfl rfl rfl rfl (by decide) (by decide)
  rw [if_neg hy] at h
  by_cases hy:y="NoFacts"
  ·subst hy
   simp at h
   subst h
   exact Bt X G w9 w_NoFacts Ws rfl rfl rfl rfl rfl (by decide) (by decide)
  rw [if_neg hy] at h
  cases h
 have eU:=uW (e:=e) xy B
 have qG:=AG (e:=e) CT B
 have ui:=CO (e:=e) G1 B
 have iS:=AI (e:=e) CU B ja
 have de:=nj (e:=e) oz B iS
 have gK:=xn (e:=e) zj B de
 have eT:=z9 (e:=e) AS B
 have mr:=xo (e:=e) zk B iS eT gK eU le
 have qI:=AK (e:=e) CV B de mr lf jb
 have jZ:=ug (e:=e) v7 gK qD
 have qF:=AL (e:=e) CW B eU
 have my:=xq (e:=e) zm qF
 have jg:=rQ (e:=e) uu qG ui
 have qJ:=AN (e:=e) CY qI uj
 have k7:=ul (e:=e) v8 qJ jZ
 have li:=u_ (e:=e) xz my jg
 have lp:=v3 (e:=e) xA li
 have lm:=v5 (e:=e) xB eT oq ll
 have qL:=AO (e:=e) CZ B eT jE
 have k8:=uo (e:=e) v9 B qL mP
 have mQ:=G0 (e:=e) Iy B
 have eJ:=rR (e:=e) uv B k7 k8 lm lp mQ
 have zr:=xw (e:=e) zo eJ mQ
 have AU:=zf (e:=e) AT eJ
 have ka:=ur (e:=e) vc B
 have iy:=xx (e:=e) zq ka
 have T_law_told_four_best_gain:=kr (e:=e) (k:=9) lw W zr (by decide) (by decide)
 have T_law_told_four_best_row:=kr (e:=e) (k:=9) lw W AU (by decide) (by decide)
 exact (L8 (e:=e) (Ac l1 l2 l3) B iy T_law_told_four_best_gain T_law_told_four_best_row).imp Kx
end
end Z
section
open PySem PySem.W PyProof.Rows
namespace PySem.W.Fast
def tw3415320253593829120:Nat:=0
def tw17025514256248481420:Nat:=0
def tw192728266937825241:Nat:=0
def tw15510449108120367126:Nat:=0
def tw4424980673091540940:Nat:=0
def tw3324138936931742321:Nat:=0
def tw9484080874775762198:Nat:=0
def tw15890329300298494004:Nat:=0
def tw1843793732616130919:Nat:=0
def tw3792814075335861307:Nat:=0
def tw16607792842824662193:Nat:=0
def tw17594382894094497118:Nat:=0
def tw11819897956954043763:Nat:=0
def tw16738038324329203349:Nat:=0
def tw2882872237749064717:Nat:=0
def tw3864824176453653880:Nat:=0
def tw7215306114970310950:Nat:=0
def tw1639961731252667488:Nat:=0
def tw3161116744671865474:Nat:=0
def tw2542347121061408439:Nat:=0
def tw13685030692180706580:Nat:=0
def tw5946702621467098544:Nat:=0
def tw1466861887565431209:Nat:=0
def tw11355908797055658759:Nat:=0
def tw11729800423622254605:Nat:=0
def tw9821908441355872016:Nat:=0
def tw12263020926112133209:Nat:=0
def tw15718116031281127400:Nat:=0
def tw6597566639208618995:Nat:=0
def tw10634045799796582431:Nat:=0
def tw13948696426713218247:Nat:=0
def tw402683703906295362:Nat:=0
def tw17812375447521723660:Nat:=0
def tw14597509234879023309:Nat:=0
def tw10806847878542951233:Nat:=0
def tw2554942410147740301:Nat:=0
def tw15837041059271900034:Nat:=0
def tw1921862455790005922:Nat:=0
def tw6205149762914355670:Nat:=0
def tw17755480053683712373:Nat:=0
def tw18164070627331529820:Nat:=0
def tw7669701453862131009:Nat:=0
def tw2628351048273063498:Nat:=0
def tw12627299695460647063:Nat:=0
def tw14452742734762964601:Nat:=0
def tw4481210301974515483:Nat:=0
def tw13231397110848182196:Nat:=0
def tw3986802593931764257:Nat:=0
def tw3532303676540281223:Nat:=0
def tw6176290617666252296:Nat:=0
def tw12324623206009408297:Nat:=0
def tw7332313457003134619:Nat:=0
def tw10869791725230235038:Nat:=0
def tw8317345258273179219:Nat:=0
def tw9695373019848540646:Nat:=0
def tw2554159849196680441:Nat:=0
def tw11196626946282782824:Nat:=0
def tw14958463378181574759:Nat:=0
def tw13340626322337673048:Nat:=0
def tw9728830865432537507:Nat:=0
def tw4285701196588679960:Nat:=0
def tw12746946971649538099:Nat:=0
def tw14557252339688254439:Nat:=0
def tw14334341305503429372:Nat:=0
def tw17821663315948164326:Nat:=0
def tw2831824377390502783:Nat:=0
def tw6783583634569428929:Nat:=0
def tw5671770214059509899:Nat:=0
def tw16778500504600183408:Nat:=0
def tw15446151895610984997:Nat:=0
def tw496767240163241062:Nat:=0
def tw5794424404778553264:Nat:=0
def tw11851499454884487008:Nat:=0
def tw8498267890833076847:Nat:=0
def tw16809956826085180859:Nat:=0
def tw10039307527574726306:Nat:=0
def tw3335589804473611649:Nat:=0
def tw9240141251479681524:Nat:=0
def tw5777084747468932440:Nat:=0
def tw18101727309689526879:Nat:=0
def tw5539246635190010753:Nat:=0
def tw5145346480463307616:Nat:=0
def tw13784330084298737087:Nat:=0
def tw9288332091767266728:Nat:=0
def tw640733701804863668:Nat:=0
def tw17877333042791714599:Nat:=0
def tw17544274553418839719:Nat:=0
def tw1409970742043201919:Nat:=0
def tw974706477268747864:Nat:=0
def tw15746115496379688162:Nat:=0
def tw3650888562707927902:Nat:=0
def tw3883076944046870891:Nat:=0
def tw14623538594174672154:Nat:=0
def tw4037871493893147394:Nat:=0
def tw905368787990182676:Nat:=0
def tw16036279350491606142:Nat:=0
def tw1449906559119318925:Nat:=0
def tw2401457836196184827:Nat:=0
end PySem.W.Fast
theorem PySem.Challenge.cw_errands_k27_gains_refused_holds : PySem.Challenge.rw_errands_k27_gains_refused.Holds := by
 w_on;o_law;k_head;(case hw=>w_witness2)
 k_fill
 refine J.walkF (l:=PySem.Challenge.rw_errands_k27_gains_refused) (k:=11) (x:="_law_script") (F0:=Z.F_law) rfl rfl ⟨rfl,by decide,by decide⟩ 296 294 "best_reached" (fun w h Y=>PySem.W.km_in_of Y) (fun w h Y=>PySem.W.km_tabs_of Y _ (by decide)) (fun w=>by kernel_rfl) ?F (fun ns _=>Z.law_true ns)
 case F =>
  intro w mg fa h KX G hmg
  refine' Z.all_mk KX G hmg ?_ ?_ ?_ ?_ ?_ ?_ ?_ ?_ ?_ ?_ ?_ ?_ ?_ ?_ ?_ ?_ ?_ ?_ ?_ ?_ ?_ ?_ ?_ ?_ ?_ ?_ ?_ ?_ ?_ ?_ ?_ ?_ ?_ ?_ ?_ ?_ ?_ ?_ ?_ ?_ ?_ ?_ ?_ ?_ ?_ ?_ ?_ ?_ ?_
  all_goals first
   |(refine' J.d_in KX G ?_ ?_ ?_ ?_<;>try k_is)
   |(refine' J.d_inl (cd:=296) (P:=294) KX G ?_ ?_ ?_ ?_ ?_ ?_<;>first|k_is|kernel_rfl|skip)
   |(refine' J.cn_in KX G ?_<;>try k_is)
   |k_is
   |(refine' J.TopC.mk ?_ ?_ ?_<;>try (first|k_is|k_exc))
   |(refine' J.topN ?_ ?_ ?_ ?_ ?_ ?_ ?_ ?_ ?_ ?_ ?_ ?_ ?_ ?_ ?_ ?_ ?_ ?_ ?_ ?_ ?_ ?_ ?_<;>try (first|k_is|rfl|exact fun _ _=>⟨_,rfl,rfl⟩|decide +kernel))
   |((refine' J.Wy.mk ?_ ?_ ?_ ?_ ?_ ?_ ?_ ?_ ?_ ?_)<;>try (first|k_is|decide|((repeat' (first|exact .nil|refine' .cons ?_ ?_ ?_))<;>try (first|k_is|decide))))
   |((repeat' (first|exact .nil|refine' .cons ?_ ?_))<;>try (first|(refine' J.cw_in ?_ ?_ ?_<;>try k_is)|k_is))
   |skip
end
